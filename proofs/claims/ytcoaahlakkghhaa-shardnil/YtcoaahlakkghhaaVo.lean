/- The walk of Put. -/
import Derived.Test.YtcoaahlakkghhaaVn
namespace Go.Proofs.Ytcoaahlakkghhaa
open Go.RowKit

def PutAns (w : World) (A : Nat) (S : Nat → Prop) (R : List Rw) (k : ByteArray) (v : Ve) (e : Ending) (w' : World) : Prop := e = .returned (.int .i64 (putE R k v)) ∧ ∃ S', Sb w' A S' (putR R k v) ∧ (∀ j, S' j → Gro S w w' j) ∧ Fr w w' S
theorem put_lt {R : List Rw} {k : ByteArray} {v : Ve} (h : v.ts < 1) : putE R k v = 1 ∧ putR R k v = R := by
  unfold putE putR
  rw [if_pos h, if_pos h]
  exact ⟨rfl, rfl⟩
theorem newR_of {R : List Rw} {k : ByteArray} {r : Rw} (hr : R[place R k]? = some r) : newR R k = if r.key = k then newest r.list else 0 := by
  unfold newR
  rw [hr]
theorem newR_no {R : List Rw} {k : ByteArray} (hr : R[place R k]? = none) : newR R k = 0 := by
  unfold newR
  rw [hr]
theorem put_new {R : List Rw} {k : ByteArray} {v : Ve} (h : ¬ v.ts < 1) (hf : fd R k = false) : putE R k v = 0 ∧ putR R k v = inn R (place R k) ⟨k, [v]⟩ := by
  unfold fd at hf
  cases hr : R[place R k]? with
  | none =>
    refine ⟨?_, ?_⟩
    · unfold putE
      rw [if_neg h, newR_no hr, if_neg (by omega)]
    · unfold putR
      rw [if_neg h, hr]
  | some r =>
    rw [hr] at hf
    simp only [decide_eq_false_iff_not] at hf
    refine ⟨?_, ?_⟩
    · unfold putE
      rw [if_neg h, newR_of hr, if_neg hf, if_neg (by omega)]
    · unfold putR
      rw [if_neg h, hr]
      exact if_neg hf
theorem put_old {R : List Rw} {k : ByteArray} {v : Ve} {r : Rw} (h : ¬ v.ts < 1) (hr : R[place R k]? = some r) (hk : r.key = k) : putE R k v = (if v.ts ≤ newest r.list then 120 else 0) ∧ putR R k v = (if v.ts ≤ newest r.list then R else R.set (place R k) ⟨k, r.list ++ [v]⟩) := by
  refine ⟨?_, ?_⟩
  · unfold putE
    rw [if_neg h, newR_of hr, if_pos hk]
  · unfold putR
    rw [if_neg h, hr]
    exact if_pos hk
section
variable {w w' W V X : World} {A : Nat} {S T : Nat → Prop} {G : List Gw} {rv rv' : Value} {R : List Rw} {k : ByteArray} {v : Ve}
theorem PutAns.same (h : Sv w A S G rv) (hb : Below w.heap.size w w') {n : Int} (e1 : putE (G.map Gw.r) k v = n) (e2 : putR (G.map Gw.r) k v = G.map Gw.r) : PutAns w A S (G.map Gw.r) k v (.returned (.int .i64 n)) w' :=
  ⟨by rw [e1], S, by rw [e2]; exact ⟨G, rv, h.on hb, rfl⟩, fun _ q => .inl q, Fr.ofBelow S hb⟩
set_option maxHeartbeats 4000000 in
set_option maxRecDepth 100000 in
theorem put_any (h : Sv w A S G rv) (k : ByteArray) (v : Ve) (hfew : G.length < 800000) (hless : ∀ g ∈ G, g.r.list.length < 800000) : Calls Try.prog 92 #[.pointer (some ⟨A, 0, none⟩), .string k, veV v] w fun e w' => PutAns w A S (G.map Gw.r) k v e w' := by
  obtain ⟨W, hW⟩ : ∃ W, W = w.alloc (.cells #[.int .i64 v.ts, .string v.val, .bool v.dead] 125) := ⟨_, rfl⟩
  have hb : Below w.heap.size w W := by rw [hW]; exact (Below.refl _ w).alloc (Nat.le_refl _) _
  obtain ⟨Y, hY⟩ : ∃ Y, w.heap.size = Y := ⟨_, rfl⟩
  have jY : W.heap[Y]? = some (.cells #[.int .i64 v.ts, .string v.val, .bool v.dead] 125 (0, 0)) := by rw [hW, ← hY]; exact heap_alloc_new w _
  have hv := h.on hb
  have b0 : W.cell? ⟨Y, 0, none⟩ = some (.int .i64 v.ts) := cell_blk jY 0
  have hYl := blk_lt jY
  have HW := Lib.hid hW
  have HYY := Lib.hid hY
  have HB := Lib.hid hb
  have HJY := Lib.hid jY
  have HH := Lib.hid h
  by_cases hts : v.ts < 1
  · obtain ⟨e1, e2⟩ := put_lt (R := G.map Gw.r) (k := k) hts
    have HA : Hid (PutAns w A S (G.map Gw.r) k v (.returned (.int .i64 1)) W) := PutAns.same h hb e1 e2
    clear e1 e2 hv jY hb hY hW h
    go_enter Try.func92, Try.ntmps92
    go_upto_region 1 with fail
    rw [← HW.out, HYY.out]
    go_wp2
    go_ret
    exact HA.out
  · have hfnd := find_any hv k
    have hle := place_le (G.map Gw.r) k
    rw [List.length_map] at hle
    have hokp := put_ok h.ok k v
    obtain ⟨s, hs⟩ : ∃ s, place (G.map Gw.r) k = s := ⟨_, rfl⟩
    rw [hs] at hle
    cases hfd : fd (G.map Gw.r) k with
    | false =>
      obtain ⟨e1, e2⟩ := put_new hts hfd
      rw [e2, hs] at hokp
      rw [hfd, hs] at hfnd
      rw [hs] at e2
      have HE1 := Lib.hid e1
      have HE2 := Lib.hid e2
      have HOK := Lib.hid hokp
      obtain ⟨rad, rcap, rfl, hc1, hc2, _⟩ := h.shape
      clear e1 e2 hokp hfd hv hb jY hY hW h hs
      go_enter Try.func92, Try.ntmps92
      go_upto_region 1 with fail
      rw [← HW.out, HYY.out]
      go_wp2_with fail
      refine hfnd.mono ?_
      rintro e w1 ⟨rfl, hb1⟩
      have hbw1 := HB.out.trans (hb1.mono HB.out.size)
      have hv1 := HH.out.on hbw1
      have jY1 := (hb1.block Y (blk_lt HJY.out)).trans HJY.out
      have a0 : w1.cell? ⟨A, 0, none⟩ = some (.slice rad G.length rcap) := cell_blk hv1.ob 0
      have m0 : w1.cell? ⟨Y, 0, none⟩ = some (.int .i64 v.ts) := cell_blk jY1 0
      have m1 : w1.cell? ⟨Y, 1, none⟩ = some (.string v.val) := cell_blk jY1 1
      have m2 : w1.cell? ⟨Y, 2, none⟩ = some (.bool v.dead) := cell_blk jY1 2
      have hrows := hv1.rows
      have hob := hv1.ob
      have hrl : ∀ j, (Value.slice rad G.length rcap).ownBlock = some j → j < w1.heap.size := fun j e => (hrows.lt j e).2
      have hnA : ¬ (Value.slice rad G.length rcap).ownBlock = some A := fun e => by
        obtain ⟨cs, t⟩ := own_tag hrows A e
        exact tag_ne t hob (by decide) rfl
      have hnY : ¬ (Value.slice rad G.length rcap).ownBlock = some Y := fun e => by
        obtain ⟨cs, t⟩ := own_tag hrows Y e
        exact tag_ne t jY1 (by decide) rfl
      have HV1 := Lib.hid hv1
      have HRL := Lib.hid hrl
      have HRW := Lib.hid hrows
      have HOB := Lib.hid hob
      have HB1 := Lib.hid hbw1
      clear hfnd hb1 hv1 jY1 hbw1 hrows hob b0 hrl
      go_upto_region 7 with fail
      refine wp_region_once 12 (fun d X9 => Fr w1 X9 (fun j => (Value.slice rad G.length rcap).ownBlock = some j) ∧ (d = false → Below w1.heap.size w1 X9)) (fun X9 X' => Below X9.heap.size X9 X') (fun X9 X' => Fr X9 X' (fun j => (Value.slice rad G.length rcap).ownBlock = some j)) [
        fun v9 _ => v9 = .pointer (some ⟨A, 0, none⟩),
        fun v9 _ => v9 = .pointer (some ⟨A, 0, none⟩),
        fun v9 _ => v9 = .pointer (some ⟨A, 0, none⟩),
        fun v9 _ => v9 = .pointer (some ⟨A, 0, none⟩),
        fun v9 _ => v9 = (.slice rad G.length rcap),
        fun v9 _ => v9 = .int .i64 (s : Int),
        fun v9 _ => v9 = .string k,
        fun v9 _ => v9 = .agg #[.int .i64 v.ts, .string v.val, .bool v.dead],
        fun v9 X9 => ∃ Z1, v9 = lv1 Z1 ∧ w1.heap.size ≤ Z1 ∧ X9.heap[Z1]? = some (.cells #[.int .i64 v.ts, .string v.val, .bool v.dead] 125 (0, 0)),
        fun v9 X9 => ∃ Z1, v9 = .agg #[.string k, lv1 Z1] ∧ w1.heap.size ≤ Z1 ∧ X9.heap[Z1]? = some (.cells #[.int .i64 v.ts, .string v.val, .bool v.dead] 125 (0, 0)),
        fun v9 X9 => ∃ Z1 Z2, v9 = .pointer (some ⟨Z2, 0, none⟩) ∧ w1.heap.size ≤ Z2 ∧ X9.heap[Z2]? = some (.cells #[.string k, lv1 Z1] 129 (0, 0)) ∧ w1.heap.size ≤ Z1 ∧ X9.heap[Z1]? = some (.cells #[.int .i64 v.ts, .string v.val, .bool v.dead] 125 (0, 0)),
        fun v9 X9 => ∃ Z1 Z2 Z3, v9 = lv1 Z3 ∧ w1.heap.size ≤ Z3 ∧ X9.heap[Z3]? = some (.cells #[.pointer (some ⟨Z2, 0, none⟩)] 126 (0, 0)) ∧ w1.heap.size ≤ Z2 ∧ X9.heap[Z2]? = some (.cells #[.string k, lv1 Z1] 129 (0, 0)) ∧ w1.heap.size ≤ Z1 ∧ X9.heap[Z1]? = some (.cells #[.int .i64 v.ts, .string v.val, .bool v.dead] 125 (0, 0)),
        fun v9 X9 => ∃ Z1 Z2 ad9 cap9, v9 = .slice ad9 (G.length + 1) cap9 ∧ X9.ownsRow 0 126 1 v9 (G.length + 1) (inn (G.map gP) s (.pointer (some ⟨Z2, 0, none⟩))) ∧ (∀ j, (v9).ownBlock = some j → (Value.slice rad G.length rcap).ownBlock = some j ∨ w1.heap.size ≤ j) ∧ Fr w1 X9 (fun j => (Value.slice rad G.length rcap).ownBlock = some j) ∧ w1.heap.size ≤ Z2 ∧ X9.heap[Z2]? = some (.cells #[.string k, lv1 Z1] 129 (0, 0)) ∧ w1.heap.size ≤ Z1 ∧ X9.heap[Z1]? = some (.cells #[.int .i64 v.ts, .string v.val, .bool v.dead] 125 (0, 0)),
        fun v9 _ => v9 = .pointer (some ⟨A, 0, none⟩),
        fun v9 _ => v9 = .pointer (some ⟨A, 0, none⟩)]
        (fun _ X8 => ∃ Z1 Z2 ad9 cap9 X9, X8 = X9.setCell ⟨A, 0, none⟩ (.slice ad9 (G.length + 1) cap9) ∧ X9.ownsRow 0 126 1 (.slice ad9 (G.length + 1) cap9) (G.length + 1) (inn (G.map gP) s (.pointer (some ⟨Z2, 0, none⟩))) ∧ (∀ j, (Value.slice ad9 (G.length + 1) cap9).ownBlock = some j → (Value.slice rad G.length rcap).ownBlock = some j ∨ w1.heap.size ≤ j) ∧ Fr w1 X9 (fun j => (Value.slice rad G.length rcap).ownBlock = some j) ∧ w1.heap.size ≤ Z2 ∧ X9.heap[Z2]? = some (.cells #[.string k, lv1 Z1] 129 (0, 0)) ∧ w1.heap.size ≤ Z1 ∧ X9.heap[Z1]? = some (.cells #[.int .i64 v.ts, .string v.val, .bool v.dead] 125 (0, 0))) rfl (by kernel_rfl) (by kernel_rfl) (by kernel_rfl) (by kernel_rfl) ?st ?stm ?g0 (by decide) ?os ?la ?en
      case st => exact ⟨fun _ _ _ _ h => h, fun _ _ _ _ h => h, fun _ _ _ _ h => h, fun _ _ _ _ h => h, fun _ _ _ _ h => h, fun _ _ _ _ h => h, fun _ _ _ _ h => h, fun _ _ _ _ h => h, fun _ _ _ hs ⟨Z1, e, z1, z2⟩ => ⟨Z1, e, z1, (hs.block _ (blk_lt z2)).trans z2⟩, fun _ _ _ hs ⟨Z1, e, z1, z2⟩ => ⟨Z1, e, z1, (hs.block _ (blk_lt z2)).trans z2⟩, fun _ _ _ hs ⟨Z1, Z2, e, z1, z2, z3, z4⟩ => ⟨Z1, Z2, e, z1, (hs.block _ (blk_lt z2)).trans z2, z3, (hs.block _ (blk_lt z4)).trans z4⟩, fun _ _ _ hs ⟨Z1, Z2, Z3, e, z1, z2, z3, z4, z5, z6⟩ => ⟨Z1, Z2, Z3, e, z1, (hs.block _ (blk_lt z2)).trans z2, z3, (hs.block _ (blk_lt z4)).trans z4, z5, (hs.block _ (blk_lt z6)).trans z6⟩, fun _ _ _ hs ⟨Z1, Z2, x1, x2, e, o1, o2, o3, z1, z2, z3, z4⟩ => ⟨Z1, Z2, x1, x2, e, own_below o1 hs, o2, o3.below hs, z1, (hs.block _ (blk_lt z2)).trans z2, z3, (hs.block _ (blk_lt z4)).trans z4⟩, fun _ _ _ _ h => h, fun _ _ _ _ h => h, trivial⟩
      case stm => exact ⟨fun _ _ _ _ h => h, fun _ _ _ _ h => h, fun _ _ _ _ h => h, fun _ _ _ _ h => h, fun _ _ _ _ h => h, fun _ _ _ _ h => h, fun _ _ _ _ h => h, fun _ _ _ _ h => h, fun _ _ _ hs ⟨Z1, e, z1, z2⟩ => ⟨Z1, e, z1, (hs.block _ (blk_lt z2) (fun e => by have z9 := HRL.out _ e; omega)).trans z2⟩, fun _ _ _ hs ⟨Z1, e, z1, z2⟩ => ⟨Z1, e, z1, (hs.block _ (blk_lt z2) (fun e => by have z9 := HRL.out _ e; omega)).trans z2⟩, fun _ _ _ hs ⟨Z1, Z2, e, z1, z2, z3, z4⟩ => ⟨Z1, Z2, e, z1, (hs.block _ (blk_lt z2) (fun e => by have z9 := HRL.out _ e; omega)).trans z2, z3, (hs.block _ (blk_lt z4) (fun e => by have z9 := HRL.out _ e; omega)).trans z4⟩, fun _ _ _ hs ⟨Z1, Z2, Z3, e, z1, z2, z3, z4, z5, z6⟩ => ⟨Z1, Z2, Z3, e, z1, (hs.block _ (blk_lt z2) (fun e => by have z9 := HRL.out _ e; omega)).trans z2, z3, (hs.block _ (blk_lt z4) (fun e => by have z9 := HRL.out _ e; omega)).trans z4, z5, (hs.block _ (blk_lt z6) (fun e => by have z9 := HRL.out _ e; omega)).trans z6⟩, fun _ _ _ _ h => h, fun _ _ _ _ h => h, fun _ _ _ _ h => h, trivial⟩
      case g0 => exact ⟨⟨rfl, rfl, rfl, Nat.le_refl _, fun _ _ _ => rfl⟩, fun _ => ⟨rfl, rfl, rfl, Nat.le_refl _, fun _ _ => rfl⟩⟩
      case os =>
        refine ⟨?_, ?_, ?_, ?_, ?_, ?_, ?_, ?_, ?_, ?_, ?_, ?_, ?_, ?_, ?_, trivial⟩
        · exact ⟨rfl, fun _ ρ X9 d hg ho hc hf hr => Runs.val _ (op_move (show ρ (.tmp 0) = .pointer (some ⟨A, 0, none⟩) from ho 0 rfl)) ⟨hg, Below.refl _ _, rfl⟩, fun e => absurd e (by decide)⟩
        · exact ⟨rfl, fun _ ρ X9 d hg ho hc hf hr => Runs.val _ (op_move (show ρ (.tmp 0) = .pointer (some ⟨A, 0, none⟩) from ho 0 rfl)) ⟨hg, Below.refl _ _, rfl⟩, fun e => absurd e (by decide)⟩
        · exact ⟨rfl, fun _ ρ X9 d hg ho hc hf hr => Runs.val _ (op_nil (show ρ (.tmp 24) = .pointer (some ⟨A, 0, none⟩) from hr 1 24 rfl rfl)) ⟨hg, Below.refl _ _, rfl⟩, fun e => absurd e (by decide)⟩
        · exact ⟨rfl, fun _ ρ X9 d hg ho hc hf hr => Runs.val _ (op_f116_0 (show ρ (.tmp 25) = .pointer (some ⟨A, 0, none⟩) from hr 2 25 rfl rfl)) ⟨hg, Below.refl _ _, rfl⟩, fun e => absurd e (by decide)⟩
        · exact ⟨rfl, fun _ ρ X9 d hg ho hc hf hr => Runs.val _ (op_load114 (show ρ (.tmp 26) = .pointer (some ⟨A, 0, none⟩) from hr 3 26 rfl rfl) (cell_fr hg.1 hnA a0)) ⟨hg, Below.refl _ _, rfl⟩, fun e => absurd e (by decide)⟩
        · exact ⟨rfl, fun _ ρ X9 d hg ho hc hf hr => Runs.val _ (op_move (show ρ (.tmp 7) = .int .i64 (s : Int) from ho 7 rfl)) ⟨hg, Below.refl _ _, rfl⟩, fun e => absurd e (by decide)⟩
        · exact ⟨rfl, fun _ ρ X9 d hg ho hc hf hr => Runs.val _ (op_move (show ρ (.tmp 1) = .string k from ho 1 rfl)) ⟨hg, Below.refl _ _, rfl⟩, fun e => absurd e (by decide)⟩
        · exact ⟨rfl, fun _ ρ X9 d hg ho hc hf hr => Runs.val _ (op_load125 (show ρ (.tmp 5) = .pointer (some ⟨Y, 0, none⟩) from ho 5 rfl) (cell_fr hg.1 hnY m0) (cell_fr hg.1 hnY m1) (cell_fr hg.1 hnY m2)) ⟨hg, Below.refl _ _, rfl⟩, fun e => absurd e (by decide)⟩
        · refine ⟨rfl, fun _ ρ X9 d hg ho hc hf hr => ?_, fun e => absurd e (by decide)⟩
          have hb7 : Below X9.heap.size X9 (X9.alloc (.cells #[.int .i64 v.ts, .string v.val, .bool v.dead] 125)) := (Below.refl _ X9).alloc (Nat.le_refl _) _
          exact Runs.val _ (op_s127 (show ρ (.tmp 30) = .agg #[.int .i64 v.ts, .string v.val, .bool v.dead] from hr 7 30 rfl rfl)) ⟨⟨hg.1.below hb7, fun z => (hg.2 z).trans (hb7.mono (hg.2 z).size)⟩, hb7, X9.heap.size, rfl, hg.1.size, heap_alloc_new X9 _⟩
        · refine ⟨rfl, fun _ ρ X9 d hg ho hc hf hr => ?_, fun e => absurd e (by decide)⟩
          obtain ⟨Z1, e, z1, z2⟩ : ∃ Z1, (ρ (.tmp 31)) = lv1 Z1 ∧ w1.heap.size ≤ Z1 ∧ X9.heap[Z1]? = some (.cells #[.int .i64 v.ts, .string v.val, .bool v.dead] 125 (0, 0)) := hr 8 31 rfl rfl
          exact Runs.val _ (op_b129 (show ρ (.tmp 29) = .string k from hr 6 29 rfl rfl) e) ⟨hg, Below.refl _ _, Z1, rfl, z1, z2⟩
        · refine ⟨rfl, fun _ ρ X9 d hg ho hc hf hr => ?_, fun e => absurd e (by decide)⟩
          obtain ⟨Z1, e, z1, z2⟩ : ∃ Z1, (ρ (.tmp 32)) = .agg #[.string k, lv1 Z1] ∧ w1.heap.size ≤ Z1 ∧ X9.heap[Z1]? = some (.cells #[.int .i64 v.ts, .string v.val, .bool v.dead] 125 (0, 0)) := hr 9 32 rfl rfl
          have hb7 : Below X9.heap.size X9 (X9.alloc (.cells #[.string k, lv1 Z1] 129)) := (Below.refl _ X9).alloc (Nat.le_refl _) _
          exact Runs.val _ (op_x129 e) ⟨⟨hg.1.below hb7, fun z => (hg.2 z).trans (hb7.mono (hg.2 z).size)⟩, hb7, Z1, X9.heap.size, rfl, hg.1.size, heap_alloc_new X9 _, z1, (hb7.block _ (blk_lt z2)).trans z2⟩
        · refine ⟨rfl, fun _ ρ X9 d hg ho hc hf hr => ?_, fun e => absurd e (by decide)⟩
          obtain ⟨Z1, Z2, e, z1, z2, z3, z4⟩ : ∃ Z1 Z2, (ρ (.tmp 33)) = .pointer (some ⟨Z2, 0, none⟩) ∧ w1.heap.size ≤ Z2 ∧ X9.heap[Z2]? = some (.cells #[.string k, lv1 Z1] 129 (0, 0)) ∧ w1.heap.size ≤ Z1 ∧ X9.heap[Z1]? = some (.cells #[.int .i64 v.ts, .string v.val, .bool v.dead] 125 (0, 0)) := hr 10 33 rfl rfl
          have hb7 : Below X9.heap.size X9 (X9.alloc (.cells #[.pointer (some ⟨Z2, 0, none⟩)] 126)) := (Below.refl _ X9).alloc (Nat.le_refl _) _
          exact Runs.val _ (op_s114 e) ⟨⟨hg.1.below hb7, fun z => (hg.2 z).trans (hb7.mono (hg.2 z).size)⟩, hb7, Z1, Z2, X9.heap.size, rfl, hg.1.size, heap_alloc_new X9 _, z1, (hb7.block _ (blk_lt z2)).trans z2, z3, (hb7.block _ (blk_lt z4)).trans z4⟩
        · refine ⟨rfl, fun e => absurd rfl e, fun _ ρ X9 hg ho hc hf hr => ?_⟩
          obtain ⟨Z1, Z2, Z3, e, z1, z2, z3, z4, z5, z6⟩ : ∃ Z1 Z2 Z3, (ρ (.tmp 34)) = lv1 Z3 ∧ w1.heap.size ≤ Z3 ∧ X9.heap[Z3]? = some (.cells #[.pointer (some ⟨Z2, 0, none⟩)] 126 (0, 0)) ∧ w1.heap.size ≤ Z2 ∧ X9.heap[Z2]? = some (.cells #[.string k, lv1 Z1] 129 (0, 0)) ∧ w1.heap.size ≤ Z1 ∧ X9.heap[Z1]? = some (.cells #[.int .i64 v.ts, .string v.val, .bool v.dead] 125 (0, 0)) := hr 11 34 rfl rfl
          have hbX := hg.2 rfl
          have hins := insert_any (w := X9) (n := G.length) (i := s) (xs := G.map gP) (x := .pointer (some ⟨Z2, 0, none⟩)) (rv := (.slice rad G.length rcap)) (vb := Z3) (own_below HRW.out hbX) (fun u hu => by obtain ⟨g, _, rfl⟩ := List.mem_map.1 hu; rfl) hle (by omega) rfl z2 (fun e => by have z9 := HRL.out _ e; omega)
          refine Runs.goes 108 #[(.slice rad G.length rcap), .int .i64 (s : Int), lv1 Z3] (op_call3 hf call108 (show ρ (.tmp 27) = (.slice rad G.length rcap) from hr 4 27 rfl rfl) (show ρ (.tmp 28) = .int .i64 (s : Int) from hr 5 28 rfl rfl) e) (hins.mono ?_)
          rintro e7 w7 ⟨ad9, cap9, rfl, o7, f7, n7⟩
          exact ⟨_, rfl, ⟨hg.1.trans f7, fun z => by cases z⟩, f7, Z1, Z2, ad9, cap9, rfl, o7, fun j e => (by rcases n7 j e with q | q; exact .inl q; exact .inr (Nat.le_trans hbX.size q)), hg.1.trans f7, z3, (f7.block _ (blk_lt z4) (fun e => by have z9 := HRL.out _ e; omega)).trans z4, z5, (f7.block _ (blk_lt z6) (fun e => by have z9 := HRL.out _ e; omega)).trans z6⟩
        · exact ⟨rfl, fun _ ρ X9 d hg ho hc hf hr => Runs.val _ (op_nil (show ρ (.tmp 23) = .pointer (some ⟨A, 0, none⟩) from hr 0 23 rfl rfl)) ⟨hg, Below.refl _ _, rfl⟩, fun e => absurd e (by decide)⟩
        · exact ⟨rfl, fun _ ρ X9 d hg ho hc hf hr => Runs.val _ (op_f116_0 (show ρ (.tmp 36) = .pointer (some ⟨A, 0, none⟩) from hr 13 36 rfl rfl)) ⟨hg, Below.refl _ _, rfl⟩, fun e => absurd e (by decide)⟩
      case la =>
        refine ⟨rfl, fun ρ X9 hg ho hc hf hr => ?_⟩
        obtain ⟨Z1, Z2, ad9, cap9, e, o1, o2, o3, z1, z2, z3, z4⟩ : ∃ Z1 Z2 ad9 cap9, (ρ (.tmp 35)) = .slice ad9 (G.length + 1) cap9 ∧ X9.ownsRow 0 126 1 (ρ (.tmp 35)) (G.length + 1) (inn (G.map gP) s (.pointer (some ⟨Z2, 0, none⟩))) ∧ (∀ j, ((ρ (.tmp 35))).ownBlock = some j → (Value.slice rad G.length rcap).ownBlock = some j ∨ w1.heap.size ≤ j) ∧ Fr w1 X9 (fun j => (Value.slice rad G.length rcap).ownBlock = some j) ∧ w1.heap.size ≤ Z2 ∧ X9.heap[Z2]? = some (.cells #[.string k, lv1 Z1] 129 (0, 0)) ∧ w1.heap.size ≤ Z1 ∧ X9.heap[Z1]? = some (.cells #[.int .i64 v.ts, .string v.val, .bool v.dead] 125 (0, 0)) := hr 12 35 (by decide) rfl
        rw [e] at o1 o2
        have hA9 := (o3.block A (blk_lt HOB.out) hnA).trans HOB.out
        exact Runs.skips (op_store114 (show ρ (.tmp 37) = .pointer (some ⟨A, 0, none⟩) from hr 14 37 (by decide) rfl) e (cell_blk hA9 0) (frozen_blk hA9 0)) ⟨Z1, Z2, ad9, cap9, X9, rfl, o1, o2, o3, z1, z2, z3, z4⟩
      case en =>
        intro a X9 Xb v9 hF hs hd ho hv9 hr
        obtain ⟨x, hx, hxt⟩ := act_put hs hd ho
        change a = putAll _ x [23, 24, 25, 26, 27, 28, 29, 30, 31, 32, 33, 34, 35, 36, 37] at hx
        simp only [putAll, Act.put, List.setIfInBounds_toArray, List.set_cons_zero, List.set_cons_succ] at hx
        obtain ⟨Z1, Z2, ad9, cap9, X8, rfl, o1, o2, o3, z1, z2, z3, z4⟩ := hF
        have HA : Hid (PutAns w A S (G.map Gw.r) k v (.returned (.int .i64 0)) (X8.setCell ⟨A, 0, none⟩ (.slice ad9 (G.length + 1) cap9))) := by
          have bz := HB1.out.size
          have f0 : Fr w X8 (fun j => (Value.slice rad G.length rcap).ownBlock = some j) := ⟨o3.os.trans HB1.out.os, o3.tape.trans HB1.out.tape, o3.output.trans HB1.out.output, Nat.le_trans bz o3.size, fun j hj hn => (o3.block j (by omega) hn).trans (HB1.out.block j hj)⟩
          obtain ⟨k1, k2⟩ := HH.out.add f0 o1 (fun j e => by rcases o2 j e with q | q; exact .inl q; exact .inr (Nat.le_trans bz q)) z4 z2 (Nat.le_trans bz z3) (Nat.le_trans bz z1) hle HOK.out hfew
          refine ⟨by rw [HE1.out], _, ?_, fun j q => q, k2⟩
          rw [HE2.out]
          exact ⟨_, _, k1, by rw [inn_map]⟩
        clear hs hd ho hr hv9 hxt o1 o2 o3 z1 z2 z3 z4
        subst hx
        go_wp2
        go_ret
        exact HA.out
    | true =>
      obtain ⟨hlt, hkk⟩ : ∃ hlt : s < G.length, G[s].r.key = k := by
        unfold fd at hfd
        rw [hs, List.getElem?_map] at hfd
        by_cases hlt : s < G.length
        · rw [List.getElem?_eq_getElem hlt] at hfd
          simp only [Option.map_some, decide_eq_true_eq] at hfd
          exact ⟨hlt, hfd⟩
        · rw [List.getElem?_eq_none (by omega)] at hfd
          cases hfd
      have hrs : (G.map Gw.r)[place (G.map Gw.r) k]? = some G[s].r := by rw [hs, List.getElem?_map, List.getElem?_eq_getElem hlt]; rfl
      obtain ⟨e1, e2⟩ := put_old hts hrs hkk
      rw [hfd, hs] at hfnd
      rw [hs] at e2
      have hrise := h.ok.rise G[s].r (List.mem_map_of_mem (List.getElem_mem hlt))
      have hnw := fun V (hV : Below w.heap.size w V) => newest_any (own_below (h.ls _ (List.getElem_mem hlt)) hV) hrise.ne (by have := h.less _ (List.getElem_mem hlt); omega)
      obtain ⟨nw, hnwe⟩ : ∃ nw, newest G[s].r.list = nw := ⟨_, rfl⟩
      rw [hnwe] at hnw e1 e2
      obtain ⟨lad, lcap, hlv⟩ := own_shape (h.ls _ (List.getElem_mem hlt))
      rw [hlv] at hnw
      have s0 : (0 : Int) ≤ (s : Int) := by omega
      have s1 : (s : Int) < (G.length : Int) := by omega
      obtain ⟨n, hn⟩ : ∃ n, G[s].r.list.length = n := ⟨_, rfl⟩
      rw [hn] at hnw hlv
      have HNW := Lib.hid hnw
      have HLV := Lib.hid hlv
      have HNN := Lib.hid hn
      have HE1 := Lib.hid e1
      have HE2 := Lib.hid e2
      have HKK := Lib.hid hkk
      have HOK := Lib.hid hokp
      obtain ⟨q, hq⟩ : ∃ q, G[s].ptr = q := ⟨_, rfl⟩
      have HQQ := Lib.hid hq
      clear e1 e2 hokp hfd hv hb jY hY hW hs hrs hkk hrise hnw hlv hnwe hn hq
      go_enter Try.func92, Try.ntmps92
      go_upto_region 1 with fail
      rw [← HW.out, HYY.out]
      go_wp2_with fail
      refine hfnd.mono ?_
      rintro e w1 ⟨rfl, hb1⟩
      have hbw1 := HB.out.trans (hb1.mono HB.out.size)
      have hv1 := HH.out.on hbw1
      have jY1 := (hb1.block Y (blk_lt HJY.out)).trans HJY.out
      obtain ⟨g, rcap, rfl, hc1, hc2, hp0⟩ := hv1.ptr hlt
      have hm : (rcap : Int) ≤ 9223372036854775807 := by unfold maxLen at hc2; omega
      have a0 : w1.cell? ⟨A, 0, none⟩ = some (.slice (some ⟨g, 0, none⟩) G.length rcap) := cell_blk hv1.ob 0
      have hp1 : w1.cell? ⟨g, s, none⟩ = some (.pointer (some ⟨q, 0, none⟩)) := by rw [← HQQ.out]; exact hp0
      have jq : w1.heap[q]? = some (.cells #[.string G[s].r.key, .slice lad n lcap] 129 (0, 0)) := by rw [← HQQ.out, ← HLV.out]; exact hv1.at' _ (List.getElem_mem hlt)
      have q1 : w1.cell? ⟨q, 1, none⟩ = some (.slice lad n lcap) := cell_blk jq 1
      have m0 : w1.cell? ⟨Y, 0, none⟩ = some (.int .i64 v.ts) := cell_blk jY1 0
      have m1 : w1.cell? ⟨Y, 1, none⟩ = some (.string v.val) := cell_blk jY1 1
      have m2 : w1.cell? ⟨Y, 2, none⟩ = some (.bool v.dead) := cell_blk jY1 2
      have hls1 : w1.ownsRow 0 125 3 (.slice lad n lcap) n (veC G[s].r.list) := by
        have := hv1.ls _ (List.getElem_mem hlt)
        rw [HLV.out, HNN.out] at this
        exact this
      have hn1 : ∀ m, Calls Try.prog 109 #[.slice lad n lcap] (w1.drewN m) fun e w' => e = .returned (.int .i64 nw) ∧ ∃ m', w' = w1.drewN m' := fun m => by
        refine (HNW.out (w1.drewN m) (below_draw hbw1 m)).mono ?_
        rintro e w' ⟨rfl, rfl⟩
        exact ⟨rfl, m, rfl⟩
      have HLS := Lib.hid hls1
      have HB1 := Lib.hid hbw1
      have HV1 := Lib.hid hv1
      have HJQ := Lib.hid jq
      have HJ1 := Lib.hid jY1
      clear hfnd hb1 hv1 jY1 hbw1 hp0 b0 jq hls1 h
      by_cases hge : v.ts ≤ nw
      · have hgd : decide (v.ts ≤ nw) = true := decide_eq_true hge
        have HA : Hid (∀ m, PutAns w A S (G.map Gw.r) k v (.returned (.int .i64 120)) (w1.drewN m)) := by
          intro m
          refine PutAns.same HH.out (below_draw HB1.out m) ?_ ?_
          · rw [HE1.out, if_pos hge]
          · rw [HE2.out, if_pos hge]
        go_wp2
        go_quiet ((go_at_call 109; exact hn1 _))
        go_wp2
        go_ret
        exact HA.out _
      · have hgd : decide (v.ts ≤ nw) = false := decide_eq_false hge
        have hpe : putE (G.map Gw.r) k v = 0 := by rw [HE1.out, if_neg hge]
        have hpr : putR (G.map Gw.r) k v = (G.map Gw.r).set s ⟨k, G[s].r.list ++ [v]⟩ := by rw [HE2.out, if_neg hge]
        have HPE := Lib.hid hpe
        have HPR := Lib.hid hpr
        clear hpe hpr HE1 HE2
        go_wp2
        go_quiet ((go_at_call 109; exact hn1 _))
        have bq := below_draw (Below.refl w1.heap.size w1) nq
        obtain ⟨V, hV⟩ : ∃ V, w1.drewN nq = V := ⟨_, rfl⟩
        rw [hV] at bq ⊢
        have jqV := (bq.block q (blk_lt HJQ.out)).trans HJQ.out
        have jYV := (bq.block Y (blk_lt HJ1.out)).trans HJ1.out
        have q1 : V.cell? ⟨q, 1, none⟩ = some (.slice lad n lcap) := cell_blk jqV 1
        have m0 : V.cell? ⟨Y, 0, none⟩ = some (.int .i64 v.ts) := cell_blk jYV 0
        have m1 : V.cell? ⟨Y, 1, none⟩ = some (.string v.val) := cell_blk jYV 1
        have m2 : V.cell? ⟨Y, 2, none⟩ = some (.bool v.dead) := cell_blk jYV 2
        have hlsV := own_below HLS.out bq
        have hbwV := HB1.out.trans (bq.mono HB1.out.size)
        have hnq : ¬ (Value.slice lad n lcap).ownBlock = some q := fun e => by
          obtain ⟨cs, t⟩ := own_tag hlsV q e
          exact tag_ne t jqV (by decide) rfl
        have hlS : ∀ j, (Value.slice lad n lcap).ownBlock = some j → j < w.heap.size := fun j e => by
          have := HH.out.covl _ (List.getElem_mem hlt) j (by rw [HLV.out]; exact e)
          exact HH.out.lt j this
        have hnYl : ¬ (Value.slice lad n lcap).ownBlock = some Y := fun e => by have z1 := hlS Y e; have z2 := HYY.out; omega
        have hn8 : n < 800000 := by have := hless _ (List.getElem_mem hlt); have := HNN.out; omega
        have HLSV := Lib.hid hlsV
        have HBV := Lib.hid hbwV
        have HJQV := Lib.hid jqV
        have HLB := Lib.hid hlS
        clear hV bq jqV jYV hlsV hbwV hlS hn1 hp1 a0
        go_upto_region 12 with fail
        refine wp_region_once 7 (fun d X9 => Fr V X9 (fun j => (Value.slice lad n lcap).ownBlock = some j) ∧ (d = false → Below V.heap.size V X9)) (fun X9 X' => Below X9.heap.size X9 X') (fun X9 X' => Fr X9 X' (fun j => (Value.slice lad n lcap).ownBlock = some j)) [
          fun v9 _ => v9 = .pointer (some ⟨q, 0, none⟩),
          fun v9 _ => v9 = .pointer (some ⟨q, 0, none⟩),
          fun v9 _ => v9 = .pointer (some ⟨q, 0, none⟩),
          fun v9 _ => v9 = .pointer (some ⟨q, 1, none⟩),
          fun v9 _ => v9 = (.slice lad n lcap),
          fun v9 _ => v9 = .agg #[.int .i64 v.ts, .string v.val, .bool v.dead],
          fun v9 X9 => ∃ Z1, v9 = lv1 Z1 ∧ V.heap.size ≤ Z1 ∧ X9.heap[Z1]? = some (.cells #[.int .i64 v.ts, .string v.val, .bool v.dead] 125 (0, 0)),
          fun v9 X9 => ∃ ad9 cap9, v9 = .slice ad9 (n + 1) cap9 ∧ X9.ownsRow 0 125 3 v9 (n + 1) (veC (G[s].r.list ++ [v])) ∧ (∀ j, (v9).ownBlock = some j → (Value.slice lad n lcap).ownBlock = some j ∨ V.heap.size ≤ j) ∧ Fr V X9 (fun j => (Value.slice lad n lcap).ownBlock = some j),
          fun v9 _ => v9 = .pointer (some ⟨q, 0, none⟩),
          fun v9 _ => v9 = .pointer (some ⟨q, 1, none⟩)]
          (fun _ X8 => ∃ ad9 cap9 X9, X8 = X9.setCell ⟨q, 1, none⟩ (.slice ad9 (n + 1) cap9) ∧ X9.ownsRow 0 125 3 (.slice ad9 (n + 1) cap9) (n + 1) (veC (G[s].r.list ++ [v])) ∧ (∀ j, (Value.slice ad9 (n + 1) cap9).ownBlock = some j → (Value.slice lad n lcap).ownBlock = some j ∨ V.heap.size ≤ j) ∧ Fr V X9 (fun j => (Value.slice lad n lcap).ownBlock = some j)) rfl (by kernel_rfl) (by kernel_rfl) (by kernel_rfl) (by kernel_rfl) ?st ?stm ?g0 (by decide) ?os ?la ?en
        case st => exact ⟨fun _ _ _ _ h => h, fun _ _ _ _ h => h, fun _ _ _ _ h => h, fun _ _ _ _ h => h, fun _ _ _ _ h => h, fun _ _ _ _ h => h, fun _ _ _ hs ⟨Z1, e, z1, z2⟩ => ⟨Z1, e, z1, (hs.block _ (blk_lt z2)).trans z2⟩, fun _ _ _ hs ⟨x1, x2, e, o1, o2, o3⟩ => ⟨x1, x2, e, own_below o1 hs, o2, o3.below hs⟩, fun _ _ _ _ h => h, fun _ _ _ _ h => h, trivial⟩
        case stm => exact ⟨fun _ _ _ _ h => h, fun _ _ _ _ h => h, fun _ _ _ _ h => h, fun _ _ _ _ h => h, fun _ _ _ _ h => h, fun _ _ _ _ h => h, fun _ _ _ hs ⟨Z1, e, z1, z2⟩ => ⟨Z1, e, z1, (hs.block _ (blk_lt z2) (fun e => by have z9 := (HLSV.out.lt _ e).2; omega)).trans z2⟩, fun _ _ _ _ h => h, fun _ _ _ _ h => h, fun _ _ _ _ h => h, trivial⟩
        case g0 => exact ⟨⟨rfl, rfl, rfl, Nat.le_refl _, fun _ _ _ => rfl⟩, fun _ => ⟨rfl, rfl, rfl, Nat.le_refl _, fun _ _ => rfl⟩⟩
        case os =>
          refine ⟨?_, ?_, ?_, ?_, ?_, ?_, ?_, ?_, ?_, ?_, trivial⟩
          · exact ⟨rfl, fun _ ρ X9 d hg ho hc hf hr => Runs.val _ (op_move (show ρ (.tmp 9) = .pointer (some ⟨q, 0, none⟩) from ho 9 rfl)) ⟨hg, Below.refl _ _, rfl⟩, fun e => absurd e (by decide)⟩
          · exact ⟨rfl, fun _ ρ X9 d hg ho hc hf hr => Runs.val _ (op_move (show ρ (.tmp 9) = .pointer (some ⟨q, 0, none⟩) from ho 9 rfl)) ⟨hg, Below.refl _ _, rfl⟩, fun e => absurd e (by decide)⟩
          · exact ⟨rfl, fun _ ρ X9 d hg ho hc hf hr => Runs.val _ (op_nil (show ρ (.tmp 54) = .pointer (some ⟨q, 0, none⟩) from hr 1 54 rfl rfl)) ⟨hg, Below.refl _ _, rfl⟩, fun e => absurd e (by decide)⟩
          · exact ⟨rfl, fun _ ρ X9 d hg ho hc hf hr => Runs.val _ (op_f129_1 (show ρ (.tmp 55) = .pointer (some ⟨q, 0, none⟩) from hr 2 55 rfl rfl)) ⟨hg, Below.refl _ _, rfl⟩, fun e => absurd e (by decide)⟩
          · exact ⟨rfl, fun _ ρ X9 d hg ho hc hf hr => Runs.val _ (op_load127 (show ρ (.tmp 56) = .pointer (some ⟨q, 1, none⟩) from hr 3 56 rfl rfl) (cell_fr hg.1 hnq q1)) ⟨hg, Below.refl _ _, rfl⟩, fun e => absurd e (by decide)⟩
          · exact ⟨rfl, fun _ ρ X9 d hg ho hc hf hr => Runs.val _ (op_load125 (show ρ (.tmp 5) = .pointer (some ⟨Y, 0, none⟩) from ho 5 rfl) (cell_fr hg.1 hnYl m0) (cell_fr hg.1 hnYl m1) (cell_fr hg.1 hnYl m2)) ⟨hg, Below.refl _ _, rfl⟩, fun e => absurd e (by decide)⟩
          · refine ⟨rfl, fun _ ρ X9 d hg ho hc hf hr => ?_, fun e => absurd e (by decide)⟩
            have hb7 : Below X9.heap.size X9 (X9.alloc (.cells #[.int .i64 v.ts, .string v.val, .bool v.dead] 125)) := (Below.refl _ X9).alloc (Nat.le_refl _) _
            exact Runs.val _ (op_s127 (show ρ (.tmp 58) = .agg #[.int .i64 v.ts, .string v.val, .bool v.dead] from hr 5 58 rfl rfl)) ⟨⟨hg.1.below hb7, fun z => (hg.2 z).trans (hb7.mono (hg.2 z).size)⟩, hb7, X9.heap.size, rfl, hg.1.size, heap_alloc_new X9 _⟩
          · refine ⟨rfl, fun e => absurd rfl e, fun _ ρ X9 hg ho hc hf hr => ?_⟩
            obtain ⟨Z1, e, z1, z2⟩ : ∃ Z1, (ρ (.tmp 59)) = lv1 Z1 ∧ V.heap.size ≤ Z1 ∧ X9.heap[Z1]? = some (.cells #[.int .i64 v.ts, .string v.val, .bool v.dead] 125 (0, 0)) := hr 6 59 rfl rfl
            have hbX := hg.2 rfl
            obtain ⟨ad9, cap9, w9, hrun, o9, g9, t9⟩ := run_ve (m := 1) (c := 1) (news := veC [v]) (own_below HLSV.out hbX) (Nat.zero_le _) (.inr ⟨⟨Z1, 0, none⟩, rfl, rfl, fun j u hu => by
              rw [add_at, Nat.zero_add, cell_blk z2]
              simpa [veC] using hu⟩) (veC_one _) (by omega)
            have f9 : Fr X9 w9 (fun j => (Value.slice lad n lcap).ownBlock = some j) := Fr.grown (Fr.refl X9 _) g9 (fun j hj => .inl hj)
            exact Runs.val _ (op_append127 (show ρ (.tmp 57) = (.slice lad n lcap) from hr 4 57 rfl rfl) e hrun) ⟨⟨hg.1.trans f9, fun z => by cases z⟩, f9, ad9, cap9, rfl, by rw [veC_append]; exact o9, fun j e => (by
              rcases t9 with t9 | t9
              · rw [t9] at e; exact .inl e
              · rw [t9] at e; cases e; exact .inr hbX.size), hg.1.trans f9⟩
          · exact ⟨rfl, fun _ ρ X9 d hg ho hc hf hr => Runs.val _ (op_nil (show ρ (.tmp 53) = .pointer (some ⟨q, 0, none⟩) from hr 0 53 rfl rfl)) ⟨hg, Below.refl _ _, rfl⟩, fun e => absurd e (by decide)⟩
          · exact ⟨rfl, fun _ ρ X9 d hg ho hc hf hr => Runs.val _ (op_f129_1 (show ρ (.tmp 61) = .pointer (some ⟨q, 0, none⟩) from hr 8 61 rfl rfl)) ⟨hg, Below.refl _ _, rfl⟩, fun e => absurd e (by decide)⟩
        case la =>
          refine ⟨rfl, fun ρ X9 hg ho hc hf hr => ?_⟩
          obtain ⟨ad9, cap9, e, o1, o2, o3⟩ : ∃ ad9 cap9, (ρ (.tmp 60)) = .slice ad9 (n + 1) cap9 ∧ X9.ownsRow 0 125 3 (ρ (.tmp 60)) (n + 1) (veC (G[s].r.list ++ [v])) ∧ (∀ j, ((ρ (.tmp 60))).ownBlock = some j → (Value.slice lad n lcap).ownBlock = some j ∨ V.heap.size ≤ j) ∧ Fr V X9 (fun j => (Value.slice lad n lcap).ownBlock = some j) := hr 7 60 (by decide) rfl
          rw [e] at o1 o2
          have hq9 := (o3.block q (blk_lt HJQV.out) hnq).trans HJQV.out
          exact Runs.skips (op_store127 (show ρ (.tmp 62) = .pointer (some ⟨q, 1, none⟩) from hr 9 62 (by decide) rfl) e (cell_blk hq9 1) (frozen_blk hq9 1)) ⟨ad9, cap9, X9, rfl, o1, o2, o3⟩
        case en =>
          intro a X9 Xb v9 hF hs hd ho hv9 hr
          obtain ⟨x, hx, hxt⟩ := act_put hs hd ho
          change a = putAll _ x [53, 54, 55, 56, 57, 58, 59, 60, 61, 62] at hx
          simp only [putAll, Act.put, List.setIfInBounds_toArray, List.set_cons_zero, List.set_cons_succ] at hx
          obtain ⟨ad9, cap9, X8, rfl, o1, o2, o3⟩ := hF
          have HA : Hid (PutAns w A S (G.map Gw.r) k v (.returned (.int .i64 0)) (X8.setCell ⟨q, 1, none⟩ (.slice ad9 (n + 1) cap9))) := by
            have bz := HBV.out.size
            have f0 : Fr w X8 (fun j => G[s].lv.ownBlock = some j) := by
              rw [HLV.out]
              exact ⟨o3.os.trans HBV.out.os, o3.tape.trans HBV.out.tape, o3.output.trans HBV.out.output, Nat.le_trans bz o3.size, fun j hj hn => (o3.block j (by omega) hn).trans (HBV.out.block j hj)⟩
            have hok : Okr ((G.map Gw.r).set s ⟨G[s].r.key, G[s].r.list ++ [v]⟩) := by
              rw [HKK.out, ← HPR.out]
              exact HOK.out
            obtain ⟨k1, k2⟩ := HH.out.more hlt f0 (by rw [HNN.out]; exact o1) (fun j e => by rcases o2 j e with q | q; exact .inl (by rw [HLV.out]; exact q); exact .inr (Nat.le_trans bz q)) hok (hless _ (List.getElem_mem hlt))
            rw [HQQ.out] at k1 k2
            refine ⟨by rw [HPE.out], _, ?_, fun j q => q, k2⟩
            rw [HPR.out, ← HKK.out]
            exact ⟨_, _, k1, by rw [List.map_set]⟩
          clear hs hd ho hr hv9 hxt o1 o2 o3
          subst hx
          go_wp2
          go_ret
          exact HA.out
end
end Go.Proofs.Ytcoaahlakkghhaa
