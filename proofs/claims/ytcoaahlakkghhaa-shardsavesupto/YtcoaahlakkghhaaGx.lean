/- The document's store in memory; the walk of its Newest. -/
import Derived.Test.YtcoaahlakkghhaaGw
import Derived.Test.YtcoaahlakkghhaaGa
import Derived.BigQuiet
import Derived.Deep.QuietTactic
namespace Go.Proofs.Ytcoaahlakkghhaa
open Go.RowKit

def onC (D : List On) : List Value := D.flatMap fun p => [.string p.1, .int .i64 p.2.ts, .string p.2.val, .bool p.2.dead]
theorem onC_append (a b : List On) : onC (a ++ b) = onC a ++ onC b := by simp [onC]
theorem onC_len (D : List On) : (onC D).length = D.length * 4 := by
  induction D with
  | nil => rfl
  | cons p D ih =>
    simp only [onC, List.flatMap_cons, List.length_append, List.length_cons, List.length_nil] at ih ⊢
    omega
theorem onC_get (D : List On) : ∀ (k : Nat) (h : k < D.length), (onC D)[k * 4]? = some (.string D[k].1) ∧ (onC D)[k * 4 + 1]? = some (.int .i64 D[k].2.ts) ∧ (onC D)[k * 4 + 2]? = some (.string D[k].2.val) ∧ (onC D)[k * 4 + 3]? = some (.bool D[k].2.dead) := by
  induction D with
  | nil => exact fun k h => by simp at h
  | cons p D ih =>
    have e : onC (p :: D) = .string p.1 :: .int .i64 p.2.ts :: .string p.2.val :: .bool p.2.dead :: onC D := by simp [onC]
    intro k h
    rw [e]
    cases k with
    | zero => exact ⟨rfl, rfl, rfl, rfl⟩
    | succ k =>
      obtain ⟨a, b, c, d⟩ := ih k (by simpa using h)
      have e4 : (k + 1) * 4 = k * 4 + 4 := by omega
      rw [e4]
      exact ⟨a, b, c, d⟩
theorem onC_one (D : List On) : ∀ u ∈ onC D, u.oneCell' = true := by
  intro u hu
  obtain ⟨p, _, hp⟩ := List.mem_flatMap.1 hu
  simp only [List.mem_cons, List.not_mem_nil, or_false] at hp
  rcases hp with rfl | rfl | rfl | rfl <;> rfl
/-- The document's store at A, in the blocks S. -/
structure Rs (w : World) (A : Nat) (S : Nat → Prop) (D : List On) (lv : Value) : Prop where
  ob : w.heap[A]? = some (.cells #[lv] 30 (0, 0))
  own : w.ownsRow 0 144 4 lv D.length (onC D)
  mem : ∀ k, S k ↔ k = A ∨ lv.ownBlock = some k
section
variable {w w' : World} {A : Nat} {S T : Nat → Prop} {D : List On} {lv : Value}
theorem Rs.lt (h : Rs w A S D lv) : ∀ k, S k → k < w.heap.size := by
  intro k hk
  rcases (h.mem k).1 hk with rfl | e
  · exact blk_lt h.ob
  · obtain ⟨cs, hc⟩ := own_tag h.own k e
    exact blk_lt hc
theorem Rs.stays (h : Rs w A S D lv) (hf : Fr w w' T) (hd : ∀ k, S k → ¬ T k) : Rs w' A S D lv :=
  ⟨(hf.block A (blk_lt h.ob) (hd A ((h.mem A).2 (.inl rfl)))).trans h.ob, row_keep h.own hf (fun j hj => hd j ((h.mem j).2 (.inr hj))), h.mem⟩
theorem Rs.on (h : Rs w A S D lv) (hb : Below w.heap.size w w') : Rs w' A S D lv := h.stays (Fr.ofBelow (fun _ => False) hb) (fun _ _ q => q)
theorem Rs.at' (h : Rs w A S D lv) {i : Nat} (hi : i < D.length) : ∃ g cap, lv = .slice (some ⟨g, 0, none⟩) D.length cap ∧ D.length ≤ cap ∧ cap ≤ maxLen ∧ w.cell? ⟨g, i * 4, none⟩ = some (.string D[i].1) ∧ w.cell? ⟨g, i * 4 + 1, none⟩ = some (.int .i64 D[i].2.ts) ∧ w.cell? ⟨g, i * 4 + 2, none⟩ = some (.string D[i].2.val) ∧ w.cell? ⟨g, i * 4 + 3, none⟩ = some (.bool D[i].2.dead) := by
  have h' := h.own
  rcases h.own.2 with ⟨hv, h0⟩ | ⟨g, cap, cur, hv, hg, hc, h1, h2, hr⟩
  · omega
  · subst hv
    obtain ⟨a, b, c, d⟩ := onC_get D i hi
    exact ⟨g, cap, rfl, h1, h2, (h'.cellAt _ (by omega)).trans a, (h'.cellAt _ (by omega)).trans b, (h'.cellAt _ (by omega)).trans c, (h'.cellAt _ (by omega)).trans d⟩
theorem Rs.shape (h : Rs w A S D lv) : ∃ ad cap, lv = .slice ad D.length cap ∧ D.length ≤ cap ∧ cap ≤ maxLen := by
  rcases h.own.2 with ⟨hv, h0⟩ | ⟨g, cap, cur, hv, hg, hc, h1, h2, hr⟩
  · exact ⟨none, 0, by rw [hv, h0], by omega, Nat.zero_le _⟩
  · exact ⟨_, cap, hv, h1, h2⟩
theorem newest_take {D : List On} {k : ByteArray} {i : Nat} (h : i < D.length) : newD (D.take (i + 1)) k = if D[i].1 = k then D[i].2.ts else newD (D.take i) k := by
  have e : D.take (i + 1) = D.take i ++ [(D[i].1, D[i].2)] := by rw [List.take_add_one, List.getElem?_eq_getElem h]; rfl
  unfold newD
  rw [e, vsOf_snoc]
  by_cases q : D[i].1 = k
  · rw [if_pos q, if_pos q]
    unfold newest
    rw [List.getLast?_append]
    rfl
  · rw [if_neg q, if_neg q, List.append_nil]
set_option maxHeartbeats 2000000 in
set_option maxRecDepth 100000 in
theorem newest_r (h : Rs w A S D lv) (k : ByteArray) : Calls Try.prog 94 #[.pointer (some ⟨A, 0, none⟩), .string k] w fun e w' => e = .returned (.int .i64 (newD D k)) ∧ w' = w := by
  obtain ⟨ad, cap, rfl, z1, z2⟩ := h.shape
  have hml : (D.length : Int) ≤ 9223372036854775807 := by unfold maxLen at z2; omega
  have y0 : w.cell? ⟨A, 0, none⟩ = some (.slice ad D.length cap) := cell_blk h.ob 0
  have HH := Lib.hid h
  clear h z1 z2
  go_enter Try.func94, Try.ntmps94
  go_wp2
  go_loopw [5, 6] (fun nv iv wr => ∃ i : Nat, i ≤ D.length ∧ iv = .int .i64 (i : Int) ∧ nv = .int .i64 (newD (D.take i) k) ∧ wr = w) (fun _ iv _ => D.length - (intOf iv).toNat)
  case atStart => exact ⟨0, Nat.zero_le _, rfl, rfl, rfl⟩
  case round =>
    obtain ⟨i, hi, rfl, rfl, rfl⟩ := hrel
    by_cases hlt : i < D.length
    · obtain ⟨g, cap', e, _, _, c0, c1, _, _⟩ := HH.out.at' hlt
      cases e
      have k0 : (0 : Int) ≤ i := by omega
      have k1 : (i : Int) < D.length := by omega
      have HN := Lib.hid (newest_take (k := k) hlt)
      by_cases q : D[i].1 = k
      · have es := same_eq D[i].1 k
        rw [decide_eq_true q] at es
        rw [if_pos q] at HN
        clear q
        go_wp2
        go_roundw
        case rel => exact ⟨i + 1, hlt, by go_num, by rw [HN.out], trivial⟩
        case measure => simp [intOf]; omega
      · have es := same_eq D[i].1 k
        rw [decide_eq_false q] at es
        rw [if_neg q] at HN
        clear q
        go_wp2
        go_roundw
        case rel => exact ⟨i + 1, hlt, by go_num, by rw [HN.out], trivial⟩
        case measure => simp [intOf]; omega
    · have k1 : ¬ ((i : Int) < D.length) := by omega
      have e : D.take i = D := List.take_of_length_le (by omega)
      go_wp2
      go_ret
      exact ⟨rfl, rfl⟩
end
end Go.Proofs.Ytcoaahlakkghhaa
/- The walk of the document's Put. -/
namespace Go.Proofs.Ytcoaahlakkghhaa
open Go.RowKit
section
variable {ρ : Operand → Value} {X : World} {d : Option Tmp} {ty : TypeId} {ps : String} {af : Array Edge} {g : Option (Nat × Bool)}
theorem op_b144 {x y : Operand} {s t : ByteArray} {n : Int} {q : Bool} (e : ρ x = .string s) (e2 : ρ y = .agg #[.int .i64 n, .string t, .bool q]) : (execOp ρ ⟨d, .build 144 #[(0, x), (1, y)], ty, ps, af, g⟩).run Try.prog X = .ok (.value (.agg #[.string s, .int .i64 n, .string t, .bool q])) X := by
  simp only [execOp]
  simp [e, e2]
  go_simp
theorem op_s28 {x : Operand} {s t : ByteArray} {n : Int} {q : Bool} (e : ρ x = .agg #[.string s, .int .i64 n, .string t, .bool q]) : (execOp ρ ⟨d, .buildSlice 28 1 #[(0, x)], ty, ps, af, g⟩).run Try.prog X = .ok (.value (.slice (some ⟨X.heap.size, 0, none⟩) 1 1)) (X.alloc (.cells #[.string s, .int .i64 n, .string t, .bool q] 144)) := by
  simp only [execOp]
  simp [e]
  go_simp
end
section
variable {w w' X : World} {A : Nat} {S T : Nat → Prop} {D : List On} {lv lv' : Value} {p : On} {k : ByteArray} {v : Ve}
def PutDAns (w : World) (A : Nat) (S : Nat → Prop) (D : List On) (k : ByteArray) (v : Ve) (e : Ending) (w' : World) : Prop := e = .returned (.int .i64 (putDE D k v)) ∧ ∃ S' lv', Rs w' A S' (putD D k v) lv' ∧ (∀ j, S' j → Gro S w w' j) ∧ Fr w w' S
theorem PutDAns.same (h : Rs w A S D lv) (hb : Below w.heap.size w w') {n : Int} (e1 : putDE D k v = n) (e2 : putD D k v = D) : PutDAns w A S D k v (.returned (.int .i64 n)) w' := by
  refine ⟨by rw [e1], S, lv, ?_, fun j q => .inl q, Fr.ofBelow S hb⟩
  rw [e2]
  exact h.on hb
theorem Rs.add (h : Rs w A S D lv) (hf : Fr w X (fun j => lv.ownBlock = some j)) (ho : X.ownsRow 0 144 4 lv' (D.length + 1) (onC (D ++ [p]))) (hb : ∀ j, lv'.ownBlock = some j → lv.ownBlock = some j ∨ w.heap.size ≤ j) :
    Rs (X.setCell ⟨A, 0, none⟩ lv') A (fun j => j = A ∨ lv'.ownBlock = some j) (D ++ [p]) lv' ∧ (∀ j, (j = A ∨ lv'.ownBlock = some j) → Gro S w (X.setCell ⟨A, 0, none⟩ lv') j) ∧ Fr w (X.setCell ⟨A, 0, none⟩ lv') S := by
  have hA : ¬ lv.ownBlock = some A := fun e => by
    obtain ⟨cs, t⟩ := own_tag h.own A e
    exact tag_ne t h.ob (by decide) rfl
  have jA : X.heap[A]? = some (.cells #[lv] 30 (0, 0)) := (hf.block A (blk_lt h.ob) hA).trans h.ob
  have hA' : ∀ j, lv'.ownBlock = some j → j ≠ A := fun j e => by
    obtain ⟨cs, t⟩ := own_tag ho j e
    exact tag_ne t jA (by decide)
  have hsz : (X.setCell ⟨A, 0, none⟩ lv').heap.size = X.heap.size := by simp only [World.size_setCell]
  refine ⟨⟨set_blk jA lv', ?_, fun j => Iff.rfl⟩, fun j q => ?_, Fr.set (hf.mono fun j q => (h.mem j).2 (.inr q)) (.inl ((h.mem A).2 (.inl rfl))) lv'⟩
  · rw [List.length_append]
    exact own_like ho (fun j e => set_other lv' (hA' j e))
  · rcases q with rfl | e
    · exact .inl ((h.mem j).2 (.inl rfl))
    · rcases hb j e with q | q
      · exact .inl ((h.mem j).2 (.inr q))
      · obtain ⟨cs, t⟩ := own_tag ho j e
        refine .inr ⟨q, ?_⟩
        rw [hsz]
        exact blk_lt t
set_option maxHeartbeats 4000000 in
set_option maxRecDepth 100000 in
theorem put_r (h : Rs w A S D lv) (k : ByteArray) (v : Ve) (hfew : D.length < 800000) : Calls Try.prog 60 #[.pointer (some ⟨A, 0, none⟩), .string k, veV v] w fun e w' => PutDAns w A S D k v e w' := by
  obtain ⟨W, hW⟩ : ∃ W, W = w.alloc (.cells #[.int .i64 v.ts, .string v.val, .bool v.dead] 125) := ⟨_, rfl⟩
  have hb : Below w.heap.size w W := by rw [hW]; exact (Below.refl _ w).alloc (Nat.le_refl _) _
  obtain ⟨Y, hY⟩ : ∃ Y, w.heap.size = Y := ⟨_, rfl⟩
  have jY : W.heap[Y]? = some (.cells #[.int .i64 v.ts, .string v.val, .bool v.dead] 125 (0, 0)) := by rw [hW, ← hY]; exact heap_alloc_new w _
  have m0 : W.cell? ⟨Y, 0, none⟩ = some (.int .i64 v.ts) := cell_blk jY 0
  have HH := Lib.hid h
  have HW := Lib.hid hW
  have HYY := Lib.hid hY
  have HB := Lib.hid hb
  have HJY := Lib.hid jY
  by_cases h1 : v.ts < 1
  · have HA : Hid (PutDAns w A S D k v (.returned (.int .i64 1)) W) := PutDAns.same h hb (by unfold putDE; rw [if_pos h1]) (by unfold putD; rw [if_pos h1])
    clear h hb jY hY hW
    go_enter Try.func60, Try.ntmps60
    go_upto_region 1 with fail
    rw [← HW.out, HYY.out]
    go_wp2
    go_ret
    exact HA.out
  · obtain ⟨nw, hnw⟩ : ∃ nw, newD D k = nw := ⟨_, rfl⟩
    have hn1 : ∀ m, Calls Try.prog 94 #[.pointer (some ⟨A, 0, none⟩), .string k] (W.drewN m) fun e w' => e = .returned (.int .i64 nw) ∧ ∃ m', w' = W.drewN m' := fun m => by
      refine (newest_r (h.on (below_draw hb m)) k).mono ?_
      rintro e w' ⟨rfl, rfl⟩
      exact ⟨by rw [hnw], m, rfl⟩
    by_cases hge : v.ts ≤ nw
    · have HA : Hid (∀ m, PutDAns w A S D k v (.returned (.int .i64 120)) (W.drewN m)) := fun m => PutDAns.same h (below_draw hb m) (by unfold putDE; rw [if_neg h1, hnw, if_pos hge]) (by unfold putD; rw [if_neg h1, hnw, if_pos hge])
      have hgd : decide (v.ts ≤ nw) = true := decide_eq_true hge
      clear h hb jY hY hW hnw
      go_enter Try.func60, Try.ntmps60
      go_upto_region 1 with fail
      rw [← HW.out, HYY.out]
      go_wp2
      go_quiet ((go_at_call 94; exact hn1 _))
      go_wp2
      go_ret
      exact HA.out _
    · have hgd : decide (v.ts ≤ nw) = false := decide_eq_false hge
      have HE1 : Hid (putDE D k v = 0) := by show _ = _; unfold putDE; rw [if_neg h1, hnw, if_neg hge]
      have HE2 : Hid (putD D k v = D ++ [(k, v)]) := by show _ = _; unfold putD; rw [if_neg h1, hnw, if_neg hge]
      clear h hb jY hY hW hnw
      go_enter Try.func60, Try.ntmps60
      go_upto_region 1 with fail
      rw [← HW.out, HYY.out]
      go_wp2
      go_quiet ((go_at_call 94; exact hn1 _))
      have bq := below_draw (Below.refl W.heap.size W) nq
      obtain ⟨V, hV⟩ : ∃ V, W.drewN nq = V := ⟨_, rfl⟩
      rw [hV] at bq ⊢
      have jYV := (bq.block Y (blk_lt HJY.out)).trans HJY.out
      have m0 : V.cell? ⟨Y, 0, none⟩ = some (.int .i64 v.ts) := cell_blk jYV 0
      have m1 : V.cell? ⟨Y, 1, none⟩ = some (.string v.val) := cell_blk jYV 1
      have m2 : V.cell? ⟨Y, 2, none⟩ = some (.bool v.dead) := cell_blk jYV 2
      have hbV := HB.out.trans (bq.mono HB.out.size)
      have hv := HH.out.on hbV
      obtain ⟨lad, lcap, rfl, z1, z2⟩ := hv.shape
      have a0 : V.cell? ⟨A, 0, none⟩ = some (.slice lad D.length lcap) := cell_blk hv.ob 0
      have hnA : ¬ (Value.slice lad D.length lcap).ownBlock = some A := fun e => by
        obtain ⟨cs, t⟩ := own_tag hv.own A e
        exact tag_ne t hv.ob (by decide) rfl
      have hnY : ¬ (Value.slice lad D.length lcap).ownBlock = some Y := fun e => by
        have q1 := HH.out.lt Y ((HH.out.mem Y).2 (.inr e))
        have q2 := HYY.out
        omega
      have HOW := Lib.hid hv.own
      have HOB := Lib.hid hv.ob
      have HBV := Lib.hid hbV
      clear hV bq jYV hv hbV hn1 z1 z2
      go_upto_region 5 with fail
      refine wp_region_once 9 (fun d X9 => Fr V X9 (fun j => (Value.slice lad D.length lcap).ownBlock = some j) ∧ (d = false → Below V.heap.size V X9)) (fun X9 X' => Below X9.heap.size X9 X') (fun X9 X' => Fr X9 X' (fun j => (Value.slice lad D.length lcap).ownBlock = some j)) [
        fun v9 _ => v9 = .pointer (some ⟨A, 0, none⟩),
        fun v9 _ => v9 = .pointer (some ⟨A, 0, none⟩),
        fun v9 _ => v9 = .pointer (some ⟨A, 0, none⟩),
        fun v9 _ => v9 = .pointer (some ⟨A, 0, none⟩),
        fun v9 _ => v9 = (.slice lad D.length lcap),
        fun v9 _ => v9 = .string k,
        fun v9 _ => v9 = .agg #[.int .i64 v.ts, .string v.val, .bool v.dead],
        fun v9 _ => v9 = .agg #[.string k, .int .i64 v.ts, .string v.val, .bool v.dead],
        fun v9 X9 => ∃ Z1, v9 = lv1 Z1 ∧ V.heap.size ≤ Z1 ∧ X9.heap[Z1]? = some (.cells #[.string k, .int .i64 v.ts, .string v.val, .bool v.dead] 144 (0, 0)),
        fun v9 X9 => ∃ ad9 cap9, v9 = .slice ad9 (D.length + 1) cap9 ∧ X9.ownsRow 0 144 4 v9 (D.length + 1) (onC (D ++ [(k, v)])) ∧ (∀ j, (v9).ownBlock = some j → (Value.slice lad D.length lcap).ownBlock = some j ∨ V.heap.size ≤ j) ∧ Fr V X9 (fun j => (Value.slice lad D.length lcap).ownBlock = some j),
        fun v9 _ => v9 = .pointer (some ⟨A, 0, none⟩),
        fun v9 _ => v9 = .pointer (some ⟨A, 0, none⟩)]
        (fun _ X8 => ∃ ad9 cap9 X9, X8 = X9.setCell ⟨A, 0, none⟩ (.slice ad9 (D.length + 1) cap9) ∧ X9.ownsRow 0 144 4 (.slice ad9 (D.length + 1) cap9) (D.length + 1) (onC (D ++ [(k, v)])) ∧ (∀ j, (Value.slice ad9 (D.length + 1) cap9).ownBlock = some j → (Value.slice lad D.length lcap).ownBlock = some j ∨ V.heap.size ≤ j) ∧ Fr V X9 (fun j => (Value.slice lad D.length lcap).ownBlock = some j)) rfl (by kernel_rfl) (by kernel_rfl) (by kernel_rfl) (by kernel_rfl) ?st ?stm ?g0 (by decide) ?os ?la ?en
      case st => exact ⟨fun _ _ _ _ h => h, fun _ _ _ _ h => h, fun _ _ _ _ h => h, fun _ _ _ _ h => h, fun _ _ _ _ h => h, fun _ _ _ _ h => h, fun _ _ _ _ h => h, fun _ _ _ _ h => h, fun _ _ _ hs ⟨Z1, e, z1, z2⟩ => ⟨Z1, e, z1, (hs.block _ (blk_lt z2)).trans z2⟩, fun _ _ _ hs ⟨x1, x2, e, o1, o2, o3⟩ => ⟨x1, x2, e, own_below o1 hs, o2, o3.below hs⟩, fun _ _ _ _ h => h, fun _ _ _ _ h => h, trivial⟩
      case stm => exact ⟨fun _ _ _ _ h => h, fun _ _ _ _ h => h, fun _ _ _ _ h => h, fun _ _ _ _ h => h, fun _ _ _ _ h => h, fun _ _ _ _ h => h, fun _ _ _ _ h => h, fun _ _ _ _ h => h, fun _ _ _ hs ⟨Z1, e, z1, z2⟩ => ⟨Z1, e, z1, (hs.block _ (blk_lt z2) (fun e => by have z9 := (HOW.out.lt _ e).2; omega)).trans z2⟩, fun _ _ _ _ h => h, fun _ _ _ _ h => h, fun _ _ _ _ h => h, trivial⟩
      case g0 => exact ⟨⟨rfl, rfl, rfl, Nat.le_refl _, fun _ _ _ => rfl⟩, fun _ => ⟨rfl, rfl, rfl, Nat.le_refl _, fun _ _ => rfl⟩⟩
      case os =>
        refine ⟨?_, ?_, ?_, ?_, ?_, ?_, ?_, ?_, ?_, ?_, ?_, ?_, trivial⟩
        · exact ⟨rfl, fun _ ρ X9 d hg ho hc hf hr => Runs.val _ (op_move (show ρ (.tmp 0) = .pointer (some ⟨A, 0, none⟩) from ho 0 rfl)) ⟨hg, Below.refl _ _, rfl⟩, fun e => absurd e (by decide)⟩
        · exact ⟨rfl, fun _ ρ X9 d hg ho hc hf hr => Runs.val _ (op_move (show ρ (.tmp 0) = .pointer (some ⟨A, 0, none⟩) from ho 0 rfl)) ⟨hg, Below.refl _ _, rfl⟩, fun e => absurd e (by decide)⟩
        · exact ⟨rfl, fun _ ρ X9 d hg ho hc hf hr => Runs.val _ (op_nil (show ρ (.tmp 17) = .pointer (some ⟨A, 0, none⟩) from hr 1 17 rfl rfl)) ⟨hg, Below.refl _ _, rfl⟩, fun e => absurd e (by decide)⟩
        · exact ⟨rfl, fun _ ρ X9 d hg ho hc hf hr => Runs.val _ (op_f30_0 (show ρ (.tmp 18) = .pointer (some ⟨A, 0, none⟩) from hr 2 18 rfl rfl)) ⟨hg, Below.refl _ _, rfl⟩, fun e => absurd e (by decide)⟩
        · exact ⟨rfl, fun _ ρ X9 d hg ho hc hf hr => Runs.val _ (op_load28 (show ρ (.tmp 19) = .pointer (some ⟨A, 0, none⟩) from hr 3 19 rfl rfl) (cell_fr hg.1 hnA a0)) ⟨hg, Below.refl _ _, rfl⟩, fun e => absurd e (by decide)⟩
        · exact ⟨rfl, fun _ ρ X9 d hg ho hc hf hr => Runs.val _ (op_move (show ρ (.tmp 1) = .string k from ho 1 rfl)) ⟨hg, Below.refl _ _, rfl⟩, fun e => absurd e (by decide)⟩
        · exact ⟨rfl, fun _ ρ X9 d hg ho hc hf hr => Runs.val _ (op_load125 (show ρ (.tmp 5) = .pointer (some ⟨Y, 0, none⟩) from ho 5 rfl) (cell_fr hg.1 hnY m0) (cell_fr hg.1 hnY m1) (cell_fr hg.1 hnY m2)) ⟨hg, Below.refl _ _, rfl⟩, fun e => absurd e (by decide)⟩
        · exact ⟨rfl, fun _ ρ X9 d hg ho hc hf hr => Runs.val _ (op_b144 (show ρ (.tmp 21) = .string k from hr 5 21 rfl rfl) (show ρ (.tmp 22) = .agg #[.int .i64 v.ts, .string v.val, .bool v.dead] from hr 6 22 rfl rfl)) ⟨hg, Below.refl _ _, rfl⟩, fun e => absurd e (by decide)⟩
        · refine ⟨rfl, fun _ ρ X9 d hg ho hc hf hr => ?_, fun e => absurd e (by decide)⟩
          have hb7 : Below X9.heap.size X9 (X9.alloc (.cells #[.string k, .int .i64 v.ts, .string v.val, .bool v.dead] 144)) := (Below.refl _ X9).alloc (Nat.le_refl _) _
          exact Runs.val _ (op_s28 (show ρ (.tmp 23) = .agg #[.string k, .int .i64 v.ts, .string v.val, .bool v.dead] from hr 7 23 rfl rfl)) ⟨⟨hg.1.below hb7, fun z => (hg.2 z).trans (hb7.mono (hg.2 z).size)⟩, hb7, X9.heap.size, rfl, hg.1.size, heap_alloc_new X9 _⟩
        · refine ⟨rfl, fun e => absurd rfl e, fun _ ρ X9 hg ho hc hf hr => ?_⟩
          obtain ⟨Z1, e, z1, z2⟩ : ∃ Z1, (ρ (.tmp 24)) = lv1 Z1 ∧ V.heap.size ≤ Z1 ∧ X9.heap[Z1]? = some (.cells #[.string k, .int .i64 v.ts, .string v.val, .bool v.dead] 144 (0, 0)) := hr 8 24 rfl rfl
          have hbX := hg.2 rfl
          obtain ⟨ad9, cap9, w9, hrun, o9, g9, t9⟩ := run_on (m := 1) (c := 1) (news := onC [(k, v)]) (own_below HOW.out hbX) (Nat.zero_le _) (.inr ⟨⟨Z1, 0, none⟩, rfl, rfl, fun j u hu => by
            rw [add_at, Nat.zero_add, cell_blk z2]
            simpa [onC] using hu⟩) (onC_one _) (by omega)
          have f9 : Fr X9 w9 (fun j => (Value.slice lad D.length lcap).ownBlock = some j) := Fr.grown (Fr.refl X9 _) g9 (fun j hj => .inl hj)
          exact Runs.val _ (op_append28 (show ρ (.tmp 20) = (.slice lad D.length lcap) from hr 4 20 rfl rfl) e hrun) ⟨⟨hg.1.trans f9, fun z => by cases z⟩, f9, ad9, cap9, rfl, by rw [onC_append]; exact o9, fun j e => (by
            rcases t9 with t9 | t9
            · rw [t9] at e; exact .inl e
            · rw [t9] at e; cases e; exact .inr hbX.size), hg.1.trans f9⟩
        · exact ⟨rfl, fun _ ρ X9 d hg ho hc hf hr => Runs.val _ (op_nil (show ρ (.tmp 16) = .pointer (some ⟨A, 0, none⟩) from hr 0 16 rfl rfl)) ⟨hg, Below.refl _ _, rfl⟩, fun e => absurd e (by decide)⟩
        · exact ⟨rfl, fun _ ρ X9 d hg ho hc hf hr => Runs.val _ (op_f30_0 (show ρ (.tmp 26) = .pointer (some ⟨A, 0, none⟩) from hr 10 26 rfl rfl)) ⟨hg, Below.refl _ _, rfl⟩, fun e => absurd e (by decide)⟩
      case la =>
        refine ⟨rfl, fun ρ X9 hg ho hc hf hr => ?_⟩
        obtain ⟨ad9, cap9, e, o1, o2, o3⟩ : ∃ ad9 cap9, (ρ (.tmp 25)) = .slice ad9 (D.length + 1) cap9 ∧ X9.ownsRow 0 144 4 (ρ (.tmp 25)) (D.length + 1) (onC (D ++ [(k, v)])) ∧ (∀ j, ((ρ (.tmp 25))).ownBlock = some j → (Value.slice lad D.length lcap).ownBlock = some j ∨ V.heap.size ≤ j) ∧ Fr V X9 (fun j => (Value.slice lad D.length lcap).ownBlock = some j) := hr 9 25 (by decide) rfl
        rw [e] at o1 o2
        have hA9 := (o3.block A (blk_lt HOB.out) hnA).trans HOB.out
        exact Runs.skips (op_store28 (show ρ (.tmp 27) = .pointer (some ⟨A, 0, none⟩) from hr 11 27 (by decide) rfl) e (cell_blk hA9 0) (frozen_blk hA9 0)) ⟨ad9, cap9, X9, rfl, o1, o2, o3⟩
      case en =>
        intro a X9 Xb v9 hF hs hd ho hv9 hr
        obtain ⟨x, hx, hxt⟩ := act_put hs hd ho
        change a = putAll _ x [16, 17, 18, 19, 20, 21, 22, 23, 24, 25, 26, 27] at hx
        simp only [putAll, Act.put, List.setIfInBounds_toArray, List.set_cons_zero, List.set_cons_succ] at hx
        obtain ⟨ad9, cap9, X8, rfl, o1, o2, o3⟩ := hF
        have HA : Hid (PutDAns w A S D k v (.returned (.int .i64 0)) (X8.setCell ⟨A, 0, none⟩ (.slice ad9 (D.length + 1) cap9))) := by
          have bz := HBV.out.size
          have f0 : Fr w X8 (fun j => (Value.slice lad D.length lcap).ownBlock = some j) := ⟨o3.os.trans HBV.out.os, o3.tape.trans HBV.out.tape, o3.output.trans HBV.out.output, Nat.le_trans bz o3.size, fun j hj hn => (o3.block j (by omega) hn).trans (HBV.out.block j hj)⟩
          obtain ⟨k1, k2, k3⟩ := HH.out.add f0 o1 (fun j e => by rcases o2 j e with q | q; exact .inl q; exact .inr (Nat.le_trans bz q))
          refine ⟨by rw [HE1.out], _, .slice ad9 (D.length + 1) cap9, ?_, k2, k3⟩
          rw [HE2.out]
          exact k1
        clear hs hd ho hr hv9 hxt o1 o2 o3
        subst hx
        go_wp2
        go_ret
        exact HA.out
end
end Go.Proofs.Ytcoaahlakkghhaa
