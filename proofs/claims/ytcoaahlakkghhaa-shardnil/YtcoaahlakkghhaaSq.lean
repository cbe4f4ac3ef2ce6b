/- The walk of newLock. -/
import Derived.Test.YtcoaahlakkghhaaSp
namespace Go.Proofs.Ytcoaahlakkghhaa
open Go.RowKit
section
variable {ρ : Operand → Value} {X : World} {d : Option Tmp} {ty : TypeId} {ps : String} {af : Array Edge} {g : Option (Nat × Bool)}
theorem op_f47_2 {x : Operand} {B o : Nat} (e : ρ x = .pointer (some ⟨B, o, none⟩)) : (execOp ρ ⟨d, .fieldAddr 47 x 2, ty, ps, af, g⟩).run Try.prog X = .ok (.value (.pointer (some ⟨B, o + 4, none⟩))) X := by
  simp only [execOp, e]
  go_simp
theorem op_f47_3 {x : Operand} {B o : Nat} (e : ρ x = .pointer (some ⟨B, o, none⟩)) : (execOp ρ ⟨d, .fieldAddr 47 x 3, ty, ps, af, g⟩).run Try.prog X = .ok (.value (.pointer (some ⟨B, o + 7, none⟩))) X := by
  simp only [execOp, e]
  go_simp
theorem op_f47_5 {x : Operand} {B o : Nat} (e : ρ x = .pointer (some ⟨B, o, none⟩)) : (execOp ρ ⟨d, .fieldAddr 47 x 5, ty, ps, af, g⟩).run Try.prog X = .ok (.value (.pointer (some ⟨B, o + 9, none⟩))) X := by
  simp only [execOp, e]
  go_simp
theorem op_f47_7 {x : Operand} {B o : Nat} (e : ρ x = .pointer (some ⟨B, o, none⟩)) : (execOp ρ ⟨d, .fieldAddr 47 x 7, ty, ps, af, g⟩).run Try.prog X = .ok (.value (.pointer (some ⟨B, o + 11, none⟩))) X := by
  simp only [execOp, e]
  go_simp
theorem op_alloc68 : (execOp ρ ⟨d, .alloc 68, ty, ps, af, g⟩).run Try.prog X = .ok (.value (.pointer (some ⟨X.heap.size, 0, none⟩))) (X.alloc (.cells #[.int .i64 0, .int .i64 0, .int .i64 0, .int .i64 0, .int .i64 0, .slice none 0 0, .slice none 0 0] 68)) := by
  simp only [execOp]
  go_simp
theorem op_b68 {x y z u : Operand} {t : Td} {n m : Int} {a : Option Addr} {p q : Nat} (e : ρ x = tdV t) (e2 : ρ y = .int .i64 n) (e3 : ρ z = .int .i64 m) (e4 : ρ u = .slice a p q) : (execOp ρ ⟨d, .build 68 #[(0, x), (1, y), (2, z), (4, u)], ty, ps, af, g⟩).run Try.prog X = .ok (.value (.agg #[.int .i64 t.1, .int .i64 t.2.1, .int .i64 t.2.2, .int .i64 n, .int .i64 m, .slice none 0 0, .slice a p q])) X := by
  simp only [execOp]
  simp [e, e2, e3, e4]
  go_simp
theorem call64 {v : Value} : Sem.run Try.prog (callFunc 64 #[v]) X = .ok (.enter 64 #[v]) X := by go_simp
end
def newL (c : Cm) : Lk := ⟨c.txn, c.home, c.til, c.reads.map Rn.span, c.writes⟩
def NlAns (w : World) (l : Lk) (e : Ending) (w' : World) : Prop := ∃ sa sc wa wc, e = .returned (lkV l sa sc wa wc) ∧ w'.ownsRow w.heap.size 57 2 (.slice sa l.spans.length sc) l.spans.length (l.spans.flatMap snL) ∧ w'.ownsRow w.heap.size 55 3 (.slice wa l.writes.length wc) l.writes.length (l.writes.flatMap wrL) ∧ Below w.heap.size w w'
def spTo (c : Cm) (i : Nat) : List Sn := (c.reads.take i).map Rn.span
theorem spTo_next {c : Cm} {i : Nat} (h : i < c.reads.length) : spTo c (i + 1) = spTo c i ++ [c.reads[i].span] := by
  unfold spTo
  rw [List.take_add_one, List.getElem?_eq_getElem h, List.map_append]
  rfl
theorem spTo_len {c : Cm} {i : Nat} (h : i ≤ c.reads.length) : (spTo c i).length = i := by
  unfold spTo
  rw [List.length_map, List.length_take]
  omega
def NJ (W : World) (c : Cm) (Z3 : Nat) (wa' : Option Addr) (wc' : Nat) (wr : World) (iv : Value) : Prop := ∃ (i : Nat) (sa : Option Addr) (sc : Nat), i ≤ c.reads.length ∧ iv = .int .i64 (i : Int) ∧ wr.heap[Z3]? = some (.cells #[.int .i64 c.txn.1, .int .i64 c.txn.2.1, .int .i64 c.txn.2.2, .int .i64 c.home, .int .i64 c.til, .slice sa i sc, .slice wa' c.writes.length wc'] 68 (0, 0)) ∧ wr.ownsRow W.heap.size 57 2 (.slice sa i sc) i ((spTo c i).flatMap snL) ∧ wr.ownsRow W.heap.size 55 3 (.slice wa' c.writes.length wc') c.writes.length (c.writes.flatMap wrL) ∧ Below W.heap.size W wr
section
variable {w w' : World} {c : Cm} {cs : Array Value} {ra wa : Option Addr} {rc wc : Nat}
set_option maxHeartbeats 8000000 in
set_option maxRecDepth 100000 in
theorem newLock_any (hc : Cc w c cs ra rc wa wc) (hz : c.reads.length ≤ 800000) (hz2 : c.writes.length ≤ 800000) : Calls Try.prog 53 #[.agg cs] w fun e w' => NlAns w (newL c) e w' := by
  obtain ⟨W, hW⟩ : ∃ W, W = (w.alloc (.cells cs 47)).alloc (.cells #[.int .i64 0, .int .i64 0, .int .i64 0, .int .i64 0, .int .i64 0, .slice none 0 0, .slice none 0 0] 68) := ⟨_, rfl⟩
  have hb : Below w.heap.size w W := by rw [hW]; exact ((Below.refl _ w).alloc (Nat.le_refl _) _).alloc (by simp) _
  obtain ⟨Y, hY⟩ : ∃ Y, w.heap.size = Y := ⟨_, rfl⟩
  obtain ⟨Z2, hZ⟩ : ∃ Z, Y + 1 = Z := ⟨_, rfl⟩
  have jY : W.heap[Y]? = some (.cells cs 47 (0, 0)) := by
    rw [hW, ← hY, Below.heap_alloc _ _ _ (by simp)]
    exact heap_alloc_new w _
  have jZ : W.heap[Z2]? = some (.cells #[.int .i64 0, .int .i64 0, .int .i64 0, .int .i64 0, .int .i64 0, .slice none 0 0, .slice none 0 0] 68 (0, 0)) := by
    have := heap_alloc_new (w.alloc (.cells cs 47)) (.cells #[.int .i64 0, .int .i64 0, .int .i64 0, .int .i64 0, .int .i64 0, .slice none 0 0, .slice none 0 0] 68)
    simp only [World.size_alloc] at this
    rw [hW, ← hZ, ← hY]
    exact this
  have b4 : W.cell? ⟨Y, 4, none⟩ = some (.int .i64 c.txn.1) := (cell_blk jY 4).trans hc.t0
  have b5 : W.cell? ⟨Y, 5, none⟩ = some (.int .i64 c.txn.2.1) := (cell_blk jY 5).trans hc.t1
  have b6 : W.cell? ⟨Y, 6, none⟩ = some (.int .i64 c.txn.2.2) := (cell_blk jY 6).trans hc.t2
  have b7 : W.cell? ⟨Y, 7, none⟩ = some (.int .i64 c.home) := (cell_blk jY 7).trans hc.hm
  have b9 : W.cell? ⟨Y, 9, none⟩ = some (.slice wa c.writes.length wc) := (cell_blk jY 9).trans hc.ws
  have b11 : W.cell? ⟨Y, 11, none⟩ = some (.int .i64 c.til) := (cell_blk jY 11).trans hc.til
  have HRS : Hid (W.cell? ⟨Y, 8, none⟩ = some (.slice ra c.reads.length rc)) := (cell_blk jY 8).trans hc.rs
  have HWL := Lib.hid (hc.wl.on wrE_held hb)
  have hrl := hc.rl
  obtain ⟨_, _, e1, _, r1, r2, hrc⟩ := hrl
  cases e1
  have hmr : (c.reads.length : Int) ≤ 9223372036854775807 := by unfold maxLen at r2; omega
  have HRC := Lib.hid hrc
  have HW := Lib.hid hW
  have HY := Lib.hid hY
  have HZ := Lib.hid hZ
  have HB := Lib.hid hb
  have HJZ := Lib.hid jZ
  have hZw : w.heap.size ≤ Z2 := by omega
  have hZW : Z2 < W.heap.size := blk_lt jZ
  clear hW hY hZ hb jY jZ hc hrc r1 r2
  go_enter Try.func53, Try.ntmps53
  go_upto_region 1 with fail
  rw [← HW.out, HY.out, HZ.out]
  refine wp_region_lr (fun X9 => Below W.heap.size W X9) (fun X9 X' => Below X9.heap.size X9 X') [
    fun v9 _ => v9 = .pointer (some ⟨Y, 4, none⟩),
    fun v9 _ => v9 = tdV c.txn,
    fun v9 _ => v9 = .pointer (some ⟨Y, 7, none⟩),
    fun v9 _ => v9 = .int .i64 c.home,
    fun v9 _ => v9 = .pointer (some ⟨Y, 11, none⟩),
    fun v9 _ => v9 = .int .i64 c.til,
    fun v9 _ => v9 = .pointer (some ⟨Y, 9, none⟩),
    fun v9 _ => v9 = .slice wa c.writes.length wc,
    fun v9 X9 => ∃ wa9 wc9, v9 = .slice wa9 c.writes.length wc9 ∧ X9.ownsRow W.heap.size 55 3 (.slice wa9 c.writes.length wc9) c.writes.length (c.writes.flatMap wrL),
    fun v9 X9 => ∃ wa9 wc9, v9 = .agg #[.int .i64 c.txn.1, .int .i64 c.txn.2.1, .int .i64 c.txn.2.2, .int .i64 c.home, .int .i64 c.til, .slice none 0 0, .slice wa9 c.writes.length wc9] ∧ X9.ownsRow W.heap.size 55 3 (.slice wa9 c.writes.length wc9) c.writes.length (c.writes.flatMap wrL),
    fun v9 X9 => ∃ Z3, v9 = .pointer (some ⟨Z3, 0, none⟩) ∧ W.heap.size ≤ Z3 ∧ X9.heap[Z3]? = some (.cells #[.int .i64 0, .int .i64 0, .int .i64 0, .int .i64 0, .int .i64 0, .slice none 0 0, .slice none 0 0] 68 (0, 0))]
    (fun ρ _ X9 => ∃ Z3 wa9 wc9, ρ (.tmp 3) = .pointer (some ⟨Z3, 0, none⟩) ∧ W.heap.size ≤ Z3 ∧ X9.heap[Z3]? = some (.cells #[.int .i64 c.txn.1, .int .i64 c.txn.2.1, .int .i64 c.txn.2.2, .int .i64 c.home, .int .i64 c.til, .slice none 0 0, .slice wa9 c.writes.length wc9] 68 (0, 0)) ∧ X9.ownsRow W.heap.size 55 3 (.slice wa9 c.writes.length wc9) c.writes.length (c.writes.flatMap wrL) ∧ Below W.heap.size W X9) rfl (by kernel_rfl) (by kernel_rfl) (by kernel_rfl) (by kernel_rfl) ?st ?g0 ?os ?la ?en
  case st => exact ⟨fun _ _ _ _ h => h, fun _ _ _ _ h => h, fun _ _ _ _ h => h, fun _ _ _ _ h => h, fun _ _ _ _ h => h, fun _ _ _ _ h => h, fun _ _ _ _ h => h, fun _ _ _ _ h => h, fun _ _ _ hs ⟨x, y, e, z⟩ => ⟨x, y, e, own_below z hs⟩, fun _ _ _ hs ⟨x, y, e, z⟩ => ⟨x, y, e, own_below z hs⟩, fun _ _ _ hs ⟨Z3, e, z1, z2⟩ => ⟨Z3, e, z1, (hs.block _ (blk_lt z2)).trans z2⟩, trivial⟩
  case g0 => exact ⟨rfl, rfl, rfl, Nat.le_refl _, fun _ _ => rfl⟩
  case os =>
    refine ⟨?_, ?_, ?_, ?_, ?_, ?_, ?_, ?_, ?_, ?_, ?_, trivial⟩
    · exact ⟨rfl, fun ρ X9 hg ho hc hf hr => Runs.val _ (op_f47_2 (show ρ (.tmp 1) = .pointer (some ⟨Y, 0, none⟩) from ho 1 rfl)) ⟨hg, Below.refl _ _, rfl⟩⟩
    · exact ⟨rfl, fun ρ X9 hg ho hc hf hr => Runs.val _ (op_load37 (show ρ (.tmp 6) = .pointer (some ⟨Y, 4, none⟩) from hr 0 6 rfl rfl) (cell_on hg b4) (cell_on hg b5) (cell_on hg b6)) ⟨hg, Below.refl _ _, rfl⟩⟩
    · exact ⟨rfl, fun ρ X9 hg ho hc hf hr => Runs.val _ (op_f47_3 (show ρ (.tmp 1) = .pointer (some ⟨Y, 0, none⟩) from ho 1 rfl)) ⟨hg, Below.refl _ _, rfl⟩⟩
    · exact ⟨rfl, fun ρ X9 hg ho hc hf hr => Runs.val _ (op_load3 (show ρ (.tmp 8) = .pointer (some ⟨Y, 7, none⟩) from hr 2 8 rfl rfl) (cell_on hg b7)) ⟨hg, Below.refl _ _, rfl⟩⟩
    · exact ⟨rfl, fun ρ X9 hg ho hc hf hr => Runs.val _ (op_f47_7 (show ρ (.tmp 1) = .pointer (some ⟨Y, 0, none⟩) from ho 1 rfl)) ⟨hg, Below.refl _ _, rfl⟩⟩
    · exact ⟨rfl, fun ρ X9 hg ho hc hf hr => Runs.val _ (op_load3 (show ρ (.tmp 10) = .pointer (some ⟨Y, 11, none⟩) from hr 4 10 rfl rfl) (cell_on hg b11)) ⟨hg, Below.refl _ _, rfl⟩⟩
    · exact ⟨rfl, fun ρ X9 hg ho hc hf hr => Runs.val _ (op_f47_5 (show ρ (.tmp 1) = .pointer (some ⟨Y, 0, none⟩) from ho 1 rfl)) ⟨hg, Below.refl _ _, rfl⟩⟩
    · exact ⟨rfl, fun ρ X9 hg ho hc hf hr => Runs.val _ (op_load39 (show ρ (.tmp 12) = .pointer (some ⟨Y, 9, none⟩) from hr 6 12 rfl rfl) (cell_on hg b9)) ⟨hg, Below.refl _ _, rfl⟩⟩
    · refine ⟨rfl, fun ρ X9 hg ho hc hf hr => ?_⟩
      refine Runs.goes 64 #[.slice wa c.writes.length wc] (op_call1 hf call64 (show ρ (.tmp 13) = .slice wa c.writes.length wc from hr 7 13 rfl rfl)) ((cloneW_any (HWL.out.on wrE_held hg) (by omega)).mono ?_)
      rintro e7 w7 ⟨wa9, wc9, rfl, o7, b7⟩
      exact ⟨_, rfl, hg.trans (b7.mono hg.size), b7, wa9, wc9, rfl, own_mono o7 hg.size⟩
    · refine ⟨rfl, fun ρ X9 hg ho hc hf hr => ?_⟩
      obtain ⟨wa9, wc9, e, z⟩ : ∃ wa9 wc9, ρ (.tmp 14) = .slice wa9 c.writes.length wc9 ∧ X9.ownsRow W.heap.size 55 3 (.slice wa9 c.writes.length wc9) c.writes.length (c.writes.flatMap wrL) := hr 8 14 rfl rfl
      exact Runs.val _ (op_b68 (show ρ (.tmp 7) = tdV c.txn from hr 1 7 rfl rfl) (show ρ (.tmp 9) = .int .i64 c.home from hr 3 9 rfl rfl) (show ρ (.tmp 11) = .int .i64 c.til from hr 5 11 rfl rfl) e) ⟨hg, Below.refl _ _, wa9, wc9, rfl, z⟩
    · refine ⟨rfl, fun ρ X9 hg ho hc hf hr => ?_⟩
      have hb7 : Below X9.heap.size X9 (X9.alloc (.cells #[.int .i64 0, .int .i64 0, .int .i64 0, .int .i64 0, .int .i64 0, .slice none 0 0, .slice none 0 0] 68)) := (Below.refl _ X9).alloc (Nat.le_refl _) _
      exact Runs.val _ op_alloc68 ⟨hg.trans (hb7.mono hg.size), hb7, X9.heap.size, rfl, hg.size, heap_alloc_new X9 _⟩
  case la =>
    refine ⟨rfl, fun ρ X9 hg ho hc hf hr => ?_⟩
    obtain ⟨wa9, wc9, e, z⟩ : ∃ wa9 wc9, ρ (.tmp 15) = .agg #[.int .i64 c.txn.1, .int .i64 c.txn.2.1, .int .i64 c.txn.2.2, .int .i64 c.home, .int .i64 c.til, .slice none 0 0, .slice wa9 c.writes.length wc9] ∧ X9.ownsRow W.heap.size 55 3 (.slice wa9 c.writes.length wc9) c.writes.length (c.writes.flatMap wrL) := hr 9 15 (by decide) rfl
    obtain ⟨Z3, e3, z1, z2⟩ : ∃ Z3, ρ (.tmp 3) = .pointer (some ⟨Z3, 0, none⟩) ∧ W.heap.size ≤ Z3 ∧ X9.heap[Z3]? = some (.cells #[.int .i64 0, .int .i64 0, .int .i64 0, .int .i64 0, .int .i64 0, .slice none 0 0, .slice none 0 0] 68 (0, 0)) := hr 10 3 (by decide) rfl
    obtain ⟨X8, hX8, j8, f8⟩ := sets_row z2 #[.int .i64 c.txn.1, .int .i64 c.txn.2.1, .int .i64 c.txn.2.2, .int .i64 c.home, .int .i64 c.til, .slice none 0 0, .slice wa9 c.writes.length wc9] rfl
    have hst := store_row z2 (us := #[.int .i64 c.txn.1, .int .i64 c.txn.2.1, .int .i64 c.txn.2.2, .int .i64 c.home, .int .i64 c.til, .slice none 0 0, .slice wa9 c.writes.length wc9]) rfl size68 (by simp [Value.oneCell'])
    rw [← hX8] at hst
    exact Runs.skips (op_storeAt e3 e hst) ⟨Z3, wa9, wc9, e3, z1, j8, row_keep z f8 (fun j hj q => by
      have q' : j = Z3 := q
      subst q'
      obtain ⟨c1, t1⟩ := own_tag z j hj
      exact tag_ne t1 z2 (by decide) rfl), hg.trans (f8.toBelow (fun k hk q => by have q' : k = Z3 := q; omega) hg.size)⟩
  case en =>
    intro a ρ X9 Xb v9 hF hlk hs hd ho hv9 hr
    obtain ⟨x, hx, hxt⟩ := act_put hs hd ho
    obtain ⟨Z3, wa9, wc9, e3, z1, j3, ow, bX⟩ := hF
    have x3 : x 3 = .pointer (some ⟨Z3, 0, none⟩) := ((hxt 3).symm.trans (hlk 3 (by decide))).trans e3
    change a = putAll _ x [6, 7, 8, 9, 10, 11, 12, 13, 14, 15, 3] at hx
    simp only [putAll, Act.put, List.setIfInBounds_toArray, List.set_cons_zero, List.set_cons_succ, x3] at hx
    have HJ0 : Hid (NJ W c Z3 wa9 wc9 X9 (.int .i64 0)) := ⟨0, none, 0, Nat.zero_le _, rfl, j3, World.ownsRow_nil _ _ _ _, ow, bX⟩
    have b8 := cell_on bX HRS.out
    clear hs hd ho hr hv9 hxt x3 hlk e3 j3 ow bX
    subst hx
    go_wp2
    go_loopw [19] (fun iv wr => NJ W c Z3 wa9 wc9 wr iv) (fun iv _ => c.reads.length - (intOf iv).toNat)
    case atStart => exact HJ0.out
    case round =>
      clear HJ0 b8
      obtain ⟨i, sa, sc, hi, rfl, j3, os, ow, bV⟩ := hrel
      obtain ⟨V, rfl⟩ : ∃ V, V = wr := ⟨_, rfl⟩
      have hbv : Below w.heap.size w V := HB.out.trans (bV.mono HB.out.size)
      by_cases hlt : i < c.reads.length
      · obtain ⟨b, o, cs', rfl, _, ⟨qa, qc, rfl, hst⟩, _, hcell⟩ := HRC.out i hlt
        have c0 := cell_on hbv (hcell 0 _ rfl)
        have c1 := cell_on hbv (hcell 1 _ rfl)
        have c2 := cell_on hbv (hcell 2 _ rfl)
        simp only [Nat.add_zero] at c0
        have k0 : (0 : Int) ≤ i := by omega
        have k1 : (i : Int) < c.reads.length := by omega
        have hnx := spTo_next hlt
        obtain ⟨x, hx⟩ : ∃ x, c.reads[i] = x := ⟨_, rfl⟩
        rw [hx] at c0 c1 hnx
        simp only [hx] at c2
        obtain ⟨V1, hV1⟩ : ∃ V1, V1 = V.alloc (.cells #[.string x.span.lo, .string x.span.hi, .slice qa x.seen.length qc] 60) := ⟨_, rfl⟩
        obtain ⟨Z1, hZ1⟩ : ∃ Z1, V.heap.size = Z1 := ⟨_, rfl⟩
        have bb1 : Below V.heap.size V V1 := by rw [hV1]; exact (Below.refl _ V).alloc (Nat.le_refl _) _
        have jZ1 : V1.heap[Z1]? = some (.cells #[.string x.span.lo, .string x.span.hi, .slice qa x.seen.length qc] 60 (0, 0)) := by rw [hV1, ← hZ1]; exact heap_alloc_new V _
        obtain ⟨V2, hV2⟩ : ∃ V2, V2 = V1.alloc (.cells #[.string x.span.lo, .string x.span.hi] 57) := ⟨_, rfl⟩
        have bb2 : Below V1.heap.size V1 V2 := by rw [hV2]; exact (Below.refl _ V1).alloc (Nat.le_refl _) _
        have b12 : Below V.heap.size V V2 := bb1.trans (bb2.mono bb1.size)
        have jS : V2.heap[V1.heap.size]? = some (.cells #[.string x.span.lo, .string x.span.hi] 57 (0, 0)) := by rw [hV2]; exact heap_alloc_new V1 _
        have e0 : V1.cell? ⟨Z1, 0, none⟩ = some (.string x.span.lo) := cell_blk jZ1 0
        have e1 : V1.cell? ⟨Z1, 1, none⟩ = some (.string x.span.hi) := cell_blk jZ1 1
        have j31 := (bb1.block Z3 (blk_lt j3)).trans j3
        have e5 : V1.cell? ⟨Z3, 5, none⟩ = some (.slice sa i sc) := cell_blk j31 5
        have j32 := (b12.block Z3 (blk_lt j3)).trans j3
        obtain ⟨ad9, cap9, w9, hrun, o9, g9, t9⟩ := run_sn (m := 1) (c := 1) (news := snL x.span) (own_below os b12) (Nat.le_trans bV.size b12.size) (.inr ⟨⟨V1.heap.size, 0, none⟩, rfl, rfl, fun j u hu => by
          rw [add_at, Nat.zero_add, cell_blk jS]
          simpa using hu⟩) (fun u hu => by simp at hu; rcases hu with rfl | rfl <;> rfl) (by omega)
        have hn3 : ¬ (Value.slice sa i sc).ownBlock = some Z3 := fun e => by
          obtain ⟨q1, q2⟩ := own_tag (own_below os b12) Z3 e
          exact tag_ne q2 j32 (by decide) rfl
        have f9 : Fr V2 w9 (fun k => (Value.slice sa i sc).ownBlock = some k) := Fr.grown (Fr.refl V2 _) g9 (fun k hk => .inl hk)
        have j39 : w9.heap[Z3]? = _ := (f9.block Z3 (blk_lt j32) hn3).trans j32
        have q5 : w9.cell? ⟨Z3, 5, none⟩ = some (.slice sa i sc) := cell_blk j39 5
        have q6 : w9.frozen? ⟨Z3, 5, none⟩ = false := frozen_blk j39 5
        have HNJ : Hid (NJ W c Z3 wa9 wc9 (w9.setCell ⟨Z3, 5, none⟩ (.slice ad9 (i + 1) cap9)) (.int .i64 ((i + 1 : Nat) : Int))) := by
          have fS : Fr w9 (w9.setCell ⟨Z3, 5, none⟩ (.slice ad9 (i + 1) cap9)) (fun k => k = Z3) := Fr.set (a := ⟨Z3, 5, none⟩) (Fr.refl w9 (fun k => k = Z3)) (Or.inl rfl) _
          refine ⟨i + 1, ad9, cap9, hlt, rfl, set_blk (i := 5) j39 _, ?_, ?_, ?_⟩
          · rw [hnx, List.flatMap_append, List.flatMap_singleton]
            exact row_keep o9 fS (fun j hj q => by
              have q' : j = Z3 := q
              subst q'
              obtain ⟨q1, q2⟩ := own_tag o9 j hj
              exact tag_ne q2 j39 (by decide) rfl)
          · have ow9 := row_keep (own_below ow b12) f9 (fun j hj q => by
              obtain ⟨q1, q2⟩ := own_tag (own_below ow b12) j hj
              obtain ⟨q3, q4⟩ := own_tag (own_below os b12) j q
              exact tag_ne q2 q4 (by decide) rfl)
            exact row_keep ow9 fS (fun j hj q => by
              have q' : j = Z3 := q
              subst q'
              obtain ⟨q1, q2⟩ := own_tag ow9 j hj
              exact tag_ne q2 j39 (by decide) rfl)
          · have bW9 : Below W.heap.size W w9 := (bV.trans (b12.mono bV.size)).trans (f9.toBelow (fun k hk q => by have := (os.lt k q).1; omega) (Nat.le_trans bV.size b12.size))
            exact bW9.trans (fS.toBelow (fun k hk q => by have q' : k = Z3 := q; omega) bW9.size)
        rw [hV2] at hrun
        have HV1 := Lib.hid hV1
        have HZ1 := Lib.hid hZ1
        clear hV1 hZ1 bb1 bb2 b12 jZ1 jS j31 j32 j39 o9 g9 t9 f9 hn3 hx hnx hst hcell hbv j3 os ow bV hV2
        go_upto_region 5 with fail
        rw [← HV1.out, HZ1.out]
        go_wp2_with (at_builtin; refine wpl_run2 _ _ rfl (by simp [Act.eval]) (by simp [Act.eval]) hrun ?_)
        go_roundw
        case rel => exact HNJ.out
        case measure => simp [intOf]; omega
      · have k1 : ¬ (i : Int) < c.reads.length := by omega
        have ei : i = c.reads.length := by omega
        subst ei
        have jZ := (bV.block Z2 (blk_lt HJZ.out)).trans HJZ.out
        have ld3 : (Instr.loadAt 68 (.pointer (some ⟨Z3, 0, none⟩))).run Try.prog V = .ok (.agg #[.int .i64 c.txn.1, .int .i64 c.txn.2.1, .int .i64 c.txn.2.2, .int .i64 c.home, .int .i64 c.til, .slice sa c.reads.length sc, .slice wa9 c.writes.length wc9]) V := load_row j3 Try.underlying68 rfl size68
        obtain ⟨X8, hX8, j8, f8⟩ := sets_row jZ #[.int .i64 c.txn.1, .int .i64 c.txn.2.1, .int .i64 c.txn.2.2, .int .i64 c.home, .int .i64 c.til, .slice sa c.reads.length sc, .slice wa9 c.writes.length wc9] rfl
        have hst := store_row jZ (us := #[.int .i64 c.txn.1, .int .i64 c.txn.2.1, .int .i64 c.txn.2.2, .int .i64 c.home, .int .i64 c.til, .slice sa c.reads.length sc, .slice wa9 c.writes.length wc9]) rfl size68 (by simp [Value.oneCell'])
        rw [← hX8] at hst
        have HA : Hid (NlAns w (newL c) (.returned (.agg #[.int .i64 c.txn.1, .int .i64 c.txn.2.1, .int .i64 c.txn.2.2, .int .i64 c.home, .int .i64 c.til, .slice sa c.reads.length sc, .slice wa9 c.writes.length wc9])) X8) := by
          have e2 : spTo c c.reads.length = c.reads.map Rn.span := by unfold spTo; rw [List.take_length]
          refine ⟨sa, sc, wa9, wc9, ?_, ?_, ?_, ?_⟩
          · show _ = Ending.returned (.agg #[.int .i64 c.txn.1, .int .i64 c.txn.2.1, .int .i64 c.txn.2.2, .int .i64 c.home, .int .i64 c.til, .slice sa (c.reads.map Rn.span).length sc, .slice wa9 c.writes.length wc9])
            rw [List.length_map]
          · show X8.ownsRow w.heap.size 57 2 (.slice sa (c.reads.map Rn.span).length sc) (c.reads.map Rn.span).length ((c.reads.map Rn.span).flatMap snL)
            rw [← e2, spTo_len (Nat.le_refl _)]
            exact own_mono (row_keep os f8 (fun j hj q => by have q' : j = Z2 := q; have := (os.lt j hj).1; omega)) HB.out.size
          · exact own_mono (row_keep ow f8 (fun j hj q => by have q' : j = Z2 := q; have := (ow.lt j hj).1; omega)) HB.out.size
          · exact hbv.trans (f8.toBelow (fun k hk q => by have q' : k = Z2 := q; omega) hbv.size)
        have HJ8 := Lib.hid j8
        clear j3 os ow bV hbv jZ hX8 j8 f8
        go_wp2_with (first | (refine wpl_load _ rfl (by simp [Act.eval]) ld3 ?_) | (refine wpl_store _ _ rfl (by simp [Act.eval, Act.put]) (by simp [Act.eval, Act.put]) hst ?_))
        refine bodyPost_ret (results_one Try.results53 rfl (load_var HJ8.out Try.underlying68 rfl size68)) rfl ?_
        exact HA.out
end
end Go.Proofs.Ytcoaahlakkghhaa
