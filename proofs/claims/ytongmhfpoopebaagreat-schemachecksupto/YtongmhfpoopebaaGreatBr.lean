/- The walks of rightLinks and of the closures of right. -/
import Derived.Test.YtongmhfpoopebaaGreatBq
namespace Go.Proofs.YtongmhfpoopebaaGreat
open Go.RowKit Go.Maps
section
variable {w : World}
set_option maxHeartbeats 1000000 in
set_option maxRecDepth 100000 in
theorem links_any {L : List Tb} {t : Tb} {tv cv iv kv : Value} (hL : Lr tbE 5 w L tv) (h : Three w t cv iv kv) (hk : ∀ t ∈ L, 1 ≤ t.cols.length) : Calls Tryz.prog 62 #[tv, tbV t cv iv kv] w fun e w' => e = .returned (.bool (linkB L t)) ∧ Below w.heap.size w w' := by
  have HT := Lib.hid h
  have HL := Lib.hid hL
  obtain ⟨ta, tc, rfl, _⟩ := hL
  obtain ⟨ca, cc, rfl, _⟩ := h.c
  obtain ⟨ia, ic, rfl, _⟩ := h.i
  obtain ⟨ka, kc, rfl, _⟩ := h.k
  obtain ⟨W, hW⟩ : ∃ W, W = (w.alloc (.cells #[.slice ta L.length tc] 22)).alloc (.cells #[.int .i64 t.id, .string t.nm, .slice ca t.cols.length cc, .slice ia t.ixs.length ic, .slice ka t.fks.length kc] 35) := ⟨_, rfl⟩
  have hbW : Below w.heap.size w W := by rw [hW]; exact ((Below.refl _ w).alloc (Nat.le_refl _) _).alloc (by simp) _
  obtain ⟨Y0, hY0⟩ : ∃ Y0, w.heap.size = Y0 := ⟨_, rfl⟩
  obtain ⟨Y1, hY1⟩ : ∃ Y1, Y0 + 1 = Y1 := ⟨_, rfl⟩
  have jY0 : W.heap[Y0]? = some (.cells #[.slice ta L.length tc] 22 (0, 0)) := by
    have := heap_alloc_new w (.cells #[.slice ta L.length tc] 22)
    rw [hW, ← hY0]
    rw [Below.heap_alloc _ _ _ (by simp only [World.size_alloc]; omega)]
    exact this
  have jY1 : W.heap[Y1]? = some (.cells #[.int .i64 t.id, .string t.nm, .slice ca t.cols.length cc, .slice ia t.ixs.length ic, .slice ka t.fks.length kc] 35 (0, 0)) := by
    have := heap_alloc_new (w.alloc (.cells #[.slice ta L.length tc] 22)) (.cells #[.int .i64 t.id, .string t.nm, .slice ca t.cols.length cc, .slice ia t.ixs.length ic, .slice ka t.fks.length kc] 35)
    simp only [World.size_alloc] at this
    rw [hW, ← hY1, ← hY0]
    exact this
  have d3 : W.cell? ⟨Y1, 3, none⟩ = some (.slice ia t.ixs.length ic) := cell_blk jY1 3
  have hc1 := findI_any (w := W) (f := 102) (cs := #[.pointer (some ⟨Y1, 0, none⟩)]) (p := fun x => !(t.cols.any (fun c => decide (c.id = x.col)))) (HT.out.i.on ixE_held hbW) goes102 (fun X hX B q x _ _ hp => lost_f hp ((HT.out.c.on colE_held hbW).on colE_held hX) ((hX.block Y1 (blk_lt jY1)).trans jY1))
  have HF : Hid (∀ X, Below W.heap.size W X → X.cell? ⟨Y1, 4, none⟩ = some (.slice ka t.fks.length kc) ∧ Calls Tryz.prog 104 #[.slice ka t.fks.length kc, .func (.func 105) #[] #[.pointer (some ⟨Y1, 0, none⟩), .pointer (some ⟨Y0, 0, none⟩)]] X fun e w' => e = .returned (.int .i64 (fidx (fun x => !fkB L t x) t.fks)) ∧ Below X.heap.size X w') := fun X hX => by
    have hwX := bgo hbW hX
    refine ⟨cell_on hX (cell_blk jY1 4), findK_any (w := X) (f := 105) (p := fun x => !fkB L t x) (HT.out.k.on fkE_held hwX) goes105 (fun X' hX' B q x _ _ hp => wrong_f hp ((HL.out.on tbE_held hwX).on tbE_held hX') ((HT.out.c.on colE_held hwX).on colE_held hX') (((bgo hX hX').block Y1 (blk_lt jY1)).trans jY1) (((bgo hX hX').block Y0 (blk_lt jY0)).trans jY0) hk)⟩
  have n1 := fidx_neg (fun x : Ix => !(t.cols.any (fun c => decide (c.id = x.col)))) t.ixs
  have n2 := fidx_neg (fun x : Fk => !fkB L t x) t.fks
  simp only [Bool.not_not] at n1 n2
  obtain ⟨i1, hi1⟩ : ∃ i1, fidx (fun x : Ix => !(t.cols.any (fun c => decide (c.id = x.col)))) t.ixs = i1 := ⟨_, rfl⟩
  obtain ⟨i2, hi2⟩ : ∃ i2, fidx (fun x : Fk => !fkB L t x) t.fks = i2 := ⟨_, rfl⟩
  obtain ⟨r1, hr1⟩ : ∃ r1, t.ixs.all (fun x => t.cols.any (fun c => decide (c.id = x.col))) = r1 := ⟨_, rfl⟩
  obtain ⟨r2, hr2⟩ : ∃ r2, t.fks.all (fun x => fkB L t x) = r2 := ⟨_, rfl⟩
  have HR : Hid (linkB L t = (r1 && r2)) := by
    unfold linkB
    rw [hr1, show t.fks.all (fkB L t) = r2 from hr2]
    exact Lib.hid rfl
  rw [hi1] at hc1 n1
  rw [hi2] at HF n2
  rw [hr1] at n1
  rw [hr2] at n2
  have HW := Lib.hid hW
  have HBW := Lib.hid hbW
  have HY0 := Lib.hid hY0
  have HY1 := Lib.hid hY1
  clear hW hbW hY0 hY1
  clear jY0 jY1 hi1 hi2 hr1 hr2 h hk
  go_enter Tryz.func62, Tryz.ntmps62
  go_upto_region 1 with fail
  rw [← HW.out, HY0.out, HY1.out]
  go_upto_region 2 with (go_at_call 101; refine hc1.mono ?_; rintro e w1 ⟨rfl, b1⟩; refine Hid.out ?_)
  refine Lib.hid ?_
  have HB1 := Lib.hid b1
  obtain ⟨e4, hc2⟩ := HF.out w1 b1
  clear hc1 b1 d3
  go_upto_region 3 with (go_at_call 104; refine hc2.mono ?_; rintro e w2 ⟨rfl, b2⟩; refine Hid.out ?_)
  refine Lib.hid ?_
  have HB2 := Lib.hid b2
  clear hc2 b2 e4
  cases r1 with
  | false =>
    have q1 := of_decide_eq_false n1
    clear n1 n2
    go_wp2
    go_ret
    exact ⟨by rw [HR.out]; simp, bgo HBW.out (bgo HB1.out HB2.out)⟩
  | true =>
    have q1 := of_decide_eq_true n1
    clear n1
    cases r2 with
    | false =>
      have q2 := of_decide_eq_false n2
      clear n2
      go_wp2
      go_ret
      exact ⟨by rw [HR.out]; simp, bgo HBW.out (bgo HB1.out HB2.out)⟩
    | true =>
      have q2 := of_decide_eq_true n2
      clear n2
      go_wp2
      go_ret
      exact ⟨by rw [HR.out]; simp, bgo HBW.out (bgo HB1.out HB2.out)⟩
set_option maxHeartbeats 400000 in
set_option maxRecDepth 100000 in
theorem id_f {x z : Int} {B q Z : Nat} (h : Pt inE w B q x) (cz : w.cell? ⟨Z, 1, none⟩ = some (.int .i64 z)) : Calls Tryz.prog 58 #[.pointer (some ⟨B, q, none⟩), .pointer (some ⟨Z, 0, none⟩)] w fun e w' => e = .returned (.bool (!(decide (1 ≤ x) && decide (x ≤ z)))) ∧ Below w.heap.size w w' := by
  obtain ⟨cs, hE, hc⟩ := h
  cases hE
  have c0 : w.cell? ⟨B, q, none⟩ = some (.int .i64 x) := hc 0 _ rfl
  clear hc
  by_cases q1 : x < 1
  · have k1 : decide (x < 1) = true := decide_eq_true q1
    have k2 : ¬ 1 ≤ x := by omega
    go_enter Tryz.func58, Tryz.ntmps58
    go_wp2
    go_quiet (fail)
    go_wp2
    go_ret
    exact ⟨by simp [k2], bdrewN (Below.refl _ _) _⟩
  · have k1 : decide (x < 1) = false := decide_eq_false q1
    have k2 : 1 ≤ x := by omega
    by_cases q2 : z < x
    · have k4 : ¬ x ≤ z := by omega
      go_enter Tryz.func58, Tryz.ntmps58
      go_wp2
      go_quiet (fail)
      go_wp2
      go_ret
      exact ⟨by simp [k4], bdrewN (Below.refl _ _) _⟩
    · have k4 : x ≤ z := by omega
      go_enter Tryz.func58, Tryz.ntmps58
      go_wp2
      go_quiet (fail)
      go_wp2
      go_ret
      exact ⟨by simp [k2, k4], bdrewN (Below.refl _ _) _⟩
set_option maxHeartbeats 1000000 in
set_option maxRecDepth 100000 in
theorem link_f {L : List Tb} {x : Tb} {tv : Value} {B q Z : Nat} (h : Pt tbE w B q x) (hL : Lr tbE 5 w L tv) (cz : w.cell? ⟨Z, 2, none⟩ = some tv) (hk : ∀ t ∈ L, 1 ≤ t.cols.length) : Calls Tryz.prog 61 #[.pointer (some ⟨B, q, none⟩), .pointer (some ⟨Z, 0, none⟩)] w fun e w' => e = .returned (.bool (!linkB L x)) ∧ Below w.heap.size w w' := by
  obtain ⟨cs, ⟨cv, iv, kv, rfl, h3⟩, hc⟩ := h
  have HO : Hid (∀ X : World, Below w.heap.size w X → Calls Tryz.prog 62 #[tv, tbV x cv iv kv] X fun e w' => e = .returned (.bool (linkB L x)) ∧ Below X.heap.size X w') := fun X hX => links_any (hL.on tbE_held hX) (h3.on hX) hk
  have c0 : w.cell? ⟨B, q, none⟩ = some (.int .i64 x.id) := hc 0 _ rfl
  have c1 : w.cell? ⟨B, q + 1, none⟩ = some (.string x.nm) := hc 1 _ rfl
  have c2 : w.cell? ⟨B, q + 2, none⟩ = some cv := hc 2 _ rfl
  have c3 : w.cell? ⟨B, q + 3, none⟩ = some iv := hc 3 _ rfl
  have c4 : w.cell? ⟨B, q + 4, none⟩ = some kv := hc 4 _ rfl
  obtain ⟨ta, tc, rfl, _⟩ := hL
  obtain ⟨ca, cc, rfl, _⟩ := h3.c
  obtain ⟨ia, ic, rfl, _⟩ := h3.i
  obtain ⟨ka, kc, rfl, _⟩ := h3.k
  obtain ⟨r, hr⟩ : ∃ r, linkB L x = r := ⟨_, rfl⟩
  rw [hr] at HO ⊢
  clear hr hc h3 hk
  go_enter Tryz.func61, Tryz.ntmps61
  go_wp2
  go_region_with (go_at_call 62; refine (HO.out _ (by first | exact bdrew (Below.refl _ _) | exact bdrewN (Below.refl _ _) _)).mono ?_; rintro e w1 ⟨rfl, b1⟩)
  all_goals
    go_wp2
    go_ret
    exact ⟨rfl, ⟨b1.os, b1.tape, b1.output, b1.size, b1.block⟩⟩
end
end Go.Proofs.YtongmhfpoopebaaGreat
