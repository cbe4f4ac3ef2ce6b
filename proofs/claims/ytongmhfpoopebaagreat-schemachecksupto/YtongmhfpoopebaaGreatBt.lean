/- The walks of give, publicColumn, refuseName, refuseColumn, Check. -/
import Derived.Test.YtongmhfpoopebaaGreatBs
namespace Go.Proofs.YtongmhfpoopebaaGreat
open Go.RowKit Go.Maps
section
variable {w : World}
set_option maxHeartbeats 400000 in
theorem give_any {A : Nat} {s : Sc} {tv : Value} (hA : w.heap[A]? = some (.cells (scA s tv) 24 (0, 0))) (hl : farB s.last = true) : Calls Tryz.prog 110 #[.pointer (some ⟨A, 0, none⟩)] w fun e w' => e = .returned (.int .i64 (s.last + 1)) ∧ w' = w.setCell ⟨A, 1, none⟩ (.int .i64 (s.last + 1)) := by
  have c1 : w.cell? ⟨A, 1, none⟩ = some (.int .i64 s.last) := cell_blk hA 1
  have f1 : w.frozen? ⟨A, 1, none⟩ = false := frozen_blk hA 1
  have hf : 0 ≤ s.last ∧ s.last ≤ 1125899906842624 := by unfold farB at hl; simpa using hl
  have h1 : -9223372036854775808 ≤ s.last + 1 := by omega
  have h2 : s.last + 1 ≤ 9223372036854775807 := by omega
  obtain ⟨l, hl'⟩ : ∃ l, s.last = l := ⟨_, rfl⟩
  rw [hl'] at c1 h1 h2 ⊢
  clear hf hl hl' hA
  go_enter Tryz.func110, Tryz.ntmps110
  go_wp2
  go_ret
  exact ⟨rfl, rfl⟩
set_option maxHeartbeats 1000000 in
set_option maxRecDepth 100000 in
theorem pubC_any {t : Tb} {B q : Nat} (z : ByteArray) (h : Pt tbE w B q t) : Calls Tryz.prog 115 #[.pointer (some ⟨B, q, none⟩), .string z] w fun e w' => e = .returned (.int .i64 (fidx (fun c => decide (c.nm = z) && decide (c.st = 3)) t.cols)) ∧ Below w.heap.size w w' := by
  obtain ⟨cs, ⟨cv, iv, kv, rfl, h3⟩, hc⟩ := h
  obtain ⟨W, hW⟩ : ∃ W, W = w.alloc (.cells #[.string z] 9) := ⟨_, rfl⟩
  have hbW : Below w.heap.size w W := by rw [hW]; exact (Below.refl _ w).alloc (Nat.le_refl _) _
  obtain ⟨Y0, hY0⟩ : ∃ Y0, w.heap.size = Y0 := ⟨_, rfl⟩
  have jY0 : W.heap[Y0]? = some (.cells #[.string z] 9 (0, 0)) := by
    have := heap_alloc_new w (.cells #[.string z] 9)
    rw [hW, ← hY0]
    exact this
  have hcall := findC_any (w := W) (f := 127) (cs := #[.pointer (some ⟨Y0, 0, none⟩)]) (p := fun c => decide (c.nm = z) && decide (c.st = 3)) (h3.c.on colE_held hbW) goes127 (fun X hX B q x _ _ hp => pub_f hp (cell_on hX (cell_blk jY0 0)))
  have c2 : W.cell? ⟨B, q + 2, none⟩ = some cv := cell_on hbW (hc 2 _ rfl)
  obtain ⟨ca, cc, rfl, _⟩ := h3.c
  have HW := Lib.hid hW
  have HBW := Lib.hid hbW
  have HY0 := Lib.hid hY0
  clear hW hbW hY0
  clear jY0 h3 hc
  go_enter Tryz.func115, Tryz.ntmps115
  go_upto_region 1 with fail
  rw [← HW.out, HY0.out]
  go_wp2_with fail
  refine hcall.mono ?_
  rintro e w1 ⟨rfl, b1⟩
  go_wp2
  go_ret
  exact ⟨rfl, bgo HBW.out b1⟩
set_option maxHeartbeats 400000 in
theorem refN_any (i : Int) : Calls Tryz.prog 81 #[.int .i64 i] w fun e w' => e = .returned (.int .i64 (if i < 0 then 153 else 0)) ∧ w' = w := by
  by_cases h : i < 0
  · rw [if_pos h]
    go_enter Tryz.func81, Tryz.ntmps81
    go_wp2
    go_ret
    exact ⟨rfl, rfl⟩
  · rw [if_neg h]
    go_enter Tryz.func81, Tryz.ntmps81
    go_wp2
    go_ret
    exact ⟨rfl, rfl⟩
set_option maxHeartbeats 1000000 in
set_option maxRecDepth 100000 in
theorem refC_no {B q : Nat} : Calls Tryz.prog 79 #[.pointer (some ⟨B, q, none⟩), .int .i64 (-1)] w fun e w' => e = .returned (.int .i64 151) ∧ w' = w := by
  go_enter Tryz.func79, Tryz.ntmps79
  go_wp2
  go_ret
  exact ⟨rfl, rfl⟩
set_option maxHeartbeats 1000000 in
set_option maxRecDepth 100000 in
theorem refC_any {t : Tb} {B q i : Nat} (h : Pt tbE w B q t) (hi : i < t.cols.length) : Calls Tryz.prog 79 #[.pointer (some ⟨B, q, none⟩), .int .i64 (i : Int)] w fun e w' => e = .returned (.int .i64 (if usedB t i t.cols[i] then 155 else 0)) ∧ Below w.heap.size w w' := by
  obtain ⟨cs, ⟨cv, iv, kv, rfl, h3⟩, hc⟩ := h
  obtain ⟨c, hcc⟩ : ∃ c, t.cols[i] = c := ⟨_, rfl⟩
  have H3 := Lib.hid h3
  obtain ⟨ca, cc, rfl, _, _, _, hX⟩ := h3.c
  obtain ⟨b, p, cs1, rfl, _, hE, _, hcell⟩ := hX i hi
  cases hE
  rw [hcc] at hcell ⊢
  have k0 : (0 : Int) ≤ i := by omega
  have k1 : (i : Int) < t.cols.length := by omega
  have kn : ¬ (i : Int) < 0 := by omega
  have c0 : w.cell? ⟨b, p + i * 7, none⟩ = some (.int .i64 c.id) := hcell 0 _ rfl
  have c2 : w.cell? ⟨B, q + 2, none⟩ = some (.slice (some ⟨b, p, none⟩) t.cols.length cc) := hc 2 _ rfl
  obtain ⟨ia, ic, rfl, _⟩ := h3.i
  obtain ⟨ka, kc, rfl, _⟩ := h3.k
  obtain ⟨W, hW⟩ : ∃ W, W = w.alloc (.cells #[.int .i64 c.id] 3) := ⟨_, rfl⟩
  have hbW : Below w.heap.size w W := by rw [hW]; exact (Below.refl _ w).alloc (Nat.le_refl _) _
  obtain ⟨Y0, hY0⟩ : ∃ Y0, w.heap.size = Y0 := ⟨_, rfl⟩
  have jY0 : W.heap[Y0]? = some (.cells #[.int .i64 c.id] 3 (0, 0)) := by
    have := heap_alloc_new w (.cells #[.int .i64 c.id] 3)
    rw [hW, ← hY0]
    exact this
  have c3 : W.cell? ⟨B, q + 3, none⟩ = some (.slice ia t.ixs.length ic) := cell_on hbW (hc 3 _ rfl)
  have hc1 := findI_any (w := W) (f := 118) (cs := #[.pointer (some ⟨Y0, 0, none⟩)]) (p := fun x => decide (x.col = c.id)) (H3.out.i.on ixE_held hbW) goes118 (fun X hX B q x _ _ hp => rx_f hp (cell_on hX (cell_blk jY0 0)))
  have HF : Hid (∀ X, Below W.heap.size W X → X.cell? ⟨B, q + 4, none⟩ = some (.slice ka t.fks.length kc) ∧ Calls Tryz.prog 104 #[.slice ka t.fks.length kc, .func (.func 119) #[] #[.pointer (some ⟨Y0, 0, none⟩)]] X fun e w' => e = .returned (.int .i64 (fidx (fun x => decide (x.col = c.id)) t.fks)) ∧ Below X.heap.size X w') := fun X hX => by
    have hwX := bgo hbW hX
    exact ⟨cell_on hwX (hc 4 _ rfl), findK_any (w := X) (f := 119) (p := fun x => decide (x.col = c.id)) (H3.out.k.on fkE_held hwX) goes119 (fun X' hX' B q x _ _ hp => rk_f hp (cell_on (bgo hX hX') (cell_blk jY0 0)))⟩
  have n1 := fidx_any (fun x : Ix => decide (x.col = c.id)) t.ixs
  have n2 := fidx_any (fun x : Fk => decide (x.col = c.id)) t.fks
  obtain ⟨i1, hi1⟩ : ∃ i1, fidx (fun x : Ix => decide (x.col = c.id)) t.ixs = i1 := ⟨_, rfl⟩
  obtain ⟨i2, hi2⟩ : ∃ i2, fidx (fun x : Fk => decide (x.col = c.id)) t.fks = i2 := ⟨_, rfl⟩
  have HU : Hid (usedB t i c = (decide (i = 0) || decide (0 ≤ i1) || decide (0 ≤ i2))) := by
    unfold usedB
    rw [← n1, ← n2, hi1, hi2]
    exact Lib.hid rfl
  rw [hi1] at hc1
  rw [hi2] at HF
  obtain ⟨rr, hrr⟩ : ∃ rr : Int, (if usedB t i c then 155 else 0) = rr := ⟨_, rfl⟩
  rw [hrr]
  have HRR := Lib.hid hrr
  clear hrr
  have HW := Lib.hid hW
  have HBW := Lib.hid hbW
  have HY0 := Lib.hid hY0
  clear hW hbW hY0
  clear jY0 hi1 hi2 h3 hc hcell hX hcc n1 n2 H3
  go_enter Tryz.func79, Tryz.ntmps79
  go_upto_region 4 with fail
  rw [← HW.out, HY0.out]
  clear c0 c2
  go_upto_region 5 with (go_at_call 101; refine hc1.mono ?_; rintro e w1 ⟨rfl, b1⟩; refine Hid.out ?_)
  refine Lib.hid ?_
  have HB1 := Lib.hid b1
  obtain ⟨e4, hc2⟩ := HF.out w1 b1
  clear hc1 b1 c3
  go_upto_region 6 with (go_at_call 104; refine hc2.mono ?_; rintro e w2 ⟨rfl, b2⟩; refine Hid.out ?_)
  refine Lib.hid ?_
  have HB2 := Lib.hid b2
  clear hc2 b2 e4
  by_cases q0 : (i : Int) = 0
  · have q0' : i = 0 := by omega
    go_wp2
    go_ret
    exact ⟨by rw [← HRR.out, HU.out]; simp [q0'], bgo HBW.out (bgo HB1.out HB2.out)⟩
  · have q0' : ¬ i = 0 := by omega
    by_cases q1 : 0 ≤ i1
    · go_wp2
      go_ret
      exact ⟨by rw [← HRR.out, HU.out]; simp [q1], bgo HBW.out (bgo HB1.out HB2.out)⟩
    · by_cases q2 : 0 ≤ i2
      · go_wp2
        go_ret
        exact ⟨by rw [← HRR.out, HU.out]; simp [q2], bgo HBW.out (bgo HB1.out HB2.out)⟩
      · go_wp2
        go_ret
        exact ⟨by rw [← HRR.out, HU.out]; simp [q0', q1, q2], bgo HBW.out (bgo HB1.out HB2.out)⟩
end
end Go.Proofs.YtongmhfpoopebaaGreat
