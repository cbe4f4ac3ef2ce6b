import Derived.Test.YtkfnphhoebknnaaQEc
namespace Go.Proofs.Ytkfnphhoebknnaa
open Go.RowKit
section
variable {w : World}
/-- A column's cells, and the block they lie in. -/
theorem col_cells {L : List Col} {ad : Option Addr} {n cap : Nat} (h : Lr colE 7 w L (.slice ad n cap)) {i : Nat} (hi : i < L.length) : n = L.length ∧ ∃ b o, ad = some ⟨b, o, none⟩ ∧ b < w.heap.size ∧ w.cell? ⟨b, o + i * 7, none⟩ = some (.int .i64 L[i].id) ∧ w.cell? ⟨b, o + i * 7 + 1, none⟩ = some (.string L[i].nm) ∧ w.cell? ⟨b, o + i * 7 + 2, none⟩ = some (.int .i64 L[i].kd) ∧ w.cell? ⟨b, o + i * 7 + 3, none⟩ = some (.int .i64 L[i].st) ∧ w.cell? ⟨b, o + i * 7 + 4, none⟩ = some (.int .i64 L[i].df.k) ∧ w.cell? ⟨b, o + i * 7 + 5, none⟩ = some (.int .i64 L[i].df.n) ∧ w.cell? ⟨b, o + i * 7 + 6, none⟩ = some (.string L[i].df.s) := by
  obtain ⟨ad', cap', e, h0, h1, h2, h3⟩ := h
  cases e
  refine ⟨rfl, ?_⟩
  obtain ⟨b, o, cs, e, hb, hE, _, hh⟩ := h3 i hi
  have hE' : cs = colL L[i] := hE
  subst hE'
  exact ⟨b, o, e, hb, hh 0 _ rfl, hh 1 _ rfl, hh 2 _ rfl, hh 3 _ rfl, hh 4 _ rfl, hh 5 _ rfl, hh 6 _ rfl⟩
theorem bd_four {w X0 : World} {R : Nat} {c : Array Value} (h : X0.heap[R]? = some (.cells c 39 (0, 0))) (hf : Fr w X0 (fun k => k = R)) (i a b d : Nat) (u v1 v2 v3 : Value) : ∃ X, X = ((((X0.setCell ⟨R, i, none⟩ u).setCell ⟨R, a, none⟩ v1).setCell ⟨R, b, none⟩ v2).setCell ⟨R, d, none⟩ v3).drew ∧ X.heap[R]? = some (.cells ((((c.setIfInBounds i u).setIfInBounds a v1).setIfInBounds b v2).setIfInBounds d v3) 39 (0, 0)) ∧ Fr X0 X (fun k => k = R) ∧ Fr w X (fun k => k = R) := by
  have h1 := set_blk (i := i) h u
  have h2 := set_blk (i := a) h1 v1
  have h3 := set_blk (i := b) h2 v2
  have h4 := set_blk (i := d) h3 v3
  have f1 : Fr X0 _ (fun k => k = R) := ((((Fr.refl X0 (fun k => k = R)).set (a := ⟨R, i, none⟩) (.inl rfl) u).set (a := ⟨R, a, none⟩) (.inl rfl) v1).set (a := ⟨R, b, none⟩) (.inl rfl) v2).set (a := ⟨R, d, none⟩) (.inl rfl) v3
  exact ⟨_, rfl, h4, f1.drewN 1, (hf.trans f1).drewN 1⟩
theorem colN_at {t : Tb} {i : Nat} (hi : i < t.cols.length) : colN t (i : Int) = t.cols[i] := by
  unfold colN
  rw [Int.toNat_natCast, List.getD_eq_getElem?_getD, List.getElem?_eq_getElem hi]
  rfl
set_option maxHeartbeats 8000000 in
set_option maxRecDepth 100000 in
theorem where_any {w0 : World} {x : St} {t : Tb} {cv iv kv vv dv bv : Value} {b : Bd} {R Y : Nat} (h3 : Three w0 t cv iv kv) (h0 : Below w0.heap.size w0 w) (hRl : w0.heap.size ≤ R) (hY : w.heap[Y]? = some (.cells (tbA t cv iv kv) 54 (0, 0))) (hR : w.heap[R]? = some (.cells (bdA b bv) 39 (0, 0))) :
    Calls Try.prog 93 #[.agg (stmtA x vv dv), .pointer (some ⟨R, 0, none⟩), .pointer (some ⟨Y, 0, none⟩)] w fun e w' => ∃ b', e = .returned (.int .i64 (whereE t x)) ∧ w'.heap[R]? = some (.cells (bdA b' bv) 39 (0, 0)) ∧ (whereE t x = 0 → b' = whereB t x b) ∧ b'.vals = b.vals ∧ Fr w w' (fun k => k = R) := by
  obtain ⟨W, hW⟩ : ∃ W, W = w.alloc (.cells (stmtA x vv dv) 46) := ⟨_, rfl⟩
  have hb : Below w.heap.size w W := by rw [hW]; exact bnew _ _
  obtain ⟨Z, hZ⟩ : ∃ Z, w.heap.size = Z := ⟨_, rfl⟩
  have jZ : W.heap[Z]? = some (.cells (stmtA x vv dv) 46 (0, 0)) := by rw [hW, ← hZ]; exact heap_alloc_new w _
  have jY : W.heap[Y]? = some (.cells (tbA t cv iv kv) 54 (0, 0)) := (hb.block Y (blk_lt hY)).trans hY
  have jR : W.heap[R]? = some (.cells (bdA b bv) 39 (0, 0)) := (hb.block R (blk_lt hR)).trans hR
  have sW : W.cell? ⟨Z, 7, none⟩ = some (.string x.wh) := cell_blk jZ 7
  have hs0 := same_eq x.wh ⟨#[]⟩
  obtain ⟨z, hz⟩ : ∃ z, x.wh = z := ⟨_, rfl⟩
  rw [hz] at sW hs0
  have hem : (⟨#[]⟩ : ByteArray).toList = [] := by rw [ByteArray.toList_eq]
  have hs : z.toList.isEmpty = decide (z = ⟨#[]⟩) := by
    rw [← hs0, hem]
    cases z.toList <;> rfl
  have HZ := Lib.hid hz
  have HWE : Hid (whereE t x = if z = ⟨#[]⟩ then 0 else if nmIx t z = -1 then 151 else fitP x.be (colN t (nmIx t z)).kd) := Lib.hid (by unfold whereE; rw [hz])
  have HWB : Hid (whereB t x b = if z = ⟨#[]⟩ then b else { b with wh := (colN t (nmIx t z)).id, be := x.be }) := Lib.hid (by unfold whereB; rw [hz])
  have HW := Lib.hid hW
  have HB := Lib.hid hb
  have HZZ := Lib.hid hZ
  have JZ := Lib.hid jZ
  have JY := Lib.hid jY
  have JR := Lib.hid jR
  have H3 := Lib.hid (h3.on (h0.trans (hb.mono h0.size)))
  have HRl := Lib.hid hRl
  have H30 := Lib.hid h3
  have H00 := Lib.hid (h0.trans (hb.mono h0.size))
  clear hz hW hb hZ jZ jY jR h3 hY hR hs0 hem h0 hRl
  have y0 : W.cell? ⟨Y, 0, none⟩ = some (.int .i64 t.id) := cell_blk JY.out 0
  have y1 : W.cell? ⟨Y, 1, none⟩ = some (.string t.nm) := cell_blk JY.out 1
  have y2 : W.cell? ⟨Y, 2, none⟩ = some cv := cell_blk JY.out 2
  have y3 : W.cell? ⟨Y, 3, none⟩ = some iv := cell_blk JY.out 3
  have y4 : W.cell? ⟨Y, 4, none⟩ = some kv := cell_blk JY.out 4
  by_cases q : z = ⟨#[]⟩
  · have HQ := Lib.hid q
    rw [decide_eq_true q] at hs
    clear q
    go_enter Try.func93, Try.ntmps93
    go_upto_region 1 with fail
    rw [← HW.out, HZZ.out]
    go_wp2
    go_ret
    exact ⟨b, by rw [HWE.out, if_pos HQ.out]; rfl, JR.out, fun _ => by rw [HWB.out, if_pos HQ.out], rfl, Fr.ofBelow _ HB.out⟩
  · have HQ := Lib.hid q
    rw [decide_eq_false q] at hs
    clear q
    have hcn := colNamed_any H3.out z
    rcases fidx_cases (fun y : Col => decide (y.nm = z)) t.cols with ⟨hf, _⟩ | ⟨i, hi, hf, -, -⟩
    · rw [hf] at hcn
      have HF := Lib.hid hf
      clear hf
      go_enter Try.func93, Try.ntmps93
      go_upto_region 1 with fail
      rw [← HW.out, HZZ.out]
      go_wp2_with (go_at_call 92; refine hcn.mono ?_; rintro e w1 ⟨rfl, b1⟩; refine Hid.out ?_)
      refine Lib.hid ?_
      have HB1 := Lib.hid b1
      clear hcn b1 sW y0 y1 y2 y3 y4
      go_wp2
      go_ret
      refine ⟨b, by rw [HWE.out, if_neg HQ.out]; unfold nmIx; rw [HF.out]; rfl, (HB1.out.block R (blk_lt JR.out)).trans JR.out, fun e => ?_, rfl, Fr.ofBelow _ (bgo HB.out HB1.out)⟩
      rw [HWE.out, if_neg HQ.out] at e
      unfold nmIx at e
      rw [HF.out] at e
      cases e
    · rw [hf] at hcn
      obtain ⟨ca, cc, e0, _⟩ := H30.out.c
      subst e0
      obtain ⟨n, hn⟩ : ∃ n, t.cols.length = n := ⟨_, rfl⟩
      have hin : i < n := by rw [← hn]; exact hi
      obtain ⟨_, cb, co, ead, hcb, k0, k1, k2, k3, k4, k5, k6⟩ := col_cells H30.out.c hi
      subst ead
      obtain ⟨c, hc⟩ : ∃ c, t.cols[i] = c := ⟨_, rfl⟩
      have hcN : colN t (nmIx t z) = c := by unfold nmIx; rw [hf, colN_at hi, hc]
      have HF := Lib.hid hf
      have HCN := Lib.hid hcN
      rw [hc] at k0 k1 k2 k3 k4 k5 k6
      have HK : Hid (W.cell? ⟨cb, co + i * 7, none⟩ = some (.int .i64 c.id) ∧ W.cell? ⟨cb, co + i * 7 + 1, none⟩ = some (.string c.nm) ∧ W.cell? ⟨cb, co + i * 7 + 2, none⟩ = some (.int .i64 c.kd) ∧ W.cell? ⟨cb, co + i * 7 + 3, none⟩ = some (.int .i64 c.st) ∧ W.cell? ⟨cb, co + i * 7 + 4, none⟩ = some (.int .i64 c.df.k) ∧ W.cell? ⟨cb, co + i * 7 + 5, none⟩ = some (.int .i64 c.df.n) ∧ W.cell? ⟨cb, co + i * 7 + 6, none⟩ = some (.string c.df.s)) := Lib.hid ⟨cell_on H00.out k0, cell_on H00.out k1, cell_on H00.out k2, cell_on H00.out k3, cell_on H00.out k4, cell_on H00.out k5, cell_on H00.out k6⟩
      have HCB : Hid (¬ cb = R ∧ ¬ Y = R ∧ ¬ Z = R) := Lib.hid ⟨by have := HRl.out; omega, fun e => by
        have h1 := JY.out
        rw [e, JR.out] at h1
        simp at h1, fun e => by
        have h1 := JZ.out
        rw [e, JR.out] at h1
        simp at h1⟩
      rw [hn] at *
      clear hf hcN hc k0 k1 k2 k3 k4 k5 k6 hi hcb
      go_enter Try.func93, Try.ntmps93
      go_upto_region 1 with fail
      rw [← HW.out, HZZ.out]
      go_wp2_with (go_at_call 92; refine hcn.mono ?_; rintro e w1 ⟨rfl, b1⟩; refine Hid.out ?_)
      refine Lib.hid ?_
      have HB1 := Lib.hid b1
      clear hcn sW y0 y1 y2 y3 y4
      obtain ⟨q1, q2, q3⟩ := HCB.out
      have y2 : w1.cell? ⟨Y, 2, none⟩ = some (.slice (some ⟨cb, co, none⟩) n cc) := cell_blk ((b1.block Y (blk_lt JY.out)).trans JY.out) 2
      have k0 := cell_on b1 HK.out.1
      have z8 : w1.cell? ⟨Z, 8, none⟩ = some (.int .i64 x.be.k) := cell_blk ((b1.block Z (blk_lt JZ.out)).trans JZ.out) 8
      have z9 : w1.cell? ⟨Z, 9, none⟩ = some (.int .i64 x.be.n) := cell_blk ((b1.block Z (blk_lt JZ.out)).trans JZ.out) 9
      have z10 : w1.cell? ⟨Z, 10, none⟩ = some (.string x.be.s) := cell_blk ((b1.block Z (blk_lt JZ.out)).trans JZ.out) 10
      have jR1 := (b1.block R (blk_lt JR.out)).trans JR.out
      have r7 : w1.cell? ⟨R, 7, none⟩ = some (.int .i64 b.wh) := cell_blk jR1 7
      have r8 : w1.cell? ⟨R, 8, none⟩ = some (.int .i64 b.be.k) := cell_blk jR1 8
      have r9 : w1.cell? ⟨R, 9, none⟩ = some (.int .i64 b.be.n) := cell_blk jR1 9
      have r10 : w1.cell? ⟨R, 10, none⟩ = some (.string b.be.s) := cell_blk jR1 10
      have f7 := frozen_blk jR1 7
      have f8 := frozen_blk jR1 8
      have f9 := frozen_blk jR1 9
      have f10 := frozen_blk jR1 10
      have i0 : (0 : Int) ≤ i := by omega
      have i1 : (i : Int) < n := by omega
      have HJ1 := Lib.hid jR1
      clear b1 jR1
      obtain ⟨X, hX, jX, fX, fwX⟩ := bd_four HJ1.out (Fr.ofBelow _ (bgo HB.out HB1.out)) 7 8 9 10 (.int .i64 c.id) (.int .i64 x.be.k) (.int .i64 x.be.n) (.string x.be.s)
      have HX := Lib.hid hX
      have JX := Lib.hid jX
      have FX := Lib.hid fX
      have FWX := Lib.hid fwX
      have hblk : ∀ {k : Nat} {o : Obj}, k ≠ R → w1.heap[k]? = some o → X.heap[k]? = some o := fun hk ho => (FX.out.block _ (blk_lt ho) hk).trans ho
      have JYX := Lib.hid (hblk q2 ((HB1.out.block Y (blk_lt JY.out)).trans JY.out))
      have JZX := Lib.hid (hblk q3 ((HB1.out.block Z (blk_lt JZ.out)).trans JZ.out))
      have hcell : ∀ {j : Nat} {u : Value}, W.cell? ⟨cb, j, none⟩ = some u → X.cell? ⟨cb, j, none⟩ = some u := fun hu => by
        have h1 := cell_on HB1.out hu
        have hl : cb < w1.heap.size := by
          refine Classical.byContradiction fun q => ?_
          unfold World.cell? at h1
          rw [Array.getElem?_eq_none (by simpa using q)] at h1
          simp at h1
        unfold World.cell? at h1 ⊢
        rw [FX.out.block cb hl q1]
        exact h1
      have HKX := Lib.hid (And.intro (hcell HK.out.1) (And.intro (hcell HK.out.2.1) (And.intro (hcell HK.out.2.2.1) (And.intro (hcell HK.out.2.2.2.1) (And.intro (hcell HK.out.2.2.2.2.1) (And.intro (hcell HK.out.2.2.2.2.2.1) (hcell HK.out.2.2.2.2.2.2)))))))
      clear hX jX fX fwX hblk hcell
      go_wp2
      go_region
      rw [← HX.out]
      clear y2 k0 z8 z9 z10 r7 r8 r9 r10 f7 f8 f9 f10
      have y2 : X.cell? ⟨Y, 2, none⟩ = some (.slice (some ⟨cb, co, none⟩) n cc) := cell_blk JYX.out 2
      have z8 : X.cell? ⟨Z, 8, none⟩ = some (.int .i64 x.be.k) := cell_blk JZX.out 8
      have z9 : X.cell? ⟨Z, 9, none⟩ = some (.int .i64 x.be.n) := cell_blk JZX.out 9
      have z10 : X.cell? ⟨Z, 10, none⟩ = some (.string x.be.s) := cell_blk JZX.out 10
      obtain ⟨k0, k1, k2, k3, k4, k5, k6⟩ := HKX.out
      go_wp2
      go_region_with (go_at_call 89; refine (fits_any c x.be).mono ?_; rintro e w2 ⟨rfl, b2⟩)
      all_goals
        go_wp2
        go_ret
        have b3 : Below X.heap.size X w2 := ⟨b2.os, b2.tape, b2.output, b2.size, b2.block⟩
        refine ⟨{ b with wh := c.id, be := x.be }, ?_, (b3.block R (blk_lt JX.out)).trans JX.out, fun _ => ?_, rfl, FWX.out.below b3⟩
        · rw [HWE.out, if_neg HQ.out, HCN.out, if_neg (by unfold nmIx; rw [HF.out]; omega)]
          rfl
        · rw [HWB.out, if_neg HQ.out, HCN.out]
set_option maxHeartbeats 8000000 in
set_option maxRecDepth 100000 in
theorem set_any {w0 : World} {x : St} {t : Tb} {cv iv kv vv dv bv : Value} {b : Bd} {R Y : Nat} (h3 : Three w0 t cv iv kv) (h0 : Below w0.heap.size w0 w) (hRl : w0.heap.size ≤ R) (hY : w.heap[Y]? = some (.cells (tbA t cv iv kv) 54 (0, 0))) (hR : w.heap[R]? = some (.cells (bdA b bv) 39 (0, 0))) :
    Calls Try.prog 91 #[.agg (stmtA x vv dv), .pointer (some ⟨R, 0, none⟩), .pointer (some ⟨Y, 0, none⟩)] w fun e w' => ∃ b', e = .returned (.int .i64 (setE t x)) ∧ w'.heap[R]? = some (.cells (bdA b' bv) 39 (0, 0)) ∧ (setE t x = 0 → b' = setB t x b) ∧ b'.vals = b.vals ∧ Fr w w' (fun k => k = R) := by
  obtain ⟨W, hW⟩ : ∃ W, W = w.alloc (.cells (stmtA x vv dv) 46) := ⟨_, rfl⟩
  have hb : Below w.heap.size w W := by rw [hW]; exact bnew _ _
  obtain ⟨Z, hZ⟩ : ∃ Z, w.heap.size = Z := ⟨_, rfl⟩
  have jZ : W.heap[Z]? = some (.cells (stmtA x vv dv) 46 (0, 0)) := by rw [hW, ← hZ]; exact heap_alloc_new w _
  have jY : W.heap[Y]? = some (.cells (tbA t cv iv kv) 54 (0, 0)) := (hb.block Y (blk_lt hY)).trans hY
  have jR : W.heap[R]? = some (.cells (bdA b bv) 39 (0, 0)) := (hb.block R (blk_lt hR)).trans hR
  have sW : W.cell? ⟨Z, 3, none⟩ = some (.string x.set) := cell_blk jZ 3
  obtain ⟨z, hz⟩ : ∃ z, x.set = z := ⟨_, rfl⟩
  rw [hz] at sW
  have HZ := Lib.hid hz
  have HWE : Hid (setE t x = if nmIx t z = -1 then 151 else if nmIx t z = 0 then 155 else fitP x.nv (colN t (nmIx t z)).kd) := Lib.hid (by unfold setE; rw [hz])
  have HWB : Hid (setB t x b = { b with set := (colN t (nmIx t z)).id, nv := x.nv }) := Lib.hid (by unfold setB; rw [hz])
  have HW := Lib.hid hW
  have HB := Lib.hid hb
  have HZZ := Lib.hid hZ
  have JZ := Lib.hid jZ
  have JY := Lib.hid jY
  have JR := Lib.hid jR
  have H3 := Lib.hid (h3.on (h0.trans (hb.mono h0.size)))
  have HRl := Lib.hid hRl
  have H30 := Lib.hid h3
  have H00 := Lib.hid (h0.trans (hb.mono h0.size))
  clear hz hW hb hZ jZ jY jR h3 hY hR h0 hRl
  have y0 : W.cell? ⟨Y, 0, none⟩ = some (.int .i64 t.id) := cell_blk JY.out 0
  have y1 : W.cell? ⟨Y, 1, none⟩ = some (.string t.nm) := cell_blk JY.out 1
  have y2 : W.cell? ⟨Y, 2, none⟩ = some cv := cell_blk JY.out 2
  have y3 : W.cell? ⟨Y, 3, none⟩ = some iv := cell_blk JY.out 3
  have y4 : W.cell? ⟨Y, 4, none⟩ = some kv := cell_blk JY.out 4
  have hcn := colNamed_any H3.out z
  rcases fidx_cases (fun y : Col => decide (y.nm = z)) t.cols with ⟨hf, _⟩ | ⟨i, hi, hf, -, -⟩
  · rw [hf] at hcn
    have HF := Lib.hid hf
    clear hf
    go_enter Try.func91, Try.ntmps91
    go_upto_region 1 with fail
    rw [← HW.out, HZZ.out]
    go_wp2_with (go_at_call 92; refine hcn.mono ?_; rintro e w1 ⟨rfl, b1⟩; refine Hid.out ?_)
    refine Lib.hid ?_
    have HB1 := Lib.hid b1
    clear hcn b1 sW y0 y1 y2 y3 y4
    go_wp2
    go_ret
    refine ⟨b, by rw [HWE.out]; unfold nmIx; rw [HF.out]; rfl, (HB1.out.block R (blk_lt JR.out)).trans JR.out, fun e => ?_, rfl, Fr.ofBelow _ (bgo HB.out HB1.out)⟩
    rw [HWE.out] at e
    unfold nmIx at e
    rw [HF.out] at e
    cases e
  · rw [hf] at hcn
    rcases Nat.eq_zero_or_pos i with hi0 | hi0
    · subst hi0
      have HF := Lib.hid hf
      clear hf hi
      go_enter Try.func91, Try.ntmps91
      go_upto_region 1 with fail
      rw [← HW.out, HZZ.out]
      go_wp2_with (go_at_call 92; refine hcn.mono ?_; rintro e w1 ⟨rfl, b1⟩; refine Hid.out ?_)
      refine Lib.hid ?_
      have HB1 := Lib.hid b1
      clear hcn b1 sW y0 y1 y2 y3 y4
      go_wp2
      go_ret
      refine ⟨b, by rw [HWE.out]; unfold nmIx; rw [HF.out]; rfl, (HB1.out.block R (blk_lt JR.out)).trans JR.out, fun e => ?_, rfl, Fr.ofBelow _ (bgo HB.out HB1.out)⟩
      rw [HWE.out] at e
      unfold nmIx at e
      rw [HF.out] at e
      cases e
    have g1 : ((i : Int) == -1) = false := by rw [beq_eq_false_iff_ne]; omega
    have g2 : ((i : Int) == 0) = false := by rw [beq_eq_false_iff_ne]; omega
    have HI0 := Lib.hid hi0
    clear hi0
    obtain ⟨ca, cc, e0, _⟩ := H30.out.c
    subst e0
    obtain ⟨n, hn⟩ : ∃ n, t.cols.length = n := ⟨_, rfl⟩
    have hin : i < n := by rw [← hn]; exact hi
    obtain ⟨_, cb, co, ead, hcb, k0, k1, k2, k3, k4, k5, k6⟩ := col_cells H30.out.c hi
    subst ead
    obtain ⟨c, hc⟩ : ∃ c, t.cols[i] = c := ⟨_, rfl⟩
    have hcN : colN t (nmIx t z) = c := by unfold nmIx; rw [hf, colN_at hi, hc]
    have HF := Lib.hid hf
    have HCN := Lib.hid hcN
    rw [hc] at k0 k1 k2 k3 k4 k5 k6
    have HK : Hid (W.cell? ⟨cb, co + i * 7, none⟩ = some (.int .i64 c.id) ∧ W.cell? ⟨cb, co + i * 7 + 1, none⟩ = some (.string c.nm) ∧ W.cell? ⟨cb, co + i * 7 + 2, none⟩ = some (.int .i64 c.kd) ∧ W.cell? ⟨cb, co + i * 7 + 3, none⟩ = some (.int .i64 c.st) ∧ W.cell? ⟨cb, co + i * 7 + 4, none⟩ = some (.int .i64 c.df.k) ∧ W.cell? ⟨cb, co + i * 7 + 5, none⟩ = some (.int .i64 c.df.n) ∧ W.cell? ⟨cb, co + i * 7 + 6, none⟩ = some (.string c.df.s)) := Lib.hid ⟨cell_on H00.out k0, cell_on H00.out k1, cell_on H00.out k2, cell_on H00.out k3, cell_on H00.out k4, cell_on H00.out k5, cell_on H00.out k6⟩
    have HCB : Hid (¬ cb = R ∧ ¬ Y = R ∧ ¬ Z = R) := Lib.hid ⟨by have := HRl.out; omega, fun e => by
      have h1 := JY.out
      rw [e, JR.out] at h1
      simp at h1, fun e => by
      have h1 := JZ.out
      rw [e, JR.out] at h1
      simp at h1⟩
    rw [hn] at *
    clear hf hcN hc k0 k1 k2 k3 k4 k5 k6 hi hcb
    go_enter Try.func91, Try.ntmps91
    go_upto_region 1 with fail
    rw [← HW.out, HZZ.out]
    go_wp2_with (go_at_call 92; refine hcn.mono ?_; rintro e w1 ⟨rfl, b1⟩; refine Hid.out ?_)
    refine Lib.hid ?_
    have HB1 := Lib.hid b1
    clear hcn sW y0 y1 y2 y3 y4
    obtain ⟨q1, q2, q3⟩ := HCB.out
    have y2 : w1.cell? ⟨Y, 2, none⟩ = some (.slice (some ⟨cb, co, none⟩) n cc) := cell_blk ((b1.block Y (blk_lt JY.out)).trans JY.out) 2
    have k0 := cell_on b1 HK.out.1
    have z8 : w1.cell? ⟨Z, 4, none⟩ = some (.int .i64 x.nv.k) := cell_blk ((b1.block Z (blk_lt JZ.out)).trans JZ.out) 4
    have z9 : w1.cell? ⟨Z, 5, none⟩ = some (.int .i64 x.nv.n) := cell_blk ((b1.block Z (blk_lt JZ.out)).trans JZ.out) 5
    have z10 : w1.cell? ⟨Z, 6, none⟩ = some (.string x.nv.s) := cell_blk ((b1.block Z (blk_lt JZ.out)).trans JZ.out) 6
    have jR1 := (b1.block R (blk_lt JR.out)).trans JR.out
    have r7 : w1.cell? ⟨R, 3, none⟩ = some (.int .i64 b.set) := cell_blk jR1 3
    have r8 : w1.cell? ⟨R, 4, none⟩ = some (.int .i64 b.nv.k) := cell_blk jR1 4
    have r9 : w1.cell? ⟨R, 5, none⟩ = some (.int .i64 b.nv.n) := cell_blk jR1 5
    have r10 : w1.cell? ⟨R, 6, none⟩ = some (.string b.nv.s) := cell_blk jR1 6
    have f7 := frozen_blk jR1 3
    have f8 := frozen_blk jR1 4
    have f9 := frozen_blk jR1 5
    have f10 := frozen_blk jR1 6
    have i0 : (0 : Int) ≤ i := by omega
    have i1 : (i : Int) < n := by omega
    have HJ1 := Lib.hid jR1
    clear b1 jR1
    obtain ⟨X, hX, jX, fX, fwX⟩ := bd_four HJ1.out (Fr.ofBelow _ (bgo HB.out HB1.out)) 3 4 5 6 (.int .i64 c.id) (.int .i64 x.nv.k) (.int .i64 x.nv.n) (.string x.nv.s)
    have HX := Lib.hid hX
    have JX := Lib.hid jX
    have FX := Lib.hid fX
    have FWX := Lib.hid fwX
    have hblk : ∀ {k : Nat} {o : Obj}, k ≠ R → w1.heap[k]? = some o → X.heap[k]? = some o := fun hk ho => (FX.out.block _ (blk_lt ho) hk).trans ho
    have JYX := Lib.hid (hblk q2 ((HB1.out.block Y (blk_lt JY.out)).trans JY.out))
    have JZX := Lib.hid (hblk q3 ((HB1.out.block Z (blk_lt JZ.out)).trans JZ.out))
    have hcell : ∀ {j : Nat} {u : Value}, W.cell? ⟨cb, j, none⟩ = some u → X.cell? ⟨cb, j, none⟩ = some u := fun hu => by
      have h1 := cell_on HB1.out hu
      have hl : cb < w1.heap.size := by
        refine Classical.byContradiction fun q => ?_
        unfold World.cell? at h1
        rw [Array.getElem?_eq_none (by simpa using q)] at h1
        simp at h1
      unfold World.cell? at h1 ⊢
      rw [FX.out.block cb hl q1]
      exact h1
    have HKX := Lib.hid (And.intro (hcell HK.out.1) (And.intro (hcell HK.out.2.1) (And.intro (hcell HK.out.2.2.1) (And.intro (hcell HK.out.2.2.2.1) (And.intro (hcell HK.out.2.2.2.2.1) (And.intro (hcell HK.out.2.2.2.2.2.1) (hcell HK.out.2.2.2.2.2.2)))))))
    clear hX jX fX fwX hblk hcell
    go_wp2
    go_region
    rw [← HX.out]
    clear y2 k0 z8 z9 z10 r7 r8 r9 r10 f7 f8 f9 f10
    have y2 : X.cell? ⟨Y, 2, none⟩ = some (.slice (some ⟨cb, co, none⟩) n cc) := cell_blk JYX.out 2
    have z8 : X.cell? ⟨Z, 4, none⟩ = some (.int .i64 x.nv.k) := cell_blk JZX.out 4
    have z9 : X.cell? ⟨Z, 5, none⟩ = some (.int .i64 x.nv.n) := cell_blk JZX.out 5
    have z10 : X.cell? ⟨Z, 6, none⟩ = some (.string x.nv.s) := cell_blk JZX.out 6
    obtain ⟨k0, k1, k2, k3, k4, k5, k6⟩ := HKX.out
    go_wp2
    go_region_with (go_at_call 89; refine (fits_any c x.nv).mono ?_; rintro e w2 ⟨rfl, b2⟩)
    all_goals
      go_wp2
      go_ret
      have b3 : Below X.heap.size X w2 := ⟨b2.os, b2.tape, b2.output, b2.size, b2.block⟩
      refine ⟨{ b with set := c.id, nv := x.nv }, ?_, (b3.block R (blk_lt JX.out)).trans JX.out, fun _ => ?_, rfl, FWX.out.below b3⟩
      · rw [HWE.out, HCN.out, if_neg (by unfold nmIx; rw [HF.out]; omega), if_neg (by unfold nmIx; rw [HF.out]; have := HI0.out; omega)]
        rfl
      · rw [HWB.out, HCN.out]
end
end Go.Proofs.Ytkfnphhoebknnaa
