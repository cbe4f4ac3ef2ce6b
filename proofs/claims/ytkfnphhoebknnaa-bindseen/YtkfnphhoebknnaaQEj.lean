import Derived.Test.YtkfnphhoebknnaaQEi
import Derived.Test.YtkfnphhoebknnaaQSd
import Derived.Test.YtkfnphhoebknnaaQHa
namespace Go.Proofs.Ytkfnphhoebknnaa
open Go.RowKit
theorem tabIx_seen (s : Sc) (z : ByteArray) : tabIx (seenS s) z = fidx (fun x => decide (x.nm = z)) s.tabs := by
  unfold tabIx seenS
  rcases fidx_cases (fun y : Tb => decide (y.nm = z)) s.tabs with ⟨hf, hn⟩ | ⟨i, hi, hf, hp, hn⟩
  · rw [hf]
    exact fidx_none (fun j hj => by
      have hj' : j < s.tabs.length := by simpa using hj
      have := hn s.tabs[j] (List.getElem_mem hj')
      simpa [seenP] using this)
  · rw [hf]
    have hi' : i < (s.tabs.map seenP).length := by simpa using hi
    refine fidx_at (p := fun x : Tb => decide (x.nm = z)) hi' (by simpa [seenP] using hp) (fun j hj hji => ?_)
    have hj' : j < s.tabs.length := by simpa using hj
    have := hn j hj' hji
    simpa [seenP] using this
theorem nil_own (b : Bd) (h : b.vals = []) (w : World) (B : Nat) : w.ownsRow B 37 3 (.slice none 0 0) b.vals.length (b.vals.flatMap vlL) := by
  rw [h]
  exact World.ownsRow_nil _ _ 37 3
theorem field24_2 (a b c : Value) (X : World) : (Instr.field 24 (.agg #[a, b, c]) 2).run Try.prog X = .ok c X := by kernel_rfl
section
variable {w : World}
set_option maxHeartbeats 16000000 in
set_option maxRecDepth 100000 in
theorem oneR_any {s : Sc} {tv vv dv : Value} {x : St} (hL : Lr tbE 5 w s.tabs tv) (hf : Few s.tabs) (hv : Lr valsE 3 w x.vals vv) (hz : x.vals.length ≤ 1000000) (hdv : dv.oneCell' = true) : Calls Try.prog 19 #[scV s tv, .agg (stmtA x vv dv)] w fun e w' => ∃ b ba bn bc, e = .returned (.tuple #[.agg (bdA b (.slice ba bn bc)), .int .i64 (oneE (seenS s) x)]) ∧ (oneE (seenS s) x = 0 → b = oneB (seenS s) x ∧ w'.ownsRow w.heap.size 37 3 (.slice ba bn bc) b.vals.length (b.vals.flatMap vlL)) ∧ Below w.heap.size w w' := by
  obtain ⟨va, vc, rfl, hvr⟩ := hv
  have hv : Lr valsE 3 w x.vals (.slice va x.vals.length vc) := ⟨va, vc, rfl, hvr⟩
  obtain ⟨ta, tc, rfl, htr⟩ := hL
  have hL : Lr tbE 5 w s.tabs (.slice ta s.tabs.length tc) := ⟨ta, tc, rfl, htr⟩
  clear hvr htr
  obtain ⟨vv, hvv⟩ : ∃ vv, Value.slice va x.vals.length vc = vv := ⟨_, rfl⟩
  rw [hvv] at hv ⊢
  have HVV := Lib.hid hvv
  clear hvv
  obtain ⟨tn, htn⟩ : ∃ tn, s.tabs.length = tn := ⟨_, rfl⟩
  rw [htn] at hL
  unfold scV
  rw [htn]
  have HTN := Lib.hid htn
  clear htn
  obtain ⟨W, hW⟩ : ∃ W, W = ((w.alloc (.cells (#[.int .i64 s.ver, .int .i64 s.last, .slice ta tn tc]) 24)).alloc (.cells (stmtA x vv dv) 46)).alloc (.cells (#[.int .i64 0, .int .i64 0, .slice none 0 0, .int .i64 0, .int .i64 0, .int .i64 0, .string ⟨#[]⟩, .int .i64 0, .int .i64 0, .int .i64 0, .string ⟨#[]⟩]) 39) := ⟨_, rfl⟩
  have hbW : Below w.heap.size w W := by
    rw [hW]
    exact bgo (bgo (bnew _ _) (bnew _ _)) (bnew _ _)
  obtain ⟨Y0, hY0⟩ : ∃ Y0, w.heap.size = Y0 := ⟨_, rfl⟩
  obtain ⟨Y1, hY1⟩ : ∃ Y1, Y0 + 1 = Y1 := ⟨_, rfl⟩
  obtain ⟨Y2, hY2⟩ : ∃ Y2, Y1 + 1 = Y2 := ⟨_, rfl⟩
  have j0 : W.heap[Y0]? = some (.cells (#[.int .i64 s.ver, .int .i64 s.last, .slice ta tn tc]) 24 (0, 0)) := by
    have := heap_alloc_new (w) (.cells (#[.int .i64 s.ver, .int .i64 s.last, .slice ta tn tc]) 24)
    rw [hW, ← hY0, Below.heap_alloc _ _ _ (by simp only [World.size_alloc]; omega), Below.heap_alloc _ _ _ (by simp only [World.size_alloc]; omega)]
    exact this
  have j1 : W.heap[Y1]? = some (.cells (stmtA x vv dv) 46 (0, 0)) := by
    have := heap_alloc_new (w.alloc (.cells (#[.int .i64 s.ver, .int .i64 s.last, .slice ta tn tc]) 24)) (.cells (stmtA x vv dv) 46)
    simp only [World.size_alloc] at this
    rw [hW, ← hY1, ← hY0, Below.heap_alloc _ _ _ (by simp only [World.size_alloc]; omega)]
    exact this
  have j2 : W.heap[Y2]? = some (.cells (#[.int .i64 0, .int .i64 0, .slice none 0 0, .int .i64 0, .int .i64 0, .int .i64 0, .string ⟨#[]⟩, .int .i64 0, .int .i64 0, .int .i64 0, .string ⟨#[]⟩]) 39 (0, 0)) := by
    have := heap_alloc_new ((w.alloc (.cells (#[.int .i64 s.ver, .int .i64 s.last, .slice ta tn tc]) 24)).alloc (.cells (stmtA x vv dv) 46)) (.cells (#[.int .i64 0, .int .i64 0, .slice none 0 0, .int .i64 0, .int .i64 0, .int .i64 0, .string ⟨#[]⟩, .int .i64 0, .int .i64 0, .int .i64 0, .string ⟨#[]⟩]) 39)
    simp only [World.size_alloc] at this
    rw [hW, ← hY2, ← hY1, ← hY0]
    exact this
  have GE : Hid (w.heap.size ≤ Y0 ∧ w.heap.size ≤ Y1 ∧ w.heap.size ≤ Y2 ∧ Y2 + 1 = W.heap.size) := Lib.hid ⟨by omega, by omega, by omega, by rw [hW]; simp only [World.size_alloc]; omega⟩
  have HL := Lib.hid (hL.on tbE_held hbW)
  have HV := Lib.hid (hv.on valsE_held hbW)
  have HW := Lib.hid hW
  have HB := Lib.hid hbW
  have HY0 := Lib.hid hY0
  have HY1 := Lib.hid hY1
  have HY2 := Lib.hid hY2
  have J0 := Lib.hid j0
  have J1 := Lib.hid j1
  have J2 := Lib.hid j2
  have HF := Lib.hid hf
  have HZ := Lib.hid hz
  have HDV := Lib.hid hdv
  have s0 : W.cell? ⟨Y0, 0, none⟩ = some (.int .i64 s.ver) := cell_blk j0 0
  have s1 : W.cell? ⟨Y0, 1, none⟩ = some (.int .i64 s.last) := cell_blk j0 1
  have s2 : W.cell? ⟨Y0, 2, none⟩ = some (.slice ta tn tc) := cell_blk j0 2
  have x0 : W.cell? ⟨Y1, 0, none⟩ = some (.int .i64 x.kind) := cell_blk j1 0
  have x1 : W.cell? ⟨Y1, 1, none⟩ = some (.string x.tab) := cell_blk j1 1
  obtain ⟨kd, hkd⟩ : ∃ kd, x.kind = kd := ⟨_, rfl⟩
  rw [hkd] at x0
  have HKD := Lib.hid hkd
  clear hW hbW hY0 hY1 hY2 j0 j1 j2 hf hz hdv hL hv hkd
  have HBAD : Hid (∀ (V : World), Below W.heap.size W V → ∃ X', (Instr.storeAt 39 (.pointer (some ⟨Y2, 0, none⟩)) (.agg zBA)).run Try.prog V = .ok () X' ∧ X'.heap[Y2]? = some (.cells zBA 39 (0, 0)) ∧ Below w.heap.size w X') := Lib.hid fun V hV => by
    obtain ⟨X', h1, h2, h3⟩ := st_row ((hV.block Y2 (blk_lt J2.out)).trans J2.out) (us := zBA) rfl size39 (by simp [Value.oneCell'])
    exact ⟨X', h1, h2, (bgo HB.out hV).trans (h3.toBelow (fun k hk q => by have := GE.out.2.2.1; omega) (bgo HB.out hV).size)⟩
  have HOE : Hid (oneE (seenS s) x = if kd < 1 ∨ 4 < kd then 1 else if tabIx (seenS s) x.tab = -1 then 150 else ruleE (tabN (seenS s) (tabIx (seenS s) x.tab)) x) := Lib.hid (by unfold oneE; rw [HKD.out])
  have bad : ∀ (er : Int) (_ : oneE (seenS s) x = er) (_ : er ≠ 0) (X' : World), X'.heap[Y2]? = some (.cells zBA 39 (0, 0)) → Below w.heap.size w X' → ∃ b ba bn bc, Ending.returned (.tuple #[.agg zBA, .int .i64 er]) = .returned (.tuple #[.agg (bdA b (.slice ba bn bc)), .int .i64 (oneE (seenS s) x)]) ∧ (oneE (seenS s) x = 0 → b = oneB (seenS s) x ∧ X'.ownsRow w.heap.size 37 3 (.slice ba bn bc) b.vals.length (b.vals.flatMap vlL)) ∧ Below w.heap.size w X' := fun er h1 h2 X' _ hb => ⟨zeroB, none, 0, 0, by rw [h1]; rfl, fun q => absurd (h1.symm.trans q) h2, hb⟩
  have BAD := Lib.hid bad
  clear bad
  by_cases h1 : kd < 1
  · obtain ⟨X', hst, j', b'⟩ := HBAD.out W (Below.refl _ _)
    have HR := Lib.hid (And.intro j' b')
    have HE : Hid (oneE (seenS s) x = 1) := Lib.hid (by rw [HOE.out, if_pos (.inl h1)])
    clear j' b'
    go_enter Try.func19, Try.ntmps19
    go_upto_region 1 with fail
    rw [← HW.out, HY0.out, HY1.out, HY2.out]
    go_wp2_with (refine wpl_store _ _ rfl (by simp [Act.eval]) (by simp [Act.eval]) hst ?_)
    refine bodyPost_ret (results_two rfl rfl rfl (load_var HR.out.1 Try.underlying39 rfl size39)) rfl ?_
    exact BAD.out _ HE.out (by decide) _ HR.out.1 HR.out.2
  by_cases h4 : 4 < kd
  · obtain ⟨X', hst, j', b'⟩ := HBAD.out W (Below.refl _ _)
    have HR := Lib.hid (And.intro j' b')
    have HE : Hid (oneE (seenS s) x = 1) := Lib.hid (by rw [HOE.out, if_pos (.inr h4)])
    clear j' b'
    go_enter Try.func19, Try.ntmps19
    go_upto_region 1 with fail
    rw [← HW.out, HY0.out, HY1.out, HY2.out]
    go_wp2_with (refine wpl_store _ _ rfl (by simp [Act.eval]) (by simp [Act.eval]) hst ?_)
    refine bodyPost_ret (results_two rfl rfl rfl (load_var HR.out.1 Try.underlying39 rfl size39)) rfl ?_
    exact BAD.out _ HE.out (by decide) _ HR.out.1 HR.out.2
  have HO2 : Hid (oneE (seenS s) x = if tabIx (seenS s) x.tab = -1 then 150 else ruleE (tabN (seenS s) (tabIx (seenS s) x.tab)) x) := Lib.hid (by rw [HOE.out, if_neg (fun q => q.elim h1 h4)])
  rcases fidx_cases (fun y : Tb => decide (y.nm = x.tab)) s.tabs with ⟨hfx, _⟩ | ⟨i, hi, hfx, -, -⟩
  · have hcall := tabAt_any (w := W) (s := s) (tv := .slice ta tn tc) HL.out x.tab
    rw [hfx] at hcall
    unfold scV at hcall
    have HE : Hid (oneE (seenS s) x = 150) := Lib.hid (by rw [HO2.out, if_pos (by rw [tabIx_seen]; exact hfx)])
    clear hfx
    go_enter Try.func19, Try.ntmps19
    go_upto_region 1 with fail
    rw [← HW.out, HY0.out, HY1.out, HY2.out]
    go_upto_region 5 with (go_at_call 22; refine hcall.mono ?_; rintro e w1 ⟨rfl, b1⟩; refine Hid.out ?_)
    refine Lib.hid ?_
    have HB1 := Lib.hid b1
    clear hcall b1 s0 s1 s2 x0 x1
    obtain ⟨X', hst, j', b'⟩ := HBAD.out _ HB1.out
    have HR := Lib.hid (And.intro j' b')
    clear j' b'
    go_wp2_with (refine wpl_store _ _ rfl (by simp [Act.eval]) (by simp [Act.eval]) hst ?_)
    refine bodyPost_ret (results_two rfl rfl rfl (load_var HR.out.1 Try.underlying39 rfl size39)) rfl ?_
    exact BAD.out _ HE.out (by decide) _ HR.out.1 HR.out.2
  have hiS : i < (seenS s).tabs.length := by unfold seenS; simpa using hi
  obtain ⟨t, ht⟩ : ∃ t, (seenS s).tabs[i] = t := ⟨_, rfl⟩
  have htab : tabN (seenS s) (tabIx (seenS s) x.tab) = t := by
    rw [tabIx_seen, hfx]
    unfold tabN
    rw [Int.toNat_natCast, List.getD_eq_getElem?_getD, List.getElem?_eq_getElem hiS, ht]
    rfl
  have hcall := tabAt_any (w := W) (s := s) (tv := .slice ta tn tc) HL.out x.tab
  rw [hfx] at hcall
  unfold scV at hcall
  have HO3 : Hid (oneE (seenS s) x = if kd = 1 then valE t x else if kd = 2 then (if setE t x = 0 then whereE t x else setE t x) else whereE t x) := Lib.hid (by rw [HO2.out, if_neg (by rw [tabIx_seen, hfx]; omega), htab]; unfold ruleE; rw [HKD.out])
  have HO4 : Hid (oneB (seenS s) x = if kd = 1 then valB x ⟨kd, t.id, [], 0, noV, 0, noV⟩ else if kd = 2 then whereB t x (setB t x ⟨kd, t.id, [], 0, noV, 0, noV⟩) else whereB t x ⟨kd, t.id, [], 0, noV, 0, noV⟩) := Lib.hid (by unfold oneB; rw [htab]; unfold ruleB; rw [HKD.out])
  have HIS : Hid (∃ h : i < (seenS s).tabs.length, (seenS s).tabs[i] = t) := Lib.hid ⟨hiS, ht⟩
  have gi : ¬ ((i : Int) < 0) := by omega
  have ki0 : (0 : Int) ≤ (i : Int) := by omega
  clear htab hfx hi ht
  go_enter Try.func19, Try.ntmps19
  go_upto_region 1 with fail
  rw [← HW.out, HY0.out, HY1.out, HY2.out]
  go_upto_region 6 with (go_at_call 22; refine hcall.mono ?_; rintro e w1 ⟨rfl, b1⟩; refine Hid.out ?_)
  refine Lib.hid ?_
  have HB1 := Lib.hid b1
  have hseen := refseen_any (w := w1) (s := s) (tv := .slice ta tn tc) (HL.out.on tbE_held b1) HF.out
  unfold scV at hseen
  have s0' := cell_on b1 s0
  have s1' := cell_on b1 s1
  have s2' := cell_on b1 s2
  clear hcall b1 s0 s1 s2 x0 x1
  go_upto_region 6 with fail
  obtain ⟨un, hun⟩ : ∃ un, (seenS s).tabs.length = un := ⟨_, rfl⟩
  have HUN := Lib.hid hun
  have kiu : (i : Int) < (un : Int) := by omega
  clear hun hiS
  go_upto_region 7 with (go_at_call 13; refine hseen.mono ?_; rintro e w2 ⟨G, tv', rfl, hG, hD, b2⟩; refine Hid.out ?_)
  refine Lib.hid ?_
  have hT := (show Lr tbE 5 w2 (seenS s).tabs tv' by have := hD.reads; rw [hG] at this; exact this)
  obtain ⟨ua, uc, hu, -⟩ := hT.shape
  subst hu
  obtain ⟨q, qo, qcs, rfl, hq, hE, hqr⟩ := hT.at.2.2.2 i HIS.out.1
  obtain ⟨his1, his2⟩ := HIS.out
  obtain ⟨cv, iv, kv, rfl, h3⟩ := hE
  rw [his2] at hqr h3
  clear his2 his1
  obtain ⟨ca, cc, hcv, -⟩ := h3.c.shape
  obtain ⟨ia, ic, hiv, -⟩ := h3.i.shape
  obtain ⟨ka, kc, hkv, -⟩ := h3.k.shape
  subst hcv hiv hkv
  obtain ⟨cn, hcl⟩ : ∃ cn, t.cols.length = cn := ⟨_, rfl⟩
  obtain ⟨iN, hil⟩ : ∃ iN, t.ixs.length = iN := ⟨_, rfl⟩
  obtain ⟨kn, hkl⟩ : ∃ kn, t.fks.length = kn := ⟨_, rfl⟩
  have hcm := h3.c.at.2
  rw [hcl, hil, hkl] at h3 hqr
  rw [HUN.out]
  have hcn1 : (cn : Int) ≤ 9223372036854775807 := by have := hcm; unfold maxLen at this; omega
  have d0 : w2.cell? ⟨q, qo + i * 5, none⟩ = some (.int .i64 t.id) := hqr 0 _ rfl
  have d1 : w2.cell? ⟨q, qo + i * 5 + 1, none⟩ = some (.string t.nm) := hqr 1 _ rfl
  have d2 : w2.cell? ⟨q, qo + i * 5 + 2, none⟩ = some (.slice ca cn cc) := hqr 2 _ rfl
  have d3 : w2.cell? ⟨q, qo + i * 5 + 3, none⟩ = some (.slice ia iN ic) := hqr 3 _ rfl
  have d4 : w2.cell? ⟨q, qo + i * 5 + 4, none⟩ = some (.slice ka kn kc) := hqr 4 _ rfl
  obtain ⟨V0, hV0⟩ : ∃ V0, V0 = w2.alloc (.cells (tbA t (.slice ca cn cc) (.slice ia iN ic) (.slice ka kn kc)) 54) := ⟨_, rfl⟩
  have hsz : V0.heap.size = w2.heap.size + 1 := by rw [hV0]; simp only [World.size_alloc]
  obtain ⟨V, hV⟩ : ∃ V, V = V0.alloc (.cells #[.int .i64 kd, .int .i64 t.id, .slice none 0 0, .int .i64 0, .int .i64 0, .int .i64 0, .string ⟨#[]⟩, .int .i64 0, .int .i64 0, .int .i64 0, .string ⟨#[]⟩] 39) := ⟨_, rfl⟩
  obtain ⟨T, hT0⟩ : ∃ T, w2.heap.size = T := ⟨_, rfl⟩
  obtain ⟨R, hR⟩ : ∃ R, T + 1 = R := ⟨_, rfl⟩
  have hb0 : Below w2.heap.size w2 V0 := by rw [hV0]; exact bnew _ _
  have hbV : Below w2.heap.size w2 V := by rw [hV]; exact bgo hb0 (bnew _ _)
  have j1w2 := ((bgo HB1.out b2).block Y1 (blk_lt J1.out)).trans J1.out
  have v0 : V0.cell? ⟨Y1, 0, none⟩ = some (.int .i64 kd) := by
    refine cell_on hb0 ?_
    rw [← HKD.out]
    exact cell_blk j1w2 0
  have j0T : V0.heap[T]? = some (.cells (tbA t (.slice ca cn cc) (.slice ia iN ic) (.slice ka kn kc)) 54 (0, 0)) := by
    rw [hV0, ← hT0]
    exact heap_alloc_new _ _
  have jT : V.heap[T]? = some (.cells (tbA t (.slice ca cn cc) (.slice ia iN ic) (.slice ka kn kc)) 54 (0, 0)) := by
    rw [hV, Below.heap_alloc _ _ _ (by omega)]
    exact j0T
  have v1 : V0.cell? ⟨T, 0, none⟩ = some (.int .i64 t.id) := cell_blk j0T 0
  have jR : V.heap[R]? = some (.cells (bdA ⟨kd, t.id, [], 0, noV, 0, noV⟩ (.slice none 0 0)) 39 (0, 0)) := by
    rw [hV, ← hR, ← hT0, ← hsz]
    exact heap_alloc_new _ _
  have HVe := Lib.hid hV
  have HV0 := Lib.hid hV0
  have HS0 := Lib.hid hsz
  have HT := Lib.hid hT0
  have HR := Lib.hid hR
  have HBW2 : Hid (Below W.heap.size W w2) := Lib.hid (bgo HB1.out b2)
  have HBw2 : Hid (Below w.heap.size w w2) := Lib.hid (bgo HB.out HBW2.out)
  have HB2U := Lib.hid hbV
  have JTU := Lib.hid jT
  have JRU := Lib.hid jR
  have J1U := Lib.hid ((hbV.block Y1 (blk_lt j1w2)).trans j1w2)
  have J2U := Lib.hid (((bgo (bgo HB1.out b2) hbV).block Y2 (blk_lt J2.out)).trans J2.out)
  have H3 : Hid (Three w2 t (.slice ca cn cc) (.slice ia iN ic) (.slice ka kn kc)) := Lib.hid h3
  have HCL := Lib.hid hcl
  have HRG : Hid (w2.heap.size ≤ R ∧ T ≠ R ∧ Y1 ≠ R ∧ Y2 ≠ R) := Lib.hid ⟨by omega, by omega, fun e => by
    have h1 := J1U.out
    rw [e, jR] at h1
    simp at h1, fun e => by
    have h1 := blk_lt J2.out
    have h2 := HBW2.out.size
    omega⟩
  have HB2 := Lib.hid b2
  have HVW2 := Lib.hid (HV.out.on valsE_held HBW2.out)
  clear hseen hG hD b2 s0' s1' s2' hT hq hqr h3 hV hV0 hT0 hR hb0 hbV j0T jT jR j1w2 hsz hcl hil hkl hcm
  have hfld := field24_2
  go_upto_region 7 with fail
  rw [← HV0.out, HT.out]
  clear hfld
  clear d0 d1 d2 d3 d4
  go_upto_region 8 with fail
  rw [← HVe.out, HS0.out, HT.out, HR.out]
  clear v0 v1
  have x0 : V.cell? ⟨Y1, 0, none⟩ = some (.int .i64 kd) := by rw [← HKD.out]; exact cell_blk J1U.out 0
  obtain ⟨zw, hzw⟩ : ∃ zw, x.wh = zw := ⟨_, rfl⟩
  have HZwh := Lib.hid hzw
  obtain ⟨zs, hzs⟩ : ∃ zs, x.set = zs := ⟨_, rfl⟩
  have HZset := Lib.hid hzs
  have HSwh : Hid (whereE t x = if zw = ⟨#[]⟩ then 0 else if nmIx t zw = -1 then 151 else fitP x.be (colN t (nmIx t zw)).kd) := Lib.hid (by unfold whereE; rw [hzw])
  have HSset : Hid (setE t x = if nmIx t zs = -1 then 151 else if nmIx t zs = 0 then 155 else fitP x.nv (colN t (nmIx t zs)).kd) := Lib.hid (by unfold setE; rw [hzs])
  have HHS : Hid (zw.toList.isEmpty = decide (zw = ⟨#[]⟩)) := Lib.hid (by
    rw [← same_eq zw ⟨#[]⟩]
    have hem : (⟨#[]⟩ : ByteArray).toList = [] := by rw [ByteArray.toList_eq]
    rw [hem]
    cases zw.toList <;> rfl)
  clear hzw hzs
  by_cases h1e : kd = 1
  · subst h1e
    have HEV : Hid (oneE (seenS s) x = valE t x) := Lib.hid (by rw [HO3.out, if_pos rfl])
    have HOB : Hid (oneB (seenS s) x = valB x ⟨1, t.id, [], 0, noV, 0, noV⟩) := Lib.hid (by rw [HO4.out, if_pos rfl])
    have HVE : Hid (valE t x = if x.vals.length = t.cols.length then vAll (valE1 t x) x.vals.length else 190) := Lib.hid rfl
    obtain ⟨n, hn⟩ : ∃ n, x.vals.length = n := ⟨_, rfl⟩
    have hvl := HVW2.out
    rw [← HVV.out, hn] at hvl
    have hnm := hvl.at.2
    have HVL := Lib.hid hvl
    have HN := Lib.hid hn
    have hn1 : (n : Int) ≤ 9223372036854775807 := by have q1 := hnm.1; have q2 := hnm.2.1; unfold maxLen at q1; omega
    have X2 : ∀ (U : World), U.heap[Y1]? = some (.cells (stmtA x vv dv) 46 (0, 0)) → U.cell? ⟨Y1, 2, none⟩ = some (.slice va n vc) := fun U hj => by
      rw [cell_blk hj, ← HVV.out, HN.out]
      rfl
    have HX2C := Lib.hid X2
    have x2 := X2 _ J1U.out
    have t2 : V.cell? ⟨T, 2, none⟩ = some (.slice ca cn cc) := cell_blk JTU.out 2
    clear hvl hnm hn X2 h1 h4
    by_cases hnc : n = cn
    · subst hnc
      have HE2 : Hid (valE t x = vAll (valE1 t x) n) := Lib.hid (by rw [HVE.out, if_pos (by rw [HN.out, HCL.out]), HN.out])
      go_upto_region 9 with fail
      clear x0
      go_wp2
      go_loopw [9] (fun iv wr => ∃ i : Nat, i ≤ n ∧ iv = .int .i64 (i : Int) ∧ Hid (vAll (valE1 t x) i = 0) ∧ Below V.heap.size V wr) (fun iv _ => n - (intOf iv).toNat)
      case atStart => exact ⟨0, Nat.zero_le _, rfl, Lib.hid rfl, Below.refl _ _⟩
      case round =>
        obtain ⟨j, hj, rfl, HI, hb⟩ := hrel
        obtain ⟨U, hU⟩ : ∃ U, U = wr := ⟨_, rfl⟩
        subst hU
        have HBVU := Lib.hid hb
        have HB2U := Lib.hid (bgo HB2U.out hb)
        have JTU := Lib.hid ((hb.block T (blk_lt JTU.out)).trans JTU.out)
        have JRU := Lib.hid ((hb.block R (blk_lt JRU.out)).trans JRU.out)
        have J1U := Lib.hid ((hb.block Y1 (blk_lt J1U.out)).trans J1U.out)
        have J2U := Lib.hid ((hb.block Y2 (blk_lt J2U.out)).trans J2U.out)
        clear x2 t2
        have x2 := HX2C.out _ J1U.out
        have t2 : U.cell? ⟨T, 2, none⟩ = some (.slice ca n cc) := cell_blk JTU.out 2
        by_cases hlt : j < n
        · have hlv : j < x.vals.length := by rw [HN.out]; exact hlt
          have hlc : j < t.cols.length := by rw [HCL.out]; exact hlt
          obtain ⟨vb, vo, vcs, ev, hvb, hE, hvr⟩ := (HVL.out.on valsE_held HB2U.out).at.2.2.2 j hlv
          have HEV0 := Lib.hid ev
          rw [ev] at x2
          have hE' : vcs = vlL x.vals[j] := hE
          subst hE'
          obtain ⟨cb, co, ccs, ec, hcb, hE2, hcr⟩ := (H3.out.on HB2U.out).c.at.2.2.2 j hlc
          have HEC0 := Lib.hid ec
          rw [ec] at t2
          have hE' : ccs = colL t.cols[j] := hE2
          subst hE'
          obtain ⟨v, hvv⟩ : ∃ v, x.vals[j] = v := ⟨_, rfl⟩
          obtain ⟨c, hcc⟩ : ∃ c, t.cols[j] = c := ⟨_, rfl⟩
          rw [hvv] at hvr
          rw [hcc] at hcr
          have hvD : x.vals.getD j noV = v := by rw [List.getD_eq_getElem?_getD, List.getElem?_eq_getElem hlv, hvv]; rfl
          have hcD : colN t (j : Int) = c := by rw [colN_at hlc, hcc]
          have HVE1 : Hid (valE1 t x j = if fitP v c.kd = 0 then (if j = 0 ∧ v.k = 0 then 191 else 0) else fitP v c.kd) := Lib.hid (by unfold valE1; rw [hvD, hcD])
          have HERR : Hid (∀ er, valE1 t x j = er → er ≠ 0 → oneE (seenS s) x = er) := Lib.hid (fun er he hne => by rw [HEV.out, HE2.out, vAll_stop HI.out (by rw [he]; exact hne) n hlt, he])
          have c0 : U.cell? ⟨vb, vo + j * 3, none⟩ = some (.int .i64 v.k) := hvr 0 _ rfl
          have c1 : U.cell? ⟨vb, vo + j * 3 + 1, none⟩ = some (.int .i64 v.n) := hvr 1 _ rfl
          have c2 : U.cell? ⟨vb, vo + j * 3 + 2, none⟩ = some (.string v.s) := hvr 2 _ rfl
          have HVR := Lib.hid hvr
          have HCR := Lib.hid hcr
          have HLT := Lib.hid hlt
          have k0 : (0 : Int) ≤ (j : Int) := by omega
          have k1 : (j : Int) < (n : Int) := by omega
          have hright := right_any v.k v.n v.s U
          have HFP : Hid (fitP v c.kd = if rightB v.k v.n v.s = false then 10 else if v.k = 0 ∨ v.k = c.kd then 0 else 154) := Lib.hid rfl
          clear hb hvr hcr hvv hcc hvD hcD hE hE2 hvb hcb hlv hlc ev ec hlt
          cases hrb : rightB v.k v.n v.s with
          | false =>
            rw [hrb] at hright
            have HV10 : Hid (fitP v c.kd = 10) := Lib.hid (by rw [HFP.out, hrb]; rfl)
            clear hrb
            go_upto_region 15 with (first | (go_at_call 40; refine hright.mono ?_; rintro e w5 ⟨rfl, b5⟩; refine Hid.out ?_) | fail)
            refine Lib.hid ?_
            have HB2U := Lib.hid (bgo HB2U.out b5)
            have JTU := Lib.hid ((b5.block T (blk_lt JTU.out)).trans JTU.out)
            have JRU := Lib.hid ((b5.block R (blk_lt JRU.out)).trans JRU.out)
            have J1U := Lib.hid ((b5.block Y1 (blk_lt J1U.out)).trans J1U.out)
            have J2U := Lib.hid ((b5.block Y2 (blk_lt J2U.out)).trans J2U.out)
            clear hright b5 x2 t2 c0 c1 c2
            have HNE : Hid ((10 : Int) ≠ 0) := Lib.hid (by decide)
            have HE : Hid (oneE (seenS s) x = 10) := Lib.hid (HERR.out 10 (by rw [HVE1.out, HV10.out]; rfl) HNE.out)
            obtain ⟨X', hst, j', b'⟩ := HBAD.out w5 (bgo HBW2.out HB2U.out)
            have HXR := Lib.hid (And.intro j' b')
            clear j' b'
            go_wp2_with (refine wpl_store _ _ rfl (by first | rfl | (simp [Act.eval]; done)) (by first | rfl | (simp [Act.eval]; done)) hst ?_)
            refine bodyPost_ret (results_two rfl rfl rfl (load_var HXR.out.1 Try.underlying39 rfl size39)) rfl ?_
            exact BAD.out _ HE.out HNE.out _ HXR.out.1 HXR.out.2
          | true =>
            rw [hrb] at hright
            have HV10 : Hid (fitP v c.kd = if v.k = 0 ∨ v.k = c.kd then 0 else 154) := Lib.hid (by rw [HFP.out, hrb]; rfl)
            clear hrb
            go_upto_region 16 with (first | (go_at_call 40; refine hright.mono ?_; rintro e w5 ⟨rfl, b5⟩; refine Hid.out ?_) | fail)
            refine Lib.hid ?_
            have HB2U := Lib.hid (bgo HB2U.out b5)
            have JTU := Lib.hid ((b5.block T (blk_lt JTU.out)).trans JTU.out)
            have JRU := Lib.hid ((b5.block R (blk_lt JRU.out)).trans JRU.out)
            have J1U := Lib.hid ((b5.block Y1 (blk_lt J1U.out)).trans J1U.out)
            have J2U := Lib.hid ((b5.block Y2 (blk_lt J2U.out)).trans J2U.out)
            have HVR := Lib.hid (range_on b5 HVR.out)
            have HCR := Lib.hid (range_on b5 HCR.out)
            have HBVU := Lib.hid (bgo HBVU.out b5)
            clear hright b5 x2 t2 c0 c1 c2
            have hx2 := HX2C.out _ J1U.out
            rw [HEV0.out] at hx2
            have HXC := Lib.hid hx2
            have ht2 : w5.cell? ⟨T, 2, none⟩ = some (.slice ca n cc) := cell_blk JTU.out 2
            rw [HEC0.out] at ht2
            have HTC := Lib.hid ht2
            clear hx2 ht2
            have HCUT : Hid ((j = 0 ∧ v.k = 0) ∨ ¬ (j = 0 ∧ v.k = 0)) := Lib.hid (Classical.em _)
            by_cases hj0 : j = 0
            · have g0 : ((j : Int) == 0) = true := by rw [hj0]; rfl
              have HJ0 := Lib.hid hj0
              obtain ⟨vk, hvk⟩ : ∃ vk, v.k = vk := ⟨_, rfl⟩
              have HVK := Lib.hid hvk
              have c0 : w5.cell? ⟨vb, vo + j * 3, none⟩ = some (.int .i64 vk) := by rw [← hvk]; exact HVR.out 0 _ rfl
              have x2 := HXC.out
              clear hvk hj0
              by_cases hk0 : vk = 0
              · subst hk0
                have HNE : Hid ((191 : Int) ≠ 0) := Lib.hid (by decide)
                have HFP0 : Hid (fitP v c.kd = 0) := Lib.hid (by rw [HV10.out, if_pos (Or.inl HVK.out)])
                have HE : Hid (oneE (seenS s) x = 191) := Lib.hid (HERR.out 191 (by rw [HVE1.out, HFP0.out, if_pos rfl, if_pos (And.intro HJ0.out HVK.out)]) HNE.out)
                go_upto_region 17 with fail
                clear c0 x2
                obtain ⟨X', hst, j', b'⟩ := HBAD.out w5 (bgo HBW2.out HB2U.out)
                have HXR := Lib.hid (And.intro j' b')
                clear j' b'
                go_wp2_with (refine wpl_store _ _ rfl (by first | rfl | (simp [Act.eval]; done)) (by first | rfl | (simp [Act.eval]; done)) hst ?_)
                refine bodyPost_ret (results_two rfl rfl rfl (load_var HXR.out.1 Try.underlying39 rfl size39)) rfl ?_
                exact BAD.out _ HE.out HNE.out _ HXR.out.1 HXR.out.2
              · have g1 : (vk == 0) = false := by rw [beq_eq_false_iff_ne]; exact hk0
                have HNN : Hid (¬ (j = 0 ∧ v.k = 0)) := Lib.hid (fun q => hk0 (HVK.out.symm.trans q.2))
                clear hk0
                go_upto_region 18 with fail
                clear c0 x2 g1 g0
                refine wp_region_fb (fun _ X9 => Below w5.heap.size w5 X9) (fun X9 X8 => Below X9.heap.size X9 X8) [
                  fun v9 _ => v9 = .pointer (some ⟨Y1, 2, none⟩),
                  fun v9 _ => v9 = .slice (some ⟨vb, vo, none⟩) n vc,
                  fun v9 _ => v9 = .int .i64 (j : Int),
                  fun v9 _ => v9 = .pointer (some ⟨vb, vo + j * 3, none⟩),
                  fun v9 _ => v9 = vlV v,
                  fun v9 _ => v9 = .pointer (some ⟨T, 2, none⟩),
                  fun v9 _ => v9 = .slice (some ⟨cb, co, none⟩) n cc,
                  fun v9 _ => v9 = .int .i64 (j : Int),
                  fun v9 _ => v9 = .pointer (some ⟨cb, co + j * 7, none⟩),
                  fun v9 _ => v9 = .pointer (some ⟨cb, co + j * 7 + 2, none⟩),
                  fun v9 _ => v9 = .int .i64 c.kd,
                  fun v9 _ => v9 = .int .i64 (fitP v c.kd),
                  fun v9 _ => v9 = .int .i64 (fitP v c.kd)]
                  (by kernel_rfl) (by kernel_rfl) (by kernel_rfl) ?st ?g0 ?os ?en
                case st => exact ⟨fun _ _ _ _ h => h, fun _ _ _ _ h => h, fun _ _ _ _ h => h, fun _ _ _ _ h => h, fun _ _ _ _ h => h, fun _ _ _ _ h => h, fun _ _ _ _ h => h, fun _ _ _ _ h => h, fun _ _ _ _ h => h, fun _ _ _ _ h => h, fun _ _ _ _ h => h, fun _ _ _ _ h => h, fun _ _ _ _ h => h, trivial⟩
                case g0 => exact ⟨rfl, rfl, rfl, Nat.le_refl _, fun _ _ => rfl⟩
                case os =>
                  refine ⟨?_, ?_, ?_, ?_, ?_, ?_, ?_, ?_, ?_, ?_, ?_, ?_, ?_, trivial⟩
                  · exact fun ρ X9 fl hg hn hl hp ho hc hf hr => .inl ⟨rfl, Runs.val _ (op_f46_2 (show ρ (.tmp 3) = .pointer (some ⟨Y1, 0, none⟩) from ho 3 rfl)) ⟨hg, Below.refl _ _, rfl⟩⟩
                  · exact fun ρ X9 fl hg hn hl hp ho hc hf hr => .inl ⟨rfl, Runs.val _ (op_load35 (show ρ (.tmp 80) = .pointer (some ⟨Y1, 2, none⟩) from hr 0 80 rfl rfl) (cell_on hg HXC.out)) ⟨hg, Below.refl _ _, rfl⟩⟩
                  · exact fun ρ X9 fl hg hn hl hp ho hc hf hr => .inl ⟨rfl, Runs.val _ (op_move (show ρ (.tmp 9) = .int .i64 (j : Int) from ho 9 rfl)) ⟨hg, Below.refl _ _, rfl⟩⟩
                  · exact fun ρ X9 fl hg hn hl hp ho hc hf hr => .inl ⟨rfl, Runs.val _ (op_i35 (show ρ (.tmp 81) = .slice (some ⟨vb, vo, none⟩) n vc from hr 1 81 rfl rfl) (show ρ (.tmp 82) = .int .i64 (j : Int) from hr 2 82 rfl rfl) HLT.out) ⟨hg, Below.refl _ _, rfl⟩⟩
                  · exact fun ρ X9 fl hg hn hl hp ho hc hf hr => .inl ⟨rfl, Runs.val _ (op_loadAt (show ρ (.tmp 83) = .pointer (some ⟨vb, vo + j * 3, none⟩) from hr 3 83 rfl rfl) (run_loadAt_mid X9 vb (vo + j * 3) 37 (vlL v) _ (range_on hg HVR.out) Try.underlying37 rfl size37)) ⟨hg, Below.refl _ _, rfl⟩⟩
                  · exact fun ρ X9 fl hg hn hl hp ho hc hf hr => .inl ⟨rfl, Runs.val _ (op_f54_2 (show ρ (.tmp 7) = .pointer (some ⟨T, 0, none⟩) from ho 7 rfl)) ⟨hg, Below.refl _ _, rfl⟩⟩
                  · exact fun ρ X9 fl hg hn hl hp ho hc hf hr => .inl ⟨rfl, Runs.val _ (op_load42 (show ρ (.tmp 85) = .pointer (some ⟨T, 2, none⟩) from hr 5 85 rfl rfl) (cell_on hg HTC.out)) ⟨hg, Below.refl _ _, rfl⟩⟩
                  · exact fun ρ X9 fl hg hn hl hp ho hc hf hr => .inl ⟨rfl, Runs.val _ (op_move (show ρ (.tmp 9) = .int .i64 (j : Int) from ho 9 rfl)) ⟨hg, Below.refl _ _, rfl⟩⟩
                  · exact fun ρ X9 fl hg hn hl hp ho hc hf hr => .inl ⟨rfl, Runs.val _ (op_i42 (show ρ (.tmp 86) = .slice (some ⟨cb, co, none⟩) n cc from hr 6 86 rfl rfl) (show ρ (.tmp 87) = .int .i64 (j : Int) from hr 7 87 rfl rfl) HLT.out) ⟨hg, Below.refl _ _, rfl⟩⟩
                  · exact fun ρ X9 fl hg hn hl hp ho hc hf hr => .inl ⟨rfl, Runs.val _ (op_f65_2 (show ρ (.tmp 88) = .pointer (some ⟨cb, co + j * 7, none⟩) from hr 8 88 rfl rfl)) ⟨hg, Below.refl _ _, rfl⟩⟩
                  · exact fun ρ X9 fl hg hn hl hp ho hc hf hr => .inl ⟨rfl, Runs.val _ (op_load3 (show ρ (.tmp 89) = .pointer (some ⟨cb, co + j * 7 + 2, none⟩) from hr 9 89 rfl rfl) (cell_on hg (HCR.out 2 _ rfl))) ⟨hg, Below.refl _ _, rfl⟩⟩
                  · intro ρ X9 fl hg hn hl hp ho hc hf hr
                    refine .inl ⟨rfl, ?_⟩
                    refine Runs.goes 41 #[vlV v, .int .i64 c.kd] (op_call2 hf (by go_simp) (show ρ (.tmp 84) = vlV v from hr 4 84 rfl rfl) (show ρ (.tmp 90) = .int .i64 c.kd from hr 10 90 rfl rfl)) ((fitsR_any v c.kd).mono ?_)
                    rintro e7 w7 ⟨rfl, b7⟩
                    exact ⟨_, rfl, bgo hg b7, b7, rfl⟩
                  · exact fun ρ X9 fl hg hn hl hp ho hc hf hr => .inl ⟨rfl, Runs.val _ (op_assign (show ρ (.tmp 91) = .int .i64 (fitP v c.kd) from hr 11 91 rfl rfl)) ⟨hg, Below.refl _ _, rfl⟩⟩
                case en =>
                  intro a9 w6 fl hfl b6 hs9 hd9 ho9 hr9
                  obtain ⟨x9, hx, hxt⟩ := act_put hs9 hd9 ho9
                  have x10 : x9 10 = .int .i64 (fitP v c.kd) := (hxt 10).symm.trans (hr9 12 10 rfl)
                  change a9 = putAll _ x9 [80, 81, 82, 83, 84, 85, 86, 87, 88, 89, 90, 91, 10] at hx
                  simp only [putAll, Act.put, List.setIfInBounds_toArray, List.set_cons_zero, List.set_cons_succ, x10] at hx
                  subst hx
                  clear hs9 hd9 ho9 hr9 hfl x10
                  generalize x9 80 = z80, x9 81 = z81, x9 82 = z82, x9 83 = z83, x9 84 = z84, x9 85 = z85, x9 86 = z86, x9 87 = z87, x9 88 = z88, x9 89 = z89, x9 90 = z90, x9 91 = z91
                  obtain ⟨f, hf⟩ : ∃ f, fitP v c.kd = f := ⟨_, rfl⟩
                  rw [hf]
                  have HFI := Lib.hid hf
                  have HBVU := Lib.hid (bgo HBVU.out b6)
                  have HB2U := Lib.hid (bgo HB2U.out b6)
                  have JTU := Lib.hid ((b6.block T (blk_lt JTU.out)).trans JTU.out)
                  have JRU := Lib.hid ((b6.block R (blk_lt JRU.out)).trans JRU.out)
                  have J1U := Lib.hid ((b6.block Y1 (blk_lt J1U.out)).trans J1U.out)
                  have J2U := Lib.hid ((b6.block Y2 (blk_lt J2U.out)).trans J2U.out)
                  clear b6 hf
                  by_cases hf0 : f = 0
                  · subst hf0
                    have HNX : Hid (vAll (valE1 t x) (j + 1) = 0) := Lib.hid (vAll_next HI.out (by rw [HVE1.out, HFI.out, if_pos rfl, if_neg HNN.out]))
                    go_wp2
                    go_roundw
                    case rel => exact ⟨j + 1, HLT.out, by go_num, HNX, HBVU.out⟩
                    case measure => simp [intOf]; omega
                  · have g1 : (f == 0) = false := by rw [beq_eq_false_iff_ne]; exact hf0
                    have g2 : (f != 0) = true := by simpa using hf0
                    have HNE := Lib.hid hf0
                    have HE : Hid (oneE (seenS s) x = f) := Lib.hid (HERR.out f (by rw [HVE1.out, HFI.out, if_neg hf0]) hf0)
                    clear hf0
                    obtain ⟨X', hst, j', b'⟩ := HBAD.out w6 (bgo HBW2.out HB2U.out)
                    have HXR := Lib.hid (And.intro j' b')
                    clear j' b'
                    go_wp2_with (refine wpl_store _ _ rfl (by first | rfl | (simp [Act.eval]; done)) (by first | rfl | (simp [Act.eval]; done)) hst ?_)
                    refine bodyPost_ret (results_two rfl rfl rfl (load_var HXR.out.1 Try.underlying39 rfl size39)) rfl ?_
                    exact BAD.out _ HE.out HNE.out _ HXR.out.1 HXR.out.2
            · have g1 : ((j : Int) == 0) = false := by rw [beq_eq_false_iff_ne]; omega
              have HNN : Hid (¬ (j = 0 ∧ v.k = 0)) := Lib.hid (fun q => hj0 q.1)
              clear hj0
              go_upto_region 18 with fail
              clear g1
              refine wp_region_fb (fun _ X9 => Below w5.heap.size w5 X9) (fun X9 X8 => Below X9.heap.size X9 X8) [
                fun v9 _ => v9 = .pointer (some ⟨Y1, 2, none⟩),
                fun v9 _ => v9 = .slice (some ⟨vb, vo, none⟩) n vc,
                fun v9 _ => v9 = .int .i64 (j : Int),
                fun v9 _ => v9 = .pointer (some ⟨vb, vo + j * 3, none⟩),
                fun v9 _ => v9 = vlV v,
                fun v9 _ => v9 = .pointer (some ⟨T, 2, none⟩),
                fun v9 _ => v9 = .slice (some ⟨cb, co, none⟩) n cc,
                fun v9 _ => v9 = .int .i64 (j : Int),
                fun v9 _ => v9 = .pointer (some ⟨cb, co + j * 7, none⟩),
                fun v9 _ => v9 = .pointer (some ⟨cb, co + j * 7 + 2, none⟩),
                fun v9 _ => v9 = .int .i64 c.kd,
                fun v9 _ => v9 = .int .i64 (fitP v c.kd),
                fun v9 _ => v9 = .int .i64 (fitP v c.kd)]
                (by kernel_rfl) (by kernel_rfl) (by kernel_rfl) ?st ?g0 ?os ?en
              case st => exact ⟨fun _ _ _ _ h => h, fun _ _ _ _ h => h, fun _ _ _ _ h => h, fun _ _ _ _ h => h, fun _ _ _ _ h => h, fun _ _ _ _ h => h, fun _ _ _ _ h => h, fun _ _ _ _ h => h, fun _ _ _ _ h => h, fun _ _ _ _ h => h, fun _ _ _ _ h => h, fun _ _ _ _ h => h, fun _ _ _ _ h => h, trivial⟩
              case g0 => exact ⟨rfl, rfl, rfl, Nat.le_refl _, fun _ _ => rfl⟩
              case os =>
                refine ⟨?_, ?_, ?_, ?_, ?_, ?_, ?_, ?_, ?_, ?_, ?_, ?_, ?_, trivial⟩
                · exact fun ρ X9 fl hg hn hl hp ho hc hf hr => .inl ⟨rfl, Runs.val _ (op_f46_2 (show ρ (.tmp 3) = .pointer (some ⟨Y1, 0, none⟩) from ho 3 rfl)) ⟨hg, Below.refl _ _, rfl⟩⟩
                · exact fun ρ X9 fl hg hn hl hp ho hc hf hr => .inl ⟨rfl, Runs.val _ (op_load35 (show ρ (.tmp 80) = .pointer (some ⟨Y1, 2, none⟩) from hr 0 80 rfl rfl) (cell_on hg HXC.out)) ⟨hg, Below.refl _ _, rfl⟩⟩
                · exact fun ρ X9 fl hg hn hl hp ho hc hf hr => .inl ⟨rfl, Runs.val _ (op_move (show ρ (.tmp 9) = .int .i64 (j : Int) from ho 9 rfl)) ⟨hg, Below.refl _ _, rfl⟩⟩
                · exact fun ρ X9 fl hg hn hl hp ho hc hf hr => .inl ⟨rfl, Runs.val _ (op_i35 (show ρ (.tmp 81) = .slice (some ⟨vb, vo, none⟩) n vc from hr 1 81 rfl rfl) (show ρ (.tmp 82) = .int .i64 (j : Int) from hr 2 82 rfl rfl) HLT.out) ⟨hg, Below.refl _ _, rfl⟩⟩
                · exact fun ρ X9 fl hg hn hl hp ho hc hf hr => .inl ⟨rfl, Runs.val _ (op_loadAt (show ρ (.tmp 83) = .pointer (some ⟨vb, vo + j * 3, none⟩) from hr 3 83 rfl rfl) (run_loadAt_mid X9 vb (vo + j * 3) 37 (vlL v) _ (range_on hg HVR.out) Try.underlying37 rfl size37)) ⟨hg, Below.refl _ _, rfl⟩⟩
                · exact fun ρ X9 fl hg hn hl hp ho hc hf hr => .inl ⟨rfl, Runs.val _ (op_f54_2 (show ρ (.tmp 7) = .pointer (some ⟨T, 0, none⟩) from ho 7 rfl)) ⟨hg, Below.refl _ _, rfl⟩⟩
                · exact fun ρ X9 fl hg hn hl hp ho hc hf hr => .inl ⟨rfl, Runs.val _ (op_load42 (show ρ (.tmp 85) = .pointer (some ⟨T, 2, none⟩) from hr 5 85 rfl rfl) (cell_on hg HTC.out)) ⟨hg, Below.refl _ _, rfl⟩⟩
                · exact fun ρ X9 fl hg hn hl hp ho hc hf hr => .inl ⟨rfl, Runs.val _ (op_move (show ρ (.tmp 9) = .int .i64 (j : Int) from ho 9 rfl)) ⟨hg, Below.refl _ _, rfl⟩⟩
                · exact fun ρ X9 fl hg hn hl hp ho hc hf hr => .inl ⟨rfl, Runs.val _ (op_i42 (show ρ (.tmp 86) = .slice (some ⟨cb, co, none⟩) n cc from hr 6 86 rfl rfl) (show ρ (.tmp 87) = .int .i64 (j : Int) from hr 7 87 rfl rfl) HLT.out) ⟨hg, Below.refl _ _, rfl⟩⟩
                · exact fun ρ X9 fl hg hn hl hp ho hc hf hr => .inl ⟨rfl, Runs.val _ (op_f65_2 (show ρ (.tmp 88) = .pointer (some ⟨cb, co + j * 7, none⟩) from hr 8 88 rfl rfl)) ⟨hg, Below.refl _ _, rfl⟩⟩
                · exact fun ρ X9 fl hg hn hl hp ho hc hf hr => .inl ⟨rfl, Runs.val _ (op_load3 (show ρ (.tmp 89) = .pointer (some ⟨cb, co + j * 7 + 2, none⟩) from hr 9 89 rfl rfl) (cell_on hg (HCR.out 2 _ rfl))) ⟨hg, Below.refl _ _, rfl⟩⟩
                · intro ρ X9 fl hg hn hl hp ho hc hf hr
                  refine .inl ⟨rfl, ?_⟩
                  refine Runs.goes 41 #[vlV v, .int .i64 c.kd] (op_call2 hf (by go_simp) (show ρ (.tmp 84) = vlV v from hr 4 84 rfl rfl) (show ρ (.tmp 90) = .int .i64 c.kd from hr 10 90 rfl rfl)) ((fitsR_any v c.kd).mono ?_)
                  rintro e7 w7 ⟨rfl, b7⟩
                  exact ⟨_, rfl, bgo hg b7, b7, rfl⟩
                · exact fun ρ X9 fl hg hn hl hp ho hc hf hr => .inl ⟨rfl, Runs.val _ (op_assign (show ρ (.tmp 91) = .int .i64 (fitP v c.kd) from hr 11 91 rfl rfl)) ⟨hg, Below.refl _ _, rfl⟩⟩
              case en =>
                intro a9 w6 fl hfl b6 hs9 hd9 ho9 hr9
                obtain ⟨x9, hx, hxt⟩ := act_put hs9 hd9 ho9
                have x10 : x9 10 = .int .i64 (fitP v c.kd) := (hxt 10).symm.trans (hr9 12 10 rfl)
                change a9 = putAll _ x9 [80, 81, 82, 83, 84, 85, 86, 87, 88, 89, 90, 91, 10] at hx
                simp only [putAll, Act.put, List.setIfInBounds_toArray, List.set_cons_zero, List.set_cons_succ, x10] at hx
                subst hx
                clear hs9 hd9 ho9 hr9 hfl x10
                generalize x9 80 = z80, x9 81 = z81, x9 82 = z82, x9 83 = z83, x9 84 = z84, x9 85 = z85, x9 86 = z86, x9 87 = z87, x9 88 = z88, x9 89 = z89, x9 90 = z90, x9 91 = z91
                obtain ⟨f, hf⟩ : ∃ f, fitP v c.kd = f := ⟨_, rfl⟩
                rw [hf]
                have HFI := Lib.hid hf
                have HBVU := Lib.hid (bgo HBVU.out b6)
                have HB2U := Lib.hid (bgo HB2U.out b6)
                have JTU := Lib.hid ((b6.block T (blk_lt JTU.out)).trans JTU.out)
                have JRU := Lib.hid ((b6.block R (blk_lt JRU.out)).trans JRU.out)
                have J1U := Lib.hid ((b6.block Y1 (blk_lt J1U.out)).trans J1U.out)
                have J2U := Lib.hid ((b6.block Y2 (blk_lt J2U.out)).trans J2U.out)
                clear b6 hf
                by_cases hf0 : f = 0
                · subst hf0
                  have HNX : Hid (vAll (valE1 t x) (j + 1) = 0) := Lib.hid (vAll_next HI.out (by rw [HVE1.out, HFI.out, if_pos rfl, if_neg HNN.out]))
                  go_wp2
                  go_roundw
                  case rel => exact ⟨j + 1, HLT.out, by go_num, HNX, HBVU.out⟩
                  case measure => simp [intOf]; omega
                · have g1 : (f == 0) = false := by rw [beq_eq_false_iff_ne]; exact hf0
                  have g2 : (f != 0) = true := by simpa using hf0
                  have HNE := Lib.hid hf0
                  have HE : Hid (oneE (seenS s) x = f) := Lib.hid (HERR.out f (by rw [HVE1.out, HFI.out, if_neg hf0]) hf0)
                  clear hf0
                  obtain ⟨X', hst, j', b'⟩ := HBAD.out w6 (bgo HBW2.out HB2U.out)
                  have HXR := Lib.hid (And.intro j' b')
                  clear j' b'
                  go_wp2_with (refine wpl_store _ _ rfl (by first | rfl | (simp [Act.eval]; done)) (by first | rfl | (simp [Act.eval]; done)) hst ?_)
                  refine bodyPost_ret (results_two rfl rfl rfl (load_var HXR.out.1 Try.underlying39 rfl size39)) rfl ?_
                  exact BAD.out _ HE.out HNE.out _ HXR.out.1 HXR.out.2
        · have k1 : ¬ ((j : Int) < (n : Int)) := by omega
          obtain rfl : j = n := by omega
          have HEQ : Hid (oneE (seenS s) x = 0) := Lib.hid (by rw [HEV.out, HE2.out]; exact HI.out)
          obtain ⟨bs, hbs⟩ : ∃ bs : Bd, valB x ⟨1, t.id, [], 0, noV, 0, noV⟩ = bs := ⟨_, rfl⟩
          have HEB : Hid (oneB (seenS s) x = bs) := Lib.hid (by rw [HOB.out, hbs])
          have HBSV : Hid (bs.vals = x.vals) := Lib.hid (by rw [← hbs]; rfl)
          obtain ⟨ad', cap', X', hrun, hown, hbX⟩ := copyV (X := U) (l := x.vals) (ad := va) (cap := vc) (by have := HVL.out.on valsE_held HB2U.out; rw [HN.out]; exact this) HZ.out
          rw [HN.out] at hrun hown
          have HUS : Hid (Below w2.heap.size w2 U) := HB2U
          have jRX := (hbX.block R (blk_lt JRU.out)).trans JRU.out
          have x2' : (U.alloc (.cells #[] 37)).cell? ⟨Y1, 2, none⟩ = some (.slice va j vc) := cell_on (bnew _ _) x2
          have r2 : X'.cell? ⟨R, 2, none⟩ = some (.slice none 0 0) := cell_blk jRX 2
          have f2 := frozen_blk jRX 2
          obtain ⟨X5, hX5⟩ : ∃ X5, X5 = X'.setCell ⟨R, 2, none⟩ (.slice ad' j cap') := ⟨_, rfl⟩
          have jR5 : X5.heap[R]? = some (.cells (bdA bs (.slice ad' j cap')) 39 (0, 0)) := by
            rw [hX5, ← hbs]
            exact set_blk jRX _
          have fX5 : Fr X' X5 (fun k => k = R) := by rw [hX5]; exact (Fr.refl X' (fun k => k = R)).set (a := ⟨R, 2, none⟩) (.inl rfl) _
          have HOW : Hid (X5.ownsRow U.heap.size 37 3 (.slice ad' j cap') bs.vals.length (bs.vals.flatMap vlL)) := Lib.hid (by
            rw [HBSV.out, HN.out]
            refine keep_rowB hown fX5 (fun k hk cs hc => ?_)
            subst hk
            rw [jRX] at hc
            simp only [Option.some.injEq, Obj.cells.injEq] at hc
            exact absurd hc.2.1 (by decide))
          have HX5 := Lib.hid hX5
          have FX5 := Lib.hid fX5
          have HBX := Lib.hid hbX
          have HB2U := Lib.hid (bgo HB2U.out hbX)
          have JTU := Lib.hid ((hbX.block T (blk_lt JTU.out)).trans JTU.out)
          have JRU := Lib.hid ((hbX.block R (blk_lt JRU.out)).trans JRU.out)
          have J1U := Lib.hid ((hbX.block Y1 (blk_lt J1U.out)).trans J1U.out)
          have J2U := Lib.hid ((hbX.block Y2 (blk_lt J2U.out)).trans J2U.out)
          have HB2U := Lib.hid (HB2U.out.trans (fX5.toBelow (fun k hk q => by have := HRG.out.1; omega) HB2U.out.size))
          have JTU := Lib.hid ((fX5.block T (blk_lt JTU.out) HRG.out.2.1).trans JTU.out)
          have J1U := Lib.hid ((fX5.block Y1 (blk_lt J1U.out) HRG.out.2.2.1).trans J1U.out)
          have J2U := Lib.hid ((fX5.block Y2 (blk_lt J2U.out) HRG.out.2.2.2).trans J2U.out)
          have JRU := Lib.hid jR5
          clear hb hown hbX jRX hbs hX5 jR5 fX5 hlt t2
          go_upto_region 22 with (first | (at_builtin; refine wpl_run2 _ _ rfl (by first | rfl | (simp [Act.eval]; done)) (by first | rfl | (simp [Act.eval]; done)) hrun ?_) | fail)
          rw [← HX5.out]
          clear x2 x2' r2 f2 hrun
          have hld := load_row (ty := 39) JRU.out Try.underlying39 rfl size39
          obtain ⟨X', hst, j', f'⟩ := st_row J2U.out (us := bdA (bs) (.slice ad' j cap')) rfl size39 (by simp [Value.oneCell'])
          have HX := Lib.hid (And.intro j' f')
          clear j' f'
          go_wp2_with (first | (refine wpl_load _ rfl (by first | rfl | (simp [Act.eval]; done)) hld ?_) | (refine wpl_store _ _ rfl (by first | rfl | (simp [Act.eval]; done)) (by first | rfl | (simp [Act.eval]; done)) hst ?_))
          refine bodyPost_ret (results_two rfl rfl rfl (load_var HX.out.1 Try.underlying39 rfl size39)) rfl ?_
          have hwu := bgo HBw2.out HB2U.out
          refine ⟨_, _, _, _, by rw [HEQ.out]; rfl, fun _ => ⟨HEB.out.symm, ?_⟩, hwu.trans (HX.out.2.toBelow (fun k hk q => by have := GE.out.2.2.1; omega) hwu.size)⟩
          refine keep_rowB (own_mono HOW.out (bgo HBw2.out HUS.out).size) HX.out.2 (fun k hk cs hc => ?_)
          subst hk
          rw [J2U.out] at hc
          simp only [Option.some.injEq, Obj.cells.injEq] at hc
          exact absurd hc.2.1 (by decide)
    · have HE190 : Hid (valE t x = 190) := Lib.hid (by rw [HVE.out, if_neg (by rw [HN.out, HCL.out]; exact hnc)])
      have g1 : ((n : Int) == (cn : Int)) = false := by rw [beq_eq_false_iff_ne]; omega
      have g2 : ((n : Int) != (cn : Int)) = true := by simpa using g1
      clear hnc
      have HNE : Hid ((190 : Int) ≠ 0) := Lib.hid (by decide)
      have HE : Hid (oneE (seenS s) x = 190) := Lib.hid (by rw [HEV.out, HE190.out])
      go_upto_region 10 with fail
      clear x0 x2 t2
      obtain ⟨X', hst, j', b'⟩ := HBAD.out V (bgo HBW2.out HB2U.out)
      have HXR := Lib.hid (And.intro j' b')
      clear j' b'
      go_wp2_with (refine wpl_store _ _ rfl (by first | rfl | (simp [Act.eval]; done)) (by first | rfl | (simp [Act.eval]; done)) hst ?_)
      refine bodyPost_ret (results_two rfl rfl rfl (load_var HXR.out.1 Try.underlying39 rfl size39)) rfl ?_
      exact BAD.out _ HE.out HNE.out _ HXR.out.1 HXR.out.2

  have gk1 : (kd == 1) = false := by rw [beq_eq_false_iff_ne]; exact h1e
  by_cases h2e : kd = 2
  · subst h2e
    have HWB0 : Hid (oneB (seenS s) x = whereB t x (setB t x ⟨2, t.id, [], 0, noV, 0, noV⟩)) := Lib.hid (by rw [HO4.out, if_neg h1e, if_pos rfl])
    have HEset : Hid (∀ er, setE t x = er → er ≠ 0 → oneE (seenS s) x = er) := Lib.hid (fun er he hn => by rw [HO3.out, if_neg h1e, if_pos rfl, if_neg (by rw [he]; exact hn), he])
    have HEwhA : Hid (setE t x = 0 → ∀ er, whereE t x = er → oneE (seenS s) x = er) := Lib.hid (fun hs0 er he => by rw [HO3.out, if_neg h1e, if_pos rfl, if_pos hs0, he])
    clear h1 h4 h1e
    go_upto_region 24 with fail
    clear x0
    have t0 : V.cell? ⟨T, 0, none⟩ = some (.int .i64 t.id) := cell_blk JTU.out 0
    have t1 : V.cell? ⟨T, 1, none⟩ = some (.string t.nm) := cell_blk JTU.out 1
    have t2 : V.cell? ⟨T, 2, none⟩ = some (.slice ca cn cc) := cell_blk JTU.out 2
    have t3 : V.cell? ⟨T, 3, none⟩ = some (.slice ia iN ic) := cell_blk JTU.out 3
    have t4 : V.cell? ⟨T, 4, none⟩ = some (.slice ka kn kc) := cell_blk JTU.out 4
    have zc : V.cell? ⟨Y1, 3, none⟩ = some (.string zs) := by rw [← HZset.out]; exact cell_blk J1U.out 3
    have hcn := colAt_any (H3.out.on HB2U.out) zs
    rcases fidx_cases (fun y : Col => decide (y.nm = zs)) t.cols with ⟨hf, _⟩ | ⟨k, hk, hf, -, -⟩
    · rw [hf] at hcn
      have HF := Lib.hid hf
      clear hf
      go_upto_region 26 with (first | (go_at_call 23; refine hcn.mono ?_; rintro e w5 ⟨rfl, b5⟩; refine Hid.out ?_) | fail)
      refine Lib.hid ?_
      have HB2U := Lib.hid (bgo HB2U.out b5)
      have JTU := Lib.hid ((b5.block T (blk_lt JTU.out)).trans JTU.out)
      have JRU := Lib.hid ((b5.block R (blk_lt JRU.out)).trans JRU.out)
      have J1U := Lib.hid ((b5.block Y1 (blk_lt J1U.out)).trans J1U.out)
      have J2U := Lib.hid ((b5.block Y2 (blk_lt J2U.out)).trans J2U.out)
      clear hcn b5 zc t0 t1 t2 t3 t4
      have HNE : Hid ((151 : Int) ≠ 0) := Lib.hid (by decide)
      have HE : Hid (oneE (seenS s) x = 151) := Lib.hid (HEset.out _ (by rw [HSset.out, if_pos (by unfold nmIx; exact HF.out)]) HNE.out)
      obtain ⟨X', hst, j', b'⟩ := HBAD.out w5 (bgo HBW2.out HB2U.out)
      have HXR := Lib.hid (And.intro j' b')
      clear j' b'
      go_wp2_with (refine wpl_store _ _ rfl (by first | rfl | (simp [Act.eval]; done)) (by first | rfl | (simp [Act.eval]; done)) hst ?_)
      refine bodyPost_ret (results_two rfl rfl rfl (load_var HXR.out.1 Try.underlying39 rfl size39)) rfl ?_
      exact BAD.out _ HE.out HNE.out _ HXR.out.1 HXR.out.2
    · rw [hf] at hcn
      by_cases hk0 : k = 0
      · subst hk0
        have HF := Lib.hid hf
        clear hf
        go_upto_region 28 with (first | (go_at_call 23; refine hcn.mono ?_; rintro e w5 ⟨rfl, b5⟩; refine Hid.out ?_) | fail)
        refine Lib.hid ?_
        have HB2U := Lib.hid (bgo HB2U.out b5)
        have JTU := Lib.hid ((b5.block T (blk_lt JTU.out)).trans JTU.out)
        have JRU := Lib.hid ((b5.block R (blk_lt JRU.out)).trans JRU.out)
        have J1U := Lib.hid ((b5.block Y1 (blk_lt J1U.out)).trans J1U.out)
        have J2U := Lib.hid ((b5.block Y2 (blk_lt J2U.out)).trans J2U.out)
        clear hcn b5 zc t0 t1 t2 t3 t4
        have HNE : Hid ((155 : Int) ≠ 0) := Lib.hid (by decide)
        have HE : Hid (oneE (seenS s) x = 155) := Lib.hid (HEset.out _ (by rw [HSset.out, if_neg (by unfold nmIx; rw [HF.out]; decide), if_pos (by unfold nmIx; rw [HF.out]; rfl)]) HNE.out)
        obtain ⟨X', hst, j', b'⟩ := HBAD.out w5 (bgo HBW2.out HB2U.out)
        have HXR := Lib.hid (And.intro j' b')
        clear j' b'
        go_wp2_with (refine wpl_store _ _ rfl (by first | rfl | (simp [Act.eval]; done)) (by first | rfl | (simp [Act.eval]; done)) hst ?_)
        refine bodyPost_ret (results_two rfl rfl rfl (load_var HXR.out.1 Try.underlying39 rfl size39)) rfl ?_
        exact BAD.out _ HE.out HNE.out _ HXR.out.1 HXR.out.2
      have g2 : ((k : Int) == 0) = false := by rw [beq_eq_false_iff_ne]; omega
      have HK0 := Lib.hid hk0
      clear hk0
      have g1 : ((k : Int) == -1) = false := by rw [beq_eq_false_iff_ne]; omega
      have g3 : ¬ (k : Int) < 0 := by omega
      have hcN : colN t (nmIx t zs) = t.cols[k] := by unfold nmIx; rw [hf, colN_at hk]
      obtain ⟨c, hc⟩ : ∃ c, t.cols[k] = c := ⟨_, rfl⟩
      rw [hc] at hcN
      obtain ⟨cb, co, ccs, ead, hcb, hEc, hcr⟩ := (H3.out.on HB2U.out).c.at.2.2.2 k hk
      have hEc' : ccs = colL t.cols[k] := hEc
      subst hEc'
      rw [hc] at hcr
      have HF : Hid (nmIx t zs = (k : Int)) := Lib.hid (by unfold nmIx; exact hf)
      have HCN := Lib.hid hcN
      have HKN : Hid (k < cn) := Lib.hid (by rw [← HCL.out]; exact hk)
      have k0 : (0 : Int) ≤ (k : Int) := by omega
      have k1 : (k : Int) < (cn : Int) := by have := HKN.out; omega
      have HCR := Lib.hid hcr
      have HAD := Lib.hid ead
      clear hf hcN hc hcr hEc hcb hk ead
      go_upto_region 29 with (first | (go_at_call 23; refine hcn.mono ?_; rintro e w5 ⟨rfl, b5⟩; refine Hid.out ?_) | fail)
      refine Lib.hid ?_
      have HB2U := Lib.hid (bgo HB2U.out b5)
      have JTU := Lib.hid ((b5.block T (blk_lt JTU.out)).trans JTU.out)
      have JRU := Lib.hid ((b5.block R (blk_lt JRU.out)).trans JRU.out)
      have J1U := Lib.hid ((b5.block Y1 (blk_lt J1U.out)).trans J1U.out)
      have J2U := Lib.hid ((b5.block Y2 (blk_lt J2U.out)).trans J2U.out)
      have HCR := Lib.hid (range_on b5 HCR.out)
      clear hcn b5 zc t0 t1 t2 t3 t4
      go_upto_region 29 with fail
      have HTC : Hid (w5.cell? ⟨T, 2, none⟩ = some (.slice (some ⟨cb, co, none⟩) cn cc)) := Lib.hid (by rw [← HAD.out]; exact cell_blk JTU.out 2)
      have HVR : Hid (w5.rangeAt Y1 4 (vlL x.nv)) := Lib.hid (fun j u hu => by
        have hj : j < 3 := (List.getElem?_eq_some_iff.1 hu).1
        rw [cell_blk J1U.out]
        match j, hj, hu with
        | 0, _, hu => exact hu
        | 1, _, hu => exact hu
        | 2, _, hu => exact hu)
      refine wp_region_fb (fun _ X9 => Below w5.heap.size w5 X9) (fun X9 X8 => Below X9.heap.size X9 X8) [
        fun v9 _ => v9 = .pointer (some ⟨Y1, 4, none⟩),
        fun v9 _ => v9 = vlV x.nv,
        fun v9 _ => v9 = .pointer (some ⟨T, 2, none⟩),
        fun v9 _ => v9 = .slice (some ⟨cb, co, none⟩) cn cc,
        fun v9 _ => v9 = .int .i64 (k : Int),
        fun v9 _ => v9 = .pointer (some ⟨cb, co + k * 7, none⟩),
        fun v9 _ => v9 = .pointer (some ⟨cb, co + k * 7 + 2, none⟩),
        fun v9 _ => v9 = .int .i64 c.kd,
        fun v9 _ => v9 = .int .i64 (fitP x.nv c.kd),
        fun v9 _ => v9 = .int .i64 (fitP x.nv c.kd)]
        (by kernel_rfl) (by kernel_rfl) (by kernel_rfl) ?st ?g0 ?os ?en
      case st => exact ⟨fun _ _ _ _ h => h, fun _ _ _ _ h => h, fun _ _ _ _ h => h, fun _ _ _ _ h => h, fun _ _ _ _ h => h, fun _ _ _ _ h => h, fun _ _ _ _ h => h, fun _ _ _ _ h => h, fun _ _ _ _ h => h, fun _ _ _ _ h => h, trivial⟩
      case g0 => exact ⟨rfl, rfl, rfl, Nat.le_refl _, fun _ _ => rfl⟩
      case os =>
        refine ⟨?_, ?_, ?_, ?_, ?_, ?_, ?_, ?_, ?_, ?_, trivial⟩
        · exact fun ρ X9 fl hg hn hl hp ho hc hf hr => .inl ⟨rfl, Runs.val _ (op_f46_4 (show ρ (.tmp 3) = .pointer (some ⟨Y1, 0, none⟩) from ho 3 rfl)) ⟨hg, Below.refl _ _, rfl⟩⟩
        · exact fun ρ X9 fl hg hn hl hp ho hc hf hr => .inl ⟨rfl, Runs.val _ (op_loadAt (show ρ (.tmp 115) = .pointer (some ⟨Y1, 4, none⟩) from hr 0 115 rfl rfl) (run_loadAt_mid X9 Y1 (4) 37 (vlL x.nv) _ (range_on hg HVR.out) Try.underlying37 rfl size37)) ⟨hg, Below.refl _ _, rfl⟩⟩
        · exact fun ρ X9 fl hg hn hl hp ho hc hf hr => .inl ⟨rfl, Runs.val _ (op_f54_2 (show ρ (.tmp 7) = .pointer (some ⟨T, 0, none⟩) from ho 7 rfl)) ⟨hg, Below.refl _ _, rfl⟩⟩
        · exact fun ρ X9 fl hg hn hl hp ho hc hf hr => .inl ⟨rfl, Runs.val _ (op_load42 (show ρ (.tmp 117) = .pointer (some ⟨T, 2, none⟩) from hr 2 117 rfl rfl) (cell_on hg HTC.out)) ⟨hg, Below.refl _ _, rfl⟩⟩
        · exact fun ρ X9 fl hg hn hl hp ho hc hf hr => .inl ⟨rfl, Runs.val _ (op_move (show ρ (.tmp 11) = .int .i64 (k : Int) from ho 11 rfl)) ⟨hg, Below.refl _ _, rfl⟩⟩
        · exact fun ρ X9 fl hg hn hl hp ho hc hf hr => .inl ⟨rfl, Runs.val _ (op_i42 (show ρ (.tmp 118) = .slice (some ⟨cb, co, none⟩) cn cc from hr 3 118 rfl rfl) (show ρ (.tmp 119) = .int .i64 (k : Int) from hr 4 119 rfl rfl) HKN.out) ⟨hg, Below.refl _ _, rfl⟩⟩
        · exact fun ρ X9 fl hg hn hl hp ho hc hf hr => .inl ⟨rfl, Runs.val _ (op_f65_2 (show ρ (.tmp 120) = .pointer (some ⟨cb, co + k * 7, none⟩) from hr 5 120 rfl rfl)) ⟨hg, Below.refl _ _, rfl⟩⟩
        · exact fun ρ X9 fl hg hn hl hp ho hc hf hr => .inl ⟨rfl, Runs.val _ (op_load3 (show ρ (.tmp 121) = .pointer (some ⟨cb, co + k * 7 + 2, none⟩) from hr 6 121 rfl rfl) (cell_on hg (HCR.out 2 _ rfl))) ⟨hg, Below.refl _ _, rfl⟩⟩
        · intro ρ X9 fl hg hn hl hp ho hc hf hr
          refine .inl ⟨rfl, ?_⟩
          refine Runs.goes 41 #[vlV x.nv, .int .i64 c.kd] (op_call2 hf (by go_simp) (show ρ (.tmp 116) = vlV x.nv from hr 1 116 rfl rfl) (show ρ (.tmp 122) = .int .i64 c.kd from hr 7 122 rfl rfl)) ((fitsR_any x.nv c.kd).mono ?_)
          rintro e7 w7 ⟨rfl, b7⟩
          exact ⟨_, rfl, bgo hg b7, b7, rfl⟩
        · exact fun ρ X9 fl hg hn hl hp ho hc hf hr => .inl ⟨rfl, Runs.val _ (op_assign (show ρ (.tmp 123) = .int .i64 (fitP x.nv c.kd) from hr 8 123 rfl rfl)) ⟨hg, Below.refl _ _, rfl⟩⟩
      case en =>
        intro a9 w6 fl hfl b6 hs9 hd9 ho9 hr9
        obtain ⟨x9, hx, hxt⟩ := act_put hs9 hd9 ho9
        have x12 : x9 12 = .int .i64 (fitP x.nv c.kd) := (hxt 12).symm.trans (hr9 9 12 rfl)
        change a9 = putAll _ x9 [115, 116, 117, 118, 119, 120, 121, 122, 123, 12] at hx
        simp only [putAll, Act.put, List.setIfInBounds_toArray, List.set_cons_zero, List.set_cons_succ, x12] at hx
        subst hx
        clear hs9 hd9 ho9 hr9 hfl x12
        generalize x9 115 = z115, x9 116 = z116, x9 117 = z117, x9 118 = z118, x9 119 = z119, x9 120 = z120, x9 121 = z121, x9 122 = z122, x9 123 = z123
        obtain ⟨f, hf⟩ : ∃ f, fitP x.nv c.kd = f := ⟨_, rfl⟩
        rw [hf]
        have HFI := Lib.hid hf
        have HB2U := Lib.hid (bgo HB2U.out b6)
        have JTU := Lib.hid ((b6.block T (blk_lt JTU.out)).trans JTU.out)
        have JRU := Lib.hid ((b6.block R (blk_lt JRU.out)).trans JRU.out)
        have J1U := Lib.hid ((b6.block Y1 (blk_lt J1U.out)).trans J1U.out)
        have J2U := Lib.hid ((b6.block Y2 (blk_lt J2U.out)).trans J2U.out)
        have HCR := Lib.hid (range_on b6 HCR.out)
        clear b6 hf HTC HVR
        by_cases hf0 : f = 0
        · subst hf0
          have HTC : Hid (w6.cell? ⟨T, 2, none⟩ = some (.slice (some ⟨cb, co, none⟩) cn cc)) := Lib.hid (by rw [← HAD.out]; exact cell_blk JTU.out 2)
          have t2 := HTC.out
          have kc0 : w6.cell? ⟨cb, co + k * 7, none⟩ = some (.int .i64 c.id) := HCR.out 0 _ rfl
          have r3 : w6.cell? ⟨R, 3, none⟩ = some (.int .i64 ((⟨2, t.id, [], 0, noV, 0, noV⟩ : Bd)).set) := cell_blk JRU.out 3
          have f3 := frozen_blk JRU.out 3
          obtain ⟨X1, hX1⟩ : ∃ X1, X1 = w6.setCell ⟨R, 3, none⟩ (.int .i64 c.id) := ⟨_, rfl⟩
          have fX1 : Fr w6 X1 (fun k => k = R) := by rw [hX1]; exact (Fr.refl w6 (fun k => k = R)).set (a := ⟨R, 3, none⟩) (.inl rfl) _
          have jX1 : X1.heap[R]? = some (.cells ((bdA ((⟨2, t.id, [], 0, noV, 0, noV⟩ : Bd)) (.slice none 0 0)).setIfInBounds 3 (.int .i64 c.id)) 39 (0, 0)) := by rw [hX1]; exact set_blk JRU.out _
          have HX1 := Lib.hid hX1
          have FX1 := Lib.hid fX1
          have JX1 := Lib.hid jX1
          clear hX1 fX1 jX1
          go_upto_region 33 with fail
          rw [← HX1.out]
          clear t2 kc0 r3 f3
          have HB2U := Lib.hid (HB2U.out.trans (FX1.out.toBelow (fun k hk q => by have := HRG.out.1; omega) HB2U.out.size))
          have JTU := Lib.hid ((FX1.out.block T (blk_lt JTU.out) HRG.out.2.1).trans JTU.out)
          have J1U := Lib.hid ((FX1.out.block Y1 (blk_lt J1U.out) HRG.out.2.2.1).trans J1U.out)
          have J2U := Lib.hid ((FX1.out.block Y2 (blk_lt J2U.out) HRG.out.2.2.2).trans J2U.out)
          have z0 : X1.cell? ⟨Y1, 4, none⟩ = some (.int .i64 x.nv.k) := cell_blk J1U.out 4
          have z1 : X1.cell? ⟨Y1, 5, none⟩ = some (.int .i64 x.nv.n) := cell_blk J1U.out 5
          have z2 : X1.cell? ⟨Y1, 6, none⟩ = some (.string x.nv.s) := cell_blk J1U.out 6
          have r0 : X1.cell? ⟨R, 4, none⟩ = some (.int .i64 ((⟨2, t.id, [], 0, noV, 0, noV⟩ : Bd)).nv.k) := cell_blk JX1.out 4
          have r1 : X1.cell? ⟨R, 5, none⟩ = some (.int .i64 ((⟨2, t.id, [], 0, noV, 0, noV⟩ : Bd)).nv.n) := cell_blk JX1.out 5
          have r2 : X1.cell? ⟨R, 6, none⟩ = some (.string ((⟨2, t.id, [], 0, noV, 0, noV⟩ : Bd)).nv.s) := cell_blk JX1.out 6
          have f0 := frozen_blk JX1.out 4
          have f1 := frozen_blk JX1.out 5
          have f2 := frozen_blk JX1.out 6
          obtain ⟨X2, hX2⟩ : ∃ X2, X2 = ((X1.setCell ⟨R, 4, none⟩ (.int .i64 x.nv.k)).setCell ⟨R, 5, none⟩ (.int .i64 x.nv.n)).setCell ⟨R, 6, none⟩ (.string x.nv.s) := ⟨_, rfl⟩
          have fX2 : Fr X1 X2 (fun k => k = R) := by rw [hX2]; exact (((Fr.refl X1 (fun k => k = R)).set (a := ⟨R, 4, none⟩) (.inl rfl) _).set (a := ⟨R, 5, none⟩) (.inl rfl) _).set (a := ⟨R, 6, none⟩) (.inl rfl) _
          have jX2 : X2.heap[R]? = some (.cells (bdA ({ ((⟨2, t.id, [], 0, noV, 0, noV⟩ : Bd)) with set := c.id, nv := x.nv } : Bd) (.slice none 0 0)) 39 (0, 0)) := by rw [hX2]; exact set_blk (set_blk (set_blk JX1.out _) _) _
          have HX2 := Lib.hid hX2
          have FX2 := Lib.hid fX2
          have JRU := Lib.hid jX2
          clear hX2 fX2 jX2
          go_upto_region 34 with fail
          rw [← HX2.out]
          clear z0 z1 z2 r0 r1 r2 f0 f1 f2 JX1
          have HB2U := Lib.hid (HB2U.out.trans (FX2.out.toBelow (fun k hk q => by have := HRG.out.1; omega) HB2U.out.size))
          have JTU := Lib.hid ((FX2.out.block T (blk_lt JTU.out) HRG.out.2.1).trans JTU.out)
          have J1U := Lib.hid ((FX2.out.block Y1 (blk_lt J1U.out) HRG.out.2.2.1).trans J1U.out)
          have J2U := Lib.hid ((FX2.out.block Y2 (blk_lt J2U.out) HRG.out.2.2.2).trans J2U.out)
          have HS0 : Hid (setE t x = 0) := Lib.hid (by rw [HSset.out, if_neg (by rw [HF.out]; omega), if_neg (by rw [HF.out]; have := HK0.out; omega), HCN.out, HFI.out])
          obtain ⟨bs, hbs⟩ : ∃ bs : Bd, ({ ((⟨2, t.id, [], 0, noV, 0, noV⟩ : Bd)) with set := c.id, nv := x.nv } : Bd) = bs := ⟨_, rfl⟩
          have HBV : Hid (bs.vals = []) := Lib.hid (by rw [← hbs])
          rw [hbs] at JRU
          have HBS := Lib.hid hbs
          clear hbs
          have HWB : Hid (oneB (seenS s) x = whereB t x bs) := Lib.hid (by rw [HWB0.out]; unfold setB; rw [HZset.out, HCN.out, ← HBS.out])
          have HEwh0 : Hid (whereE t x = 0 → oneE (seenS s) x = 0) := Lib.hid (HEwhA.out HS0.out 0)
          have HEwh : Hid (∀ er, whereE t x = er → er ≠ 0 → oneE (seenS s) x = er) := Lib.hid (fun er he _ => HEwhA.out HS0.out er he)
          clear g1 g2 g3 k0 k1 HS0
          have zc : X2.cell? ⟨Y1, 7, none⟩ = some (.string zw) := by rw [← HZwh.out]; exact cell_blk J1U.out 7
          have hs := HHS.out
          by_cases q : zw = ⟨#[]⟩
          · have HQ := Lib.hid q
            rw [decide_eq_true q] at hs
            have HEQ : Hid (oneE (seenS s) x = 0) := Lib.hid (HEwh0.out (by rw [HSwh.out, if_pos q]))
            have HEB : Hid (oneB (seenS s) x = bs) := Lib.hid (by rw [HWB.out]; unfold whereB; rw [if_pos (HZwh.out.trans q)])
            clear q
            have hld := load_row (ty := 39) JRU.out Try.underlying39 rfl size39
            obtain ⟨X', hst, j', f'⟩ := st_row J2U.out (us := bdA (bs) (.slice none 0 0)) rfl size39 (by simp [Value.oneCell'])
            have HX := Lib.hid (And.intro j' f')
            clear j' f'
            go_wp2_with (first | (refine wpl_load _ rfl (by first | rfl | (simp [Act.eval]; done)) hld ?_) | (refine wpl_store _ _ rfl (by first | rfl | (simp [Act.eval]; done)) (by first | rfl | (simp [Act.eval]; done)) hst ?_))
            refine bodyPost_ret (results_two rfl rfl rfl (load_var HX.out.1 Try.underlying39 rfl size39)) rfl ?_
            have hwu := bgo HBw2.out HB2U.out
            refine ⟨_, _, _, _, by rw [HEQ.out]; rfl, fun _ => ⟨HEB.out.symm, ?_⟩, hwu.trans (HX.out.2.toBelow (fun k hk q => by have := GE.out.2.2.1; omega) hwu.size)⟩
            exact nil_own _ HBV.out _ _
          · have HZE := Lib.hid q
            rw [decide_eq_false q] at hs
            clear q
            have t0 : X2.cell? ⟨T, 0, none⟩ = some (.int .i64 t.id) := cell_blk JTU.out 0
            have t1 : X2.cell? ⟨T, 1, none⟩ = some (.string t.nm) := cell_blk JTU.out 1
            have t2 : X2.cell? ⟨T, 2, none⟩ = some (.slice ca cn cc) := cell_blk JTU.out 2
            have t3 : X2.cell? ⟨T, 3, none⟩ = some (.slice ia iN ic) := cell_blk JTU.out 3
            have t4 : X2.cell? ⟨T, 4, none⟩ = some (.slice ka kn kc) := cell_blk JTU.out 4
            have hcn := colAt_any (H3.out.on HB2U.out) zw
            rcases fidx_cases (fun y : Col => decide (y.nm = zw)) t.cols with ⟨hf, _⟩ | ⟨k, hk, hf, -, -⟩
            · rw [hf] at hcn
              have HF := Lib.hid hf
              clear hf
              go_upto_region 37 with (first | (go_at_call 23; refine hcn.mono ?_; rintro e w5 ⟨rfl, b5⟩; refine Hid.out ?_) | fail)
              refine Lib.hid ?_
              have HB2U := Lib.hid (bgo HB2U.out b5)
              have JTU := Lib.hid ((b5.block T (blk_lt JTU.out)).trans JTU.out)
              have JRU := Lib.hid ((b5.block R (blk_lt JRU.out)).trans JRU.out)
              have J1U := Lib.hid ((b5.block Y1 (blk_lt J1U.out)).trans J1U.out)
              have J2U := Lib.hid ((b5.block Y2 (blk_lt J2U.out)).trans J2U.out)
              clear hcn b5 zc t0 t1 t2 t3 t4
              have HNE : Hid ((151 : Int) ≠ 0) := Lib.hid (by decide)
              have HE : Hid (oneE (seenS s) x = 151) := Lib.hid (HEwh.out _ (by rw [HSwh.out, if_neg HZE.out, if_pos (by unfold nmIx; exact HF.out)]) HNE.out)
              obtain ⟨X', hst, j', b'⟩ := HBAD.out w5 (bgo HBW2.out HB2U.out)
              have HXR := Lib.hid (And.intro j' b')
              clear j' b'
              go_wp2_with (refine wpl_store _ _ rfl (by first | rfl | (simp [Act.eval]; done)) (by first | rfl | (simp [Act.eval]; done)) hst ?_)
              refine bodyPost_ret (results_two rfl rfl rfl (load_var HXR.out.1 Try.underlying39 rfl size39)) rfl ?_
              exact BAD.out _ HE.out HNE.out _ HXR.out.1 HXR.out.2
            · rw [hf] at hcn
              have g1 : ((k : Int) == -1) = false := by rw [beq_eq_false_iff_ne]; omega
              have g3 : ¬ (k : Int) < 0 := by omega
              have hcN : colN t (nmIx t zw) = t.cols[k] := by unfold nmIx; rw [hf, colN_at hk]
              obtain ⟨c, hc⟩ : ∃ c, t.cols[k] = c := ⟨_, rfl⟩
              rw [hc] at hcN
              obtain ⟨cb, co, ccs, ead, hcb, hEc, hcr⟩ := (H3.out.on HB2U.out).c.at.2.2.2 k hk
              have hEc' : ccs = colL t.cols[k] := hEc
              subst hEc'
              rw [hc] at hcr
              have HF : Hid (nmIx t zw = (k : Int)) := Lib.hid (by unfold nmIx; exact hf)
              have HCN := Lib.hid hcN
              have HKN : Hid (k < cn) := Lib.hid (by rw [← HCL.out]; exact hk)
              have k0 : (0 : Int) ≤ (k : Int) := by omega
              have k1 : (k : Int) < (cn : Int) := by have := HKN.out; omega
              have HCR := Lib.hid hcr
              have HAD := Lib.hid ead
              clear hf hcN hc hcr hEc hcb hk ead
              go_upto_region 38 with (first | (go_at_call 23; refine hcn.mono ?_; rintro e w5 ⟨rfl, b5⟩; refine Hid.out ?_) | fail)
              refine Lib.hid ?_
              have HB2U := Lib.hid (bgo HB2U.out b5)
              have JTU := Lib.hid ((b5.block T (blk_lt JTU.out)).trans JTU.out)
              have JRU := Lib.hid ((b5.block R (blk_lt JRU.out)).trans JRU.out)
              have J1U := Lib.hid ((b5.block Y1 (blk_lt J1U.out)).trans J1U.out)
              have J2U := Lib.hid ((b5.block Y2 (blk_lt J2U.out)).trans J2U.out)
              have HCR := Lib.hid (range_on b5 HCR.out)
              clear hcn b5 zc t0 t1 t2 t3 t4
              go_upto_region 38 with fail
              have HTC : Hid (w5.cell? ⟨T, 2, none⟩ = some (.slice (some ⟨cb, co, none⟩) cn cc)) := Lib.hid (by rw [← HAD.out]; exact cell_blk JTU.out 2)
              have HVR : Hid (w5.rangeAt Y1 8 (vlL x.be)) := Lib.hid (fun j u hu => by
                have hj : j < 3 := (List.getElem?_eq_some_iff.1 hu).1
                rw [cell_blk J1U.out]
                match j, hj, hu with
                | 0, _, hu => exact hu
                | 1, _, hu => exact hu
                | 2, _, hu => exact hu)
              refine wp_region_fb (fun _ X9 => Below w5.heap.size w5 X9) (fun X9 X8 => Below X9.heap.size X9 X8) [
                fun v9 _ => v9 = .pointer (some ⟨Y1, 8, none⟩),
                fun v9 _ => v9 = vlV x.be,
                fun v9 _ => v9 = .pointer (some ⟨T, 2, none⟩),
                fun v9 _ => v9 = .slice (some ⟨cb, co, none⟩) cn cc,
                fun v9 _ => v9 = .int .i64 (k : Int),
                fun v9 _ => v9 = .pointer (some ⟨cb, co + k * 7, none⟩),
                fun v9 _ => v9 = .pointer (some ⟨cb, co + k * 7 + 2, none⟩),
                fun v9 _ => v9 = .int .i64 c.kd,
                fun v9 _ => v9 = .int .i64 (fitP x.be c.kd),
                fun v9 _ => v9 = .int .i64 (fitP x.be c.kd)]
                (by kernel_rfl) (by kernel_rfl) (by kernel_rfl) ?st ?g0 ?os ?en
              case st => exact ⟨fun _ _ _ _ h => h, fun _ _ _ _ h => h, fun _ _ _ _ h => h, fun _ _ _ _ h => h, fun _ _ _ _ h => h, fun _ _ _ _ h => h, fun _ _ _ _ h => h, fun _ _ _ _ h => h, fun _ _ _ _ h => h, fun _ _ _ _ h => h, trivial⟩
              case g0 => exact ⟨rfl, rfl, rfl, Nat.le_refl _, fun _ _ => rfl⟩
              case os =>
                refine ⟨?_, ?_, ?_, ?_, ?_, ?_, ?_, ?_, ?_, ?_, trivial⟩
                · exact fun ρ X9 fl hg hn hl hp ho hc hf hr => .inl ⟨rfl, Runs.val _ (op_f46_6 (show ρ (.tmp 3) = .pointer (some ⟨Y1, 0, none⟩) from ho 3 rfl)) ⟨hg, Below.refl _ _, rfl⟩⟩
                · exact fun ρ X9 fl hg hn hl hp ho hc hf hr => .inl ⟨rfl, Runs.val _ (op_loadAt (show ρ (.tmp 148) = .pointer (some ⟨Y1, 8, none⟩) from hr 0 148 rfl rfl) (run_loadAt_mid X9 Y1 (8) 37 (vlL x.be) _ (range_on hg HVR.out) Try.underlying37 rfl size37)) ⟨hg, Below.refl _ _, rfl⟩⟩
                · exact fun ρ X9 fl hg hn hl hp ho hc hf hr => .inl ⟨rfl, Runs.val _ (op_f54_2 (show ρ (.tmp 7) = .pointer (some ⟨T, 0, none⟩) from ho 7 rfl)) ⟨hg, Below.refl _ _, rfl⟩⟩
                · exact fun ρ X9 fl hg hn hl hp ho hc hf hr => .inl ⟨rfl, Runs.val _ (op_load42 (show ρ (.tmp 150) = .pointer (some ⟨T, 2, none⟩) from hr 2 150 rfl rfl) (cell_on hg HTC.out)) ⟨hg, Below.refl _ _, rfl⟩⟩
                · exact fun ρ X9 fl hg hn hl hp ho hc hf hr => .inl ⟨rfl, Runs.val _ (op_move (show ρ (.tmp 13) = .int .i64 (k : Int) from ho 13 rfl)) ⟨hg, Below.refl _ _, rfl⟩⟩
                · exact fun ρ X9 fl hg hn hl hp ho hc hf hr => .inl ⟨rfl, Runs.val _ (op_i42 (show ρ (.tmp 151) = .slice (some ⟨cb, co, none⟩) cn cc from hr 3 151 rfl rfl) (show ρ (.tmp 152) = .int .i64 (k : Int) from hr 4 152 rfl rfl) HKN.out) ⟨hg, Below.refl _ _, rfl⟩⟩
                · exact fun ρ X9 fl hg hn hl hp ho hc hf hr => .inl ⟨rfl, Runs.val _ (op_f65_2 (show ρ (.tmp 153) = .pointer (some ⟨cb, co + k * 7, none⟩) from hr 5 153 rfl rfl)) ⟨hg, Below.refl _ _, rfl⟩⟩
                · exact fun ρ X9 fl hg hn hl hp ho hc hf hr => .inl ⟨rfl, Runs.val _ (op_load3 (show ρ (.tmp 154) = .pointer (some ⟨cb, co + k * 7 + 2, none⟩) from hr 6 154 rfl rfl) (cell_on hg (HCR.out 2 _ rfl))) ⟨hg, Below.refl _ _, rfl⟩⟩
                · intro ρ X9 fl hg hn hl hp ho hc hf hr
                  refine .inl ⟨rfl, ?_⟩
                  refine Runs.goes 41 #[vlV x.be, .int .i64 c.kd] (op_call2 hf (by go_simp) (show ρ (.tmp 149) = vlV x.be from hr 1 149 rfl rfl) (show ρ (.tmp 155) = .int .i64 c.kd from hr 7 155 rfl rfl)) ((fitsR_any x.be c.kd).mono ?_)
                  rintro e7 w7 ⟨rfl, b7⟩
                  exact ⟨_, rfl, bgo hg b7, b7, rfl⟩
                · exact fun ρ X9 fl hg hn hl hp ho hc hf hr => .inl ⟨rfl, Runs.val _ (op_assign (show ρ (.tmp 156) = .int .i64 (fitP x.be c.kd) from hr 8 156 rfl rfl)) ⟨hg, Below.refl _ _, rfl⟩⟩
              case en =>
                intro a9 w6 fl hfl b6 hs9 hd9 ho9 hr9
                obtain ⟨x9, hx, hxt⟩ := act_put hs9 hd9 ho9
                have x14 : x9 14 = .int .i64 (fitP x.be c.kd) := (hxt 14).symm.trans (hr9 9 14 rfl)
                change a9 = putAll _ x9 [148, 149, 150, 151, 152, 153, 154, 155, 156, 14] at hx
                simp only [putAll, Act.put, List.setIfInBounds_toArray, List.set_cons_zero, List.set_cons_succ, x14] at hx
                subst hx
                clear hs9 hd9 ho9 hr9 hfl x14
                generalize x9 148 = z148, x9 149 = z149, x9 150 = z150, x9 151 = z151, x9 152 = z152, x9 153 = z153, x9 154 = z154, x9 155 = z155, x9 156 = z156
                obtain ⟨f, hf⟩ : ∃ f, fitP x.be c.kd = f := ⟨_, rfl⟩
                rw [hf]
                have HFI := Lib.hid hf
                have HB2U := Lib.hid (bgo HB2U.out b6)
                have JTU := Lib.hid ((b6.block T (blk_lt JTU.out)).trans JTU.out)
                have JRU := Lib.hid ((b6.block R (blk_lt JRU.out)).trans JRU.out)
                have J1U := Lib.hid ((b6.block Y1 (blk_lt J1U.out)).trans J1U.out)
                have J2U := Lib.hid ((b6.block Y2 (blk_lt J2U.out)).trans J2U.out)
                have HCR := Lib.hid (range_on b6 HCR.out)
                clear b6 hf HTC HVR
                by_cases hf0 : f = 0
                · subst hf0
                  have HTC : Hid (w6.cell? ⟨T, 2, none⟩ = some (.slice (some ⟨cb, co, none⟩) cn cc)) := Lib.hid (by rw [← HAD.out]; exact cell_blk JTU.out 2)
                  have t2 := HTC.out
                  have kc0 : w6.cell? ⟨cb, co + k * 7, none⟩ = some (.int .i64 c.id) := HCR.out 0 _ rfl
                  have r3 : w6.cell? ⟨R, 7, none⟩ = some (.int .i64 (bs).wh) := cell_blk JRU.out 7
                  have f3 := frozen_blk JRU.out 7
                  obtain ⟨X1, hX1⟩ : ∃ X1, X1 = w6.setCell ⟨R, 7, none⟩ (.int .i64 c.id) := ⟨_, rfl⟩
                  have fX1 : Fr w6 X1 (fun k => k = R) := by rw [hX1]; exact (Fr.refl w6 (fun k => k = R)).set (a := ⟨R, 7, none⟩) (.inl rfl) _
                  have jX1 : X1.heap[R]? = some (.cells ((bdA (bs) (.slice none 0 0)).setIfInBounds 7 (.int .i64 c.id)) 39 (0, 0)) := by rw [hX1]; exact set_blk JRU.out _
                  have HX1 := Lib.hid hX1
                  have FX1 := Lib.hid fX1
                  have JX1 := Lib.hid jX1
                  clear hX1 fX1 jX1
                  go_upto_region 42 with fail
                  rw [← HX1.out]
                  clear t2 kc0 r3 f3
                  have HB2U := Lib.hid (HB2U.out.trans (FX1.out.toBelow (fun k hk q => by have := HRG.out.1; omega) HB2U.out.size))
                  have JTU := Lib.hid ((FX1.out.block T (blk_lt JTU.out) HRG.out.2.1).trans JTU.out)
                  have J1U := Lib.hid ((FX1.out.block Y1 (blk_lt J1U.out) HRG.out.2.2.1).trans J1U.out)
                  have J2U := Lib.hid ((FX1.out.block Y2 (blk_lt J2U.out) HRG.out.2.2.2).trans J2U.out)
                  have z0 : X1.cell? ⟨Y1, 8, none⟩ = some (.int .i64 x.be.k) := cell_blk J1U.out 8
                  have z1 : X1.cell? ⟨Y1, 9, none⟩ = some (.int .i64 x.be.n) := cell_blk J1U.out 9
                  have z2 : X1.cell? ⟨Y1, 10, none⟩ = some (.string x.be.s) := cell_blk J1U.out 10
                  have r0 : X1.cell? ⟨R, 8, none⟩ = some (.int .i64 (bs).be.k) := cell_blk JX1.out 8
                  have r1 : X1.cell? ⟨R, 9, none⟩ = some (.int .i64 (bs).be.n) := cell_blk JX1.out 9
                  have r2 : X1.cell? ⟨R, 10, none⟩ = some (.string (bs).be.s) := cell_blk JX1.out 10
                  have f0 := frozen_blk JX1.out 8
                  have f1 := frozen_blk JX1.out 9
                  have f2 := frozen_blk JX1.out 10
                  obtain ⟨X2, hX2⟩ : ∃ X2, X2 = ((X1.setCell ⟨R, 8, none⟩ (.int .i64 x.be.k)).setCell ⟨R, 9, none⟩ (.int .i64 x.be.n)).setCell ⟨R, 10, none⟩ (.string x.be.s) := ⟨_, rfl⟩
                  have fX2 : Fr X1 X2 (fun k => k = R) := by rw [hX2]; exact (((Fr.refl X1 (fun k => k = R)).set (a := ⟨R, 8, none⟩) (.inl rfl) _).set (a := ⟨R, 9, none⟩) (.inl rfl) _).set (a := ⟨R, 10, none⟩) (.inl rfl) _
                  have jX2 : X2.heap[R]? = some (.cells (bdA ({ (bs) with wh := c.id, be := x.be } : Bd) (.slice none 0 0)) 39 (0, 0)) := by rw [hX2]; exact set_blk (set_blk (set_blk JX1.out _) _) _
                  have HX2 := Lib.hid hX2
                  have FX2 := Lib.hid fX2
                  have JRU := Lib.hid jX2
                  clear hX2 fX2 jX2
                  go_upto_region 43 with fail
                  rw [← HX2.out]
                  clear z0 z1 z2 r0 r1 r2 f0 f1 f2 JX1
                  have HB2U := Lib.hid (HB2U.out.trans (FX2.out.toBelow (fun k hk q => by have := HRG.out.1; omega) HB2U.out.size))
                  have JTU := Lib.hid ((FX2.out.block T (blk_lt JTU.out) HRG.out.2.1).trans JTU.out)
                  have J1U := Lib.hid ((FX2.out.block Y1 (blk_lt J1U.out) HRG.out.2.2.1).trans J1U.out)
                  have J2U := Lib.hid ((FX2.out.block Y2 (blk_lt J2U.out) HRG.out.2.2.2).trans J2U.out)
                  have HS0 : Hid (whereE t x = 0) := Lib.hid (by rw [HSwh.out, if_neg HZE.out, if_neg (by rw [HF.out]; omega), HCN.out, HFI.out])
                  have HEQ : Hid (oneE (seenS s) x = 0) := Lib.hid (HEwh0.out HS0.out)
                  have HEB : Hid (oneB (seenS s) x = ({ (bs) with wh := c.id, be := x.be } : Bd)) := Lib.hid (by rw [HWB.out]; unfold whereB; rw [if_neg (by rw [HZwh.out]; exact HZE.out), HZwh.out, HCN.out])
                  have hld := load_row (ty := 39) JRU.out Try.underlying39 rfl size39
                  obtain ⟨X', hst, j', f'⟩ := st_row J2U.out (us := bdA (({ (bs) with wh := c.id, be := x.be } : Bd)) (.slice none 0 0)) rfl size39 (by simp [Value.oneCell'])
                  have HX := Lib.hid (And.intro j' f')
                  clear j' f'
                  go_wp2_with (first | (refine wpl_load _ rfl (by first | rfl | (simp [Act.eval]; done)) hld ?_) | (refine wpl_store _ _ rfl (by first | rfl | (simp [Act.eval]; done)) (by first | rfl | (simp [Act.eval]; done)) hst ?_))
                  refine bodyPost_ret (results_two rfl rfl rfl (load_var HX.out.1 Try.underlying39 rfl size39)) rfl ?_
                  have hwu := bgo HBw2.out HB2U.out
                  refine ⟨_, _, _, _, by rw [HEQ.out]; rfl, fun _ => ⟨HEB.out.symm, ?_⟩, hwu.trans (HX.out.2.toBelow (fun k hk q => by have := GE.out.2.2.1; omega) hwu.size)⟩
                  exact nil_own _ HBV.out _ _
                · have g1 : (f == 0) = false := by rw [beq_eq_false_iff_ne]; exact hf0
                  have g2 : (f != 0) = true := by simpa using hf0
                  have HNE := Lib.hid hf0
                  have HE : Hid (oneE (seenS s) x = f) := Lib.hid (HEwh.out _ (by rw [HSwh.out, if_neg HZE.out, if_neg (by rw [HF.out]; omega), HCN.out, HFI.out]) HNE.out)
                  clear hf0
                  obtain ⟨X', hst, j', b'⟩ := HBAD.out w6 (bgo HBW2.out HB2U.out)
                  have HXR := Lib.hid (And.intro j' b')
                  clear j' b'
                  go_wp2_with (refine wpl_store _ _ rfl (by first | rfl | (simp [Act.eval]; done)) (by first | rfl | (simp [Act.eval]; done)) hst ?_)
                  refine bodyPost_ret (results_two rfl rfl rfl (load_var HXR.out.1 Try.underlying39 rfl size39)) rfl ?_
                  exact BAD.out _ HE.out HNE.out _ HXR.out.1 HXR.out.2
        · have g1 : (f == 0) = false := by rw [beq_eq_false_iff_ne]; exact hf0
          have g2 : (f != 0) = true := by simpa using hf0
          have HNE := Lib.hid hf0
          have HE : Hid (oneE (seenS s) x = f) := Lib.hid (HEset.out _ (by rw [HSset.out, if_neg (by rw [HF.out]; omega), if_neg (by rw [HF.out]; have := HK0.out; omega), HCN.out, HFI.out]) HNE.out)
          clear hf0
          obtain ⟨X', hst, j', b'⟩ := HBAD.out w6 (bgo HBW2.out HB2U.out)
          have HXR := Lib.hid (And.intro j' b')
          clear j' b'
          go_wp2_with (refine wpl_store _ _ rfl (by first | rfl | (simp [Act.eval]; done)) (by first | rfl | (simp [Act.eval]; done)) hst ?_)
          refine bodyPost_ret (results_two rfl rfl rfl (load_var HXR.out.1 Try.underlying39 rfl size39)) rfl ?_
          exact BAD.out _ HE.out HNE.out _ HXR.out.1 HXR.out.2
  · have gk2 : (kd == 2) = false := by rw [beq_eq_false_iff_ne]; exact h2e
    have HWB : Hid (oneB (seenS s) x = whereB t x ⟨kd, t.id, [], 0, noV, 0, noV⟩) := Lib.hid (by rw [HO4.out, if_neg h1e, if_neg h2e])
    have HEwh : Hid (∀ er, whereE t x = er → er ≠ 0 → oneE (seenS s) x = er) := Lib.hid (fun er he _ => by rw [HO3.out, if_neg h1e, if_neg h2e, he])
    have HEwh0 : Hid (whereE t x = 0 → oneE (seenS s) x = 0) := Lib.hid (fun he => by rw [HO3.out, if_neg h1e, if_neg h2e, he])
    obtain ⟨bs, hbs⟩ : ∃ bs : Bd, (⟨kd, t.id, [], 0, noV, 0, noV⟩ : Bd) = bs := ⟨_, rfl⟩
    have HBV : Hid (bs.vals = []) := Lib.hid (by rw [← hbs])
    rw [hbs] at JRU HWB
    clear hbs
    clear h1 h4 h1e h2e
    go_upto_region 34 with fail
    clear x0
    have zc : V.cell? ⟨Y1, 7, none⟩ = some (.string zw) := by rw [← HZwh.out]; exact cell_blk J1U.out 7
    have hs := HHS.out
    by_cases q : zw = ⟨#[]⟩
    · have HQ := Lib.hid q
      rw [decide_eq_true q] at hs
      have HEQ : Hid (oneE (seenS s) x = 0) := Lib.hid (HEwh0.out (by rw [HSwh.out, if_pos q]))
      have HEB : Hid (oneB (seenS s) x = bs) := Lib.hid (by rw [HWB.out]; unfold whereB; rw [if_pos (HZwh.out.trans q)])
      clear q
      have hld := load_row (ty := 39) JRU.out Try.underlying39 rfl size39
      obtain ⟨X', hst, j', f'⟩ := st_row J2U.out (us := bdA (bs) (.slice none 0 0)) rfl size39 (by simp [Value.oneCell'])
      have HX := Lib.hid (And.intro j' f')
      clear j' f'
      go_wp2_with (first | (refine wpl_load _ rfl (by first | rfl | (simp [Act.eval]; done)) hld ?_) | (refine wpl_store _ _ rfl (by first | rfl | (simp [Act.eval]; done)) (by first | rfl | (simp [Act.eval]; done)) hst ?_))
      refine bodyPost_ret (results_two rfl rfl rfl (load_var HX.out.1 Try.underlying39 rfl size39)) rfl ?_
      have hwu := bgo HBw2.out HB2U.out
      refine ⟨_, _, _, _, by rw [HEQ.out]; rfl, fun _ => ⟨HEB.out.symm, ?_⟩, hwu.trans (HX.out.2.toBelow (fun k hk q => by have := GE.out.2.2.1; omega) hwu.size)⟩
      exact nil_own _ HBV.out _ _
    · have HZE := Lib.hid q
      rw [decide_eq_false q] at hs
      clear q
      have t0 : V.cell? ⟨T, 0, none⟩ = some (.int .i64 t.id) := cell_blk JTU.out 0
      have t1 : V.cell? ⟨T, 1, none⟩ = some (.string t.nm) := cell_blk JTU.out 1
      have t2 : V.cell? ⟨T, 2, none⟩ = some (.slice ca cn cc) := cell_blk JTU.out 2
      have t3 : V.cell? ⟨T, 3, none⟩ = some (.slice ia iN ic) := cell_blk JTU.out 3
      have t4 : V.cell? ⟨T, 4, none⟩ = some (.slice ka kn kc) := cell_blk JTU.out 4
      have hcn := colAt_any (H3.out.on HB2U.out) zw
      rcases fidx_cases (fun y : Col => decide (y.nm = zw)) t.cols with ⟨hf, _⟩ | ⟨k, hk, hf, -, -⟩
      · rw [hf] at hcn
        have HF := Lib.hid hf
        clear hf
        go_upto_region 37 with (first | (go_at_call 23; refine hcn.mono ?_; rintro e w5 ⟨rfl, b5⟩; refine Hid.out ?_) | fail)
        refine Lib.hid ?_
        have HB2U := Lib.hid (bgo HB2U.out b5)
        have JTU := Lib.hid ((b5.block T (blk_lt JTU.out)).trans JTU.out)
        have JRU := Lib.hid ((b5.block R (blk_lt JRU.out)).trans JRU.out)
        have J1U := Lib.hid ((b5.block Y1 (blk_lt J1U.out)).trans J1U.out)
        have J2U := Lib.hid ((b5.block Y2 (blk_lt J2U.out)).trans J2U.out)
        clear hcn b5 zc t0 t1 t2 t3 t4
        have HNE : Hid ((151 : Int) ≠ 0) := Lib.hid (by decide)
        have HE : Hid (oneE (seenS s) x = 151) := Lib.hid (HEwh.out _ (by rw [HSwh.out, if_neg HZE.out, if_pos (by unfold nmIx; exact HF.out)]) HNE.out)
        obtain ⟨X', hst, j', b'⟩ := HBAD.out w5 (bgo HBW2.out HB2U.out)
        have HXR := Lib.hid (And.intro j' b')
        clear j' b'
        go_wp2_with (refine wpl_store _ _ rfl (by first | rfl | (simp [Act.eval]; done)) (by first | rfl | (simp [Act.eval]; done)) hst ?_)
        refine bodyPost_ret (results_two rfl rfl rfl (load_var HXR.out.1 Try.underlying39 rfl size39)) rfl ?_
        exact BAD.out _ HE.out HNE.out _ HXR.out.1 HXR.out.2
      · rw [hf] at hcn
        have g1 : ((k : Int) == -1) = false := by rw [beq_eq_false_iff_ne]; omega
        have g3 : ¬ (k : Int) < 0 := by omega
        have hcN : colN t (nmIx t zw) = t.cols[k] := by unfold nmIx; rw [hf, colN_at hk]
        obtain ⟨c, hc⟩ : ∃ c, t.cols[k] = c := ⟨_, rfl⟩
        rw [hc] at hcN
        obtain ⟨cb, co, ccs, ead, hcb, hEc, hcr⟩ := (H3.out.on HB2U.out).c.at.2.2.2 k hk
        have hEc' : ccs = colL t.cols[k] := hEc
        subst hEc'
        rw [hc] at hcr
        have HF : Hid (nmIx t zw = (k : Int)) := Lib.hid (by unfold nmIx; exact hf)
        have HCN := Lib.hid hcN
        have HKN : Hid (k < cn) := Lib.hid (by rw [← HCL.out]; exact hk)
        have k0 : (0 : Int) ≤ (k : Int) := by omega
        have k1 : (k : Int) < (cn : Int) := by have := HKN.out; omega
        have HCR := Lib.hid hcr
        have HAD := Lib.hid ead
        clear hf hcN hc hcr hEc hcb hk ead
        go_upto_region 38 with (first | (go_at_call 23; refine hcn.mono ?_; rintro e w5 ⟨rfl, b5⟩; refine Hid.out ?_) | fail)
        refine Lib.hid ?_
        have HB2U := Lib.hid (bgo HB2U.out b5)
        have JTU := Lib.hid ((b5.block T (blk_lt JTU.out)).trans JTU.out)
        have JRU := Lib.hid ((b5.block R (blk_lt JRU.out)).trans JRU.out)
        have J1U := Lib.hid ((b5.block Y1 (blk_lt J1U.out)).trans J1U.out)
        have J2U := Lib.hid ((b5.block Y2 (blk_lt J2U.out)).trans J2U.out)
        have HCR := Lib.hid (range_on b5 HCR.out)
        clear hcn b5 zc t0 t1 t2 t3 t4
        go_upto_region 38 with fail
        have HTC : Hid (w5.cell? ⟨T, 2, none⟩ = some (.slice (some ⟨cb, co, none⟩) cn cc)) := Lib.hid (by rw [← HAD.out]; exact cell_blk JTU.out 2)
        have HVR : Hid (w5.rangeAt Y1 8 (vlL x.be)) := Lib.hid (fun j u hu => by
          have hj : j < 3 := (List.getElem?_eq_some_iff.1 hu).1
          rw [cell_blk J1U.out]
          match j, hj, hu with
          | 0, _, hu => exact hu
          | 1, _, hu => exact hu
          | 2, _, hu => exact hu)
        refine wp_region_fb (fun _ X9 => Below w5.heap.size w5 X9) (fun X9 X8 => Below X9.heap.size X9 X8) [
          fun v9 _ => v9 = .pointer (some ⟨Y1, 8, none⟩),
          fun v9 _ => v9 = vlV x.be,
          fun v9 _ => v9 = .pointer (some ⟨T, 2, none⟩),
          fun v9 _ => v9 = .slice (some ⟨cb, co, none⟩) cn cc,
          fun v9 _ => v9 = .int .i64 (k : Int),
          fun v9 _ => v9 = .pointer (some ⟨cb, co + k * 7, none⟩),
          fun v9 _ => v9 = .pointer (some ⟨cb, co + k * 7 + 2, none⟩),
          fun v9 _ => v9 = .int .i64 c.kd,
          fun v9 _ => v9 = .int .i64 (fitP x.be c.kd),
          fun v9 _ => v9 = .int .i64 (fitP x.be c.kd)]
          (by kernel_rfl) (by kernel_rfl) (by kernel_rfl) ?st ?g0 ?os ?en
        case st => exact ⟨fun _ _ _ _ h => h, fun _ _ _ _ h => h, fun _ _ _ _ h => h, fun _ _ _ _ h => h, fun _ _ _ _ h => h, fun _ _ _ _ h => h, fun _ _ _ _ h => h, fun _ _ _ _ h => h, fun _ _ _ _ h => h, fun _ _ _ _ h => h, trivial⟩
        case g0 => exact ⟨rfl, rfl, rfl, Nat.le_refl _, fun _ _ => rfl⟩
        case os =>
          refine ⟨?_, ?_, ?_, ?_, ?_, ?_, ?_, ?_, ?_, ?_, trivial⟩
          · exact fun ρ X9 fl hg hn hl hp ho hc hf hr => .inl ⟨rfl, Runs.val _ (op_f46_6 (show ρ (.tmp 3) = .pointer (some ⟨Y1, 0, none⟩) from ho 3 rfl)) ⟨hg, Below.refl _ _, rfl⟩⟩
          · exact fun ρ X9 fl hg hn hl hp ho hc hf hr => .inl ⟨rfl, Runs.val _ (op_loadAt (show ρ (.tmp 148) = .pointer (some ⟨Y1, 8, none⟩) from hr 0 148 rfl rfl) (run_loadAt_mid X9 Y1 (8) 37 (vlL x.be) _ (range_on hg HVR.out) Try.underlying37 rfl size37)) ⟨hg, Below.refl _ _, rfl⟩⟩
          · exact fun ρ X9 fl hg hn hl hp ho hc hf hr => .inl ⟨rfl, Runs.val _ (op_f54_2 (show ρ (.tmp 7) = .pointer (some ⟨T, 0, none⟩) from ho 7 rfl)) ⟨hg, Below.refl _ _, rfl⟩⟩
          · exact fun ρ X9 fl hg hn hl hp ho hc hf hr => .inl ⟨rfl, Runs.val _ (op_load42 (show ρ (.tmp 150) = .pointer (some ⟨T, 2, none⟩) from hr 2 150 rfl rfl) (cell_on hg HTC.out)) ⟨hg, Below.refl _ _, rfl⟩⟩
          · exact fun ρ X9 fl hg hn hl hp ho hc hf hr => .inl ⟨rfl, Runs.val _ (op_move (show ρ (.tmp 13) = .int .i64 (k : Int) from ho 13 rfl)) ⟨hg, Below.refl _ _, rfl⟩⟩
          · exact fun ρ X9 fl hg hn hl hp ho hc hf hr => .inl ⟨rfl, Runs.val _ (op_i42 (show ρ (.tmp 151) = .slice (some ⟨cb, co, none⟩) cn cc from hr 3 151 rfl rfl) (show ρ (.tmp 152) = .int .i64 (k : Int) from hr 4 152 rfl rfl) HKN.out) ⟨hg, Below.refl _ _, rfl⟩⟩
          · exact fun ρ X9 fl hg hn hl hp ho hc hf hr => .inl ⟨rfl, Runs.val _ (op_f65_2 (show ρ (.tmp 153) = .pointer (some ⟨cb, co + k * 7, none⟩) from hr 5 153 rfl rfl)) ⟨hg, Below.refl _ _, rfl⟩⟩
          · exact fun ρ X9 fl hg hn hl hp ho hc hf hr => .inl ⟨rfl, Runs.val _ (op_load3 (show ρ (.tmp 154) = .pointer (some ⟨cb, co + k * 7 + 2, none⟩) from hr 6 154 rfl rfl) (cell_on hg (HCR.out 2 _ rfl))) ⟨hg, Below.refl _ _, rfl⟩⟩
          · intro ρ X9 fl hg hn hl hp ho hc hf hr
            refine .inl ⟨rfl, ?_⟩
            refine Runs.goes 41 #[vlV x.be, .int .i64 c.kd] (op_call2 hf (by go_simp) (show ρ (.tmp 149) = vlV x.be from hr 1 149 rfl rfl) (show ρ (.tmp 155) = .int .i64 c.kd from hr 7 155 rfl rfl)) ((fitsR_any x.be c.kd).mono ?_)
            rintro e7 w7 ⟨rfl, b7⟩
            exact ⟨_, rfl, bgo hg b7, b7, rfl⟩
          · exact fun ρ X9 fl hg hn hl hp ho hc hf hr => .inl ⟨rfl, Runs.val _ (op_assign (show ρ (.tmp 156) = .int .i64 (fitP x.be c.kd) from hr 8 156 rfl rfl)) ⟨hg, Below.refl _ _, rfl⟩⟩
        case en =>
          intro a9 w6 fl hfl b6 hs9 hd9 ho9 hr9
          obtain ⟨x9, hx, hxt⟩ := act_put hs9 hd9 ho9
          have x14 : x9 14 = .int .i64 (fitP x.be c.kd) := (hxt 14).symm.trans (hr9 9 14 rfl)
          change a9 = putAll _ x9 [148, 149, 150, 151, 152, 153, 154, 155, 156, 14] at hx
          simp only [putAll, Act.put, List.setIfInBounds_toArray, List.set_cons_zero, List.set_cons_succ, x14] at hx
          subst hx
          clear hs9 hd9 ho9 hr9 hfl x14
          generalize x9 148 = z148, x9 149 = z149, x9 150 = z150, x9 151 = z151, x9 152 = z152, x9 153 = z153, x9 154 = z154, x9 155 = z155, x9 156 = z156
          obtain ⟨f, hf⟩ : ∃ f, fitP x.be c.kd = f := ⟨_, rfl⟩
          rw [hf]
          have HFI := Lib.hid hf
          have HB2U := Lib.hid (bgo HB2U.out b6)
          have JTU := Lib.hid ((b6.block T (blk_lt JTU.out)).trans JTU.out)
          have JRU := Lib.hid ((b6.block R (blk_lt JRU.out)).trans JRU.out)
          have J1U := Lib.hid ((b6.block Y1 (blk_lt J1U.out)).trans J1U.out)
          have J2U := Lib.hid ((b6.block Y2 (blk_lt J2U.out)).trans J2U.out)
          have HCR := Lib.hid (range_on b6 HCR.out)
          clear b6 hf HTC HVR
          by_cases hf0 : f = 0
          · subst hf0
            have HTC : Hid (w6.cell? ⟨T, 2, none⟩ = some (.slice (some ⟨cb, co, none⟩) cn cc)) := Lib.hid (by rw [← HAD.out]; exact cell_blk JTU.out 2)
            have t2 := HTC.out
            have kc0 : w6.cell? ⟨cb, co + k * 7, none⟩ = some (.int .i64 c.id) := HCR.out 0 _ rfl
            have r3 : w6.cell? ⟨R, 7, none⟩ = some (.int .i64 (bs).wh) := cell_blk JRU.out 7
            have f3 := frozen_blk JRU.out 7
            obtain ⟨X1, hX1⟩ : ∃ X1, X1 = w6.setCell ⟨R, 7, none⟩ (.int .i64 c.id) := ⟨_, rfl⟩
            have fX1 : Fr w6 X1 (fun k => k = R) := by rw [hX1]; exact (Fr.refl w6 (fun k => k = R)).set (a := ⟨R, 7, none⟩) (.inl rfl) _
            have jX1 : X1.heap[R]? = some (.cells ((bdA (bs) (.slice none 0 0)).setIfInBounds 7 (.int .i64 c.id)) 39 (0, 0)) := by rw [hX1]; exact set_blk JRU.out _
            have HX1 := Lib.hid hX1
            have FX1 := Lib.hid fX1
            have JX1 := Lib.hid jX1
            clear hX1 fX1 jX1
            go_upto_region 42 with fail
            rw [← HX1.out]
            clear t2 kc0 r3 f3
            have HB2U := Lib.hid (HB2U.out.trans (FX1.out.toBelow (fun k hk q => by have := HRG.out.1; omega) HB2U.out.size))
            have JTU := Lib.hid ((FX1.out.block T (blk_lt JTU.out) HRG.out.2.1).trans JTU.out)
            have J1U := Lib.hid ((FX1.out.block Y1 (blk_lt J1U.out) HRG.out.2.2.1).trans J1U.out)
            have J2U := Lib.hid ((FX1.out.block Y2 (blk_lt J2U.out) HRG.out.2.2.2).trans J2U.out)
            have z0 : X1.cell? ⟨Y1, 8, none⟩ = some (.int .i64 x.be.k) := cell_blk J1U.out 8
            have z1 : X1.cell? ⟨Y1, 9, none⟩ = some (.int .i64 x.be.n) := cell_blk J1U.out 9
            have z2 : X1.cell? ⟨Y1, 10, none⟩ = some (.string x.be.s) := cell_blk J1U.out 10
            have r0 : X1.cell? ⟨R, 8, none⟩ = some (.int .i64 (bs).be.k) := cell_blk JX1.out 8
            have r1 : X1.cell? ⟨R, 9, none⟩ = some (.int .i64 (bs).be.n) := cell_blk JX1.out 9
            have r2 : X1.cell? ⟨R, 10, none⟩ = some (.string (bs).be.s) := cell_blk JX1.out 10
            have f0 := frozen_blk JX1.out 8
            have f1 := frozen_blk JX1.out 9
            have f2 := frozen_blk JX1.out 10
            obtain ⟨X2, hX2⟩ : ∃ X2, X2 = ((X1.setCell ⟨R, 8, none⟩ (.int .i64 x.be.k)).setCell ⟨R, 9, none⟩ (.int .i64 x.be.n)).setCell ⟨R, 10, none⟩ (.string x.be.s) := ⟨_, rfl⟩
            have fX2 : Fr X1 X2 (fun k => k = R) := by rw [hX2]; exact (((Fr.refl X1 (fun k => k = R)).set (a := ⟨R, 8, none⟩) (.inl rfl) _).set (a := ⟨R, 9, none⟩) (.inl rfl) _).set (a := ⟨R, 10, none⟩) (.inl rfl) _
            have jX2 : X2.heap[R]? = some (.cells (bdA ({ (bs) with wh := c.id, be := x.be } : Bd) (.slice none 0 0)) 39 (0, 0)) := by rw [hX2]; exact set_blk (set_blk (set_blk JX1.out _) _) _
            have HX2 := Lib.hid hX2
            have FX2 := Lib.hid fX2
            have JRU := Lib.hid jX2
            clear hX2 fX2 jX2
            go_upto_region 43 with fail
            rw [← HX2.out]
            clear z0 z1 z2 r0 r1 r2 f0 f1 f2 JX1
            have HB2U := Lib.hid (HB2U.out.trans (FX2.out.toBelow (fun k hk q => by have := HRG.out.1; omega) HB2U.out.size))
            have JTU := Lib.hid ((FX2.out.block T (blk_lt JTU.out) HRG.out.2.1).trans JTU.out)
            have J1U := Lib.hid ((FX2.out.block Y1 (blk_lt J1U.out) HRG.out.2.2.1).trans J1U.out)
            have J2U := Lib.hid ((FX2.out.block Y2 (blk_lt J2U.out) HRG.out.2.2.2).trans J2U.out)
            have HS0 : Hid (whereE t x = 0) := Lib.hid (by rw [HSwh.out, if_neg HZE.out, if_neg (by rw [HF.out]; omega), HCN.out, HFI.out])
            have HEQ : Hid (oneE (seenS s) x = 0) := Lib.hid (HEwh0.out HS0.out)
            have HEB : Hid (oneB (seenS s) x = ({ (bs) with wh := c.id, be := x.be } : Bd)) := Lib.hid (by rw [HWB.out]; unfold whereB; rw [if_neg (by rw [HZwh.out]; exact HZE.out), HZwh.out, HCN.out])
            have hld := load_row (ty := 39) JRU.out Try.underlying39 rfl size39
            obtain ⟨X', hst, j', f'⟩ := st_row J2U.out (us := bdA (({ (bs) with wh := c.id, be := x.be } : Bd)) (.slice none 0 0)) rfl size39 (by simp [Value.oneCell'])
            have HX := Lib.hid (And.intro j' f')
            clear j' f'
            go_wp2_with (first | (refine wpl_load _ rfl (by first | rfl | (simp [Act.eval]; done)) hld ?_) | (refine wpl_store _ _ rfl (by first | rfl | (simp [Act.eval]; done)) (by first | rfl | (simp [Act.eval]; done)) hst ?_))
            refine bodyPost_ret (results_two rfl rfl rfl (load_var HX.out.1 Try.underlying39 rfl size39)) rfl ?_
            have hwu := bgo HBw2.out HB2U.out
            refine ⟨_, _, _, _, by rw [HEQ.out]; rfl, fun _ => ⟨HEB.out.symm, ?_⟩, hwu.trans (HX.out.2.toBelow (fun k hk q => by have := GE.out.2.2.1; omega) hwu.size)⟩
            exact nil_own _ HBV.out _ _
          · have g1 : (f == 0) = false := by rw [beq_eq_false_iff_ne]; exact hf0
            have g2 : (f != 0) = true := by simpa using hf0
            have HNE := Lib.hid hf0
            have HE : Hid (oneE (seenS s) x = f) := Lib.hid (HEwh.out _ (by rw [HSwh.out, if_neg HZE.out, if_neg (by rw [HF.out]; omega), HCN.out, HFI.out]) HNE.out)
            clear hf0
            obtain ⟨X', hst, j', b'⟩ := HBAD.out w6 (bgo HBW2.out HB2U.out)
            have HXR := Lib.hid (And.intro j' b')
            clear j' b'
            go_wp2_with (refine wpl_store _ _ rfl (by first | rfl | (simp [Act.eval]; done)) (by first | rfl | (simp [Act.eval]; done)) hst ?_)
            refine bodyPost_ret (results_two rfl rfl rfl (load_var HXR.out.1 Try.underlying39 rfl size39)) rfl ?_
            exact BAD.out _ HE.out HNE.out _ HXR.out.1 HXR.out.2
end
end Go.Proofs.Ytkfnphhoebknnaa
