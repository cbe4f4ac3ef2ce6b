import Derived.Test.YtkfnphhoebknnaaQEg
namespace Go.Proofs.Ytkfnphhoebknnaa
open Go.RowKit
theorem st_row {X : World} {Y : Nat} {T : TypeId} {cs us : Array Value} (hY : X.heap[Y]? = some (.cells cs T (0, 0))) (hl : us.size = cs.size) (hi : (Try.prog.info? T).map (·.size) = some us.size) (h1 : us.all (·.oneCell') = true) : ∃ X', (Instr.storeAt T (.pointer (some ⟨Y, 0, none⟩)) (.agg us)).run Try.prog X = .ok () X' ∧ X'.heap[Y]? = some (.cells us T (0, 0)) ∧ Fr X X' (fun k => k = Y) := by
  obtain ⟨X', e, j, f⟩ := sets_row hY us hl
  exact ⟨X', by rw [e]; exact store_row hY hl hi h1, j, f⟩
abbrev zBA : Array Value := #[.int .i64 0, .int .i64 0, .slice none 0 0, .int .i64 0, .int .i64 0, .int .i64 0, .string ⟨#[]⟩, .int .i64 0, .int .i64 0, .int .i64 0, .string ⟨#[]⟩]
def foldB (fs : List Nat) (t : Tb) (x : St) (b : Bd) : Bd := fs.foldl (fun b f => ruleB1 f t x b) b
def rE (fs : List Nat) (t : Tb) (x : St) : Int := vAll (fun i => ruleE1 (fs.getD i 93) t x) fs.length
theorem rfs_mem {k : Int} {f : Nat} (h : f ∈ rfs k) : f = 88 ∨ f = 91 ∨ f = 93 := by
  unfold rfs at h
  split at h
  · simp at h; exact .inl h
  · split at h
    · simp at h; omega
    · simp at h; omega
theorem ruleE_is (t : Tb) (x : St) : ruleE t x = rE (rfs x.kind) t x := by
  unfold ruleE rE rfs
  by_cases h1 : x.kind = 1
  · rw [if_pos h1, if_pos h1]
    simp [vAll, ruleE1]
  · rw [if_neg h1, if_neg h1]
    by_cases h2 : x.kind = 2
    · rw [if_pos h2, if_pos h2]
      simp [vAll, ruleE1]
    · rw [if_neg h2, if_neg h2]
      simp [vAll, ruleE1]
theorem ruleB_is (t : Tb) (x : St) : ruleB t x = foldB (rfs x.kind) t x ⟨x.kind, t.id, [], 0, noV, 0, noV⟩ := by
  unfold ruleB foldB rfs
  by_cases h1 : x.kind = 1
  · rw [if_pos h1, if_pos h1]; rfl
  · rw [if_neg h1, if_neg h1]
    by_cases h2 : x.kind = 2
    · rw [if_pos h2, if_pos h2]; rfl
    · rw [if_neg h2, if_neg h2]; rfl
theorem foldB_next {fs : List Nat} {t : Tb} {x : St} {b : Bd} {i : Nat} (h : i < fs.length) : foldB (fs.take (i + 1)) t x b = ruleB1 fs[i] t x (foldB (fs.take i) t x b) := by
  unfold foldB
  rw [List.take_add_one, List.getElem?_eq_getElem h, List.foldl_append]
  rfl
section
variable {w : World}
set_option maxHeartbeats 8000000 in
set_option maxRecDepth 100000 in
theorem one_any {s : Sc} {tv vv dv : Value} {x : St} (hL : Lr tbE 5 w s.tabs tv) (hf : ∀ t ∈ s.tabs, t.few) (hv : Lr valsE 3 w x.vals vv) (hz : x.vals.length ≤ 1000000) (hdv : dv.oneCell' = true) : Calls Try.prog 18 #[scV s tv, .agg (stmtA x vv dv)] w fun e w' => ∃ b ba bn bc, e = .returned (.tuple #[.agg (bdA b (.slice ba bn bc)), .int .i64 (oneE s x)]) ∧ (oneE s x = 0 → b = oneB s x ∧ w'.ownsRow w.heap.size 37 3 (.slice ba bn bc) b.vals.length (b.vals.flatMap vlL)) ∧ Below w.heap.size w w' := by
  obtain ⟨va, vc, rfl, hvr⟩ := hv
  have hv : Lr valsE 3 w x.vals (.slice va x.vals.length vc) := ⟨va, vc, rfl, hvr⟩
  obtain ⟨ta, tc, rfl, htr⟩ := hL
  have hL : Lr tbE 5 w s.tabs (.slice ta s.tabs.length tc) := ⟨ta, tc, rfl, htr⟩
  clear hvr htr
  obtain ⟨vv, hvv⟩ : ∃ vv, Value.slice va x.vals.length vc = vv := ⟨_, rfl⟩
  rw [hvv] at hv ⊢
  have HVV := Lib.hid hvv
  clear hvv
  obtain ⟨tn, htn⟩ : ∃ tn, s.tabs.length = tn := ⟨_, rfl⟩
  rw [htn] at hL
  unfold scV
  rw [htn]
  have HTN := Lib.hid htn
  clear htn
  obtain ⟨W, hW⟩ : ∃ W, W = ((w.alloc (.cells (#[.int .i64 s.ver, .int .i64 s.last, .slice ta tn tc]) 24)).alloc (.cells (stmtA x vv dv) 46)).alloc (.cells (#[.int .i64 0, .int .i64 0, .slice none 0 0, .int .i64 0, .int .i64 0, .int .i64 0, .string ⟨#[]⟩, .int .i64 0, .int .i64 0, .int .i64 0, .string ⟨#[]⟩]) 39) := ⟨_, rfl⟩
  have hbW : Below w.heap.size w W := by
    rw [hW]
    exact bgo (bgo (bnew _ _) (bnew _ _)) (bnew _ _)
  obtain ⟨Y0, hY0⟩ : ∃ Y0, w.heap.size = Y0 := ⟨_, rfl⟩
  obtain ⟨Y1, hY1⟩ : ∃ Y1, Y0 + 1 = Y1 := ⟨_, rfl⟩
  obtain ⟨Y2, hY2⟩ : ∃ Y2, Y1 + 1 = Y2 := ⟨_, rfl⟩
  have j0 : W.heap[Y0]? = some (.cells (#[.int .i64 s.ver, .int .i64 s.last, .slice ta tn tc]) 24 (0, 0)) := by
    have := heap_alloc_new (w) (.cells (#[.int .i64 s.ver, .int .i64 s.last, .slice ta tn tc]) 24)
    rw [hW, ← hY0, Below.heap_alloc _ _ _ (by simp only [World.size_alloc]; omega), Below.heap_alloc _ _ _ (by simp only [World.size_alloc]; omega)]
    exact this
  have j1 : W.heap[Y1]? = some (.cells (stmtA x vv dv) 46 (0, 0)) := by
    have := heap_alloc_new (w.alloc (.cells (#[.int .i64 s.ver, .int .i64 s.last, .slice ta tn tc]) 24)) (.cells (stmtA x vv dv) 46)
    simp only [World.size_alloc] at this
    rw [hW, ← hY1, ← hY0, Below.heap_alloc _ _ _ (by simp only [World.size_alloc]; omega)]
    exact this
  have j2 : W.heap[Y2]? = some (.cells (#[.int .i64 0, .int .i64 0, .slice none 0 0, .int .i64 0, .int .i64 0, .int .i64 0, .string ⟨#[]⟩, .int .i64 0, .int .i64 0, .int .i64 0, .string ⟨#[]⟩]) 39 (0, 0)) := by
    have := heap_alloc_new ((w.alloc (.cells (#[.int .i64 s.ver, .int .i64 s.last, .slice ta tn tc]) 24)).alloc (.cells (stmtA x vv dv) 46)) (.cells (#[.int .i64 0, .int .i64 0, .slice none 0 0, .int .i64 0, .int .i64 0, .int .i64 0, .string ⟨#[]⟩, .int .i64 0, .int .i64 0, .int .i64 0, .string ⟨#[]⟩]) 39)
    simp only [World.size_alloc] at this
    rw [hW, ← hY2, ← hY1, ← hY0]
    exact this
  have GE : Hid (w.heap.size ≤ Y0 ∧ w.heap.size ≤ Y1 ∧ w.heap.size ≤ Y2 ∧ Y2 + 1 = W.heap.size) := Lib.hid ⟨by omega, by omega, by omega, by rw [hW]; simp only [World.size_alloc]; omega⟩
  have HL := Lib.hid (hL.on tbE_held hbW)
  have HV := Lib.hid (hv.on valsE_held hbW)
  have HW := Lib.hid hW
  have HB := Lib.hid hbW
  have HY0 := Lib.hid hY0
  have HY1 := Lib.hid hY1
  have HY2 := Lib.hid hY2
  have J0 := Lib.hid j0
  have J1 := Lib.hid j1
  have J2 := Lib.hid j2
  have HF := Lib.hid hf
  have HZ := Lib.hid hz
  have HDV := Lib.hid hdv
  have s0 : W.cell? ⟨Y0, 0, none⟩ = some (.int .i64 s.ver) := cell_blk j0 0
  have s1 : W.cell? ⟨Y0, 1, none⟩ = some (.int .i64 s.last) := cell_blk j0 1
  have s2 : W.cell? ⟨Y0, 2, none⟩ = some (.slice ta tn tc) := cell_blk j0 2
  have x0 : W.cell? ⟨Y1, 0, none⟩ = some (.int .i64 x.kind) := cell_blk j1 0
  have x1 : W.cell? ⟨Y1, 1, none⟩ = some (.string x.tab) := cell_blk j1 1
  obtain ⟨kd, hkd⟩ : ∃ kd, x.kind = kd := ⟨_, rfl⟩
  rw [hkd] at x0
  have HKD := Lib.hid hkd
  clear hW hbW hY0 hY1 hY2 j0 j1 j2 hf hz hdv hL hv hkd
  have HBAD : Hid (∀ (V : World), Below W.heap.size W V → ∃ X', (Instr.storeAt 39 (.pointer (some ⟨Y2, 0, none⟩)) (.agg zBA)).run Try.prog V = .ok () X' ∧ X'.heap[Y2]? = some (.cells zBA 39 (0, 0)) ∧ Below w.heap.size w X') := Lib.hid fun V hV => by
    obtain ⟨X', h1, h2, h3⟩ := st_row ((hV.block Y2 (blk_lt J2.out)).trans J2.out) (us := zBA) rfl size39 (by simp [Value.oneCell'])
    exact ⟨X', h1, h2, (bgo HB.out hV).trans (h3.toBelow (fun k hk q => by have := GE.out.2.2.1; omega) (bgo HB.out hV).size)⟩
  have HOE : Hid (oneE s x = if kd < 1 ∨ 4 < kd then 1 else if tabIx s x.tab = -1 then 150 else ruleE (tabN s (tabIx s x.tab)) x) := Lib.hid (by unfold oneE; rw [HKD.out])
  have bad : ∀ (er : Int) (_ : oneE s x = er) (_ : er ≠ 0) (X' : World), X'.heap[Y2]? = some (.cells zBA 39 (0, 0)) → Below w.heap.size w X' → ∃ b ba bn bc, Ending.returned (.tuple #[.agg zBA, .int .i64 er]) = .returned (.tuple #[.agg (bdA b (.slice ba bn bc)), .int .i64 (oneE s x)]) ∧ (oneE s x = 0 → b = oneB s x ∧ X'.ownsRow w.heap.size 37 3 (.slice ba bn bc) b.vals.length (b.vals.flatMap vlL)) ∧ Below w.heap.size w X' := fun er h1 h2 X' _ hb => ⟨zeroB, none, 0, 0, by rw [h1]; rfl, fun q => absurd (h1.symm.trans q) h2, hb⟩
  have BAD := Lib.hid bad
  clear bad
  by_cases h1 : kd < 1
  · obtain ⟨X', hst, j', b'⟩ := HBAD.out W (Below.refl _ _)
    have HR := Lib.hid (And.intro j' b')
    have HE : Hid (oneE s x = 1) := Lib.hid (by rw [HOE.out, if_pos (.inl h1)])
    clear j' b'
    go_enter Try.func18, Try.ntmps18
    go_upto_region 1 with fail
    rw [← HW.out, HY0.out, HY1.out, HY2.out]
    go_wp2_with (refine wpl_store _ _ rfl (by simp [Act.eval]) (by simp [Act.eval]) hst ?_)
    refine bodyPost_ret (results_two rfl rfl rfl (load_var HR.out.1 Try.underlying39 rfl size39)) rfl ?_
    exact BAD.out _ HE.out (by decide) _ HR.out.1 HR.out.2
  by_cases h4 : 4 < kd
  · obtain ⟨X', hst, j', b'⟩ := HBAD.out W (Below.refl _ _)
    have HR := Lib.hid (And.intro j' b')
    have HE : Hid (oneE s x = 1) := Lib.hid (by rw [HOE.out, if_pos (.inr h4)])
    clear j' b'
    go_enter Try.func18, Try.ntmps18
    go_upto_region 1 with fail
    rw [← HW.out, HY0.out, HY1.out, HY2.out]
    go_wp2_with (refine wpl_store _ _ rfl (by simp [Act.eval]) (by simp [Act.eval]) hst ?_)
    refine bodyPost_ret (results_two rfl rfl rfl (load_var HR.out.1 Try.underlying39 rfl size39)) rfl ?_
    exact BAD.out _ HE.out (by decide) _ HR.out.1 HR.out.2
  have HO2 : Hid (oneE s x = if tabIx s x.tab = -1 then 150 else ruleE (tabN s (tabIx s x.tab)) x) := Lib.hid (by rw [HOE.out, if_neg (fun q => q.elim h1 h4)])
  rcases fidx_cases (fun y : Tb => decide (y.nm = x.tab)) s.tabs with ⟨hfx, _⟩ | ⟨i, hi, hfx, -, -⟩
  · have hcall := table_no (w := W) (s := s) (tv := .slice ta tn tc) (z := x.tab) HL.out hfx
    unfold scV at hcall
    have HE : Hid (oneE s x = 150) := Lib.hid (by rw [HO2.out]; unfold tabIx; rw [hfx]; rfl)
    clear hfx
    go_enter Try.func18, Try.ntmps18
    go_upto_region 1 with fail
    rw [← HW.out, HY0.out, HY1.out, HY2.out]
    go_upto_region 5 with (go_at_call 38; refine hcall.mono ?_; rintro e w1 ⟨rfl, b1⟩; refine Hid.out ?_)
    refine Lib.hid ?_
    have HB1 := Lib.hid b1
    clear hcall b1 s0 s1 s2 x0 x1
    go_upto_region 5 with fail
    obtain ⟨X', hst, j', b'⟩ := HBAD.out _ (bgo HB1.out (bnew w1 (.cells zTA 54)))
    have HR := Lib.hid (And.intro j' b')
    clear j' b'
    go_wp2_with (refine wpl_store _ _ rfl (by simp [Act.eval]) (by simp [Act.eval]) hst ?_)
    refine bodyPost_ret (results_two rfl rfl rfl (load_var HR.out.1 Try.underlying39 rfl size39)) rfl ?_
    exact BAD.out _ HE.out (by decide) _ HR.out.1 HR.out.2
  obtain ⟨t, ht⟩ : ∃ t, s.tabs[i] = t := ⟨_, rfl⟩
  have hcall := table_yes (w := W) (s := s) (tv := .slice ta tn tc) (z := x.tab) HL.out hi ht (by rw [← ht]; exact HF.out _ (List.getElem_mem hi)) hfx
  unfold scV at hcall
  have htab : tabN s (tabIx s x.tab) = t := by
    unfold tabIx tabN
    rw [hfx, Int.toNat_natCast, List.getD_eq_getElem?_getD, List.getElem?_eq_getElem hi, ht]
    rfl
  have HO3 : Hid (oneE s x = rE (rfs kd) t x) := Lib.hid (by rw [HO2.out, if_neg (by unfold tabIx; rw [hfx]; omega), htab, ruleE_is, HKD.out])
  have HO4 : Hid (oneB s x = foldB (rfs kd) t x ⟨kd, t.id, [], 0, noV, 0, noV⟩) := Lib.hid (by unfold oneB; rw [htab, ruleB_is, HKD.out])
  clear ht htab hfx hi
  go_enter Try.func18, Try.ntmps18
  go_upto_region 1 with fail
  rw [← HW.out, HY0.out, HY1.out, HY2.out]
  go_upto_region 4 with (go_at_call 38; refine hcall.mono ?_; rintro e w1 ⟨cv, iv, kv, rfl, h3, b1⟩; refine Hid.out ?_)
  refine Lib.hid ?_
  obtain ⟨ca, cc, hcv, -⟩ := h3.c.shape
  obtain ⟨ia, ic, hiv, -⟩ := h3.i.shape
  obtain ⟨ka, kc, hkv, -⟩ := h3.k.shape
  subst hcv hiv hkv
  have x0' : w1.cell? ⟨Y1, 0, none⟩ = some (.int .i64 kd) := cell_on b1 x0
  obtain ⟨V0, hV0⟩ : ∃ V0, V0 = w1.alloc (.cells (tbA t (.slice ca t.cols.length cc) (.slice ia t.ixs.length ic) (.slice ka t.fks.length kc)) 54) := ⟨_, rfl⟩
  have hsz : V0.heap.size = w1.heap.size + 1 := by rw [hV0]; simp only [World.size_alloc]
  obtain ⟨V, hV⟩ : ∃ V, V = V0.alloc (.cells #[.int .i64 kd, .int .i64 t.id, .slice none 0 0, .int .i64 0, .int .i64 0, .int .i64 0, .string ⟨#[]⟩, .int .i64 0, .int .i64 0, .int .i64 0, .string ⟨#[]⟩] 39) := ⟨_, rfl⟩
  obtain ⟨T, hT⟩ : ∃ T, w1.heap.size = T := ⟨_, rfl⟩
  obtain ⟨R, hR⟩ : ∃ R, T + 1 = R := ⟨_, rfl⟩
  have hb0 : Below w1.heap.size w1 V0 := by rw [hV0]; exact bnew _ _
  have hbV : Below w1.heap.size w1 V := by rw [hV]; exact bgo hb0 (bnew _ _)
  have v0 : V0.cell? ⟨Y1, 0, none⟩ = some (.int .i64 kd) := cell_on hb0 x0'
  have jT : V.heap[T]? = some (.cells (tbA t (.slice ca t.cols.length cc) (.slice ia t.ixs.length ic) (.slice ka t.fks.length kc)) 54 (0, 0)) := by
    have := heap_alloc_new w1 (.cells (tbA t (.slice ca t.cols.length cc) (.slice ia t.ixs.length ic) (.slice ka t.fks.length kc)) 54)
    rw [hV, ← hT, Below.heap_alloc _ _ _ (by omega), hV0]
    exact this
  have j0T : V0.heap[T]? = some (.cells (tbA t (.slice ca t.cols.length cc) (.slice ia t.ixs.length ic) (.slice ka t.fks.length kc)) 54 (0, 0)) := by
    rw [hV0, ← hT]
    exact heap_alloc_new _ _
  have v1 : V0.cell? ⟨T, 0, none⟩ = some (.int .i64 t.id) := cell_blk j0T 0
  have jR : V.heap[R]? = some (.cells (bdA ⟨kd, t.id, [], 0, noV, 0, noV⟩ (.slice none 0 0)) 39 (0, 0)) := by
    rw [hV, ← hR, ← hT, ← hsz]
    exact heap_alloc_new _ _
  have HVe := Lib.hid hV
  have HV0 := Lib.hid hV0
  have HS0 := Lib.hid hsz
  have HT := Lib.hid hT
  have HR := Lib.hid hR
  have HBV := Lib.hid hbV
  have JT := Lib.hid jT
  have JR := Lib.hid jR
  have H3 := Lib.hid h3
  have HB1 := Lib.hid b1
  have hrules := rules_any t (.slice ca t.cols.length cc) (.slice ia t.ixs.length ic) (.slice ka t.fks.length kc) kd V
  clear hV hT hR hbV jT jR h3 b1 hcall s0 s1 s2 x0 x1 hV0 hsz hb0 j0T
  go_upto_region 6 with fail
  rw [← HV0.out, HT.out]
  go_upto_region 7 with fail
  rw [← HVe.out, HS0.out, HT.out, HR.out]
  clear v0 v1
  have t0 : V.cell? ⟨T, 0, none⟩ = some (.int .i64 t.id) := cell_blk JT.out 0
  have t1 : V.cell? ⟨T, 1, none⟩ = some (.string t.nm) := cell_blk JT.out 1
  have t2 : V.cell? ⟨T, 2, none⟩ = some (.slice ca t.cols.length cc) := cell_blk JT.out 2
  have t3 : V.cell? ⟨T, 3, none⟩ = some (.slice ia t.ixs.length ic) := cell_blk JT.out 3
  have t4 : V.cell? ⟨T, 4, none⟩ = some (.slice ka t.fks.length kc) := cell_blk JT.out 4
  have x0 : V.cell? ⟨Y1, 0, none⟩ = some (.int .i64 kd) := cell_on HBV.out x0'
  obtain ⟨n, hn⟩ : ∃ n, (rfs kd).length = n := ⟨_, rfl⟩
  rw [hn] at hrules
  have hn1 : (n : Int) ≤ 9223372036854775807 := by
    rw [← hn]
    unfold rfs
    split
    · decide
    · split <;> decide
  have HN := Lib.hid hn
  clear x0' hn
  go_wp2_with (go_at_call 39; refine hrules.mono ?_; rintro e w3 ⟨F, rfl, hRB, b3⟩; refine Hid.out ?_)
  refine Lib.hid ?_
  have HRB := Lib.hid hRB
  have HB3 := Lib.hid b3
  have JR3 := Lib.hid ((b3.block R (blk_lt JR.out)).trans JR.out)
  have J13 := Lib.hid (((bgo HB1.out (bgo HBV.out b3)).block Y1 (blk_lt J1.out)).trans J1.out)
  have HRne : Hid (w1.heap.size ≤ R ∧ Y1 ≠ R ∧ W.heap.size ≤ R) := Lib.hid ⟨by have := HR.out; have := HT.out; omega, fun e => by
    have h1 := J13.out
    rw [e, JR3.out] at h1
    simp at h1, by have := HR.out; have := HT.out; have := HB1.out.size; omega⟩
  clear hrules hRB b3 t0 t1 t2 t3 t4 x0
  go_wp2
  go_loopw [41] (fun jv wr => ∃ i : Nat, i ≤ n ∧ jv = .int .i64 (i : Int) ∧ Hid (vAll (fun i => ruleE1 ((rfs kd).getD i 93) t x) i = 0) ∧ ∃ bv, Hid (wr.heap[R]? = some (.cells (bdA (foldB ((rfs kd).take i) t x ⟨kd, t.id, [], 0, noV, 0, noV⟩) bv) 39 (0, 0)) ∧ wr.ownsRow w1.heap.size 37 3 bv (foldB ((rfs kd).take i) t x ⟨kd, t.id, [], 0, noV, 0, noV⟩).vals.length ((foldB ((rfs kd).take i) t x ⟨kd, t.id, [], 0, noV, 0, noV⟩).vals.flatMap vlL)) ∧ Fr w3 wr (fun k => k = R)) (fun jv _ => n - (intOf jv).toNat)
  case atStart => exact ⟨0, Nat.zero_le _, rfl, Lib.hid rfl, _, Lib.hid ⟨JR3.out, World.ownsRow_nil _ _ 37 3⟩, Fr.refl _ _⟩
  case round =>
    obtain ⟨i, hi, rfl, HI, bv, HS, hfr⟩ := hrel
    obtain ⟨U, hU⟩ : ∃ U, U = wr := ⟨_, rfl⟩
    subst hU
    have HFR := Lib.hid hfr
    have hb1U : Below w1.heap.size w1 U := (bgo HBV.out HB3.out).trans (hfr.toBelow (fun k hk q => by have := HRne.out.1; omega) (bgo HBV.out HB3.out).size)
    have HBU := Lib.hid hb1U
    have J1U := Lib.hid ((hfr.block Y1 (blk_lt J13.out) HRne.out.2.1).trans J13.out)
    by_cases hlt : i < n
    · obtain ⟨cs, hcF, hcs⟩ := HRB.out.fr JR3.out hfr
      have hlf : i < (rfs kd).length := by rw [HN.out]; exact hlt
      obtain ⟨Y, hcY, hYY⟩ := hcs i hlf
      obtain ⟨f, hfi⟩ : ∃ f, (rfs kd)[i] = f := ⟨_, rfl⟩
      have hfm : f = 88 ∨ f = 91 ∨ f = 93 := rfs_mem (k := kd) (by rw [← hfi]; exact List.getElem_mem hlf)
      have c0 : U.cell? ⟨F, i, none⟩ = some (.func (.func f) #[] #[.pointer (some ⟨Y, 0, none⟩)]) := by rw [cell_blk hcF, hcY, hfi]
      have hrule := rule_any (w := U) (w0 := w1) (x := x) (vv := vv) (dv := dv) hfm H3.out (HV.out.on valsE_held HB1.out) HZ.out hb1U HRne.out.1 hYY HS.out.1 HS.out.2
      have hld := load_row (ty := 46) J1U.out Try.underlying46 rfl size46
      have HE1 : Hid (ruleE1 ((rfs kd).getD i 93) t x = ruleE1 f t x ∧ foldB ((rfs kd).take (i + 1)) t x ⟨kd, t.id, [], 0, noV, 0, noV⟩ = ruleB1 f t x (foldB ((rfs kd).take i) t x ⟨kd, t.id, [], 0, noV, 0, noV⟩)) := Lib.hid ⟨by rw [List.getD_eq_getElem?_getD, List.getElem?_eq_getElem hlf, hfi]; rfl, by rw [foldB_next hlf, hfi]⟩
      obtain ⟨er, her⟩ : ∃ er, ruleE1 f t x = er := ⟨_, rfl⟩
      rw [her] at hrule
      have HER := Lib.hid her
      have k0 : (0 : Int) ≤ (i : Int) := by omega
      have k1 : (i : Int) < (n : Int) := by omega
      have HLT := Lib.hid hlt
      clear hfr hb1U hcF hcs hcY hYY hfi her hlf hlt
      rcases hfm with rfl | rfl | rfl
      · go_upto_region 10 with fail
        go_upto_region 11 with (first | (go_at_call 88; refine hrule.mono ?_; rintro e w5 ⟨cs', rfl, r1, r2, r3⟩; refine Hid.out ?_) | (refine wpl_load _ rfl (by first | rfl | (simp [Act.eval]; done)) hld ?_))
        refine Lib.hid ?_
        have HR1 := Lib.hid r1
        have HR2 := Lib.hid r2
        have HR3 := Lib.hid r3
        clear hrule hld r1 r2 r3 c0
        by_cases he0 : er = 0
        · subst he0
          have HNX : Hid (vAll (fun i => ruleE1 ((rfs kd).getD i 93) t x) (i + 1) = 0) := Lib.hid (vAll_next HI.out (by show ruleE1 ((rfs kd).getD i 93) t x = 0; rw [HE1.out.1, HER.out]))
          have HSX : Hid (∃ bv', w5.heap[R]? = some (.cells (bdA (foldB ((rfs kd).take (i + 1)) t x ⟨kd, t.id, [], 0, noV, 0, noV⟩) bv') 39 (0, 0)) ∧ w5.ownsRow w1.heap.size 37 3 bv' (foldB ((rfs kd).take (i + 1)) t x ⟨kd, t.id, [], 0, noV, 0, noV⟩).vals.length ((foldB ((rfs kd).take (i + 1)) t x ⟨kd, t.id, [], 0, noV, 0, noV⟩).vals.flatMap vlL)) := Lib.hid (by
            obtain ⟨bv', h1, h2⟩ := HR2.out rfl
            rw [HE1.out.2]
            exact ⟨bv', by rw [← h1]; exact HR1.out, h2⟩)
          go_wp2
          go_roundw
          case rel =>
            obtain ⟨bv', h1, h2⟩ := HSX.out
            exact ⟨i + 1, HLT.out, by go_num, HNX, bv', Lib.hid ⟨h1, h2⟩, HFR.out.trans HR3.out⟩
          case measure => simp [intOf]; omega
        · have g1 : (er == 0) = false := by rw [beq_eq_false_iff_ne]; exact he0
          have g2 : (er != 0) = true := by simpa using he0
          have HE : Hid (oneE s x = er) := Lib.hid (by
            rw [HO3.out]
            unfold rE
            rw [vAll_stop HI.out (by show ruleE1 ((rfs kd).getD i 93) t x ≠ 0; rw [HE1.out.1, HER.out]; exact he0) _ (by rw [HN.out]; exact HLT.out)]
            show ruleE1 ((rfs kd).getD i 93) t x = er
            rw [HE1.out.1, HER.out])
          have HNE := Lib.hid he0
          have hWU : Below W.heap.size W w5 := bgo HB1.out (HBU.out.trans (HR3.out.toBelow (fun k hk q => by have := HRne.out.1; omega) HBU.out.size))
          obtain ⟨X', hst, j', b'⟩ := HBAD.out w5 hWU
          have HXR := Lib.hid (And.intro j' b')
          clear he0 hWU j' b'
          go_wp2_with (refine wpl_store _ _ rfl (by first | rfl | (simp [Act.eval]; done)) (by first | rfl | (simp [Act.eval]; done)) hst ?_)
          refine bodyPost_ret (results_two rfl rfl rfl (load_var HXR.out.1 Try.underlying39 rfl size39)) rfl ?_
          exact BAD.out _ HE.out HNE.out _ HXR.out.1 HXR.out.2
      · go_upto_region 10 with fail
        go_upto_region 11 with (first | (go_at_call 91; refine hrule.mono ?_; rintro e w5 ⟨cs', rfl, r1, r2, r3⟩; refine Hid.out ?_) | (refine wpl_load _ rfl (by first | rfl | (simp [Act.eval]; done)) hld ?_))
        refine Lib.hid ?_
        have HR1 := Lib.hid r1
        have HR2 := Lib.hid r2
        have HR3 := Lib.hid r3
        clear hrule hld r1 r2 r3 c0
        by_cases he0 : er = 0
        · subst he0
          have HNX : Hid (vAll (fun i => ruleE1 ((rfs kd).getD i 93) t x) (i + 1) = 0) := Lib.hid (vAll_next HI.out (by show ruleE1 ((rfs kd).getD i 93) t x = 0; rw [HE1.out.1, HER.out]))
          have HSX : Hid (∃ bv', w5.heap[R]? = some (.cells (bdA (foldB ((rfs kd).take (i + 1)) t x ⟨kd, t.id, [], 0, noV, 0, noV⟩) bv') 39 (0, 0)) ∧ w5.ownsRow w1.heap.size 37 3 bv' (foldB ((rfs kd).take (i + 1)) t x ⟨kd, t.id, [], 0, noV, 0, noV⟩).vals.length ((foldB ((rfs kd).take (i + 1)) t x ⟨kd, t.id, [], 0, noV, 0, noV⟩).vals.flatMap vlL)) := Lib.hid (by
            obtain ⟨bv', h1, h2⟩ := HR2.out rfl
            rw [HE1.out.2]
            exact ⟨bv', by rw [← h1]; exact HR1.out, h2⟩)
          go_wp2
          go_roundw
          case rel =>
            obtain ⟨bv', h1, h2⟩ := HSX.out
            exact ⟨i + 1, HLT.out, by go_num, HNX, bv', Lib.hid ⟨h1, h2⟩, HFR.out.trans HR3.out⟩
          case measure => simp [intOf]; omega
        · have g1 : (er == 0) = false := by rw [beq_eq_false_iff_ne]; exact he0
          have g2 : (er != 0) = true := by simpa using he0
          have HE : Hid (oneE s x = er) := Lib.hid (by
            rw [HO3.out]
            unfold rE
            rw [vAll_stop HI.out (by show ruleE1 ((rfs kd).getD i 93) t x ≠ 0; rw [HE1.out.1, HER.out]; exact he0) _ (by rw [HN.out]; exact HLT.out)]
            show ruleE1 ((rfs kd).getD i 93) t x = er
            rw [HE1.out.1, HER.out])
          have HNE := Lib.hid he0
          have hWU : Below W.heap.size W w5 := bgo HB1.out (HBU.out.trans (HR3.out.toBelow (fun k hk q => by have := HRne.out.1; omega) HBU.out.size))
          obtain ⟨X', hst, j', b'⟩ := HBAD.out w5 hWU
          have HXR := Lib.hid (And.intro j' b')
          clear he0 hWU j' b'
          go_wp2_with (refine wpl_store _ _ rfl (by first | rfl | (simp [Act.eval]; done)) (by first | rfl | (simp [Act.eval]; done)) hst ?_)
          refine bodyPost_ret (results_two rfl rfl rfl (load_var HXR.out.1 Try.underlying39 rfl size39)) rfl ?_
          exact BAD.out _ HE.out HNE.out _ HXR.out.1 HXR.out.2
      · go_upto_region 10 with fail
        go_upto_region 11 with (first | (go_at_call 93; refine hrule.mono ?_; rintro e w5 ⟨cs', rfl, r1, r2, r3⟩; refine Hid.out ?_) | (refine wpl_load _ rfl (by first | rfl | (simp [Act.eval]; done)) hld ?_))
        refine Lib.hid ?_
        have HR1 := Lib.hid r1
        have HR2 := Lib.hid r2
        have HR3 := Lib.hid r3
        clear hrule hld r1 r2 r3 c0
        by_cases he0 : er = 0
        · subst he0
          have HNX : Hid (vAll (fun i => ruleE1 ((rfs kd).getD i 93) t x) (i + 1) = 0) := Lib.hid (vAll_next HI.out (by show ruleE1 ((rfs kd).getD i 93) t x = 0; rw [HE1.out.1, HER.out]))
          have HSX : Hid (∃ bv', w5.heap[R]? = some (.cells (bdA (foldB ((rfs kd).take (i + 1)) t x ⟨kd, t.id, [], 0, noV, 0, noV⟩) bv') 39 (0, 0)) ∧ w5.ownsRow w1.heap.size 37 3 bv' (foldB ((rfs kd).take (i + 1)) t x ⟨kd, t.id, [], 0, noV, 0, noV⟩).vals.length ((foldB ((rfs kd).take (i + 1)) t x ⟨kd, t.id, [], 0, noV, 0, noV⟩).vals.flatMap vlL)) := Lib.hid (by
            obtain ⟨bv', h1, h2⟩ := HR2.out rfl
            rw [HE1.out.2]
            exact ⟨bv', by rw [← h1]; exact HR1.out, h2⟩)
          go_wp2
          go_roundw
          case rel =>
            obtain ⟨bv', h1, h2⟩ := HSX.out
            exact ⟨i + 1, HLT.out, by go_num, HNX, bv', Lib.hid ⟨h1, h2⟩, HFR.out.trans HR3.out⟩
          case measure => simp [intOf]; omega
        · have g1 : (er == 0) = false := by rw [beq_eq_false_iff_ne]; exact he0
          have g2 : (er != 0) = true := by simpa using he0
          have HE : Hid (oneE s x = er) := Lib.hid (by
            rw [HO3.out]
            unfold rE
            rw [vAll_stop HI.out (by show ruleE1 ((rfs kd).getD i 93) t x ≠ 0; rw [HE1.out.1, HER.out]; exact he0) _ (by rw [HN.out]; exact HLT.out)]
            show ruleE1 ((rfs kd).getD i 93) t x = er
            rw [HE1.out.1, HER.out])
          have HNE := Lib.hid he0
          have hWU : Below W.heap.size W w5 := bgo HB1.out (HBU.out.trans (HR3.out.toBelow (fun k hk q => by have := HRne.out.1; omega) HBU.out.size))
          obtain ⟨X', hst, j', b'⟩ := HBAD.out w5 hWU
          have HXR := Lib.hid (And.intro j' b')
          clear he0 hWU j' b'
          go_wp2_with (refine wpl_store _ _ rfl (by first | rfl | (simp [Act.eval]; done)) (by first | rfl | (simp [Act.eval]; done)) hst ?_)
          refine bodyPost_ret (results_two rfl rfl rfl (load_var HXR.out.1 Try.underlying39 rfl size39)) rfl ?_
          exact BAD.out _ HE.out HNE.out _ HXR.out.1 HXR.out.2
    · have k1 : ¬ ((i : Int) < (n : Int)) := by omega
      obtain rfl : i = n := by omega
      have HEQ : Hid (oneE s x = 0) := Lib.hid (by rw [HO3.out]; unfold rE; rw [HN.out]; exact HI.out)
      have htk : (rfs kd).take i = rfs kd := by rw [← HN.out, List.take_length]
      rw [htk] at HS
      obtain ⟨b, hbE⟩ : ∃ b, foldB (rfs kd) t x ⟨kd, t.id, [], 0, noV, 0, noV⟩ = b := ⟨_, rfl⟩
      rw [hbE] at HS
      have HBE := Lib.hid hbE
      obtain ⟨ba, bc, hbv⟩ := own_shape HS.out.2
      subst hbv
      have hld := load_row (ty := 39) HS.out.1 Try.underlying39 rfl size39
      have hne2 : Y2 ≠ R := by have := HRne.out.2.2; have := GE.out.2.2.2; omega
      have j2U : U.heap[Y2]? = some (.cells zBA 39 (0, 0)) := by
        have h2 := (bgo HB1.out (bgo HBV.out HB3.out)).block Y2 (blk_lt J2.out)
        have h3 := h2.trans J2.out
        exact (hfr.block Y2 (blk_lt h3) hne2).trans h3
      obtain ⟨X', hst, j', f'⟩ := st_row j2U (us := bdA b (.slice ba b.vals.length bc)) rfl size39 (by simp [Value.oneCell'])
      have HX := Lib.hid (And.intro j' f')
      have J2U := Lib.hid j2U
      clear hfr hb1U htk hbE hne2 j2U j' f' hlt
      go_wp2_with (first | (refine wpl_load _ rfl (by first | rfl | (simp [Act.eval]; done)) hld ?_) | (refine wpl_store _ _ rfl (by first | rfl | (simp [Act.eval]; done)) (by first | rfl | (simp [Act.eval]; done)) hst ?_))
      refine bodyPost_ret (results_two rfl rfl rfl (load_var HX.out.1 Try.underlying39 rfl size39)) rfl ?_
      have hbWU : Below w.heap.size w U := bgo (bgo HB.out HB1.out) HBU.out
      refine ⟨b, ba, b.vals.length, bc, by rw [HEQ.out]; rfl, fun _ => ⟨by rw [HO4.out, HBE.out], ?_⟩, hbWU.trans (HX.out.2.toBelow (fun k hk q => by have := GE.out.2.2.1; omega) hbWU.size)⟩
      refine keep_rowB (own_mono HS.out.2 (bgo HB.out HB1.out).size) HX.out.2 (fun k hk cs hc => ?_)
      subst hk
      rw [J2U.out] at hc
      simp only [Option.some.injEq, Obj.cells.injEq] at hc
      exact absurd hc.2.1 (by decide)
end
end Go.Proofs.Ytkfnphhoebknnaa
