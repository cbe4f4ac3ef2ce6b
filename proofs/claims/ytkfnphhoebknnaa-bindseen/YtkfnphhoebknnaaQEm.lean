import Derived.Test.YtkfnphhoebknnaaQEl
namespace Go.Proofs.Ytkfnphhoebknnaa
open Go.RowKit
section
variable {w : World}
set_option maxHeartbeats 8000000 in
set_option maxRecDepth 100000 in
theorem great_any {s : Sc} {tv lv : Value} {L : List St} (hL : Lr tbE 5 w s.tabs tv) (hS : Lr stmtE 22 w L lv) (h1 : s.tabs.length ≤ 140737488355328) (h2 : L.length ≤ 140737488355328) (h3 : ∀ t ∈ s.tabs, t.cols.length ≤ 140737488355328 ∧ t.ixs.length ≤ 140737488355328 ∧ t.fks.length ≤ 140737488355328) (h4 : ∀ x ∈ L, x.vals.length ≤ 140737488355328) : Calls Try.prog 8 #[scV s tv, lv] w fun e w' => ∃ g, e = .returned (.bool g) ∧ (g = false → L.length ≤ 500 ∧ ∀ x ∈ L, x.vals.length ≤ 500) ∧ Below w.heap.size w w' := by
  obtain ⟨la, lc, rfl, hSr⟩ := hS
  have hS : Lr stmtE 22 w L (.slice la L.length lc) := ⟨la, lc, rfl, hSr⟩
  obtain ⟨ta, tc, rfl, htr⟩ := hL
  have hL : Lr tbE 5 w s.tabs (.slice ta s.tabs.length tc) := ⟨ta, tc, rfl, htr⟩
  clear hSr htr
  obtain ⟨tn, htn⟩ : ∃ tn, s.tabs.length = tn := ⟨_, rfl⟩
  rw [htn] at hL
  unfold scV
  rw [htn]
  obtain ⟨n, hln⟩ : ∃ n, L.length = n := ⟨_, rfl⟩
  rw [hln] at hS ⊢
  have hn1 : (n : Int) ≤ 140737488355328 := by omega
  have ht1 : (tn : Int) ≤ 140737488355328 := by omega
  have HTN := Lib.hid htn
  have HLN := Lib.hid hln
  have H3 := Lib.hid h3
  have H4 := Lib.hid h4
  clear htn hln h1 h2 h3 h4
  obtain ⟨W, hW⟩ : ∃ W, W = w.alloc (.cells (#[.int .i64 s.ver, .int .i64 s.last, .slice ta tn tc]) 24) := ⟨_, rfl⟩
  have hbW : Below w.heap.size w W := by
    rw [hW]
    exact bnew _ _
  obtain ⟨Y0, hY0⟩ : ∃ Y0, w.heap.size = Y0 := ⟨_, rfl⟩
  have j0 : W.heap[Y0]? = some (.cells (#[.int .i64 s.ver, .int .i64 s.last, .slice ta tn tc]) 24 (0, 0)) := by
    have := heap_alloc_new (w) (.cells (#[.int .i64 s.ver, .int .i64 s.last, .slice ta tn tc]) 24)
    rw [hW, ← hY0]
    exact this
  have HL := Lib.hid (hL.on tbE_held hbW)
  have HS := Lib.hid (hS.on stmtE_held hbW)
  have HW := Lib.hid hW
  have HB := Lib.hid hbW
  have HY0 := Lib.hid hY0
  have s2 : W.cell? ⟨Y0, 2, none⟩ = some (.slice ta tn tc) := cell_blk j0 2
  have n0 : (0 : Int) ≤ (n : Int) := by omega
  have t0 : (0 : Int) ≤ (tn : Int) := by omega
  clear hW hbW hY0 j0 hL hS
  go_enter Try.func8, Try.ntmps8
  go_upto_region 1 with fail
  rw [← HW.out, HY0.out]
  go_wp2
  go_loopw [5, 19] (fun nv iv wr => ∃ i : Nat, i ≤ tn ∧ iv = .int .i64 (i : Int) ∧ (∃ c : Int, nv = .int .i64 c ∧ (n : Int) ≤ c ∧ c ≤ 1000000000000000) ∧ Below W.heap.size W wr) (fun _ iv _ => tn - (intOf iv).toNat)
  case atStart => exact ⟨0, Nat.zero_le _, rfl, ⟨(tn : Int) + (n : Int), rfl, by omega, by omega⟩, Below.refl _ _⟩
  case round =>
    obtain ⟨i, hi, rfl, ⟨c, rfl, c1, c2⟩, hb⟩ := hrel
    obtain ⟨U, hU⟩ : ∃ U, U = wr := ⟨_, rfl⟩
    subst hU
    have HBU := Lib.hid hb
    by_cases hlt : i < tn
    · have hlT : i < s.tabs.length := by rw [HTN.out]; exact hlt
      obtain ⟨q, qo, qcs, el, hq, hE, hqr⟩ := (HL.out.on tbE_held hb).at.2.2.2 i hlT
      subst el
      obtain ⟨cv, iv, kv, rfl, h3⟩ := hE
      obtain ⟨t, ht⟩ : ∃ t, s.tabs[i] = t := ⟨_, rfl⟩
      rw [ht] at hqr h3
      have h3t := H3.out t (by rw [← ht]; exact List.getElem_mem hlT)
      obtain ⟨ca, cc, hcv, q1, q2⟩ := h3.c.shape
      obtain ⟨ia, ic, hiv, q3, q4⟩ := h3.i.shape
      obtain ⟨ka, kc, hkv, q5, q6⟩ := h3.k.shape
      subst hcv hiv hkv
      have d0 : U.cell? ⟨q, qo + i * 5, none⟩ = some (.int .i64 t.id) := hqr 0 _ rfl
      have d1 : U.cell? ⟨q, qo + i * 5 + 1, none⟩ = some (.string t.nm) := hqr 1 _ rfl
      obtain ⟨cn, hcn⟩ : ∃ cn, t.cols.length = cn := ⟨_, rfl⟩
      obtain ⟨iN, hin⟩ : ∃ iN, t.ixs.length = iN := ⟨_, rfl⟩
      obtain ⟨kn, hkn⟩ : ∃ kn, t.fks.length = kn := ⟨_, rfl⟩
      rw [hcn, hin, hkn] at hqr
      have d2 : U.cell? ⟨q, qo + i * 5 + 2, none⟩ = some (.slice ca cn cc) := hqr 2 _ rfl
      have d3 : U.cell? ⟨q, qo + i * 5 + 3, none⟩ = some (.slice ia iN ic) := hqr 3 _ rfl
      have d4 : U.cell? ⟨q, qo + i * 5 + 4, none⟩ = some (.slice ka kn kc) := hqr 4 _ rfl
      have b1 : (cn : Int) ≤ 140737488355328 := by have := h3t.1; omega
      have b2 : (iN : Int) ≤ 140737488355328 := by have := h3t.2.1; omega
      have b3 : (kn : Int) ≤ 140737488355328 := by have := h3t.2.2; omega
      have e1 : (0 : Int) ≤ (cn : Int) := by omega
      have e2 : (0 : Int) ≤ (iN : Int) := by omega
      have e3 : (0 : Int) ≤ (kn : Int) := by omega
      have k0 : (0 : Int) ≤ (i : Int) := by omega
      have k1 : (i : Int) < (tn : Int) := by omega
      have HLT := Lib.hid hlt
      clear hb hqr h3 h3t hq ht hcn hin hkn q1 q2 q3 q4 q5 q6 hlT hlt
      by_cases hg : c + ((cn : Int) + (iN : Int) + (kn : Int)) > 500
      · go_wp2
        go_ret
        exact ⟨true, rfl, fun e => (by cases e), bgo HB.out (bgo HBU.out (bnew _ _))⟩
      · go_wp2
        go_roundw
        case rel => exact ⟨i + 1, HLT.out, by go_num, ⟨_, rfl, by omega, by omega⟩, bgo HBU.out (bnew _ _)⟩
        case measure => simp [intOf]; omega
    · have k1 : ¬ ((i : Int) < (tn : Int)) := by omega
      have HSU := Lib.hid (HS.out.on stmtE_held hb)
      have HBWU := Lib.hid (bgo HB.out hb)
      clear hb hlt s2
      go_wp2
      go_loopw [5, 41] (fun nv iv wr => ∃ j : Nat, j ≤ n ∧ iv = .int .i64 (j : Int) ∧ (∃ c : Int, nv = .int .i64 c ∧ (n : Int) ≤ c ∧ c ≤ 1000000000000000 ∧ Hid (∀ k (hk : k < L.length), k < j → (L[k].vals.length : Int) ≤ c)) ∧ Below U.heap.size U wr) (fun _ iv _ => n - (intOf iv).toNat)
      case atStart => exact ⟨0, Nat.zero_le _, rfl, ⟨c, rfl, c1, c2, Lib.hid (fun k hk h => absurd h (by omega))⟩, Below.refl _ _⟩
      case round =>
        obtain ⟨j, hj, rfl, ⟨c, rfl, c1, c2, HM⟩, hb⟩ := hrel
        obtain ⟨V, hV⟩ : ∃ V, V = wr := ⟨_, rfl⟩
        subst hV
        have HBV := Lib.hid hb
        by_cases hlt : j < n
        · have hlL : j < L.length := by rw [HLN.out]; exact hlt
          obtain ⟨sb, so, scs, el, hsb, hE, hrg⟩ := (HSU.out.on stmtE_held hb).at.2.2.2 j hlL
          subst el
          obtain ⟨va, vc, da, dc, ecs, hvl⟩ := hE
          subst ecs
          obtain ⟨x, hx⟩ : ∃ x, L[j] = x := ⟨_, rfl⟩
          rw [hx] at hrg hvl
          have hvm := H4.out x (by rw [← hx]; exact List.getElem_mem hlL)
          obtain ⟨vn, hvn⟩ : ∃ vn, x.vals.length = vn := ⟨_, rfl⟩
          obtain ⟨dn, hdn⟩ : ∃ dn, x.dd.cols.length = dn := ⟨_, rfl⟩
          have b1 : (vn : Int) ≤ 140737488355328 := by omega
          rw [hvn, hdn] at hrg
          have hld : (Instr.loadAt 46 (.pointer (some ⟨sb, so + j * 22, none⟩))).run Try.prog V = .ok (.agg (stmtA x (.slice va vn vc) (.slice da dn dc))) V := run_loadAt_mid V sb (so + j * 22) 46 _ _ hrg Try.underlying46 rfl size46
          obtain ⟨Q, hQ⟩ : ∃ Q, V.heap.size = Q := ⟨_, rfl⟩
          obtain ⟨U1, hU1⟩ : ∃ U1, U1 = V.alloc (.cells zSA 46) := ⟨_, rfl⟩
          have jQ : U1.heap[Q]? = some (.cells zSA 46 (0, 0)) := by rw [hU1, ← hQ]; exact heap_alloc_new _ _
          have bU1 : Below V.heap.size V U1 := by rw [hU1]; exact bnew _ _
          obtain ⟨U2, hst, jQ2, fQ2⟩ := st_row jQ (us := stmtA x (.slice va vn vc) (.slice da dn dc)) rfl size46 (by simp [Value.oneCell'])
          have bU2 : Below V.heap.size V U2 := bU1.trans (fQ2.toBelow (fun k hk q => by omega) bU1.size)
          have HU1 := Lib.hid hU1
          have HQ := Lib.hid hQ
          have HBU2 := Lib.hid bU2
          have v2 : U2.cell? ⟨Q, 2, none⟩ = some (.slice va vn vc) := cell_blk jQ2 2
          have HXI : Hid (∀ h : j < L.length, (L[j].vals.length : Int) = (vn : Int)) := Lib.hid (fun _ => by rw [hx, hvn])
          have HLT := Lib.hid hlt
          have k0 : (0 : Int) ≤ (j : Int) := by omega
          have k1 : (j : Int) < (n : Int) := by omega
          have e1 : (0 : Int) ≤ (vn : Int) := by omega
          clear hb hrg hvl hvn hdn hvm hQ hU1 jQ bU1 jQ2 fQ2 bU2 hsb hx hlL hlt
          by_cases hg : c + (vn : Int) > 500
          · go_upto_region 12 with (first | (refine wpl_load _ rfl (by first | rfl | (simp [Act.eval]; done)) hld ?_) | (rw [← HU1.out, HQ.out]; refine wpl_store _ _ rfl (by first | rfl | (simp [Act.eval]; done)) (by first | rfl | (simp [Act.eval]; done)) hst ?_))
            clear hld hst
            go_wp2
            go_ret
            exact ⟨true, rfl, fun e => (by cases e), bgo HBWU.out (bgo HBV.out HBU2.out)⟩
          · go_upto_region 12 with (first | (refine wpl_load _ rfl (by first | rfl | (simp [Act.eval]; done)) hld ?_) | (rw [← HU1.out, HQ.out]; refine wpl_store _ _ rfl (by first | rfl | (simp [Act.eval]; done)) (by first | rfl | (simp [Act.eval]; done)) hst ?_))
            clear hld hst
            have HM2 : Hid (∀ k (hk : k < L.length), k < j + 1 → (L[k].vals.length : Int) ≤ c + (vn : Int)) := Lib.hid (fun k hk hkj => by
              rcases Nat.lt_or_ge k j with q | q
              · have := HM.out k hk q
                omega
              · obtain rfl : k = j := by omega
                rw [HXI.out hk]
                omega)
            go_wp2
            go_roundw
            case rel => exact ⟨j + 1, HLT.out, by go_num, ⟨_, rfl, by omega, by omega, HM2⟩, bgo HBV.out HBU2.out⟩
            case measure => simp [intOf]; omega
        · have k1 : ¬ ((j : Int) < (n : Int)) := by omega
          obtain rfl : j = n := by omega
          have HF : Hid (c ≤ 500 → L.length ≤ 500 ∧ ∀ x ∈ L, x.vals.length ≤ 500) := Lib.hid (fun hc => by
            refine ⟨by rw [HLN.out]; omega, fun x hx => ?_⟩
            obtain ⟨k, hk, rfl⟩ := List.getElem_of_mem hx
            have := HM.out k hk (by rw [← HLN.out]; exact hk)
            omega)
          clear hb hlt
          by_cases hg : c > 500
          · go_wp2
            go_ret
            first | exact Or.inr ⟨rfl, fun e => (by cases e), bgo HBWU.out HBV.out⟩ | exact Or.inr ⟨rfl, bgo HBWU.out HBV.out⟩
          · have HG := Lib.hid hg
            go_wp2
            go_ret
            have hff := HF.out (by have := HG.out; omega)
            rw [HLN.out] at hff
            first | exact Or.inl ⟨rfl, fun _ => hff, bgo HBWU.out HBV.out⟩ | exact Or.inl ⟨rfl, hff, bgo HBWU.out HBV.out⟩
end
end Go.Proofs.Ytkfnphhoebknnaa
