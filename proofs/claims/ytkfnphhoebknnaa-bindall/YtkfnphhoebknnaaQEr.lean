import Derived.Test.YtkfnphhoebknnaaQEn
namespace Go.Proofs.Ytkfnphhoebknnaa
open Go.RowKit
theorem BO.fr {w w' : World} {B : Nat} {L : List Bd} {v : Value} {S : Nat → Prop} (h : BO w B L v) (hf : Fr w w' S) (hS : ∀ k, S k → k < B) : BO w' B L v := by
  obtain ⟨P, h1, h2, h3⟩ := h
  exact ⟨P, h1, row_keep h2 hf (fun j hj q => by have := (own_ge h2 j hj).1; have := hS j q; omega), fun p hp => row_keep (h3 p hp) hf (fun j hj q => by have := (own_ge (h3 p hp) j hj).1; have := hS j q; omega)⟩
/-- Bounds whose values may have been written over: their lists are there still. -/
def BS (w : World) (B : Nat) (P : List (Bd × Value)) (v : Value) : Prop := w.ownsRow B 39 11 v P.length (P.flatMap bdC) ∧ ∀ p ∈ P, ∃ xs, w.ownsRow B 37 3 p.2 p.1.vals.length xs
theorem own_set {w : World} {B g j : Nat} {cs : Array Value} {u : Value} {v : Value} {n : Nat} {xs : List Value} (hg : w.heap[g]? = some (.cells cs 37 (0, 0))) (h : w.ownsRow B 37 3 v n xs) : ∃ ys, (w.setCell ⟨g, j, none⟩ u).ownsRow B 37 3 v n ys := by
  by_cases e : v.ownBlock = some g
  · rcases h.2 with ⟨hv, h0⟩ | ⟨g', cap, cur, hv, h0, hg', h1, h2, h3, h4⟩
    · rw [hv] at e
      cases e
    · rw [hv] at e
      simp only [Value.ownBlock, Option.some.injEq] at e
      subst e
      subst hv
      exact ⟨_, row_setc h j u⟩
  · exact ⟨xs, own_like h (fun k hk => set_other _ (fun q => e (by rw [hk]; exact congrArg some q)))⟩
theorem BS.set {w : World} {B g j : Nat} {cs : Array Value} {u : Value} {P : List (Bd × Value)} {v : Value} (hg : w.heap[g]? = some (.cells cs 37 (0, 0))) (h : BS w B P v) : BS (w.setCell ⟨g, j, none⟩ u) B P v := by
  refine ⟨own_like h.1 (fun k hk => set_other _ (fun q => ?_)), fun p hp => ?_⟩
  · obtain ⟨ds, hd⟩ := own_tag h.1 k hk
    simp only at q
    rw [q, hg] at hd
    simp only [Option.some.injEq, Obj.cells.injEq] at hd
    exact absurd hd.2.1 (by decide)
  · obtain ⟨xs, hx⟩ := h.2 p hp
    exact own_set hg hx
/-- A place in a list of values that may be written. -/
theorem own_place {w : World} {B : Nat} {a : Option Addr} {n c : Nat} {xs : List Value} (h : w.ownsRow B 37 3 (.slice a n c) n xs) {k : Nat} (hk : k < n) : ∃ g cs u, a = some ⟨g, 0, none⟩ ∧ B ≤ g ∧ w.heap[g]? = some (.cells cs 37 (0, 0)) ∧ w.cell? ⟨g, k * 3 + 1, none⟩ = some u := by
  rcases h.2 with ⟨hv, h0⟩ | ⟨g, cap, cur, hv, h0, hg, h1, h2, h3, h4⟩
  · omega
  · simp only [Value.slice.injEq] at hv
    obtain ⟨rfl, _, rfl⟩ := hv
    have hlt : k * 3 + 1 < cur.size := by rw [h3]; omega
    exact ⟨g, cur, _, rfl, h0, hg, by rw [cell_blk hg, Array.getElem?_eq_getElem hlt]⟩
section
variable {w : World}
set_option maxHeartbeats 8000000 in
set_option maxRecDepth 100000 in
theorem all_law {s : Sc} {tv lv : Value} {L : List St} (hL : Lr tbE 5 w s.tabs tv) (hI : ∀ t ∈ s.tabs, ∀ i ∈ idsT t, I64 i) (hS : Lr stmtE 22 w L lv) (h1 : s.tabs.length ≤ 140737488355328) (h2 : L.length ≤ 140737488355328) (h3 : ∀ t ∈ s.tabs, t.cols.length ≤ 140737488355328 ∧ t.ixs.length ≤ 140737488355328 ∧ t.fks.length ≤ 140737488355328) (h4 : ∀ x ∈ L, x.vals.length ≤ 140737488355328) : Calls Try.prog 3 #[scV s tv, lv] w fun e w' => e = .returned (.bool true) ∧ Below w.heap.size w w' := by
  obtain ⟨la, lc, rfl, hSr⟩ := hS
  have hS : Lr stmtE 22 w L (.slice la L.length lc) := ⟨la, lc, rfl, hSr⟩
  obtain ⟨ta, tc, rfl, htr⟩ := hL
  have hL : Lr tbE 5 w s.tabs (.slice ta s.tabs.length tc) := ⟨ta, tc, rfl, htr⟩
  clear hSr htr
  obtain ⟨tn, htn⟩ : ∃ tn, s.tabs.length = tn := ⟨_, rfl⟩
  rw [htn] at hL
  unfold scV
  rw [htn]
  obtain ⟨n, hln⟩ : ∃ n, L.length = n := ⟨_, rfl⟩
  rw [hln] at hS ⊢
  have HTN := Lib.hid htn
  have HLN := Lib.hid hln
  obtain ⟨W, hW⟩ : ∃ W, W = w.alloc (.cells (#[.int .i64 s.ver, .int .i64 s.last, .slice ta tn tc]) 24) := ⟨_, rfl⟩
  have hbW : Below w.heap.size w W := by
    rw [hW]
    exact bnew _ _
  obtain ⟨Y0, hY0⟩ : ∃ Y0, w.heap.size = Y0 := ⟨_, rfl⟩
  have j0 : W.heap[Y0]? = some (.cells (#[.int .i64 s.ver, .int .i64 s.last, .slice ta tn tc]) 24 (0, 0)) := by
    have := heap_alloc_new (w) (.cells (#[.int .i64 s.ver, .int .i64 s.last, .slice ta tn tc]) 24)
    rw [hW, ← hY0]
    exact this
  have HL := Lib.hid (hL.on tbE_held hbW)
  have HS := Lib.hid (hS.on stmtE_held hbW)
  have HW := Lib.hid hW
  have HB := Lib.hid hbW
  have HY0 := Lib.hid hY0
  have J0 := Lib.hid j0
  have HI := Lib.hid hI
  have G : Hid (∀ (X : World), Below W.heap.size W X → Calls Try.prog 8 #[.agg #[.int .i64 s.ver, .int .i64 s.last, .slice ta tn tc], .slice la n lc] X fun e w' => ∃ g, e = .returned (.bool g) ∧ (g = false → L.length ≤ 500 ∧ ∀ x ∈ L, x.vals.length ≤ 500) ∧ Below X.heap.size X w') := Lib.hid (fun X hX => great_any (w := X) (s := s) (tv := .slice ta tn tc) (L := L) (HL.out.on tbE_held hX) (HS.out.on stmtE_held hX) h1 h2 h3 h4)
  clear hW hbW hY0 j0 hI hL hS h1 h2 h3 h4 htn hln
  go_enter Try.func3, Try.ntmps3
  go_upto_region 1 with fail
  rw [← HW.out, HY0.out]
  go_wp2_with (go_at_call 7; refine (awake_any _).mono ?_; rintro e w1 ⟨rfl, b1⟩; refine Hid.out ?_)
  refine Lib.hid ?_
  have HB1 := Lib.hid b1
  have J1 := Lib.hid ((b1.block Y0 (blk_lt J0.out)).trans J0.out)
  have s0 : w1.cell? ⟨Y0, 0, none⟩ = some (.int .i64 s.ver) := cell_blk J1.out 0
  have s1 : w1.cell? ⟨Y0, 1, none⟩ = some (.int .i64 s.last) := cell_blk J1.out 1
  have s2 : w1.cell? ⟨Y0, 2, none⟩ = some (.slice ta tn tc) := cell_blk J1.out 2
  have hg := G.out w1 b1
  clear b1
  go_wp2_with (go_at_call 8; refine hg.mono ?_; rintro e w2 ⟨g, rfl, hgf, b2⟩; refine Hid.out ?_)
  refine Lib.hid ?_
  have HB2 := Lib.hid (bgo HB1.out b2)
  have J2 := Lib.hid ((b2.block Y0 (blk_lt J1.out)).trans J1.out)
  have HGF := Lib.hid hgf
  clear hg hgf b2 s0 s1 s2
  cases g with
  | true =>
    go_wp2_with (go_at_call 7; refine (awake_any _).mono ?_; rintro e w3 ⟨rfl, b3⟩; refine Hid.out ?_)
    refine Lib.hid ?_
    have HB3 := Lib.hid (bgo (bgo HB.out HB2.out) b3)
    clear b3
    go_wp2
    go_ret
    exact ⟨rfl, HB3.out⟩
  | false =>
    obtain ⟨hl5, hv5⟩ := HGF.out rfl
    have HL5 : Hid (L.length ≤ 1000000 ∧ ∀ x ∈ L, x.vals.length ≤ 1000000) := Lib.hid ⟨by omega, fun x hx => by have := hv5 x hx; omega⟩
    have hbind := bind_any (w := w2) (s := s) (tv := .slice ta tn tc) (L := L) (HL.out.on tbE_held HB2.out) HI.out (HS.out.on stmtE_held HB2.out) HL5.out.2 HL5.out.1
    unfold scV at hbind
    have s0 : w2.cell? ⟨Y0, 0, none⟩ = some (.int .i64 s.ver) := cell_blk J2.out 0
    have s1 : w2.cell? ⟨Y0, 1, none⟩ = some (.int .i64 s.last) := cell_blk J2.out 1
    have s2 : w2.cell? ⟨Y0, 2, none⟩ = some (.slice ta tn tc) := cell_blk J2.out 2
    obtain ⟨eat, heat⟩ : ∃ e, (bindE s L).1 = e := ⟨_, rfl⟩
    obtain ⟨eer, heer⟩ : ∃ e, (bindE s L).2 = e := ⟨_, rfl⟩
    rw [heat, heer] at hbind
    have HEA := Lib.hid (And.intro heat heer)
    clear hl5 hv5 heat heer
    go_upto_region 4 with (go_at_call 9; refine hbind.mono ?_; rintro e w3 ⟨av, rfl, hBA, b3⟩; refine Hid.out ?_)
    refine Lib.hid ?_
    have HB3 := Lib.hid (bgo HB2.out b3)
    have HBA := Lib.hid hBA
    have J3 := Lib.hid ((b3.block Y0 (blk_lt J2.out)).trans J2.out)
    obtain ⟨aa, ac, eav⟩ := hBA.shape
    obtain ⟨m, hm⟩ : ∃ m, (bindL s L).length = m := ⟨_, rfl⟩
    rw [hm] at eav
    subst eav
    have HM := Lib.hid hm
    have HB23 := Lib.hid b3
    clear hbind hBA b3 s0 s1 s2 hm
    have s0 : w3.cell? ⟨Y0, 0, none⟩ = some (.int .i64 s.ver) := cell_blk J3.out 0
    have s1 : w3.cell? ⟨Y0, 1, none⟩ = some (.int .i64 s.last) := cell_blk J3.out 1
    have s2 : w3.cell? ⟨Y0, 2, none⟩ = some (.slice ta tn tc) := cell_blk J3.out 2
    go_upto_region 4 with fail
    have hbindR := bindR_any (w := w3) (s := s) (tv := .slice ta tn tc) (L := L) (HL.out.on tbE_held HB3.out) (HS.out.on stmtE_held HB3.out) HL5.out.2 HL5.out.1
    unfold scV at hbindR
    rw [HEA.out.1, HEA.out.2] at hbindR
    go_upto_region 5 with (go_at_call 10; refine hbindR.mono ?_; rintro e w4 ⟨bv, rfl, hBB, b4⟩; refine Hid.out ?_)
    refine Lib.hid ?_
    have HB4 := Lib.hid (bgo HB3.out b4)
    have HBB := Lib.hid hBB
    obtain ⟨ba, bc, ebv⟩ := hBB.shape
    rw [HM.out] at ebv
    subst ebv
    have HB34 := Lib.hid b4
    clear hbindR hBB b4 s0 s1 s2
    go_upto_region 5 with fail
    have hsame := sameB_yes (w := w4) (HBA.out.below HB34.out).reads HBB.out.reads
    go_upto_region 7 with (go_at_call 11; refine hsame.mono ?_; rintro e w5 ⟨rfl, b5⟩; refine Hid.out ?_)
    refine Lib.hid ?_
    have HB5 := Lib.hid (bgo HB4.out b5)
    have HB45 := Lib.hid b5
    have J5 := Lib.hid (((bgo HB34.out b5).block Y0 (blk_lt J3.out)).trans J3.out)
    clear hsame b5
    go_upto_region 7 with fail
    obtain ⟨P, hP1, hP2, hP3⟩ := HBA.out
    have hPm : P.length = m := by rw [← HM.out, ← hP1, List.length_map]
    have HPM := Lib.hid hPm
    have HLT3 : Hid (∀ p ∈ P, ∀ k, p.2.ownBlock = some k → w2.heap.size ≤ k ∧ k < w3.heap.size) := Lib.hid (fun p hp k hk => own_ge (hP3 p hp) k hk)
    have HBS : Hid (BS w5 w2.heap.size P (.slice aa m ac)) := Lib.hid ⟨own_below (own_below hP2 HB34.out) HB45.out, fun p hp => ⟨_, own_below (own_below (hP3 p hp) HB34.out) HB45.out⟩⟩
    have hm1 : (m : Int) ≤ 9223372036854775807 := by
      have := (Lr.own bdC_len hP2).shape
      obtain ⟨_, c, e, q1, q2⟩ := this
      rw [hPm] at q2
      unfold maxLen at q1
      omega
    clear hP1 hP2 hP3 hPm
    go_wp2
    go_loopw [54] (fun iv wr => ∃ i : Nat, i ≤ m ∧ iv = .int .i64 (i : Int) ∧ Hid (BS wr w2.heap.size P (.slice aa m ac)) ∧ Fr w5 wr (fun k => w2.heap.size ≤ k ∧ k < w3.heap.size)) (fun iv _ => m - (intOf iv).toNat)
    case atStart => exact ⟨0, Nat.zero_le _, rfl, HBS, Fr.refl _ _⟩
    case round =>
      obtain ⟨i, hi, rfl, HBi, hfr⟩ := hrel
      obtain ⟨U, hU⟩ : ∃ U, U = wr := ⟨_, rfl⟩
      subst hU
      have HFR := Lib.hid hfr
      by_cases hlt : i < m
      · have hiP : i < P.length := by rw [HPM.out]; exact hlt
        obtain ⟨pn, hpn⟩ : ∃ pn, P[i].1.vals.length = pn := ⟨_, rfl⟩
        obtain ⟨xs0, hx0⟩ := HBi.out.2 P[i] (List.getElem_mem hiP)
        obtain ⟨pa, pc, epv⟩ := own_shape hx0
        rw [hpn] at epv
        have CELL : Hid (∀ (X : World), BS X w2.heap.size P (.slice aa m ac) → ∃ (b o : Nat), aa = some ⟨b, o, none⟩ ∧ X.cell? ⟨b, o + i * 11 + 2, none⟩ = some (.slice pa pn pc)) := Lib.hid (fun X hX => by
          have h1 := hX.1
          rw [← HPM.out] at h1
          obtain ⟨b, o, cs, e1, _, e2, e3⟩ := (Lr.own bdC_len h1).at.2.2.2 i hiP
          refine ⟨b, o, e1, ?_⟩
          have e2' : cs = bdC P[i] := e2
          subst e2'
          have := e3 2 P[i].2 rfl
          rw [this, epv])
        have PLACE : Hid (∀ (X : World) (k : Nat), k < pn → BS X w2.heap.size P (.slice aa m ac) → ∃ g cs u, pa = some ⟨g, 0, none⟩ ∧ w2.heap.size ≤ g ∧ g < w3.heap.size ∧ X.heap[g]? = some (.cells cs 37 (0, 0)) ∧ X.cell? ⟨g, k * 3 + 1, none⟩ = some u) := Lib.hid (fun X k hk hX => by
          obtain ⟨xs, hx⟩ := hX.2 P[i] (List.getElem_mem hiP)
          rw [epv, hpn] at hx
          obtain ⟨g, cs, u, e1, e2, e3, e4⟩ := own_place hx hk
          subst e1
          exact ⟨g, cs, u, rfl, e2, (HLT3.out P[i] (List.getElem_mem hiP) g (by rw [epv]; rfl)).2, e3, e4⟩)
        have hpn1 : (pn : Int) ≤ 9223372036854775807 := by
          rw [epv, hpn] at hx0
          rcases hx0.2 with ⟨hv, h0⟩ | ⟨g, cap, cur, hv, h0, hg, q1, q2, _⟩
          · omega
          · unfold maxLen at q2
            omega
        obtain ⟨b, o, eaa, c2⟩ := CELL.out U HBi.out
        subst eaa
        have k0 : (0 : Int) ≤ (i : Int) := by omega
        have k1 : (i : Int) < (m : Int) := by omega
        have HLT := Lib.hid hlt
        clear hfr hx0 epv hpn hiP hlt
        go_wp2
        go_loopw [63] (fun jv wx => ∃ k : Nat, k ≤ pn ∧ jv = .int .i64 (k : Int) ∧ Hid (BS wx w2.heap.size P (.slice (some ⟨b, o, none⟩) m ac)) ∧ Fr w5 wx (fun k => w2.heap.size ≤ k ∧ k < w3.heap.size)) (fun jv _ => pn - (intOf jv).toNat)
        case atStart => exact ⟨0, Nat.zero_le _, rfl, HBi, HFR.out⟩
        case round =>
          obtain ⟨k, hk, rfl, HBk, hfk⟩ := hrel
          obtain ⟨X, hX⟩ : ∃ X, X = wr := ⟨_, rfl⟩
          subst hX
          by_cases hkp : k < pn
          · obtain ⟨b', o', eab, c2'⟩ := CELL.out X HBk.out
            simp only [Option.some.injEq, Addr.mk.injEq, and_true] at eab
            obtain ⟨rfl, rfl⟩ := eab
            obtain ⟨g, cs, u, epa, hg1, hg2, hg3, hg4⟩ := PLACE.out X k hkp HBk.out
            subst epa
            have fz := frozen_blk hg3 (k * 3 + 1)
            have HBX : Hid (BS (X.setCell ⟨g, k * 3 + 1, none⟩ (.int .i64 77)) w2.heap.size P (.slice (some ⟨b, o, none⟩) m ac)) := Lib.hid (HBk.out.set hg3)
            have HFX : Hid (Fr w5 (X.setCell ⟨g, k * 3 + 1, none⟩ (.int .i64 77)) (fun k => w2.heap.size ≤ k ∧ k < w3.heap.size)) := Lib.hid (hfk.set (a := ⟨g, k * 3 + 1, none⟩) (.inl ⟨hg1, hg2⟩) _)
            have m0 : (0 : Int) ≤ (k : Int) := by omega
            have m1 : (k : Int) < (pn : Int) := by omega
            have HKP := Lib.hid hkp
            clear hfk hg1 hg2 hg3 hkp
            go_wp2
            go_roundw
            case rel => exact ⟨k + 1, HKP.out, by go_num, HBX, HFX.out⟩
            case measure => simp [intOf]; omega
          · have m1 : ¬ ((k : Int) < (pn : Int)) := by omega
            have HFK := Lib.hid hfk
            clear hfk hkp
            go_wp2
            go_roundw
            case rel => exact ⟨i + 1, HLT.out, by go_num, HBk, HFK.out⟩
            case measure => simp [intOf]; omega
      · have k1 : ¬ ((i : Int) < (m : Int)) := by omega
        have hb25 : Below w2.heap.size w5 U := hfr.toBelow (fun k hk q => by omega) (by have := HB34.out.size; have := HB45.out.size; have := HB23.out.size; omega)
        have HWU : Hid (Below W.heap.size W U) := Lib.hid (HB5.out.trans (hb25.mono HB2.out.size))
        have JU := Lib.hid ((hfr.block Y0 (blk_lt J5.out) (fun q => by have := blk_lt J2.out; omega)).trans J5.out)
        have HBBU : Hid (BO U w3.heap.size (bindL s L) (.slice ba m bc)) := Lib.hid ((HBB.out.below HB45.out).fr hfr (fun k q => q.2))
        have hbind := bind_any (w := U) (s := s) (tv := .slice ta tn tc) (L := L) (HL.out.on tbE_held HWU.out) HI.out (HS.out.on stmtE_held HWU.out) HL5.out.2 HL5.out.1
        unfold scV at hbind
        have s0 : U.cell? ⟨Y0, 0, none⟩ = some (.int .i64 s.ver) := cell_blk JU.out 0
        have s1 : U.cell? ⟨Y0, 1, none⟩ = some (.int .i64 s.last) := cell_blk JU.out 1
        have s2 : U.cell? ⟨Y0, 2, none⟩ = some (.slice ta tn tc) := cell_blk JU.out 2
        clear hfr hb25 hlt
        go_upto_region 17 with (go_at_call 9; refine hbind.mono ?_; rintro e w7 ⟨cv, rfl, hBC, b7⟩; refine Hid.out ?_)
        refine Lib.hid ?_
        have hsame := sameB_yes (w := w7) hBC.reads (HBBU.out.below b7).reads
        have HB7 := Lib.hid (bgo (bgo HB.out HWU.out) b7)
        clear hbind hBC b7 s0 s1 s2
        go_upto_region 17 with fail
        go_wp2_with (go_at_call 11; refine hsame.mono ?_; rintro e w8 ⟨rfl, b8⟩; refine Hid.out ?_)
        refine Lib.hid ?_
        have HB8 := Lib.hid (bgo HB7.out b8)
        clear hsame b8
        go_wp2
        go_ret
        exact ⟨rfl, HB8.out⟩
end
end Go.Proofs.Ytkfnphhoebknnaa
