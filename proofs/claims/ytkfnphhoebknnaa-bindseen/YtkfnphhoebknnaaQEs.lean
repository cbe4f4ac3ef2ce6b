import Derived.Test.YtkfnphhoebknnaaQEr
namespace Go.Proofs.Ytkfnphhoebknnaa
open Go.RowKit
theorem seenP_twice (t : Tb) : seenP (seenP t) = seenP t := by
  unfold seenP seC seI seK
  simp only [List.filter_filter, Bool.and_self]
theorem seenS_twice (s : Sc) : seenS (seenS s) = seenS s := by
  unfold seenS
  simp only [List.map_map]
  congr 1
  exact List.map_congr_left (fun t _ => seenP_twice t)
theorem seen_ids {s : Sc} (h : ∀ t ∈ s.tabs, ∀ i ∈ idsT t, I64 i) : ∀ t ∈ (seenS s).tabs, ∀ i ∈ idsT t, I64 i := by
  intro t ht i hi
  obtain ⟨u, hu, rfl⟩ := List.mem_map.1 ht
  refine h u hu i ?_
  unfold idsT at hi ⊢
  simp only [List.mem_cons, List.mem_append, List.mem_map] at hi ⊢
  rcases hi with q | (⟨x, hx, q⟩ | ⟨x, hx, q⟩) | ⟨x, hx, q⟩
  · exact .inl q
  · exact .inr (.inl (.inl ⟨x, (List.mem_filter.1 hx).1, q⟩))
  · exact .inr (.inl (.inr ⟨x, (List.mem_filter.1 hx).1, q⟩))
  · exact .inr (.inr ⟨x, (List.mem_filter.1 hx).1, q⟩)
theorem bindE_seen {s : Sc} (h : rightS s = true) (h2 : rightS (seenS s) = true) (L : List St) : bindE (seenS s) L = bindE s L := by
  unfold bindE
  rw [if_pos h, if_pos h2, seenS_twice]
theorem bindL_seen {s : Sc} (h : rightS s = true) (h2 : rightS (seenS s) = true) (L : List St) : bindL (seenS s) L = bindL s L := by
  unfold bindL
  rw [bindE_seen h h2, seenS_twice]
section
variable {w : World}
set_option maxHeartbeats 8000000 in
set_option maxRecDepth 100000 in
theorem seen_law {s : Sc} {tv lv : Value} {L : List St} (hL : Lr tbE 5 w s.tabs tv) (hI : ∀ t ∈ s.tabs, ∀ i ∈ idsT t, I64 i) (hS : Lr stmtE 22 w L lv) (h1 : s.tabs.length ≤ 140737488355328) (h2 : L.length ≤ 140737488355328) (h3 : ∀ t ∈ s.tabs, t.cols.length ≤ 140737488355328 ∧ t.ixs.length ≤ 140737488355328 ∧ t.fks.length ≤ 140737488355328) (h4 : ∀ x ∈ L, x.vals.length ≤ 140737488355328) : Calls Try.prog 4 #[scV s tv, lv] w fun e w' => e = .returned (.bool true) ∧ Below w.heap.size w w' := by
  obtain ⟨la, lc, rfl, hSr⟩ := hS
  have hS : Lr stmtE 22 w L (.slice la L.length lc) := ⟨la, lc, rfl, hSr⟩
  obtain ⟨ta, tc, rfl, htr⟩ := hL
  have hL : Lr tbE 5 w s.tabs (.slice ta s.tabs.length tc) := ⟨ta, tc, rfl, htr⟩
  clear hSr htr
  obtain ⟨tn, htn⟩ : ∃ tn, s.tabs.length = tn := ⟨_, rfl⟩
  rw [htn] at hL
  unfold scV
  rw [htn]
  obtain ⟨n, hln⟩ : ∃ n, L.length = n := ⟨_, rfl⟩
  rw [hln] at hS ⊢
  have HTN := Lib.hid htn
  have HLN := Lib.hid hln
  obtain ⟨W, hW⟩ : ∃ W, W = w.alloc (.cells (#[.int .i64 s.ver, .int .i64 s.last, .slice ta tn tc]) 24) := ⟨_, rfl⟩
  have hbW : Below w.heap.size w W := by
    rw [hW]
    exact bnew _ _
  obtain ⟨Y0, hY0⟩ : ∃ Y0, w.heap.size = Y0 := ⟨_, rfl⟩
  have j0 : W.heap[Y0]? = some (.cells (#[.int .i64 s.ver, .int .i64 s.last, .slice ta tn tc]) 24 (0, 0)) := by
    have := heap_alloc_new (w) (.cells (#[.int .i64 s.ver, .int .i64 s.last, .slice ta tn tc]) 24)
    rw [hW, ← hY0]
    exact this
  have HL := Lib.hid (hL.on tbE_held hbW)
  have HS := Lib.hid (hS.on stmtE_held hbW)
  have HW := Lib.hid hW
  have HB := Lib.hid hbW
  have HY0 := Lib.hid hY0
  have JU := Lib.hid j0
  have HI := Lib.hid hI
  have HBU : Hid (Below W.heap.size W W) := Lib.hid (Below.refl _ _)
  have G : Hid (∀ (X : World), Below W.heap.size W X → Calls Try.prog 8 #[.agg #[.int .i64 s.ver, .int .i64 s.last, .slice ta tn tc], .slice la n lc] X fun e w' => ∃ g, e = .returned (.bool g) ∧ (g = false → L.length ≤ 500 ∧ ∀ x ∈ L, x.vals.length ≤ 500) ∧ Below X.heap.size X w') := Lib.hid (fun X hX => great_any (w := X) (s := s) (tv := .slice ta tn tc) (L := L) (HL.out.on tbE_held hX) (HS.out.on stmtE_held hX) h1 h2 h3 h4)
  clear hW hbW hY0 j0 hI hL hS h1 h2 h3 h4 htn hln
  go_enter Try.func4, Try.ntmps4
  go_upto_region 1 with fail
  rw [← HW.out, HY0.out]
  go_wp2_with (go_at_call 7; refine (awake_any _).mono ?_; rintro e w1 ⟨rfl, b1⟩; refine Hid.out ?_)
  refine Lib.hid ?_
  have HBU := Lib.hid (bgo HBU.out b1)
  have JU := Lib.hid ((b1.block Y0 (blk_lt JU.out)).trans JU.out)
  clear b1
  have s0 : w1.cell? ⟨Y0, 0, none⟩ = some (.int .i64 s.ver) := cell_blk JU.out 0
  have s1 : w1.cell? ⟨Y0, 1, none⟩ = some (.int .i64 s.last) := cell_blk JU.out 1
  have s2 : w1.cell? ⟨Y0, 2, none⟩ = some (.slice ta tn tc) := cell_blk JU.out 2
  have hg := G.out w1 HBU.out
  go_wp2_with (go_at_call 8; refine hg.mono ?_; rintro e w2 ⟨g, rfl, hgf, b2⟩; refine Hid.out ?_)
  refine Lib.hid ?_
  have HBU := Lib.hid (bgo HBU.out b2)
  have JU := Lib.hid ((b2.block Y0 (blk_lt JU.out)).trans JU.out)
  have HGF := Lib.hid hgf
  clear hg hgf b2 s0 s1 s2
  cases g with
  | true =>
    go_wp2_with (go_at_call 7; refine (awake_any _).mono ?_; rintro e w8 ⟨rfl, b8⟩; refine Hid.out ?_)
    refine Lib.hid ?_
    have HB8 := Lib.hid (bgo (bgo HB.out HBU.out) b8)
    clear b8
    go_wp2
    go_ret
    exact ⟨rfl, HB8.out⟩
  | false =>
    obtain ⟨hl5, hv5⟩ := HGF.out rfl
    have HL5 : Hid (L.length ≤ 1000000 ∧ ∀ x ∈ L, x.vals.length ≤ 1000000) := Lib.hid ⟨by omega, fun x hx => by have := hv5 x hx; omega⟩
    clear hl5 hv5
    have s0 : w2.cell? ⟨Y0, 0, none⟩ = some (.int .i64 s.ver) := cell_blk JU.out 0
    have s1 : w2.cell? ⟨Y0, 1, none⟩ = some (.int .i64 s.last) := cell_blk JU.out 1
    have s2 : w2.cell? ⟨Y0, 2, none⟩ = some (.slice ta tn tc) := cell_blk JU.out 2
    have hrt := right_ref (w := w2) (s := s) (tv := .slice ta tn tc) (HL.out.on tbE_held HBU.out)
    unfold scV at hrt
    cases hr : rightS s with
    | false =>
      rw [hr] at hrt
      clear hr
      go_wp2_with (go_at_call 12; refine hrt.mono ?_; rintro e w3 ⟨rfl, b3⟩; refine Hid.out ?_)
      refine Lib.hid ?_
      have HBU := Lib.hid (bgo HBU.out b3)
      have JU := Lib.hid ((b3.block Y0 (blk_lt JU.out)).trans JU.out)
      clear hrt b3 s0 s1 s2
      go_wp2_with (go_at_call 7; refine (awake_any _).mono ?_; rintro e w8 ⟨rfl, b8⟩; refine Hid.out ?_)
      refine Lib.hid ?_
      have HB8 := Lib.hid (bgo (bgo HB.out HBU.out) b8)
      clear b8
      go_wp2
      go_ret
      exact ⟨rfl, HB8.out⟩
    | true =>
      rw [hr] at hrt
      have HR := Lib.hid hr
      have hrp := right_parts hr
      have HFW : Hid (Few s.tabs) := Lib.hid ⟨by have := hrp.2.2.1; omega, fun t ht => (tab_few (hrp.2.2.2 t ht)).1⟩
      clear hr hrp
      go_wp2_with (go_at_call 12; refine hrt.mono ?_; rintro e w3 ⟨rfl, b3⟩; refine Hid.out ?_)
      refine Lib.hid ?_
      have HBU := Lib.hid (bgo HBU.out b3)
      have JU := Lib.hid ((b3.block Y0 (blk_lt JU.out)).trans JU.out)
      clear hrt b3 s0 s1 s2
      have s0 : w3.cell? ⟨Y0, 0, none⟩ = some (.int .i64 s.ver) := cell_blk JU.out 0
      have s1 : w3.cell? ⟨Y0, 1, none⟩ = some (.int .i64 s.last) := cell_blk JU.out 1
      have s2 : w3.cell? ⟨Y0, 2, none⟩ = some (.slice ta tn tc) := cell_blk JU.out 2
      have hseen := refseen_any (w := w3) (s := s) (tv := .slice ta tn tc) (HL.out.on tbE_held HBU.out) HFW.out
      unfold scV at hseen
      go_wp2_with (go_at_call 13; refine hseen.mono ?_; rintro e w4 ⟨G4, tv4, rfl, hG4, hD4, b4⟩; refine Hid.out ?_)
      refine Lib.hid ?_
      have HBU := Lib.hid (bgo HBU.out b4)
      have JU := Lib.hid ((b4.block Y0 (blk_lt JU.out)).trans JU.out)
      have hT4 := (show Lr tbE 5 w4 (seenS s).tabs tv4 by have := hD4.reads; rw [hG4] at this; exact this)
      have hrt := right_ref (w := w4) (s := seenS s) (tv := tv4) hT4
      change Calls Try.prog 12 #[.agg #[.int .i64 s.ver, .int .i64 s.last, tv4]] w4 _ at hrt
      clear hseen hG4 hD4 b4 s0 s1 s2 hT4
      cases hr : rightS (seenS s) with
      | false =>
        rw [hr] at hrt
        clear hr
        go_wp2_with (go_at_call 12; refine hrt.mono ?_; rintro e w5 ⟨rfl, b5⟩; refine Hid.out ?_)
        refine Lib.hid ?_
        have HBU := Lib.hid (bgo HBU.out b5)
        have JU := Lib.hid ((b5.block Y0 (blk_lt JU.out)).trans JU.out)
        clear hrt b5
        go_wp2_with (go_at_call 7; refine (awake_any _).mono ?_; rintro e w8 ⟨rfl, b8⟩; refine Hid.out ?_)
        refine Lib.hid ?_
        have HB8 := Lib.hid (bgo (bgo HB.out HBU.out) b8)
        clear b8
        go_wp2
        go_ret
        exact ⟨rfl, HB8.out⟩
      | true =>
        rw [hr] at hrt
        have HR2 := Lib.hid hr
        clear hr
        go_upto_region 3 with (go_at_call 12; refine hrt.mono ?_; rintro e w5 ⟨rfl, b5⟩; refine Hid.out ?_)
        refine Lib.hid ?_
        have HBU := Lib.hid (bgo HBU.out b5)
        have JU := Lib.hid ((b5.block Y0 (blk_lt JU.out)).trans JU.out)
        clear hrt b5
        go_upto_region 3 with fail
        have s0 : w5.cell? ⟨Y0, 0, none⟩ = some (.int .i64 s.ver) := cell_blk JU.out 0
        have s1 : w5.cell? ⟨Y0, 1, none⟩ = some (.int .i64 s.last) := cell_blk JU.out 1
        have s2 : w5.cell? ⟨Y0, 2, none⟩ = some (.slice ta tn tc) := cell_blk JU.out 2
        have hbind := bind_any (w := w5) (s := s) (tv := .slice ta tn tc) (L := L) (HL.out.on tbE_held HBU.out) HI.out (HS.out.on stmtE_held HBU.out) HL5.out.2 HL5.out.1
        unfold scV at hbind
        obtain ⟨eat, heat⟩ : ∃ e, (bindE s L).1 = e := ⟨_, rfl⟩
        obtain ⟨eer, heer⟩ : ∃ e, (bindE s L).2 = e := ⟨_, rfl⟩
        rw [heat, heer] at hbind
        have HEA := Lib.hid (And.intro heat heer)
        clear heat heer
        go_upto_region 4 with (go_at_call 9; refine hbind.mono ?_; rintro e w6 ⟨av, rfl, hBA, b6⟩; refine Hid.out ?_)
        refine Lib.hid ?_
        have HBU := Lib.hid (bgo HBU.out b6)
        have JU := Lib.hid ((b6.block Y0 (blk_lt JU.out)).trans JU.out)
        have HBA := Lib.hid hBA
        clear hbind hBA b6 s0 s1 s2
        go_upto_region 4 with fail
        have s0 : w6.cell? ⟨Y0, 0, none⟩ = some (.int .i64 s.ver) := cell_blk JU.out 0
        have s1 : w6.cell? ⟨Y0, 1, none⟩ = some (.int .i64 s.last) := cell_blk JU.out 1
        have s2 : w6.cell? ⟨Y0, 2, none⟩ = some (.slice ta tn tc) := cell_blk JU.out 2
        have hseen := refseen_any (w := w6) (s := s) (tv := .slice ta tn tc) (HL.out.on tbE_held HBU.out) HFW.out
        unfold scV at hseen
        go_wp2_with (go_at_call 13; refine hseen.mono ?_; rintro e w7 ⟨G4, tv4', rfl, hG4, hD4, b7⟩; refine Hid.out ?_)
        refine Lib.hid ?_
        have HBU := Lib.hid (bgo HBU.out b7)
        have JU := Lib.hid ((b7.block Y0 (blk_lt JU.out)).trans JU.out)
        have HBA := Lib.hid (HBA.out.below b7)
        have hT4 := (show Lr tbE 5 w7 (seenS s).tabs tv4' by have := hD4.reads; rw [hG4] at this; exact this)
        have hbind := bind_any (w := w7) (s := seenS s) (tv := tv4') (L := L) hT4 (seen_ids HI.out) (HS.out.on stmtE_held HBU.out) HL5.out.2 HL5.out.1
        rw [bindE_seen HR.out HR2.out, bindL_seen HR.out HR2.out, HEA.out.1, HEA.out.2] at hbind
        change Calls Try.prog 9 #[.agg #[.int .i64 s.ver, .int .i64 s.last, tv4'], .slice la n lc] w7 _ at hbind
        clear hseen hG4 hD4 b7 s0 s1 s2 hT4
        go_upto_region 5 with (go_at_call 9; refine hbind.mono ?_; rintro e w8 ⟨bv, rfl, hBB, b8⟩; refine Hid.out ?_)
        refine Lib.hid ?_
        have HBU := Lib.hid (bgo HBU.out b8)
        have JU := Lib.hid ((b8.block Y0 (blk_lt JU.out)).trans JU.out)
        have hsame := sameB_yes (w := w8) (HBA.out.below b8).reads hBB.reads
        clear hbind hBB b8
        go_upto_region 5 with fail
        go_wp2_with (go_at_call 11; refine hsame.mono ?_; rintro e w9 ⟨rfl, b9⟩; refine Hid.out ?_)
        refine Lib.hid ?_
        have HB9 := Lib.hid (bgo (bgo HB.out HBU.out) b9)
        clear hsame b9
        go_wp2
        go_ret
        exact ⟨rfl, HB9.out⟩
end
end Go.Proofs.Ytkfnphhoebknnaa
