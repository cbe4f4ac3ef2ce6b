/- A change of a right schema makes a right one: plain. -/
import Derived.Test.YtongmhfpoopebaaGreatGa
namespace Go.Proofs.YtongmhfpoopebaaGreat
abbrev wC (t : Tb) (l : List Col) : Tb := ⟨t.id, t.nm, l, t.ixs, t.fks⟩
abbrev wI (t : Tb) (l : List Ix) : Tb := ⟨t.id, t.nm, t.cols, l, t.fks⟩
abbrev wK (t : Tb) (l : List Fk) : Tb := ⟨t.id, t.nm, t.cols, t.ixs, l⟩
theorem ids_sub3 {t t' : Tb} (hid : t'.id = t.id) (hc : (t'.cols.map Col.id).Sublist (t.cols.map Col.id)) (hi : (t'.ixs.map Ix.id).Sublist (t.ixs.map Ix.id)) (hk : (t'.fks.map Fk.id).Sublist (t.fks.map Fk.id)) : (idsT t').Sublist (idsT t) := by
  unfold idsT
  rw [hid]
  exact ((hc.append hi).append hk).cons_cons _
theorem perm_in {n a : Int} {x y z : List Int} (h : x = y ++ n :: z) : (a :: x).Perm (n :: a :: (y ++ z)) := by
  rw [h]
  exact (List.perm_middle.cons a).trans (List.Perm.swap n a _)
theorem tab_iff {t : Tb} : tabB t = true ↔ (1 ≤ t.cols.length ∧ t.cols.length ≤ 8 ∧ t.ixs.length ≤ 8 ∧ t.fks.length ≤ 8) ∧ nameB t.nm = true ∧ (∀ c ∈ t.cols, kindB c.kd = true ∧ fitB c.df c.kd = true) ∧ keyB t = true ∧ partsB Col.nm Col.st t.cols = true ∧ partsB Ix.nm Ix.st t.ixs = true ∧ partsB Fk.nm Fk.st t.fks = true := by
  unfold tabB cntB elB
  simp only [Bool.and_eq_true, decide_eq_true_eq, List.all_eq_true, and_assoc]
theorem key_cons {t : Tb} (h : keyB t = true) : ∃ c r, t.cols = c :: r ∧ c.st = 3 := by
  unfold keyB at h
  cases e : t.cols with
  | nil => rw [e] at h; cases h
  | cons c r =>
    rw [e] at h
    exact ⟨c, r, rfl, by simpa using h⟩
theorem key_of {t : Tb} {c : Col} {r : List Col} (h : t.cols = c :: r) (hs : c.st = 3) : keyB t = true := by
  unfold keyB
  rw [h]
  simpa using hs
section
variable {s : Sc} {i : Nat} (hr : rightS s = true) (hi : i < s.tabs.length) (hv : farB (s.ver + 1) = true)
include hr hi hv
theorem rc_set {k : Nat} {y : Col} (hk : k < s.tabs[i].cols.length) (h1 : y.id = s.tabs[i].cols[k].id) (h2 : y.nm = s.tabs[i].cols[k].nm) (h3 : y.kd = s.tabs[i].cols[k].kd) (h4 : y.df = s.tabs[i].cols[k].df) (h5 : stB y.st = true) (h0 : k ≠ 0) : rightS ⟨s.ver + 1, s.last, s.tabs.set i (wC s.tabs[i] (s.tabs[i].cols.set k y))⟩ = true := by
  obtain ⟨_, _, _, q4, _, _, _, q8⟩ := right_iff.1 hr
  obtain ⟨⟨a1, a2, a3, a4⟩, b, c, d, e1, e2, e3⟩ := tab_iff.1 (q4 _ (List.getElem_mem hi))
  have hl := link_iff.1 (q8 _ (List.getElem_mem hi))
  obtain ⟨c0, r, ec, es⟩ := key_cons d
  obtain ⟨k, rfl⟩ : ∃ m, k = m + 1 := ⟨k - 1, by omega⟩
  refine right_sub (t' := wC s.tabs[i] (s.tabs[i].cols.set (k + 1) y)) hr hi rfl rfl ?_ ?_ ?_ (ids_sub3 rfl (by rw [map_set_same hk h1]; exact List.Sublist.refl _) (List.Sublist.refl _) (List.Sublist.refl _)) hv
  · unfold keyKd
    simp only [ec, List.set_cons_succ, List.head?_cons]
  · refine tab_iff.2 ⟨⟨by simpa using a1, by simpa using a2, a3, a4⟩, b, fun x hx => ?_, key_of (c := c0) (r := r.set k y) (by simp only [ec, List.set_cons_succ]) es, parts_set e1 hk h2 h5, e2, e3⟩
    rcases List.mem_or_eq_of_mem_set hx with q | q
    · exact c x q
    · rw [q, h3, h4]
      exact c _ (List.getElem_mem hk)
  · rw [link_iff]
    simp only [colKd_set hk h1 h3]
    exact hl
theorem rc_add {y : Col} (hfl : farB (s.last + 1) = true) (h1 : y.id = s.last + 1) (h2 : nameB y.nm = true) (h3 : kindB y.kd = true) (h4 : fitB y.df y.kd = true) (h5 : stB y.st = true) (hne : ∀ x ∈ s.tabs[i].cols, x.nm ≠ y.nm) (hlen : s.tabs[i].cols.length ≠ 8) : rightS ⟨s.ver + 1, s.last + 1, s.tabs.set i (wC s.tabs[i] (s.tabs[i].cols ++ [y]))⟩ = true := by
  obtain ⟨_, _, _, q4, _, _, _, q8⟩ := right_iff.1 hr
  obtain ⟨⟨a1, a2, a3, a4⟩, b, c, d, e1, e2, e3⟩ := tab_iff.1 (q4 _ (List.getElem_mem hi))
  have hl := link_iff.1 (q8 _ (List.getElem_mem hi))
  obtain ⟨c0, r, ec, es⟩ := key_cons d
  refine right_more (t' := wC s.tabs[i] (s.tabs[i].cols ++ [y])) hr hi rfl rfl ?_ ?_ ?_ ?_ hv hfl
  · unfold keyKd
    simp only [ec, List.cons_append, List.head?_cons]
  · refine tab_iff.2 ⟨⟨by simp, by simp; omega, a3, a4⟩, b, fun x hx => ?_, key_of (c := c0) (r := r ++ [y]) (by simp only [ec, List.cons_append]) es, parts_add e1 h2 h5 hne, e2, e3⟩
    rcases List.mem_append.1 hx with q | q
    · exact c x q
    · rw [List.mem_singleton.1 q]
      exact ⟨h3, h4⟩
  · rw [link_iff]
    refine ⟨fun x hx => ?_, fun x hx => ?_⟩
    · show (colKd (s.tabs[i].cols ++ [y]) x.col).isSome = true
      rw [colKd_add (hl.1 x hx)]
      exact hl.1 x hx
    · show fkAns (colKd (s.tabs[i].cols ++ [y]) x.col) _ = true
      obtain ⟨kk, z1, _⟩ := fkAns_some (hl.2 x hx)
      rw [colKd_add (by rw [z1]; rfl)]
      exact hl.2 x hx
  · unfold idsT
    rw [List.map_append, List.map_singleton, h1]
    have := perm_in (n := s.last + 1) (a := s.tabs[i].id) (x := s.tabs[i].cols.map Col.id ++ [s.last + 1] ++ s.tabs[i].ixs.map Ix.id ++ s.tabs[i].fks.map Fk.id) (y := s.tabs[i].cols.map Col.id) (z := s.tabs[i].ixs.map Ix.id ++ s.tabs[i].fks.map Fk.id) (by simp)
    simpa using this
theorem rc_cut {k : Nat} (hk : k < s.tabs[i].cols.length) (h0 : k ≠ 0) (hx : ∀ x ∈ s.tabs[i].ixs, x.col ≠ s.tabs[i].cols[k].id) (hf : ∀ x ∈ s.tabs[i].fks, x.col ≠ s.tabs[i].cols[k].id) : rightS ⟨s.ver + 1, s.last, s.tabs.set i (wC s.tabs[i] (s.tabs[i].cols.take k ++ s.tabs[i].cols.drop (k + 1)))⟩ = true := by
  obtain ⟨_, _, _, q4, _, _, _, q8⟩ := right_iff.1 hr
  obtain ⟨⟨a1, a2, a3, a4⟩, b, c, d, e1, e2, e3⟩ := tab_iff.1 (q4 _ (List.getElem_mem hi))
  have hl := link_iff.1 (q8 _ (List.getElem_mem hi))
  obtain ⟨c0, r, ec, es⟩ := key_cons d
  have hs := cut_sub s.tabs[i].cols k
  obtain ⟨k, rfl⟩ : ∃ m, k = m + 1 := ⟨k - 1, by omega⟩
  have eh : s.tabs[i].cols.take (k + 1) ++ s.tabs[i].cols.drop (k + 1 + 1) = c0 :: (r.take k ++ r.drop (k + 1)) := by rw [ec]; rfl
  refine right_sub (t' := wC s.tabs[i] (s.tabs[i].cols.take (k + 1) ++ s.tabs[i].cols.drop (k + 1 + 1))) hr hi rfl rfl ?_ ?_ ?_ (ids_sub3 rfl (hs.map _) (List.Sublist.refl _) (List.Sublist.refl _)) hv
  · unfold keyKd
    show (s.tabs[i].cols.take (k + 1) ++ s.tabs[i].cols.drop (k + 1 + 1)).head?.map Col.kd = _
    rw [eh, ec]
    rfl
  · refine tab_iff.2 ⟨⟨?_, Nat.le_trans hs.length_le a2, a3, a4⟩, b, fun x hx => c x (hs.subset hx), key_of (c := c0) (r := r.take k ++ r.drop (k + 1)) eh es, parts_sub e1 hs, e2, e3⟩
    show 1 ≤ (s.tabs[i].cols.take (k + 1) ++ s.tabs[i].cols.drop (k + 1 + 1)).length
    rw [eh]
    simp
  · rw [link_iff]
    refine ⟨fun x hx' => ?_, fun x hx' => ?_⟩
    · show (colKd (s.tabs[i].cols.take (k + 1) ++ s.tabs[i].cols.drop (k + 1 + 1)) x.col).isSome = true
      rw [colKd_cut hk (fun q => hx x hx' q.symm)]
      exact hl.1 x hx'
    · show fkAns (colKd (s.tabs[i].cols.take (k + 1) ++ s.tabs[i].cols.drop (k + 1 + 1)) x.col) _ = true
      rw [colKd_cut hk (fun q => hf x hx' q.symm)]
      exact hl.2 x hx'
theorem rx_set {k : Nat} {y : Ix} (hk : k < s.tabs[i].ixs.length) (h1 : y.id = s.tabs[i].ixs[k].id) (h2 : y.nm = s.tabs[i].ixs[k].nm) (h3 : y.col = s.tabs[i].ixs[k].col) (h5 : stB y.st = true) : rightS ⟨s.ver + 1, s.last, s.tabs.set i (wI s.tabs[i] (s.tabs[i].ixs.set k y))⟩ = true := by
  obtain ⟨_, _, _, q4, _, _, _, q8⟩ := right_iff.1 hr
  obtain ⟨⟨a1, a2, a3, a4⟩, b, c, d, e1, e2, e3⟩ := tab_iff.1 (q4 _ (List.getElem_mem hi))
  have hl := link_iff.1 (q8 _ (List.getElem_mem hi))
  refine right_sub (t' := wI s.tabs[i] (s.tabs[i].ixs.set k y)) hr hi rfl rfl rfl ?_ ?_ (ids_sub3 rfl (List.Sublist.refl _) (by rw [map_set_same hk h1]; exact List.Sublist.refl _) (List.Sublist.refl _)) hv
  · exact tab_iff.2 ⟨⟨a1, a2, by simpa using a3, a4⟩, b, c, d, e1, parts_set e2 hk h2 h5, e3⟩
  · rw [link_iff]
    refine ⟨fun x hx => ?_, hl.2⟩
    rcases List.mem_or_eq_of_mem_set hx with q | q
    · exact hl.1 x q
    · rw [q]
      show (colKd s.tabs[i].cols y.col).isSome = true
      rw [h3]
      exact hl.1 _ (List.getElem_mem hk)
theorem rx_add {y : Ix} (hfl : farB (s.last + 1) = true) (h1 : y.id = s.last + 1) (h2 : nameB y.nm = true) (h3 : (colKd s.tabs[i].cols y.col).isSome = true) (h5 : stB y.st = true) (hne : ∀ x ∈ s.tabs[i].ixs, x.nm ≠ y.nm) (hlen : s.tabs[i].ixs.length ≠ 8) : rightS ⟨s.ver + 1, s.last + 1, s.tabs.set i (wI s.tabs[i] (s.tabs[i].ixs ++ [y]))⟩ = true := by
  obtain ⟨_, _, _, q4, _, _, _, q8⟩ := right_iff.1 hr
  obtain ⟨⟨a1, a2, a3, a4⟩, b, c, d, e1, e2, e3⟩ := tab_iff.1 (q4 _ (List.getElem_mem hi))
  have hl := link_iff.1 (q8 _ (List.getElem_mem hi))
  refine right_more (t' := wI s.tabs[i] (s.tabs[i].ixs ++ [y])) hr hi rfl rfl rfl ?_ ?_ ?_ hv hfl
  · exact tab_iff.2 ⟨⟨a1, a2, by simp; omega, a4⟩, b, c, d, e1, parts_add e2 h2 h5 hne, e3⟩
  · rw [link_iff]
    refine ⟨fun x hx => ?_, hl.2⟩
    rcases List.mem_append.1 hx with q | q
    · exact hl.1 x q
    · rw [List.mem_singleton.1 q]
      exact h3
  · unfold idsT
    rw [List.map_append, List.map_singleton, h1]
    have := perm_in (n := s.last + 1) (a := s.tabs[i].id) (x := s.tabs[i].cols.map Col.id ++ (s.tabs[i].ixs.map Ix.id ++ [s.last + 1]) ++ s.tabs[i].fks.map Fk.id) (y := s.tabs[i].cols.map Col.id ++ s.tabs[i].ixs.map Ix.id) (z := s.tabs[i].fks.map Fk.id) (by simp)
    simpa using this
theorem rx_cut {k : Nat} : rightS ⟨s.ver + 1, s.last, s.tabs.set i (wI s.tabs[i] (s.tabs[i].ixs.take k ++ s.tabs[i].ixs.drop (k + 1)))⟩ = true := by
  obtain ⟨_, _, _, q4, _, _, _, q8⟩ := right_iff.1 hr
  obtain ⟨⟨a1, a2, a3, a4⟩, b, c, d, e1, e2, e3⟩ := tab_iff.1 (q4 _ (List.getElem_mem hi))
  have hl := link_iff.1 (q8 _ (List.getElem_mem hi))
  have hs := cut_sub s.tabs[i].ixs k
  refine right_sub (t' := wI s.tabs[i] (s.tabs[i].ixs.take k ++ s.tabs[i].ixs.drop (k + 1))) hr hi rfl rfl rfl ?_ ?_ (ids_sub3 rfl (List.Sublist.refl _) (hs.map _) (List.Sublist.refl _)) hv
  · exact tab_iff.2 ⟨⟨a1, a2, Nat.le_trans hs.length_le a3, a4⟩, b, c, d, e1, parts_sub e2 hs, e3⟩
  · rw [link_iff]
    exact ⟨fun x hx => hl.1 x (hs.subset hx), hl.2⟩
theorem rf_set {k : Nat} {y : Fk} (hk : k < s.tabs[i].fks.length) (h1 : y.id = s.tabs[i].fks[k].id) (h2 : y.nm = s.tabs[i].fks[k].nm) (h3 : y.col = s.tabs[i].fks[k].col ∧ y.par = s.tabs[i].fks[k].par) (h5 : stB y.st = true) : rightS ⟨s.ver + 1, s.last, s.tabs.set i (wK s.tabs[i] (s.tabs[i].fks.set k y))⟩ = true := by
  obtain ⟨_, _, _, q4, _, _, _, q8⟩ := right_iff.1 hr
  obtain ⟨⟨a1, a2, a3, a4⟩, b, c, d, e1, e2, e3⟩ := tab_iff.1 (q4 _ (List.getElem_mem hi))
  have hl := link_iff.1 (q8 _ (List.getElem_mem hi))
  refine right_sub (t' := wK s.tabs[i] (s.tabs[i].fks.set k y)) hr hi rfl rfl rfl ?_ ?_ (ids_sub3 rfl (List.Sublist.refl _) (List.Sublist.refl _) (by rw [map_set_same hk h1]; exact List.Sublist.refl _)) hv
  · exact tab_iff.2 ⟨⟨a1, a2, a3, by simpa using a4⟩, b, c, d, e1, e2, parts_set e3 hk h2 h5⟩
  · rw [link_iff]
    refine ⟨hl.1, fun x hx => ?_⟩
    rcases List.mem_or_eq_of_mem_set hx with q | q
    · exact hl.2 x q
    · rw [q]
      show fkAns (colKd s.tabs[i].cols y.col) (tabKd s.tabs y.par) = true
      rw [h3.1, h3.2]
      exact hl.2 _ (List.getElem_mem hk)
theorem rf_add {y : Fk} (hfl : farB (s.last + 1) = true) (h1 : y.id = s.last + 1) (h2 : nameB y.nm = true) (h3 : fkAns (colKd s.tabs[i].cols y.col) (tabKd s.tabs y.par) = true) (h5 : stB y.st = true) (hne : ∀ x ∈ s.tabs[i].fks, x.nm ≠ y.nm) (hlen : s.tabs[i].fks.length ≠ 8) : rightS ⟨s.ver + 1, s.last + 1, s.tabs.set i (wK s.tabs[i] (s.tabs[i].fks ++ [y]))⟩ = true := by
  obtain ⟨_, _, _, q4, _, _, _, q8⟩ := right_iff.1 hr
  obtain ⟨⟨a1, a2, a3, a4⟩, b, c, d, e1, e2, e3⟩ := tab_iff.1 (q4 _ (List.getElem_mem hi))
  have hl := link_iff.1 (q8 _ (List.getElem_mem hi))
  refine right_more (t' := wK s.tabs[i] (s.tabs[i].fks ++ [y])) hr hi rfl rfl rfl ?_ ?_ ?_ hv hfl
  · exact tab_iff.2 ⟨⟨a1, a2, a3, by simp; omega⟩, b, c, d, e1, e2, parts_add e3 h2 h5 hne⟩
  · rw [link_iff]
    refine ⟨hl.1, fun x hx => ?_⟩
    rcases List.mem_append.1 hx with q | q
    · exact hl.2 x q
    · rw [List.mem_singleton.1 q]
      exact h3
  · unfold idsT
    rw [List.map_append, List.map_singleton, h1]
    have := perm_in (n := s.last + 1) (a := s.tabs[i].id) (x := s.tabs[i].cols.map Col.id ++ s.tabs[i].ixs.map Ix.id ++ (s.tabs[i].fks.map Fk.id ++ [s.last + 1])) (y := s.tabs[i].cols.map Col.id ++ s.tabs[i].ixs.map Ix.id ++ s.tabs[i].fks.map Fk.id) (z := []) (by simp)
    simpa using this
theorem rf_cut {k : Nat} : rightS ⟨s.ver + 1, s.last, s.tabs.set i (wK s.tabs[i] (s.tabs[i].fks.take k ++ s.tabs[i].fks.drop (k + 1)))⟩ = true := by
  obtain ⟨_, _, _, q4, _, _, _, q8⟩ := right_iff.1 hr
  obtain ⟨⟨a1, a2, a3, a4⟩, b, c, d, e1, e2, e3⟩ := tab_iff.1 (q4 _ (List.getElem_mem hi))
  have hl := link_iff.1 (q8 _ (List.getElem_mem hi))
  have hs := cut_sub s.tabs[i].fks k
  refine right_sub (t' := wK s.tabs[i] (s.tabs[i].fks.take k ++ s.tabs[i].fks.drop (k + 1))) hr hi rfl rfl rfl ?_ ?_ (ids_sub3 rfl (List.Sublist.refl _) (List.Sublist.refl _) (hs.map _)) hv
  · exact tab_iff.2 ⟨⟨a1, a2, a3, Nat.le_trans hs.length_le a4⟩, b, c, d, e1, e2, parts_sub e3 hs⟩
  · rw [link_iff]
    exact ⟨hl.1, fun x hx => hl.2 x (hs.subset hx)⟩
end
/-! ### A new table -/
theorem fresh_len : ∀ (k : Int) (l : List Col), (freshC k l).length = l.length
  | _, [] => rfl
  | k, c :: r => by unfold freshC; rw [List.length_cons, fresh_len (k + 1) r, List.length_cons]
theorem fresh_nm : ∀ (k : Int) (l : List Col), (freshC k l).map Col.nm = l.map Col.nm
  | _, [] => rfl
  | k, c :: r => by unfold freshC; rw [List.map_cons, fresh_nm (k + 1) r, List.map_cons]
theorem fresh_mem : ∀ (k : Int) (l : List Col), ∀ x ∈ freshC k l, x.st = 3 ∧ x.df = ⟨0, 0, ⟨#[]⟩⟩ ∧ (k ≤ x.id ∧ x.id < k + l.length) ∧ ∃ c ∈ l, x.nm = c.nm ∧ x.kd = c.kd
  | _, [], x, hx => by cases hx
  | k, c :: r, x, hx => by
    unfold freshC at hx
    rcases List.mem_cons.1 hx with rfl | hx
    · exact ⟨rfl, rfl, ⟨by simp, by simp only [List.length_cons]; omega⟩, c, by simp, rfl, rfl⟩
    · obtain ⟨h1, h2, h3, c', hc, h4⟩ := fresh_mem (k + 1) r x hx
      exact ⟨h1, h2, ⟨by omega, by simp only [List.length_cons]; omega⟩, c', by simp [hc], h4⟩
theorem fresh_nodup : ∀ (k : Int) (l : List Col), ((freshC k l).map Col.id).Nodup
  | _, [] => by simp [freshC]
  | k, c :: r => by
    unfold freshC
    rw [List.map_cons, List.nodup_cons]
    refine ⟨fun q => ?_, fresh_nodup (k + 1) r⟩
    obtain ⟨x, hx, e⟩ := List.mem_map.1 q
    have := (fresh_mem (k + 1) r x hx).2.2.1.1
    have e' : x.id = k := e
    omega
theorem null_right : rightB 0 0 ⟨#[]⟩ = true := by kernel_rfl
theorem create_right {s s' : Sc} {d : Dd} {st : Int} (hr : rightS s = true) (h : createS s d st = .ok s') (hv : farB (s.ver + 1) = true) (hfl : farB (s.last + 9) = true) : rightS s' = true := by
  unfold createS at h
  split at h
  · cases h
  rename_i g1
  split at h
  · cases h
  rename_i g2
  split at h
  · cases h
  rename_i g3
  split at h
  · cases h
  rename_i g4
  split at h
  · cases h
  cases h
  obtain ⟨q1, q2, q3, q4, q5, q6, q7, q8⟩ := right_iff.1 hr
  have hn : nameB d.table = true := by
    cases e : nameB d.table with
    | true => rfl
    | false => exact absurd (Or.inl e) g1
  have hcn : ∀ c ∈ d.cols, nameB c.nm = true := by
    have : d.cols.all (fun c => nameB c.nm) = true := by
      cases e : d.cols.all (fun c => nameB c.nm) with
      | true => rfl
      | false => exact absurd (Or.inr e) g1
    simpa using this
  have hck : ∀ c ∈ d.cols, kindB c.kd = true := by
    have : d.cols.all (fun c => kindB c.kd) = true := by
      cases e : d.cols.all (fun c => kindB c.kd) with
      | true => rfl
      | false => exact absurd e g4
    simpa using this
  have hany : s.tabs.any (fun t => decide (t.nm = d.table)) = false := by
    cases e : s.tabs.any (fun t => decide (t.nm = d.table)) with
    | false => rfl
    | true => exact absurd (Or.inl e) g2
  have hnd : (d.cols.map Col.nm).Nodup := Classical.byContradiction fun q => g2 (Or.inr q)
  have hne : ∀ t ∈ s.tabs, t.nm ≠ d.table := fun t ht q => by
    rw [List.any_eq_false] at hany
    exact hany t ht (by simpa using q)
  have b0 : 0 ≤ s.last := by
    unfold farB at q2
    simp only [Bool.and_eq_true, decide_eq_true_eq] at q2
    exact q2.1
  have b9 : s.last + 9 ≤ 1125899906842624 := by
    unfold farB at hfl
    simp only [Bool.and_eq_true, decide_eq_true_eq] at hfl
    exact hfl.2
  have hlen : 1 ≤ d.cols.length ∧ d.cols.length ≤ 8 ∧ s.tabs.length ≠ 6 := by omega
  have hids : idsT ⟨s.last + 1, d.table, freshC (s.last + 2) d.cols, [], []⟩ = (s.last + 1) :: (freshC (s.last + 2) d.cols).map Col.id := by
    unfold idsT
    simp
  have hidm : ∀ j ∈ idsT ⟨s.last + 1, d.table, freshC (s.last + 2) d.cols, [], []⟩, s.last + 1 ≤ j ∧ j ≤ s.last + 1 + d.cols.length := by
    rw [hids]
    intro j hj
    rcases List.mem_cons.1 hj with rfl | hj
    · omega
    · obtain ⟨x, hx, rfl⟩ := List.mem_map.1 hj
      have := (fresh_mem _ _ x hx).2.2.1
      omega
  have hidS : idsS (s.tabs ++ [⟨s.last + 1, d.table, freshC (s.last + 2) d.cols, [], []⟩]) = idsS s.tabs ++ idsT ⟨s.last + 1, d.table, freshC (s.last + 2) d.cols, [], []⟩ := by
    unfold idsS
    rw [List.flatMap_append, List.flatMap_singleton]
  refine right_iff.2 ⟨hv, ?_, ?_, fun t ht => ?_, fun j hj => ?_, ?_, ?_, fun t ht => ?_⟩
  · unfold farB
    simp only [Bool.and_eq_true, decide_eq_true_eq]
    show 0 ≤ s.last + 1 + (d.cols.length : Int) ∧ s.last + 1 + (d.cols.length : Int) ≤ 1125899906842624
    omega
  · show (s.tabs ++ [_]).length ≤ 6
    rw [List.length_append, List.length_singleton]
    omega
  · rcases List.mem_append.1 ht with q | q
    · exact q4 t q
    · rw [List.mem_singleton.1 q]
      have hfl2 := fresh_len (s.last + 2) d.cols
      refine tab_iff.2 ⟨⟨by show 1 ≤ (freshC _ _).length; omega, by show (freshC _ _).length ≤ 8; omega, by simp, by simp⟩, hn, fun c hc => ?_, ?_, ?_, ?_, ?_⟩
      · obtain ⟨_, h2, _, c', hc', _, h4⟩ := fresh_mem _ _ c hc
        rw [h2, h4]
        refine ⟨hck c' hc', ?_⟩
        unfold fitB
        simp [null_right]
      · cases e : freshC (s.last + 2) d.cols with
        | nil => rw [e] at hfl2; simp at hfl2; omega
        | cons c r => exact key_of rfl (fresh_mem (s.last + 2) d.cols c (by rw [e]; simp)).1
      · refine parts_iff.2 ⟨fun c hc => ?_, by rw [fresh_nm]; exact hnd⟩
        obtain ⟨h1, _, _, c', hc', h3, _⟩ := fresh_mem _ _ c hc
        rw [h1, h3]
        exact ⟨hcn c' hc', rfl⟩
      · exact parts_iff.2 ⟨fun c hc => (by cases hc), by simp⟩
      · exact parts_iff.2 ⟨fun c hc => (by cases hc), by simp⟩
  · have hj' : j ∈ idsS s.tabs ++ idsT ⟨s.last + 1, d.table, freshC (s.last + 2) d.cols, [], []⟩ := by rw [← hidS]; exact hj
    show 1 ≤ j ∧ j ≤ s.last + 1 + (d.cols.length : Int)
    rcases List.mem_append.1 hj' with q | q
    · have := q5 j q
      omega
    · have := hidm j q
      omega
  · show (idsS (s.tabs ++ [_])).Nodup
    rw [hidS, List.nodup_append]
    refine ⟨q6, ?_, fun a ha b hb e => ?_⟩
    · rw [hids, List.nodup_cons]
      refine ⟨fun q => ?_, fresh_nodup _ _⟩
      obtain ⟨x, hx, e⟩ := List.mem_map.1 q
      have := (fresh_mem _ _ x hx).2.2.1.1
      have e' : x.id = s.last + 1 := e
      omega
    · have z1 := (q5 a ha).2
      have z2 := (hidm b hb).1
      omega
  · show ((s.tabs ++ [_]).map Tb.nm).Nodup
    rw [List.map_append, List.nodup_append]
    refine ⟨q7, by simp, fun a ha b hb e => ?_⟩
    obtain ⟨x, hx, rfl⟩ := List.mem_map.1 ha
    have hb' : b = d.table := by simpa using hb
    exact hne x hx (e.trans hb')
  · show linkB (s.tabs ++ [_]) t = true
    rcases List.mem_append.1 ht with q | q
    · have := link_iff.1 (q8 t q)
      refine link_iff.2 ⟨this.1, fun k hk => ?_⟩
      obtain ⟨kk, z1, z2⟩ := fkAns_some (this.2 k hk)
      rw [z1, tabKd_some z2]
      unfold fkAns
      simp
    · rw [List.mem_singleton.1 q]
      exact link_iff.2 ⟨fun x hx => (by cases hx), fun x hx => (by cases hx)⟩
end Go.Proofs.YtongmhfpoopebaaGreat
