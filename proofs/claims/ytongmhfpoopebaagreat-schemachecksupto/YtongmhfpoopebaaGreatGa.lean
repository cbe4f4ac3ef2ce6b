/- What keeps a schema right: plain. -/
import Derived.Test.YtongmhfpoopebaaGreatBa
namespace Go.Proofs.YtongmhfpoopebaaGreat
theorem right_iff {s : Sc} : rightS s = true ↔ farB s.ver = true ∧ farB s.last = true ∧ s.tabs.length ≤ 6 ∧ (∀ t ∈ s.tabs, tabB t = true) ∧ (∀ i ∈ idsS s.tabs, 1 ≤ i ∧ i ≤ s.last) ∧ (idsS s.tabs).Nodup ∧ (s.tabs.map Tb.nm).Nodup ∧ ∀ t ∈ s.tabs, linkB s.tabs t = true := by
  unfold rightS
  simp only [Bool.and_eq_true, decide_eq_true_eq, List.all_eq_true, and_assoc]
def colKd (l : List Col) (j : Int) : Option Int := (l.find? (fun c => decide (c.id = j))).map Col.kd
def tabKd (l : List Tb) (j : Int) : Option (Option Int) := (l.find? (fun t => decide (t.id = j))).map keyKd
def fkAns (a : Option Int) (b : Option (Option Int)) : Bool := match a, b with
  | some a, some b => decide (b = some a)
  | _, _ => false
theorem fkB_alt (l : List Tb) (t : Tb) (k : Fk) : fkB l t k = fkAns (colKd t.cols k.col) (tabKd l k.par) := by
  unfold fkB colKd tabKd
  cases t.cols.find? (fun c => decide (c.id = k.col)) with
  | none => rfl
  | some c =>
    cases l.find? (fun t => decide (t.id = k.par)) with
    | none => rfl
    | some p => rfl
theorem any_colKd (l : List Col) (j : Int) : l.any (fun c => decide (c.id = j)) = (colKd l j).isSome := by
  unfold colKd
  induction l with
  | nil => rfl
  | cons c l ih =>
    rw [List.any_cons, List.find?_cons]
    cases h : decide (c.id = j) with
    | true => rfl
    | false => simpa using ih
theorem linkB_alt (l : List Tb) (t : Tb) : linkB l t = (t.ixs.all (fun x => (colKd t.cols x.col).isSome) && t.fks.all (fun k => fkAns (colKd t.cols k.col) (tabKd l k.par))) := by
  unfold linkB
  congr 1
  · congr 1
    funext x
    exact any_colKd _ _
  · congr 1
    funext k
    exact fkB_alt _ _ _
theorem link_iff {l : List Tb} {t : Tb} : linkB l t = true ↔ (∀ x ∈ t.ixs, (colKd t.cols x.col).isSome = true) ∧ ∀ k ∈ t.fks, fkAns (colKd t.cols k.col) (tabKd l k.par) = true := by
  rw [linkB_alt]
  simp only [Bool.and_eq_true, List.all_eq_true]
theorem tabKd_set {t' : Tb} : ∀ {l : List Tb} {i : Nat} (hi : i < l.length), t'.id = l[i].id → keyKd t' = keyKd l[i] → ∀ j, tabKd (l.set i t') j = tabKd l j
  | x :: l, 0, _, hid, hk, j => by
    unfold tabKd
    rw [List.set_cons_zero, List.find?_cons, List.find?_cons]
    have e1 : t'.id = x.id := hid
    have e2 : keyKd t' = keyKd x := hk
    rw [e1]
    cases h : decide (x.id = j) with
    | true => simp [e2]
    | false => rfl
  | x :: l, i + 1, hi, hid, hk, j => by
    have ih := tabKd_set (l := l) (i := i) (by simpa using hi) hid hk j
    unfold tabKd at ih ⊢
    rw [List.set_cons_succ, List.find?_cons, List.find?_cons]
    cases h : decide (x.id = j) with
    | true => rfl
    | false => simpa using ih
theorem tabKd_some {l : List Tb} {j : Int} {b : Option Int} {x : Tb} (h : tabKd l j = some b) : tabKd (l ++ [x]) j = some b := by
  unfold tabKd at h ⊢
  rw [List.find?_append]
  cases e : l.find? (fun t => decide (t.id = j)) with
  | none => rw [e] at h; cases h
  | some p => rw [e] at h; simpa using h
theorem fkAns_some {a : Option Int} {b : Option (Option Int)} (h : fkAns a b = true) : ∃ k, a = some k ∧ b = some (some k) := by
  unfold fkAns at h
  cases a with
  | none => simp at h
  | some a =>
    cases b with
    | none => simp at h
    | some b =>
      simp only [decide_eq_true_eq] at h
      exact ⟨a, rfl, by rw [h]⟩
/-! ### Ids -/
theorem ids_set {l : List Tb} {i : Nat} {t' : Tb} (hi : i < l.length) : idsS (l.set i t') = idsS (l.take i) ++ (idsT t' ++ idsS (l.drop (i + 1))) := by
  unfold idsS
  rw [List.set_eq_take_append_cons_drop, if_pos hi, List.flatMap_append, List.flatMap_cons]
theorem ids_self {l : List Tb} {i : Nat} (hi : i < l.length) : idsS l = idsS (l.take i) ++ (idsT l[i] ++ idsS (l.drop (i + 1))) := by
  have h := ids_set (t' := l[i]) hi
  rw [List.set_getElem_self] at h
  exact h
theorem ids_sub {l : List Tb} {i : Nat} {t' : Tb} (hi : i < l.length) (h : (idsT t').Sublist (idsT l[i])) : (idsS (l.set i t')).Sublist (idsS l) := by
  rw [ids_set hi, ids_self hi]
  exact (List.Sublist.refl _).append (h.append (List.Sublist.refl _))
theorem ids_add {l : List Tb} {i : Nat} {t' : Tb} {n : Int} (hi : i < l.length) (h : (idsT t').Perm (n :: idsT l[i])) : (idsS (l.set i t')).Perm (n :: idsS l) := by
  rw [ids_set hi, ids_self hi]
  have h1 : (idsT t' ++ idsS (l.drop (i + 1))).Perm (n :: (idsT l[i] ++ idsS (l.drop (i + 1)))) := h.append_right _
  exact (h1.append_left _).trans List.perm_middle
theorem names_set {l : List Tb} {i : Nat} {t' : Tb} (hi : i < l.length) (h : t'.nm = l[i].nm) : (l.set i t').map Tb.nm = l.map Tb.nm := by
  rw [List.map_set, h]
  have : (l.map Tb.nm)[i]'(by rw [List.length_map]; exact hi) = l[i].nm := List.getElem_map ..
  rw [← this, List.set_getElem_self]
/-- One table is another one, with some of the ids. -/
theorem right_sub {s : Sc} (h : rightS s = true) {i : Nat} {t' : Tb} (hi : i < s.tabs.length) (hid : t'.id = s.tabs[i].id) (hnm : t'.nm = s.tabs[i].nm) (hk : keyKd t' = keyKd s.tabs[i]) (htab : tabB t' = true) (hl : linkB s.tabs t' = true) (hids : (idsT t').Sublist (idsT s.tabs[i])) {v : Int} (hv : farB v = true) : rightS ⟨v, s.last, s.tabs.set i t'⟩ = true := by
  obtain ⟨h1, h2, h3, h4, h5, h6, h7, h8⟩ := right_iff.1 h
  have hsub := ids_sub hi hids
  have hl' : ∀ x, linkB s.tabs x = true → linkB (s.tabs.set i t') x = true := fun x hx => by
    rw [link_iff] at hx ⊢
    exact ⟨hx.1, fun k hk' => by rw [tabKd_set hi hid hk]; exact hx.2 k hk'⟩
  refine right_iff.2 ⟨hv, h2, by rw [List.length_set]; exact h3, fun x hx => ?_, fun j hj => h5 j (hsub.subset hj), hsub.nodup h6, by rw [names_set hi hnm]; exact h7, fun x hx => ?_⟩
  · rcases List.mem_or_eq_of_mem_set hx with q | q
    · exact h4 x q
    · rw [q]; exact htab
  · rcases List.mem_or_eq_of_mem_set hx with q | q
    · exact hl' x (h8 x q)
    · rw [q]; exact hl' _ hl
/-- One table is another one, with one id more. -/
theorem right_more {s : Sc} (h : rightS s = true) {i : Nat} {t' : Tb} (hi : i < s.tabs.length) (hid : t'.id = s.tabs[i].id) (hnm : t'.nm = s.tabs[i].nm) (hk : keyKd t' = keyKd s.tabs[i]) (htab : tabB t' = true) (hl : linkB s.tabs t' = true) (hids : (idsT t').Perm ((s.last + 1) :: idsT s.tabs[i])) {v : Int} (hv : farB v = true) (hfl : farB (s.last + 1) = true) : rightS ⟨v, s.last + 1, s.tabs.set i t'⟩ = true := by
  obtain ⟨h1, h2, h3, h4, h5, h6, h7, h8⟩ := right_iff.1 h
  have hp := ids_add hi hids
  have hn : s.last + 1 ∉ idsS s.tabs := fun q => by have := (h5 _ q).2; omega
  have hl' : ∀ x, linkB s.tabs x = true → linkB (s.tabs.set i t') x = true := fun x hx => by
    rw [link_iff] at hx ⊢
    exact ⟨hx.1, fun k hk' => by rw [tabKd_set hi hid hk]; exact hx.2 k hk'⟩
  have h0 : 0 ≤ s.last := by
    unfold farB at h2
    simp only [Bool.and_eq_true, decide_eq_true_eq] at h2
    exact h2.1
  refine right_iff.2 ⟨hv, hfl, by rw [List.length_set]; exact h3, fun x hx => ?_, fun j hj => ?_, hp.nodup_iff.2 (List.nodup_cons.2 ⟨hn, h6⟩), by rw [names_set hi hnm]; exact h7, fun x hx => ?_⟩
  · rcases List.mem_or_eq_of_mem_set hx with q | q
    · exact h4 x q
    · rw [q]; exact htab
  · rcases List.mem_cons.1 (hp.mem_iff.1 hj) with rfl | q
    · show 1 ≤ s.last + 1 ∧ s.last + 1 ≤ s.last + 1
      omega
    · have := h5 j q
      show 1 ≤ j ∧ j ≤ s.last + 1
      omega
  · rcases List.mem_or_eq_of_mem_set hx with q | q
    · exact hl' x (h8 x q)
    · rw [q]; exact hl' _ hl
/-! ### Lists of elements -/
theorem setAt_one {α : Type} {st : Int} (h : st ≠ 0) {i : Nat} {f : α → α} {l : List α} (hi : i < l.length) : setAt st i f l = l.set i (f l[i]) := by
  have e : (l.drop i).take 1 = [l[i]] := by rw [List.drop_eq_getElem_cons hi]; rfl
  unfold setAt
  rw [if_neg h, e, List.set_eq_take_append_cons_drop, if_pos hi]
  simp
theorem setAt_none {α : Type} {i : Nat} {f : α → α} {l : List α} : setAt 0 i f l = l.take i ++ l.drop (i + 1) := by
  unfold setAt
  rw [if_pos rfl]
  simp
theorem cut_sub {α : Type} (l : List α) (i : Nat) : (l.take i ++ l.drop (i + 1)).Sublist l := by
  have h : (l.take i ++ l.drop (i + 1)).Sublist (l.take i ++ l.drop i) := (List.Sublist.refl _).append (List.drop_sublist_drop_left l (Nat.le_succ i))
  rwa [List.take_append_drop] at h
section
variable {α : Type} {nm : α → ByteArray} {stt : α → Int} {l : List α}
theorem parts_iff : partsB nm stt l = true ↔ (∀ x ∈ l, nameB (nm x) = true ∧ stB (stt x) = true) ∧ (l.map nm).Nodup := by
  unfold partsB
  simp only [Bool.and_eq_true, decide_eq_true_eq, List.all_eq_true]
theorem parts_sub {l' : List α} (h : partsB nm stt l = true) (hs : l'.Sublist l) : partsB nm stt l' = true := by
  rw [parts_iff] at h ⊢
  exact ⟨fun x hx => h.1 x (hs.subset hx), (hs.map nm).nodup h.2⟩
theorem parts_set {i : Nat} {y : α} (h : partsB nm stt l = true) (hi : i < l.length) (hn : nm y = nm l[i]) (hs : stB (stt y) = true) : partsB nm stt (l.set i y) = true := by
  rw [parts_iff] at h ⊢
  refine ⟨fun x hx => ?_, ?_⟩
  · rcases List.mem_or_eq_of_mem_set hx with q | q
    · exact h.1 x q
    · rw [q, hn]
      exact ⟨(h.1 _ (List.getElem_mem hi)).1, hs⟩
  · rw [List.map_set, hn]
    have : (l.map nm)[i]'(by rw [List.length_map]; exact hi) = nm l[i] := List.getElem_map ..
    rw [← this, List.set_getElem_self]
    exact h.2
theorem parts_add {y : α} (h : partsB nm stt l = true) (hn : nameB (nm y) = true) (hs : stB (stt y) = true) (hne : ∀ x ∈ l, nm x ≠ nm y) : partsB nm stt (l ++ [y]) = true := by
  rw [parts_iff] at h ⊢
  refine ⟨fun x hx => ?_, ?_⟩
  · rcases List.mem_append.1 hx with q | q
    · exact h.1 x q
    · rw [List.mem_singleton.1 q]
      exact ⟨hn, hs⟩
  · rw [List.map_append, List.nodup_append]
    refine ⟨h.2, by simp, fun a ha b hb => ?_⟩
    obtain ⟨x, hx, rfl⟩ := List.mem_map.1 ha
    have : b = nm y := by simpa using hb
    rw [this]
    exact hne x hx
end
theorem map_set_same {α β : Type} {f : α → β} {l : List α} {i : Nat} {y : α} (hi : i < l.length) (h : f y = f l[i]) : (l.set i y).map f = l.map f := by
  rw [List.map_set, h]
  have : (l.map f)[i]'(by rw [List.length_map]; exact hi) = f l[i] := List.getElem_map ..
  rw [← this, List.set_getElem_self]
theorem idx_some {α : Type} {p : α → Bool} {l : List α} {i : Nat} (h : l.findIdx? p = some i) : ∃ hi : i < l.length, p l[i] = true := by
  obtain ⟨hi, hp, _⟩ := List.findIdx?_eq_some_iff_getElem.1 h
  exact ⟨hi, hp⟩
theorem idx_none {α : Type} {p : α → Bool} {l : List α} (h : l.findIdx? p = none) : ∀ x ∈ l, p x = false := List.findIdx?_eq_none_iff.1 h
/-! ### Columns -/
theorem colKd_set : ∀ {l : List Col} {i : Nat} {y : Col} (hi : i < l.length), y.id = l[i].id → y.kd = l[i].kd → ∀ j, colKd (l.set i y) j = colKd l j
  | x :: l, 0, y, _, hid, hk, j => by
    unfold colKd
    rw [List.set_cons_zero, List.find?_cons, List.find?_cons]
    have e1 : y.id = x.id := hid
    have e2 : y.kd = x.kd := hk
    rw [e1]
    cases h : decide (x.id = j) with
    | true => simp [e2]
    | false => rfl
  | x :: l, i + 1, y, hi, hid, hk, j => by
    have ih := colKd_set (l := l) (i := i) (y := y) (by simpa using hi) hid hk j
    unfold colKd at ih ⊢
    rw [List.set_cons_succ, List.find?_cons, List.find?_cons]
    cases h : decide (x.id = j) with
    | true => rfl
    | false => simpa using ih
theorem colKd_add {l : List Col} {y : Col} {j : Int} (h : (colKd l j).isSome = true) : colKd (l ++ [y]) j = colKd l j := by
  unfold colKd at h ⊢
  rw [List.find?_append]
  cases e : l.find? (fun c => decide (c.id = j)) with
  | none => rw [e] at h; cases h
  | some p => rfl
theorem find_cut {α : Type} {p : α → Bool} : ∀ {l : List α} {i : Nat} (hi : i < l.length), p l[i] = false → (l.take i ++ l.drop (i + 1)).find? p = l.find? p
  | x :: l, 0, _, h => by
    have h' : p x = false := h
    simp [h']
  | x :: l, i + 1, hi, h => by
    have ih := find_cut (p := p) (l := l) (i := i) (by simpa using hi) h
    rw [List.take_succ_cons, List.drop_succ_cons, List.cons_append, List.find?_cons, List.find?_cons, ih]
theorem colKd_cut {l : List Col} {i : Nat} (hi : i < l.length) {j : Int} (h : l[i].id ≠ j) : colKd (l.take i ++ l.drop (i + 1)) j = colKd l j := by
  unfold colKd
  rw [find_cut hi (by simpa using h)]
/-- In a list without an id twice each column is found by its own. -/
theorem find_own {α : Type} {f : α → Int} : ∀ {l : List α}, (l.map f).Nodup → ∀ {x : α}, x ∈ l → l.find? (fun c => decide (f c = f x)) = some x
  | y :: l, hn, x, hx => by
    rw [List.map_cons, List.nodup_cons] at hn
    rw [List.find?_cons]
    rcases List.mem_cons.1 hx with rfl | hx
    · simp
    · have hne : f y ≠ f x := fun q => hn.1 (by rw [q]; exact List.mem_map.2 ⟨x, hx, rfl⟩)
      simp only [hne, decide_false]
      exact find_own hn.2 hx
end Go.Proofs.YtongmhfpoopebaaGreat
