import Derived.Test.YtkfnphhoebknnaaQBa
namespace Go.Proofs.Ytkfnphhoebknnaa
theorem right_iff {s : Sc} : rightS s = true ↔ farB s.ver = true ∧ farB s.last = true ∧ s.tabs.length ≤ 6 ∧ (∀ t ∈ s.tabs, tabB t = true) ∧ (∀ i ∈ idsS s.tabs, 1 ≤ i ∧ i ≤ s.last) ∧ (idsS s.tabs).Nodup ∧ (s.tabs.map Tb.nm).Nodup ∧ ∀ t ∈ s.tabs, linkB s.tabs t = true := by
  unfold rightS
  simp only [Bool.and_eq_true, decide_eq_true_eq, List.all_eq_true, and_assoc]
section
variable {α : Type} {nm : α → ByteArray} {stt : α → Int} {l : List α}
theorem parts_iff : partsB nm stt l = true ↔ (∀ x ∈ l, nameB (nm x) = true ∧ stB (stt x) = true) ∧ (l.map nm).Nodup := by
  unfold partsB
  simp only [Bool.and_eq_true, decide_eq_true_eq, List.all_eq_true]
end
end Go.Proofs.Ytkfnphhoebknnaa
namespace Go.Proofs.Ytkfnphhoebknnaa
theorem tab_iff {t : Tb} : tabB t = true ↔ (1 ≤ t.cols.length ∧ t.cols.length ≤ 8 ∧ t.ixs.length ≤ 8 ∧ t.fks.length ≤ 8) ∧ nameB t.nm = true ∧ (∀ c ∈ t.cols, kindB c.kd = true ∧ fitB c.df c.kd = true) ∧ keyB t = true ∧ partsB Col.nm Col.st t.cols = true ∧ partsB Ix.nm Ix.st t.ixs = true ∧ partsB Fk.nm Fk.st t.fks = true := by
  unfold tabB cntB elB
  simp only [Bool.and_eq_true, decide_eq_true_eq, List.all_eq_true, and_assoc]
theorem key_cons {t : Tb} (h : keyB t = true) : ∃ c r, t.cols = c :: r ∧ c.st = 3 := by
  unfold keyB at h
  cases e : t.cols with
  | nil => rw [e] at h; cases h
  | cons c r =>
    rw [e] at h
    exact ⟨c, r, rfl, by simpa using h⟩
section
variable {s : Sc} {i : Nat} (hr : rightS s = true) (hi : i < s.tabs.length) (hv : farB (s.ver + 1) = true)
include hr hi hv
end
end Go.Proofs.Ytkfnphhoebknnaa
namespace Go.Proofs.Ytkfnphhoebknnaa
section
variable {α : Type} {nm : α → ByteArray} {stt : α → Int} {put : Int → α → α} {l l' : List α} {name : ByteArray} {st : Int} {new : Except Int α} {b : Bool}
variable {no : Int} {used : Nat → α → Bool}
end
theorem far_in {n : Int} (h : farB n = true) : 0 ≤ n ∧ n ≤ 1125899906842624 := by
  unfold farB at h
  simpa only [Bool.and_eq_true, decide_eq_true_eq] using h
end Go.Proofs.Ytkfnphhoebknnaa
namespace Go.Proofs.Ytkfnphhoebknnaa
end Go.Proofs.Ytkfnphhoebknnaa
namespace Go.Proofs.Ytkfnphhoebknnaa
end Go.Proofs.Ytkfnphhoebknnaa
namespace Go.Proofs.Ytkfnphhoebknnaa
/-- Each stands where its name is first found: no two have one name. -/
theorem first_nodup {α : Type} {nm : α → ByteArray} : ∀ {l : List α}, (∀ k (h : k < l.length), fidx (fun y => decide (nm y = nm l[k])) l = (k : Int)) ↔ (l.map nm).Nodup := by
  intro l
  constructor
  · intro h
    rw [List.nodup_iff_pairwise_ne, List.pairwise_map, List.pairwise_iff_getElem]
    intro i j hi hj hij e
    have hj' := h j hj
    rcases fidx_cases (fun y => decide (nm y = nm l[j])) l with ⟨q, _⟩ | ⟨p, hp, q, _, hb⟩
    · rw [q] at hj'; omega
    · rw [q] at hj'
      have : p = j := by omega
      subst this
      have := hb i hi hij
      simp only [decide_eq_false_iff_not] at this
      exact this e
  · intro h k hk
    rw [List.nodup_iff_pairwise_ne, List.pairwise_map, List.pairwise_iff_getElem] at h
    rcases fidx_cases (fun y => decide (nm y = nm l[k])) l with ⟨_, q⟩ | ⟨p, hp, q, hpe, hb⟩
    · have := q l[k] (List.getElem_mem hk)
      simp at this
    · rw [q]
      simp only [decide_eq_true_eq] at hpe
      rcases Nat.lt_trichotomy p k with z | z | z
      · exact absurd hpe (h p k hp hk z)
      · rw [z]
      · have := hb k hk z
        simp at this
theorem fidx_some {α : Type} {p : α → Bool} {l : List α} : 0 ≤ fidx p l ↔ l.any p = true := by
  rcases fidx_cases p l with ⟨q, h⟩ | ⟨i, hi, q, hp, _⟩
  · rw [q]
    constructor
    · intro z; omega
    · intro z
      obtain ⟨x, hx, hpx⟩ := List.any_eq_true.1 z
      rw [h x hx] at hpx
      cases hpx
  · rw [q]
    constructor
    · intro _
      exact List.any_eq_true.2 ⟨l[i], List.getElem_mem hi, hp⟩
    · intro _; omega
def ColR (t : Tb) (k : Nat) (c : Col) : Prop := nameB c.nm = true ∧ fidx (fun y => decide (y.nm = c.nm)) t.cols = (k : Int) ∧ 1 ≤ c.st ∧ c.st ≤ 3 ∧ (k = 0 → c.st = 3) ∧ kindB c.kd = true ∧ fitB c.df c.kd = true
def IxR (t : Tb) (k : Nat) (x : Ix) : Prop := nameB x.nm = true ∧ fidx (fun y => decide (y.nm = x.nm)) t.ixs = (k : Int) ∧ 1 ≤ x.st ∧ x.st ≤ 3 ∧ 0 ≤ colOf t x.col
def FkR (l : List Tb) (t : Tb) (k : Nat) (x : Fk) : Prop := nameB x.nm = true ∧ fidx (fun y => decide (y.nm = x.nm)) t.fks = (k : Int) ∧ 1 ≤ x.st ∧ x.st ≤ 3 ∧ fkB l t x = true
structure TabR (l : List Tb) (i : Nat) (t : Tb) : Prop where
  nm : nameB t.nm = true
  at_ : fidx (fun y => decide (y.nm = t.nm)) l = (i : Int)
  c1 : 1 ≤ t.cols.length
  c8 : t.cols.length ≤ 8
  i8 : t.ixs.length ≤ 8
  k8 : t.fks.length ≤ 8
  cs : ∀ k (h : k < t.cols.length), ColR t k t.cols[k]
  is : ∀ k (h : k < t.ixs.length), IxR t k t.ixs[k]
  ks : ∀ k (h : k < t.fks.length), FkR l t k t.fks[k]
theorem tabR_iff {l : List Tb} {i : Nat} {t : Tb} : TabR l i t ↔ (tabB t = true ∧ linkB l t = true) ∧ fidx (fun y => decide (y.nm = t.nm)) l = (i : Int) := by
  constructor
  · intro h
    refine ⟨⟨tab_iff.2 ⟨⟨h.c1, h.c8, h.i8, h.k8⟩, h.nm, ?_, ?_, ?_, ?_, ?_⟩, ?_⟩, h.at_⟩
    · intro c hc
      obtain ⟨k, hk, rfl⟩ := List.getElem_of_mem hc
      exact ⟨(h.cs k hk).2.2.2.2.2.1, (h.cs k hk).2.2.2.2.2.2⟩
    · have h0 := (h.cs 0 (by have := h.c1; omega)).2.2.2.2.1 rfl
      unfold keyB
      have hc1 := h.c1
      cases e : t.cols with
      | nil => rw [e] at hc1; simp at hc1
      | cons c r =>
        have : t.cols[0]'(by omega) = c := by simp [e]
        rw [this] at h0
        simp [h0]
    · refine parts_iff.2 ⟨fun x hx => ?_, first_nodup.1 fun k hk => (h.cs k hk).2.1⟩
      obtain ⟨k, hk, rfl⟩ := List.getElem_of_mem hx
      obtain ⟨q1, _, q2, q3, _⟩ := h.cs k hk
      exact ⟨q1, by unfold stB; simp [q2, q3]⟩
    · refine parts_iff.2 ⟨fun x hx => ?_, first_nodup.1 fun k hk => (h.is k hk).2.1⟩
      obtain ⟨k, hk, rfl⟩ := List.getElem_of_mem hx
      obtain ⟨q1, _, q2, q3, _⟩ := h.is k hk
      exact ⟨q1, by unfold stB; simp [q2, q3]⟩
    · refine parts_iff.2 ⟨fun x hx => ?_, first_nodup.1 fun k hk => (h.ks k hk).2.1⟩
      obtain ⟨k, hk, rfl⟩ := List.getElem_of_mem hx
      obtain ⟨q1, _, q2, q3, _⟩ := h.ks k hk
      exact ⟨q1, by unfold stB; simp [q2, q3]⟩
    · unfold linkB
      rw [Bool.and_eq_true, List.all_eq_true, List.all_eq_true]
      refine ⟨fun x hx => ?_, fun x hx => ?_⟩
      · obtain ⟨k, hk, rfl⟩ := List.getElem_of_mem hx
        exact fidx_some.1 (h.is k hk).2.2.2.2
      · obtain ⟨k, hk, rfl⟩ := List.getElem_of_mem hx
        exact (h.ks k hk).2.2.2.2
  · rintro ⟨⟨ht, hl⟩, hat⟩
    obtain ⟨⟨c1, c8, i8, k8⟩, hn, hc, hkey, p1, p2, p3⟩ := tab_iff.1 ht
    obtain ⟨a1, b1⟩ := parts_iff.1 p1
    obtain ⟨a2, b2⟩ := parts_iff.1 p2
    obtain ⟨a3, b3⟩ := parts_iff.1 p3
    have f1 := first_nodup.2 b1
    have f2 := first_nodup.2 b2
    have f3 := first_nodup.2 b3
    unfold linkB at hl
    rw [Bool.and_eq_true, List.all_eq_true, List.all_eq_true] at hl
    have st : ∀ n : Int, stB n = true → 1 ≤ n ∧ n ≤ 3 := fun n h => by
      unfold stB at h
      simpa using h
    refine ⟨hn, hat, c1, c8, i8, k8, fun k hk => ?_, fun k hk => ?_, fun k hk => ?_⟩
    · have q := a1 _ (List.getElem_mem hk)
      have q2 := hc _ (List.getElem_mem hk)
      refine ⟨q.1, f1 k hk, (st _ q.2).1, (st _ q.2).2, fun e => ?_, q2.1, q2.2⟩
      subst e
      obtain ⟨c, r, e, h3⟩ := key_cons hkey
      have e2 : t.cols[0] = c := by simp [e]
      rw [e2]
      exact h3
    · have q := a2 _ (List.getElem_mem hk)
      exact ⟨q.1, f2 k hk, (st _ q.2).1, (st _ q.2).2, fidx_some.2 (hl.1 _ (List.getElem_mem hk))⟩
    · have q := a3 _ (List.getElem_mem hk)
      exact ⟨q.1, f3 k hk, (st _ q.2).1, (st _ q.2).2, hl.2 _ (List.getElem_mem hk)⟩
/-- Right, as the document's loops ask it. -/
theorem right_doc {s : Sc} : rightS s = true ↔ (0 ≤ s.ver ∧ s.ver ≤ 1125899906842624) ∧ (0 ≤ s.last ∧ s.last ≤ 1125899906842624) ∧ s.tabs.length ≤ 6 ∧ (∀ i (h : i < s.tabs.length), TabR s.tabs i s.tabs[i]) ∧ (∀ i ∈ idsS s.tabs, 1 ≤ i ∧ i ≤ s.last) ∧ (idsS s.tabs).Nodup := by
  have far : ∀ n : Int, farB n = true ↔ 0 ≤ n ∧ n ≤ 1125899906842624 := fun n => by
    unfold farB
    simp
  rw [right_iff, far, far]
  constructor
  · rintro ⟨h1, h2, h3, h4, h5, h6, h7, h8⟩
    exact ⟨h1, h2, h3, fun i hi => tabR_iff.2 ⟨⟨h4 _ (List.getElem_mem hi), h8 _ (List.getElem_mem hi)⟩, first_nodup.2 h7 i hi⟩, h5, h6⟩
  · rintro ⟨h1, h2, h3, h4, h5, h6⟩
    refine ⟨h1, h2, h3, fun t ht => ?_, h5, h6, first_nodup.1 fun i hi => (h4 i hi).at_, fun t ht => ?_⟩
    · obtain ⟨i, hi, rfl⟩ := List.getElem_of_mem ht
      exact (tabR_iff.1 (h4 i hi)).1.1
    · obtain ⟨i, hi, rfl⟩ := List.getElem_of_mem ht
      exact (tabR_iff.1 (h4 i hi)).1.2
end Go.Proofs.Ytkfnphhoebknnaa
