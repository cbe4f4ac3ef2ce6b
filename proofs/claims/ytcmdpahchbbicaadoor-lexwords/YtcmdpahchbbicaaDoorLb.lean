/- Where words stand, plain. -/
import Derived.Test.YtcmdpahchbbicaaDoorLa
namespace Go.Proofs.YtcmdpahchbbicaaDoor
theorem lex_ind {C : Nat → List UInt8 → Out → Prop} (hn : ∀ p, C p [] (.inr [⟨5, p, [], 0⟩])) (hb : ∀ p c r, isB c = true → C (p + 1) r (lexL (p + 1) r) → C p (c :: r) (lexL (p + 1) r))
    (he : ∀ p c r e, isB c = false → wordL c r = .inl e → C p (c :: r) (.inl (p, e)))
    (hw : ∀ p c r k t v m, isB c = false → wordL c r = .inr (k, t, v, m) → C (p + m) ((c :: r).drop m) (lexL (p + m) ((c :: r).drop m)) → C p (c :: r) ((lexL (p + m) ((c :: r).drop m)).cons ⟨k, p, t, v⟩)) : ∀ (l : List UInt8) (p : Nat), C p l (lexL p l) := by
  intro l
  induction hl : l.length using Nat.strongRecOn generalizing l with
  | ind n ih =>
    intro p
    cases l with
    | nil => exact hn p
    | cons c r =>
      simp at hl
      by_cases h : isB c = true
      · rw [lex_blank p h]
        exact hb p c r h (ih r.length (by omega) r rfl (p + 1))
      · have h' : isB c = false := by simpa using h
        cases hq : wordL c r with
        | inl e =>
          rw [lex_bad p h' hq]
          exact he p c r e h' hq
        | inr x =>
          obtain ⟨k, t, v, m⟩ := x
          rw [lex_word p h' hq]
          have hm := word_len hq
          exact hw p c r k t v m h' hq (ih ((c :: r).drop m).length (by simp; omega) ((c :: r).drop m) rfl (p + m))
theorem word_kind {c : UInt8} {r : List UInt8} {k : Int} {t : List UInt8} {v : Int} {m : Nat} (h : wordL c r = .inr (k, t, v, m)) : (k = 1 ∨ k = 2 ∨ k = 3 ∨ k = 4) ∧ (k ≠ 3 → t = (c :: r).take m ∧ t.length = m) := by
  have hl := word_len h
  unfold wordL at h
  have h1 := cnt_le isN r
  have h2 := cnt_le isD r
  split at h
  · split at h
    · cases h
    · simp at h
      obtain ⟨rfl, rfl, rfl, rfl⟩ := h
      exact ⟨.inl rfl, fun _ => ⟨rfl, by rw [List.length_take, List.length_cons]; omega⟩⟩
  · split at h
    · split at h
      · cases h
      · split at h
        · cases h
        · simp at h
          obtain ⟨rfl, rfl, rfl, rfl⟩ := h
          exact ⟨.inr (.inl rfl), fun _ => ⟨rfl, by rw [List.length_take, List.length_cons]; omega⟩⟩
    · split at h
      · split at h
        · cases h
        · split at h
          · cases h
          · simp at h
            obtain ⟨rfl, rfl, rfl, rfl⟩ := h
            exact ⟨.inr (.inr (.inl rfl)), fun q => absurd rfl q⟩
      · split at h
        · simp at h
          obtain ⟨rfl, rfl, rfl, rfl⟩ := h
          exact ⟨.inr (.inr (.inr rfl)), fun _ => ⟨rfl, rfl⟩⟩
        · cases h
/-- Words from p on stand where they are told to. -/
def Pl (s : List UInt8) : Nat → List Wd → Prop
  | _, [] => False
  | p, [x] => x.kind = 5 ∧ x.pl = s.length ∧ x.text = [] ∧ p ≤ s.length
  | p, x :: y :: r => (x.kind = 1 ∨ x.kind = 2 ∨ x.kind = 3 ∨ x.kind = 4) ∧ p ≤ x.pl ∧ x.pl < s.length ∧ (x.kind ≠ 3 → x.text = (s.drop x.pl).take x.text.length ∧ x.pl + x.text.length ≤ s.length) ∧ Pl s (x.pl + 1) (y :: r)
theorem Pl.mono {s : List UInt8} : ∀ {L : List Wd} {p q : Nat}, Pl s p L → q ≤ p → Pl s q L
  | [], _, _, h, _ => h
  | [_], _, _, h, hq => ⟨h.1, h.2.1, h.2.2.1, Nat.le_trans hq h.2.2.2⟩
  | _ :: _ :: _, _, _, h, hq => ⟨h.1, Nat.le_trans hq h.2.1, h.2.2.1, h.2.2.2.1, h.2.2.2.2⟩
theorem Pl.ne {s : List UInt8} {p : Nat} {L : List Wd} (h : Pl s p L) : ∃ y r, L = y :: r := by
  cases L with
  | nil => exact absurd h (by simp [Pl])
  | cons y r => exact ⟨y, r, rfl⟩
theorem lex_places (s : List UInt8) : ∀ (l : List UInt8) (p : Nat), l = s.drop p → p ≤ s.length → (match lexL p l with | .inl (q, _) => q ≤ s.length | .inr L => Pl s p L) := by
  refine lex_ind (C := fun p l o => l = s.drop p → p ≤ s.length → (match o with | .inl (q, _) => q ≤ s.length | .inr L => Pl s p L)) ?_ ?_ ?_ ?_
  · intro p hl hp
    have : s.length ≤ p := by
      have := congrArg List.length hl
      simp at this
      omega
    exact ⟨rfl, by show p = s.length; omega, rfl, hp⟩
  · intro p c r hc ih hl hp
    have hlen := congrArg List.length hl
    simp at hlen
    have hr : r = s.drop (p + 1) := by
      have := congrArg (List.drop 1) hl
      simpa [List.drop_drop, Nat.add_comm] using this
    have h := ih hr (by omega)
    cases hq : lexL (p + 1) r with
    | inl z9 => obtain ⟨q, e⟩ := z9; rw [hq] at h; exact h
    | inr L => rw [hq] at h; exact h.mono (by omega)
  · intro p c r e _ _ _ hp
    exact hp
  · intro p c r k t v m hc hw ih hl hp
    have hlen := congrArg List.length hl
    simp at hlen
    have hm := word_len hw
    have hr : (c :: r).drop m = s.drop (p + m) := by rw [hl, List.drop_drop]
    have h := ih hr (by omega)
    cases hq : lexL (p + m) ((c :: r).drop m) with
    | inl z9 => obtain ⟨q, e⟩ := z9; rw [hq] at h; exact h
    | inr L =>
      rw [hq] at h
      obtain ⟨y, r', rfl⟩ := Pl.ne h
      obtain ⟨hk, ht⟩ := word_kind hw
      refine ⟨hk, Nat.le_refl _, by show p < _; omega, fun h3 => ?_, h.mono (by show p + 1 ≤ p + m; omega)⟩
      obtain ⟨h4, h5⟩ := ht h3
      refine ⟨?_, by show p + t.length ≤ _; omega⟩
      show t = (s.drop p).take t.length
      rw [h5, ← hl]
      exact h4
/-- By places: what the statement asks. -/
theorem Pl.at {s : List UInt8} : ∀ {L : List Wd} {p : Nat}, Pl s p L → ∀ i (hi : i < L.length), p ≤ L[i].pl ∧ L[i].pl ≤ s.length ∧ (L[i].kind = 5 ↔ i + 1 = L.length) ∧ (L[i].kind ≠ 3 → L[i].text = (s.drop L[i].pl).take L[i].text.length ∧ L[i].pl + L[i].text.length ≤ s.length) ∧ (i + 1 = L.length → L[i].pl = s.length) ∧ ∀ h0 : 0 < i, L[i - 1].pl < L[i].pl
  | [], _, h, _, _ => absurd h (by simp [Pl])
  | [x], p, h, i, hi => by
    obtain ⟨h1, h2, h3, h4⟩ := h
    have hi0 : i = 0 := by simpa using hi
    subst hi0
    simp only [List.getElem_cons_zero, List.length_singleton]
    exact ⟨by omega, by omega, by simp [h1], fun _ => ⟨by rw [h3]; rfl, by rw [h3]; simp; omega⟩, fun _ => h2, fun h0 => by omega⟩
  | x :: y :: r, p, h, i, hi => by
    obtain ⟨h1, h2, h3, h4, h5⟩ := h
    cases i with
    | zero =>
      simp only [List.getElem_cons_zero, List.length_cons]
      refine ⟨h2, by omega, ⟨fun q => by omega, fun q => by omega⟩, h4, fun q => by omega, fun h0 => by omega⟩
    | succ i =>
      have hi' : i < (y :: r).length := by simpa using hi
      obtain ⟨a1, a2, a3, a4, a5, a6⟩ := h5.at i hi'
      simp only [List.getElem_cons_succ]
      refine ⟨by omega, a2, ?_, a4, ?_, fun h0 => ?_⟩
      · rw [a3]
        simp
      · intro q
        exact a5 (by simpa using q)
      · cases i with
        | zero =>
          simp only [Nat.add_sub_cancel, List.getElem_cons_zero] at *
          omega
        | succ i => exact a6 (by omega)
end Go.Proofs.YtcmdpahchbbicaaDoor
