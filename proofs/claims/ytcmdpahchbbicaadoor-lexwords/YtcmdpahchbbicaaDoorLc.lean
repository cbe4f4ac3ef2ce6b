/- A text that is cut off, plain. -/
import Derived.Test.YtcmdpahchbbicaaDoorLb
namespace Go.Proofs.YtcmdpahchbbicaaDoor
theorem cnt_take (p : UInt8 → Bool) : ∀ (l : List UInt8) (c : Nat), cnt p (l.take c) = min c (cnt p l)
  | [], c => by simp [cnt]
  | x :: r, 0 => by simp [cnt]
  | x :: r, c + 1 => by
    rw [List.take_succ_cons]
    by_cases h : p x = true
    · have e1 : cnt p (x :: r.take c) = cnt p (r.take c) + 1 := by simp [cnt, h]
      have e2 : cnt p (x :: r) = cnt p r + 1 := by simp [cnt, h]
      rw [e1, e2, cnt_take p r c]
      omega
    · have e1 : cnt p (x :: r.take c) = 0 := by simp [cnt, h]
      have e2 : cnt p (x :: r) = 0 := by simp [cnt, h]
      rw [e1, e2]
      simp
theorem nv_le (l : List UInt8) (c : Nat) : nv 0 (l.take c) ≤ nv 0 l := by
  have h : nv 0 l = nv (nv 0 (l.take c)) (l.drop c) := by rw [← nv_app, List.take_append_drop]
  rw [h]
  exact nv_ge _ _
/-- A number that is cut off is a number of 64 bits too. -/
theorem num_take {c : UInt8} {r : List UInt8} {v : Int} {n : Nat} (h : numP (c :: r) = some v) : ∃ u, numP (c :: r.take n) = some u := by
  by_cases hc : c.toNat = 45
  · rw [num_neg hc] at h ⊢
    have := nv_le r n
    by_cases h1 : nv 0 r ≤ 9223372036854775808
    · exact ⟨_, if_pos (by omega)⟩
    · rw [if_neg h1] at h
      cases h
  · rw [num_pos hc] at h ⊢
    have := nv_le (c :: r) (n + 1)
    rw [List.take_succ_cons] at this
    by_cases h1 : nv 0 (c :: r) < 9223372036854775808
    · exact ⟨_, if_pos (by omega)⟩
    · rw [if_neg h1] at h
      cases h
theorem quote_take : ∀ (n : Nat) (l : List UInt8), l.length ≤ n → ∀ (o : List UInt8) (k c : Nat), quoteL l = some (o, k) → (k ≤ c → quoteL (l.take c) = some (o, k)) ∧ (c < k → quoteL (l.take c) = none ∨ ∃ o', quoteL (l.take c) = some (o', c) ∧ o'.length ≤ o.length) := by
  intro n
  induction n with
  | zero =>
    intro l hl o k c h
    have : l = [] := List.eq_nil_of_length_eq_zero (by omega)
    subst this
    cases h
  | succ n ih =>
    intro l hl o k c h
    cases l with
    | nil => cases h
    | cons x r =>
      cases c with
      | zero =>
        have := quote_len _ _ _ h
        exact ⟨fun q => by omega, fun _ => .inl rfl⟩
      | succ c =>
        rw [List.take_succ_cons]
        by_cases hx : x.toNat = 39
        · cases r with
          | nil =>
            rw [quote_one hx] at h
            simp at h
            obtain ⟨rfl, rfl⟩ := h
            simp only [List.take_nil]
            exact ⟨fun _ => quote_one hx, fun q => by omega⟩
          | cons d r =>
            by_cases hd : d.toNat = 39
            · rw [quote_q hx hd] at h
              cases hq : quoteL r with
              | none => rw [hq] at h; cases h
              | some y =>
                rw [hq] at h
                simp at h
                obtain ⟨rfl, rfl⟩ := h
                simp at hl
                cases c with
                | zero =>
                  simp only [List.take_zero]
                  exact ⟨fun q => by omega, fun _ => .inr ⟨[], quote_one hx, by simp⟩⟩
                | succ c =>
                  obtain ⟨i1, i2⟩ := ih r (by omega) y.1 y.2 c hq
                  rw [List.take_succ_cons, quote_q hx hd]
                  refine ⟨fun q => ?_, fun q => ?_⟩
                  · rw [i1 (by omega)]
                    rfl
                  · rcases i2 (by omega) with i3 | ⟨o', i3, i4⟩
                    · rw [i3]
                      exact .inl rfl
                    · rw [i3]
                      exact .inr ⟨d :: o', rfl, by simp; omega⟩
            · rw [quote_end hx hd] at h
              simp at h
              obtain ⟨rfl, rfl⟩ := h
              refine ⟨fun _ => ?_, fun q => by omega⟩
              cases c with
              | zero => exact quote_one hx
              | succ c => exact quote_end hx hd
        · rw [quote_other hx] at h
          cases hq : quoteL r with
          | none => rw [hq] at h; cases h
          | some y =>
            rw [hq] at h
            simp at h
            obtain ⟨rfl, rfl⟩ := h
            simp at hl
            obtain ⟨i1, i2⟩ := ih r (by omega) y.1 y.2 c hq
            rw [quote_other hx]
            refine ⟨fun q => ?_, fun q => ?_⟩
            · rw [i1 (by omega)]
              rfl
            · rcases i2 (by omega) with i3 | ⟨o', i3, i4⟩
              · rw [i3]
                exact .inl rfl
              · rw [i3]
                exact .inr ⟨x :: o', rfl, by simp; omega⟩
/-- The word at a place, where the text is cut off behind c + 1 bytes. -/
theorem word_take {x : UInt8} {r : List UInt8} {k : Int} {t : List UInt8} {v : Int} {m : Nat} (c : Nat) (h : wordL x r = .inr (k, t, v, m)) : (m ≤ c + 1 → wordL x (r.take c) = .inr (k, t, v, m)) ∧ (c + 1 < m → wordL x (r.take c) = .inl 170 ∨ wordL x (r.take c) = .inl 171 ∨ ∃ k' t' v', wordL x (r.take c) = .inr (k', t', v', c + 1)) := by
  unfold wordL at h ⊢
  by_cases h1 : isL x = true
  · rw [if_pos h1] at h ⊢
    rw [cnt_take]
    by_cases h2 : 16 < 1 + cnt isN r
    · rw [if_pos h2] at h
      cases h
    · rw [if_neg h2] at h
      rw [if_neg (by omega)]
      simp at h
      obtain ⟨rfl, rfl, rfl, rfl⟩ := h
      refine ⟨fun q => ?_, fun q => .inr (.inr ?_)⟩
      · rw [show min c (cnt isN r) = cnt isN r by omega, Nat.add_comm 1, List.take_succ_cons, List.take_succ_cons, List.take_take, show min (cnt isN r) c = cnt isN r by omega]
      · rw [show min c (cnt isN r) = c by omega, Nat.add_comm 1 c]
        exact ⟨_, _, _, rfl⟩
  · rw [if_neg h1] at h ⊢
    by_cases h2 : isD x = true ∨ x.toNat = 45
    · rw [if_pos h2] at h ⊢
      rw [cnt_take]
      by_cases h3 : x.toNat = 45 ∧ cnt isD r = 0
      · rw [if_pos h3] at h
        cases h
      · rw [if_neg h3] at h
        cases hn : numP ((x :: r).take (1 + cnt isD r)) with
        | none => rw [hn] at h; cases h
        | some u =>
          rw [hn] at h
          simp at h
          obtain ⟨rfl, rfl, rfl, rfl⟩ := h
          refine ⟨fun q => ?_, fun q => ?_⟩
          · rw [show min c (cnt isD r) = cnt isD r by omega, if_neg h3]
            have e : (x :: r.take c).take (1 + cnt isD r) = (x :: r).take (1 + cnt isD r) := by rw [Nat.add_comm 1, List.take_succ_cons, List.take_succ_cons, List.take_take, show min (cnt isD r) c = cnt isD r by omega]
            rw [e, hn]
          · rw [show min c (cnt isD r) = c by omega]
            by_cases h4 : x.toNat = 45 ∧ c = 0
            · rw [if_pos h4]
              exact .inl rfl
            · rw [if_neg h4]
              have e : (x :: r.take c).take (1 + c) = x :: (r.take (cnt isD r)).take c := by rw [Nat.add_comm 1, List.take_succ_cons, List.take_take, List.take_take]; congr 2; omega
              rw [Nat.add_comm 1 (cnt isD r), List.take_succ_cons] at hn
              obtain ⟨u', hu'⟩ := num_take (n := c) hn
              rw [e, hu', Nat.add_comm 1 c]
              exact .inr (.inr ⟨_, _, _, rfl⟩)
    · rw [if_neg h2] at h ⊢
      by_cases h3 : x.toNat = 39
      · rw [if_pos h3] at h ⊢
        cases hq : quoteL r with
        | none => rw [hq] at h; cases h
        | some y =>
          obtain ⟨o, kk⟩ := y
          rw [hq] at h
          simp only at h
          by_cases h4 : 64 < o.length
          · rw [if_pos h4] at h
            cases h
          · rw [if_neg h4] at h
            simp at h
            obtain ⟨rfl, rfl, rfl, rfl⟩ := h
            obtain ⟨i1, i2⟩ := quote_take _ r (Nat.le_refl _) o kk c hq
            refine ⟨fun q => ?_, fun q => ?_⟩
            · rw [i1 (by omega)]
              simp only
              rw [if_neg h4]
            · rcases i2 (by omega) with i3 | ⟨o', i3, i4⟩
              · rw [i3]
                exact .inr (.inl rfl)
              · rw [i3]
                simp only
                rw [if_neg (by omega), Nat.add_comm 1 c]
                exact .inr (.inr ⟨_, _, _, rfl⟩)
      · rw [if_neg h3] at h ⊢
        by_cases h4 : isS x = true
        · rw [if_pos h4] at h ⊢
          simp at h
          obtain ⟨rfl, rfl, rfl, rfl⟩ := h
          exact ⟨fun _ => rfl, fun q => by omega⟩
        · rw [if_neg h4] at h
          cases h
/-- What the statement asks of a text that is cut off. -/
def Cut (L : List Wd) : Out → Prop
  | .inl (_, e) => e = 170 ∨ e = 171
  | .inr M => ∀ i, i + 2 < M.length → i < L.length ∧ M[i]? = L[i]?
theorem lex_cuts : ∀ (l : List UInt8) (p : Nat) (c : Nat) (L : List Wd), lexL p l = .inr L → Cut L (lexL p (l.take c)) := by
  refine lex_ind (C := fun p l o => ∀ (c : Nat) (L : List Wd), o = .inr L → Cut L (lexL p (l.take c))) ?_ ?_ ?_ ?_
  · intro p c L _
    rw [List.take_nil, lex_nil]
    exact fun i hi => by simp at hi
  · intro p x r hx ih c L h
    cases c with
    | zero => exact fun i hi => by simp at hi
    | succ c =>
      rw [List.take_succ_cons, lex_blank p hx]
      exact ih c L h
  · intro p x r e _ _ c L h
    cases h
  · intro p x r k t v m hx hw ih c L h
    cases c with
    | zero => exact fun i hi => by simp at hi
    | succ c =>
      rw [List.take_succ_cons]
      obtain ⟨w1, w2⟩ := word_take c hw
      cases hq : lexL (p + m) ((x :: r).drop m) with
      | inl z9 => obtain ⟨q, e⟩ := z9; rw [hq] at h; cases h
      | inr L' =>
        rw [hq] at h
        have hL : (⟨k, p, t, v⟩ : Wd) :: L' = L := Sum.inr.inj h
        subst hL
        by_cases hm : m ≤ c + 1
        · rw [lex_word p hx (w1 hm)]
          have e : (x :: r.take c).drop m = ((x :: r).drop m).take (c + 1 - m) := by rw [← List.take_succ_cons, List.drop_take]
          rw [e]
          have hi := ih (c + 1 - m) L' hq
          cases hq2 : lexL (p + m) (((x :: r).drop m).take (c + 1 - m)) with
          | inl z9 => obtain ⟨q, e⟩ := z9; rw [hq2] at hi; exact hi
          | inr M =>
            rw [hq2] at hi
            intro i hi2
            cases i with
            | zero => exact ⟨by simp, rfl⟩
            | succ i =>
              simp at hi2
              obtain ⟨a, b⟩ := hi i (by omega)
              exact ⟨by simp; omega, by simpa using b⟩
        · rcases w2 (by omega) with w3 | w3 | ⟨k', t', v', w3⟩
          · rw [lex_bad p hx w3]
            exact .inl rfl
          · rw [lex_bad p hx w3]
            exact .inr rfl
          · rw [lex_word p hx w3]
            have e : (x :: r.take c).drop (c + 1) = [] := List.drop_eq_nil_of_le (by simp; omega)
            rw [e, lex_nil]
            exact fun i hi => by
              have : i + 2 < 2 := by simpa using hi
              omega
end Go.Proofs.YtcmdpahchbbicaaDoor
