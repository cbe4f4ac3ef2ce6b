/- More blanks between words, plain. -/
import Derived.Test.YtcmdpahchbbicaaDoorLb
namespace Go.Proofs.YtcmdpahchbbicaaDoor
/-- A text's bytes, each quote twice. -/
def dbl : List UInt8 → List UInt8
  | [] => []
  | c :: r => if c.toNat = 39 then c :: c :: dbl r else c :: dbl r
theorem dbl_q {c : UInt8} {r : List UInt8} (h : c.toNat = 39) : dbl (c :: r) = c :: c :: dbl r := by rw [dbl, if_pos h]
theorem dbl_o {c : UInt8} {r : List UInt8} (h : c.toNat ≠ 39) : dbl (c :: r) = c :: dbl r := by rw [dbl, if_neg h]
/-- A word as it is written. -/
def prW (k : Int) (t : List UInt8) : List UInt8 := if k = 3 then 39 :: (dbl t ++ [39]) else t
theorem quote_dbl : ∀ (t r : List UInt8), quoteL (dbl t ++ 39 :: 32 :: r) = some (t, (dbl t).length + 1)
  | [], r => quote_end rfl (by decide)
  | c :: t, r => by
    have ih := quote_dbl t r
    by_cases h : c.toNat = 39
    · rw [dbl_q h, List.cons_append, List.cons_append, quote_q h h, ih]
      simp
    · rw [dbl_o h, List.cons_append, quote_other h, ih]
      simp
theorem cnt_app (p : UInt8 → Bool) : ∀ (t : List UInt8) (r : List UInt8), (∀ x ∈ t, p x = true) → p 32 = false → cnt p (t ++ 32 :: r) = t.length
  | [], r, _, h => by simp [cnt, h]
  | x :: t, r, ha, h => by
    have hx := ha x (List.mem_cons_self ..)
    have e : cnt p (x :: (t ++ 32 :: r)) = cnt p (t ++ 32 :: r) + 1 := by simp [cnt, hx]
    rw [List.cons_append, e, cnt_app p t r (fun y hy => ha y (List.mem_cons_of_mem _ hy)) h, List.length_cons]
theorem take_all (p : UInt8 → Bool) : ∀ (l : List UInt8), ∀ x ∈ l.take (cnt p l), p x = true
  | [], x, h => by simp at h
  | c :: r, x, h => by
    by_cases hc : p c = true
    · have e : cnt p (c :: r) = cnt p r + 1 := by simp [cnt, hc]
      rw [e, List.take_succ_cons] at h
      rcases List.mem_cons.1 h with rfl | h
      · exact hc
      · exact take_all p r x h
    · have e : cnt p (c :: r) = 0 := by simp [cnt, hc]
      rw [e] at h
      simp at h
/-- A word, written and followed by a blank, is read as it was. -/
theorem word_again {x : UInt8} {r : List UInt8} {k : Int} {t : List UInt8} {v : Int} {m : Nat} (h : wordL x r = .inr (k, t, v, m)) (q : List UInt8) : ∃ c r', prW k t = c :: r' ∧ isB c = false ∧ wordL c (r' ++ 32 :: q) = .inr (k, t, v, (prW k t).length) ∧ (k = 3 → t.length ≤ 64) := by
  unfold wordL at h
  by_cases h1 : isL x = true
  · rw [if_pos h1] at h
    by_cases h2 : 16 < 1 + cnt isN r
    · rw [if_pos h2] at h
      cases h
    · rw [if_neg h2] at h
      simp at h
      obtain ⟨rfl, rfl, rfl, rfl⟩ := h
      have hc := cnt_app isN (r.take (cnt isN r)) q (take_all isN r) (by decide)
      have hlen : (r.take (cnt isN r)).length = cnt isN r := by rw [List.length_take]; have := cnt_le isN r; omega
      have hp : prW 1 ((x :: r).take (1 + cnt isN r)) = x :: r.take (cnt isN r) := by unfold prW; rw [if_neg (by decide), Nat.add_comm, List.take_succ_cons]
      refine ⟨x, _, hp, ?_, ?_, fun q => by cases q⟩
      · cases hb : isB x with
        | false => rfl
        | true =>
          have a := (isB_iff x).1 hb
          have b := (isL_iff x).1 h1
          omega
      · rw [hp]
        unfold wordL
        rw [if_pos h1, hc, hlen, if_neg h2, List.length_cons, hlen]
        have e : (x :: (r.take (cnt isN r) ++ 32 :: q)).take (1 + cnt isN r) = (x :: r).take (1 + cnt isN r) := by
          rw [Nat.add_comm, List.take_succ_cons, List.take_succ_cons, List.take_append_of_le_length (by omega), List.take_of_length_le (by omega)]
        rw [e, Nat.add_comm 1]
  · rw [if_neg h1] at h
    by_cases h2 : isD x = true ∨ x.toNat = 45
    · rw [if_pos h2] at h
      by_cases h3 : x.toNat = 45 ∧ cnt isD r = 0
      · rw [if_pos h3] at h
        cases h
      · rw [if_neg h3] at h
        cases hn : numP ((x :: r).take (1 + cnt isD r)) with
        | none => rw [hn] at h; cases h
        | some u =>
          rw [hn] at h
          simp at h
          obtain ⟨rfl, rfl, rfl, rfl⟩ := h
          have hc := cnt_app isD (r.take (cnt isD r)) q (take_all isD r) (by decide)
          have hlen : (r.take (cnt isD r)).length = cnt isD r := by rw [List.length_take]; have := cnt_le isD r; omega
          have hp : prW 2 ((x :: r).take (1 + cnt isD r)) = x :: r.take (cnt isD r) := by unfold prW; rw [if_neg (by decide), Nat.add_comm, List.take_succ_cons]
          refine ⟨x, _, hp, ?_, ?_, fun q => by cases q⟩
          · cases hb : isB x with
            | false => rfl
            | true =>
              have a := (isB_iff x).1 hb
              rw [isD_iff] at h2
              omega
          · rw [hp]
            unfold wordL
            have e : (x :: (r.take (cnt isD r) ++ 32 :: q)).take (1 + cnt isD r) = (x :: r).take (1 + cnt isD r) := by
              rw [Nat.add_comm, List.take_succ_cons, List.take_succ_cons, List.take_append_of_le_length (by omega), List.take_of_length_le (by omega)]
            rw [if_neg h1, if_pos h2, hc, hlen, if_neg h3, e, hn, List.length_cons, hlen, Nat.add_comm 1]
    · rw [if_neg h2] at h
      by_cases h3 : x.toNat = 39
      · rw [if_pos h3] at h
        cases hq : quoteL r with
        | none => rw [hq] at h; cases h
        | some y =>
          obtain ⟨o, kk⟩ := y
          rw [hq] at h
          simp only at h
          by_cases h4 : 64 < o.length
          · rw [if_pos h4] at h
            cases h
          · rw [if_neg h4] at h
            simp at h
            obtain ⟨rfl, rfl, rfl, rfl⟩ := h
            refine ⟨39, dbl o ++ [39], by unfold prW; rw [if_pos rfl], by decide, ?_, fun _ => by omega⟩
            have e : dbl o ++ [39] ++ 32 :: q = dbl o ++ 39 :: 32 :: q := by simp
            unfold wordL
            rw [if_neg (by decide), if_neg (by decide), if_pos (by decide), e, quote_dbl]
            simp only
            rw [if_neg h4]
            unfold prW
            rw [if_pos rfl]
            simp
            omega
      · rw [if_neg h3] at h
        by_cases h4 : isS x = true
        · rw [if_pos h4] at h
          simp at h
          obtain ⟨rfl, rfl, rfl, rfl⟩ := h
          refine ⟨x, [], by unfold prW; rw [if_neg (by decide)], ?_, ?_, fun q => by cases q⟩
          · cases hb : isB x with
            | false => rfl
            | true =>
              have a := (isB_iff x).1 hb
              have b := (isS_iff x).1 h4
              omega
          · unfold wordL prW
            rw [if_neg h1, if_neg h2, if_neg h3, if_pos h4, if_neg (by decide)]
            rfl
        · rw [if_neg h4] at h
          cases h
theorem lex_blanks : ∀ (b l : List UInt8) (p : Nat), (∀ x ∈ b, isB x = true) → lexL p (b ++ l) = lexL (p + b.length) l
  | [], l, p, _ => rfl
  | x :: b, l, p, h => by
    rw [List.cons_append, lex_blank p (h x (List.mem_cons_self ..)), lex_blanks b l (p + 1) (fun y hy => h y (List.mem_cons_of_mem _ hy)), List.length_cons]
    congr 1
    omega
/-- What a word adds to the statement's text. -/
def oneT (b : List UInt8) (x : Wd) : List UInt8 := b ++ prW x.kind x.text ++ [32]
def allT (b : List UInt8) (L : List Wd) : List UInt8 := L.flatMap (oneT b)
/-- The same words, at other places. -/
def SameW (L : List Wd) : Out → Prop
  | .inl (_, _) => False
  | .inr M => M.length = L.length ∧ ∀ i (hi : i < L.length) (hm : i < M.length), M[i].kind = L[i].kind ∧ M[i].text = L[i].text ∧ M[i].n = L[i].n
theorem lex_same (b : List UInt8) (hb : ∀ x ∈ b, isB x = true) : ∀ (l : List UInt8) (p : Nat) (L : List Wd), lexL p l = .inr L → (∀ x ∈ L, x.kind = 3 → x.text.length ≤ 64) ∧ ∀ p', SameW L (lexL p' (allT b L)) := by
  refine lex_ind (C := fun p l o => ∀ (L : List Wd), o = .inr L → (∀ x ∈ L, x.kind = 3 → x.text.length ≤ 64) ∧ ∀ p', SameW L (lexL p' (allT b L))) ?_ ?_ ?_ ?_
  · intro p L h
    have hL : [(⟨5, p, [], 0⟩ : Wd)] = L := Sum.inr.inj h
    subst hL
    refine ⟨fun x hx h3 => ?_, fun p' => ?_⟩
    · simp at hx
      subst hx
      cases h3
    · have e : allT b [(⟨5, p, [], 0⟩ : Wd)] = (b ++ [32]) ++ [] := by simp [allT, oneT, prW]
      rw [e, lex_blanks (b ++ [32]) [] p' (by
        intro x hx
        rcases List.mem_append.1 hx with hx | hx
        · exact hb x hx
        · simp at hx
          subst hx
          decide), lex_nil]
      refine ⟨rfl, fun i hi hm => ?_⟩
      have hi0 : i = 0 := by simpa using hi
      subst hi0
      exact ⟨rfl, rfl, rfl⟩
  · intro p x r _ ih L h
    exact ih L h
  · intro p x r e _ _ L h
    cases h
  · intro p x r k t v m hx hw ih L h
    cases hq : lexL (p + m) ((x :: r).drop m) with
    | inl z9 => obtain ⟨q, e⟩ := z9; rw [hq] at h; cases h
    | inr L' =>
      rw [hq] at h
      have hL : (⟨k, p, t, v⟩ : Wd) :: L' = L := Sum.inr.inj h
      subst hL
      obtain ⟨i1, i2⟩ := ih L' hq
      obtain ⟨c, r', hp, hc, hw2, h64⟩ := word_again hw (allT b L')
      refine ⟨fun y hy h3 => ?_, fun p' => ?_⟩
      · rcases List.mem_cons.1 hy with rfl | hy
        · exact h64 h3
        · exact i1 y hy h3
      · have e : allT b ((⟨k, p, t, v⟩ : Wd) :: L') = b ++ (c :: (r' ++ 32 :: allT b L')) := by
          show oneT b ⟨k, p, t, v⟩ ++ allT b L' = _
          unfold oneT
          rw [hp]
          simp
        rw [e, lex_blanks b _ p' hb, lex_word _ hc hw2]
        have e2 : (c :: (r' ++ 32 :: allT b L')).drop (prW k t).length = 32 :: allT b L' := by
          rw [hp, List.length_cons, List.drop_succ_cons, List.drop_left]
        rw [e2, lex_blank _ (by decide)]
        have h3 := i2 (p' + b.length + (prW k t).length + 1)
        cases hq2 : lexL (p' + b.length + (prW k t).length + 1) (allT b L') with
        | inl z9 => obtain ⟨q, e⟩ := z9; rw [hq2] at h3; exact h3
        | inr M =>
          rw [hq2] at h3
          refine ⟨by simp [h3.1], fun i hi hm => ?_⟩
          cases i with
          | zero => exact ⟨rfl, rfl, rfl⟩
          | succ i => exact h3.2 i (by simpa using hi) (by simpa using hm)
end Go.Proofs.YtcmdpahchbbicaaDoor
