/- Plain facts on numerals: the digits of a number are read as that number, and no other digits are. -/
import Derived.Lib.ItoaLen
import Derived.Lib.ParseIntB
namespace Go.Proofs.YtakpahmngkfpkaaDoor

def nv (acc : Nat) (l : List UInt8) : Nat := l.foldl (fun a c => a * 10 + (c.toNat - 48)) acc
def isD (c : UInt8) : Bool := decide (48 ≤ c.toNat) && decide (c.toNat ≤ 57)

theorem isD_iff (c : UInt8) : isD c = true ↔ 48 ≤ c.toNat ∧ c.toNat ≤ 57 := by simp [isD]
theorem nv_cons (a : Nat) (c : UInt8) (r : List UInt8) : nv a (c :: r) = nv (a * 10 + (c.toNat - 48)) r := by unfold nv; rw [List.foldl_cons]
theorem nv_snoc (a : Nat) (l : List UInt8) (c : UInt8) : nv a (l ++ [c]) = nv a l * 10 + (c.toNat - 48) := by simp [nv]
theorem nv_ge : ∀ (l : List UInt8) (a : Nat), a ≤ nv a l
  | [], _ => Nat.le_refl _
  | c :: r, a => by rw [nv_cons]; exact Nat.le_trans (by omega) (nv_ge r _)
theorem nv_lt : ∀ (l : List UInt8) (a : Nat), l.all isD = true → nv a l < (a + 1) * 10 ^ l.length
  | [], a, _ => by simp [nv]
  | c :: r, a, h => by
    rw [List.all_cons, Bool.and_eq_true] at h
    have hd := (isD_iff c).1 h.1
    have ih := nv_lt r (a * 10 + (c.toNat - 48)) h.2
    rw [nv_cons, List.length_cons, Nat.pow_succ]
    refine Nat.lt_of_lt_of_le ih ?_
    have : a * 10 + (c.toNat - 48) + 1 ≤ (a + 1) * 10 := by omega
    calc (a * 10 + (c.toNat - 48) + 1) * 10 ^ r.length ≤ ((a + 1) * 10) * 10 ^ r.length := Nat.mul_le_mul_right _ this
      _ = (a + 1) * (10 ^ r.length * 10) := by rw [Nat.mul_assoc, Nat.mul_comm 10]

theorem ofNat_digit (d : Nat) (h : d < 10) : (UInt8.ofNat (48 + d)).toNat = 48 + d := by
  rw [UInt8.toNat_ofNat']; omega

theorem dec_all (u : Nat) : (Lib.decDigits u).all isD = true := by
  induction u using Nat.strongRecOn with
  | _ u ih =>
    by_cases h : u < 10
    · rw [Lib.decDigits, dif_pos h]
      rw [List.all_cons, List.all_nil, Bool.and_true, isD_iff, ofNat_digit u h]; omega
    · rw [Lib.decDigits, dif_neg h, List.all_append, ih (u / 10) (by omega)]
      have := ofNat_digit (u % 10) (by omega)
      rw [Bool.true_and, List.all_cons, List.all_nil, Bool.and_true, isD_iff, this]; omega

theorem dec_nv (u : Nat) : nv 0 (Lib.decDigits u) = u := by
  induction u using Nat.strongRecOn with
  | _ u ih =>
    by_cases h : u < 10
    · rw [Lib.decDigits, dif_pos h, nv_cons, ofNat_digit u h]
      simp [nv]
    · rw [Lib.decDigits, dif_neg h, nv_snoc, ih (u / 10) (by omega), ofNat_digit (u % 10) (by omega)]
      omega

theorem dec_head (u : Nat) (h1 : 1 ≤ u) : ∃ c r, Lib.decDigits u = c :: r ∧ c.toNat ≠ 48 := by
  induction u using Nat.strongRecOn with
  | _ u ih =>
    by_cases h : u < 10
    · exact ⟨_, [], by rw [Lib.decDigits, dif_pos h], by rw [ofNat_digit u h]; omega⟩
    · obtain ⟨c, r, e, hc⟩ := ih (u / 10) (by omega) (by omega)
      exact ⟨c, r ++ [UInt8.ofNat (48 + u % 10)], by rw [Lib.decDigits, dif_neg h, e]; rfl, hc⟩

theorem dec_of : ∀ (n : Nat) (l : List UInt8), l.length = n + 1 → l.all isD = true → (l.length = 1 ∨ ∃ c r, l = c :: r ∧ c.toNat ≠ 48) → Lib.decDigits (nv 0 l) = l
  | 0, [c], _, h, _ => by
    have hd := (isD_iff c).1 (by simpa using h)
    have e : nv 0 [c] = c.toNat - 48 := by simp [nv]
    rw [e, Lib.decDigits, dif_pos (by omega)]
    congr 1
    apply UInt8.toNat_inj.1
    rw [ofNat_digit _ (by omega)]
    omega
  | n + 1, l, hl, h, hh => by
    obtain ⟨l', c, rfl⟩ : ∃ l' c, l = l' ++ [c] := ⟨l.dropLast, l.getLast (by intro e; simp [e] at hl), (List.dropLast_concat_getLast _).symm⟩
    have hl' : l'.length = n + 1 := by simpa using hl
    rw [List.all_append, Bool.and_eq_true] at h
    have hd := (isD_iff c).1 (by simpa using h.2)
    obtain ⟨c0, r, e0, hc0⟩ : ∃ c0 r, l' ++ [c] = c0 :: r ∧ c0.toNat ≠ 48 := by
      rcases hh with hh | hh
      · simp at hh; rw [hh] at hl'; simp at hl'
      · exact hh
    obtain ⟨r', er⟩ : ∃ r', l' = c0 :: r' := by
      cases l' with
      | nil => simp at hl'
      | cons x y => simp at e0; exact ⟨y, by rw [e0.1]⟩
    have hd0 : 48 ≤ c0.toNat ∧ c0.toNat ≤ 57 := by
      have := h.1
      rw [er, List.all_cons, Bool.and_eq_true] at this
      exact (isD_iff c0).1 this.1
    have ih := dec_of n l' hl' h.1 (Or.inr ⟨c0, r', er, hc0⟩)
    have hpos : 1 ≤ nv 0 l' := by
      rw [er, nv_cons]
      exact Nat.le_trans (by omega) (nv_ge _ _)
    rw [nv_snoc, Lib.decDigits, dif_neg (by omega)]
    have e1 : (nv 0 l' * 10 + (c.toNat - 48)) / 10 = nv 0 l' := by omega
    have e2 : (nv 0 l' * 10 + (c.toNat - 48)) % 10 = c.toNat - 48 := by omega
    rw [e1, e2, ih]
    congr 2
    apply UInt8.toNat_inj.1
    rw [ofNat_digit _ (by omega)]
    omega

theorem parse_of (M : Nat) (hM : M ≤ 18446744073709551615) : ∀ (l : List UInt8) (acc : Nat), l.all isD = true → nv acc l ≤ M → Lib.parseUintM M acc l = .ok (nv acc l)
  | [], acc, _, _ => rfl
  | c :: r, acc, h, hle => by
    rw [List.all_cons, Bool.and_eq_true] at h
    have hd := (isD_iff c).1 h.1
    have hge := nv_ge r (acc * 10 + (c.toNat - 48))
    rw [nv_cons] at hle
    rw [nv_cons, Lib.parseUintM, if_pos hd, if_neg (by omega), if_neg (by omega)]
    exact parse_of M hM r _ h.2 hle

/-- The number that digits spell as the document writes numbers, with a minus or without. -/
def numL (l : List UInt8) : Option Int :=
  match l with
  | [] => none
  | c :: r =>
    if c.toNat = 45 then
      (match r with
      | [] => none
      | d :: _ => if r.length ≤ 19 ∧ r.all isD = true ∧ nv 0 r ≤ 9223372036854775808 ∧ 0 < nv 0 r ∧ d.toNat ≠ 48 then some (-(nv 0 r : Int)) else none)
    else if (c :: r).length ≤ 19 ∧ (c :: r).all isD = true ∧ nv 0 (c :: r) < 9223372036854775808 ∧ (r = [] ∨ c.toNat ≠ 48) then some (nv 0 (c :: r) : Int) else none

theorem numL_itoa {l : List UInt8} {v : Int} (h : numL l = some v) : Lib.itoa v = l ∧ Lib.parseIntB 64 l = .ok v ∧ -9223372036854775808 ≤ v ∧ v ≤ 9223372036854775807 ∧ (∃ c r, l = c :: r ∧ (c.toNat = 45 ∨ (48 ≤ c.toNat ∧ c.toNat ≤ 57))) := by
  unfold numL at h
  cases l with
  | nil => simp at h
  | cons c r =>
    dsimp only at h
    by_cases hm : c.toNat = 45
    · rw [if_pos hm] at h
      cases r with
      | nil => simp at h
      | cons d q =>
        dsimp only at h
        split at h
        · rename_i hh
          obtain ⟨h1, h2, h3, h4, h5⟩ := hh
          injection h with h
          subst h
          refine ⟨?_, ?_, by omega, by omega, c, _, rfl, Or.inl hm⟩
          · rw [Lib.itoa_neg _ h4, dec_of q.length (d :: q) rfl h2 (Or.inr ⟨d, q, rfl, h5⟩)]
            congr 1
            exact UInt8.toNat_inj.1 hm.symm
          · have hp := parse_of 18446744073709551615 (by omega) (d :: q) 0 h2 (by omega)
            unfold Lib.parseIntB Lib.parseUintB
            dsimp only
            rw [if_pos (Or.inr hm), if_neg (by simp), show (2 ^ 64 - 1 : Nat) = 18446744073709551615 from rfl, hp]
            dsimp only
            rw [if_neg (by simp [hm]), if_neg (by show ¬ (c.toNat = 45 ∧ 9223372036854775808 < _); omega), if_pos hm]
        · cases h
    · rw [if_neg hm] at h
      split at h
      · rename_i hh
        obtain ⟨h1, h2, h3, h4⟩ := hh
        injection h with h
        subst h
        have hd : 48 ≤ c.toNat ∧ c.toNat ≤ 57 := by
          rw [List.all_cons, Bool.and_eq_true] at h2
          exact (isD_iff c).1 h2.1
        refine ⟨?_, ?_, by omega, by omega, c, _, rfl, Or.inr hd⟩
        · rw [Lib.itoa_nonneg, dec_of r.length (c :: r) rfl h2 (by rcases h4 with h4 | h4; exact Or.inl (by simp [h4]); exact Or.inr ⟨c, r, rfl, h4⟩)]
        · have hp := parse_of 18446744073709551615 (by omega) (c :: r) 0 h2 (by omega)
          unfold Lib.parseIntB Lib.parseUintB
          dsimp only
          rw [if_neg (show ¬ (c.toNat = 43 ∨ c.toNat = 45) by omega), if_neg (by simp), show (2 ^ 64 - 1 : Nat) = 18446744073709551615 from rfl, hp]
          dsimp only
          rw [if_neg (by show ¬ (¬ c.toNat = 45 ∧ 9223372036854775808 ≤ _); omega), if_neg (by show ¬ (c.toNat = 45 ∧ 9223372036854775808 < _); omega), if_neg hm]
      · cases h

theorem nDigits_le : ∀ (k u : Nat), u < 10 ^ (k + 1) → Lib.nDigits u ≤ k + 1
  | 0, u, h => by rw [Lib.nDigits_small (by simpa using h)]; omega
  | k + 1, u, h => by
    by_cases hu : u < 10
    · rw [Lib.nDigits_small hu]; omega
    · rw [Nat.pow_succ] at h
      have := nDigits_le k (u / 10) (by omega)
      rw [Lib.nDigits_big hu]; omega
theorem nDigits_le19 (u : Nat) (h : u < 10000000000000000000) : Lib.nDigits u ≤ 19 := nDigits_le 18 u (by rw [show (10 : Nat) ^ (18 + 1) = 10000000000000000000 by decide]; exact h)

theorem numL_of_itoa (v : Int) (h0 : -9223372036854775808 ≤ v) (h1 : v ≤ 9223372036854775807) : numL (Lib.itoa v) = some v := by
  by_cases hneg : v < 0
  · obtain ⟨u, rfl⟩ : ∃ u : Nat, v = -(u : Int) := ⟨v.natAbs, by omega⟩
    rw [Lib.itoa_neg u (by omega)]
    obtain ⟨c, r, e, hc⟩ := dec_head u (by omega)
    have ha := dec_all u
    have hv := dec_nv u
    have hl : (Lib.decDigits u).length ≤ 19 := by rw [Lib.decDigits_length]; exact nDigits_le19 u (by omega)
    rw [e] at ha hv hl ⊢
    unfold numL
    dsimp only
    rw [if_pos (by decide), if_pos ⟨hl, ha, by omega, by omega, hc⟩, hv]
  · obtain ⟨u, rfl⟩ : ∃ u : Nat, v = u := ⟨v.toNat, by omega⟩
    rw [Lib.itoa_nonneg]
    have ha := dec_all u
    have hv := dec_nv u
    have hl : (Lib.decDigits u).length ≤ 19 := by rw [Lib.decDigits_length]; exact nDigits_le19 u (by omega)
    rcases Nat.eq_zero_or_pos u with rfl | hpos
    · decide +kernel
    · obtain ⟨c, r, e, hc⟩ := dec_head u hpos
      rw [e] at ha hv hl ⊢
      have hd : 48 ≤ c.toNat ∧ c.toNat ≤ 57 := by
        rw [List.all_cons, Bool.and_eq_true] at ha
        exact (isD_iff c).1 ha.1
      unfold numL
      dsimp only
      rw [if_neg (by omega), if_pos ⟨hl, ha, by omega, Or.inr hc⟩, hv]
end Go.Proofs.YtakpahmngkfpkaaDoor
