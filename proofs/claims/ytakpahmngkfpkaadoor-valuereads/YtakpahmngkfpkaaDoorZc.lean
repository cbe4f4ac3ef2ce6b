/- Plain facts on texts between quotes, and what every text is read as. -/
import Derived.Test.YtakpahmngkfpkaaDoorWf
import Derived.Test.YtakpahmngkfpkaaDoorZb
namespace Go.Proofs.YtakpahmngkfpkaaDoor

/-- Of what stands between two quotes: the text, if each quote of it stands twice. -/
def unq : List UInt8 → Option (List UInt8)
  | [] => some []
  | [c] => if c.toNat = 39 then none else some [c]
  | c :: d :: r => if c.toNat = 39 then (if d.toNat = 39 then (unq r).map (d :: ·) else none) else (unq (d :: r)).map (c :: ·)

theorem dbl_cons_q {c : UInt8} (h : c.toNat = 39) (r : List UInt8) : dbl (c :: r) = 39 :: 39 :: dbl r := by simp [dbl, h]
theorem dbl_cons {c : UInt8} (h : c.toNat ≠ 39) (r : List UInt8) : dbl (c :: r) = c :: dbl r := by simp [dbl, h]
theorem is39 {c : UInt8} (h : c.toNat = 39) : c = 39 := UInt8.toNat_inj.1 h

theorem unq_q {c d : UInt8} {r : List UInt8} (h : c.toNat = 39) (h2 : d.toNat = 39) : unq (c :: d :: r) = (unq r).map (d :: ·) := by rw [unq, if_pos h, if_pos h2]
theorem unq_other {c : UInt8} {r : List UInt8} (h : c.toNat ≠ 39) : unq (c :: r) = (unq r).map (c :: ·) := by
  cases r with
  | nil => simp [unq, h]
  | cons d r => rw [unq, if_neg h]

theorem unq_dbl : ∀ t : List UInt8, unq (dbl t) = some t
  | [] => rfl
  | c :: r => by
    have ih := unq_dbl r
    by_cases h : c.toNat = 39
    · rw [dbl_cons_q h, unq_q rfl rfl, ih, is39 h]; rfl
    · rw [dbl_cons h, unq_other h, ih]; rfl

theorem dbl_unq : ∀ (n : Nat) (m t : List UInt8), m.length ≤ n → unq m = some t → dbl t = m
  | _, [], t, _, h => by
    simp [unq] at h
    subst h
    rfl
  | 0, _ :: _, _, hl, _ => by simp at hl
  | n + 1, c :: r, t, hl, h => by
    by_cases hc : c.toNat = 39
    · cases r with
      | nil => simp [unq, hc] at h
      | cons d r =>
        by_cases hd : d.toNat = 39
        · rw [unq_q hc hd, Option.map_eq_some_iff] at h
          obtain ⟨t', ht, rfl⟩ := h
          have ih := dbl_unq n r t' (by simp at hl; omega) ht
          rw [dbl_cons_q hd, ih, is39 hc, is39 hd]
        · rw [unq, if_pos hc, if_neg hd] at h
          cases h
    · rw [unq_other hc, Option.map_eq_some_iff] at h
      obtain ⟨t', ht, rfl⟩ := h
      have ih := dbl_unq n r t' (by simpa using hl) ht
      rw [dbl_cons hc, ih]

theorem bare_dbl : ∀ t : List UInt8, bareL (dbl t ++ [39]) = t
  | [] => by decide
  | c :: r => by
    have ih := bare_dbl r
    by_cases h : c.toNat = 39
    · rw [dbl_cons_q h]
      show bareL (39 :: 39 :: (dbl r ++ [39])) = _
      rw [bareL_q rfl, ih, is39 h]
    · rw [dbl_cons h]
      show bareL (c :: (dbl r ++ [39])) = _
      rw [bareL_other h, ih]

/-- The text that stands between two quotes, as the document writes it, at most 64 bytes. -/
def textL (l : List UInt8) : Option (List UInt8) :=
  match l with
  | [] => none
  | c :: r => if c.toNat = 39 ∧ r.getLast? = some 39 then (unq r.dropLast).bind (fun t => if t.length ≤ 64 then some t else none) else none

theorem snoc_of_last {r : List UInt8} {x : UInt8} (h : r.getLast? = some x) : r = r.dropLast ++ [x] := by
  cases r with
  | nil => simp at h
  | cons a b =>
    have hne : a :: b ≠ [] := List.cons_ne_nil _ _
    rw [List.getLast?_eq_some_getLast hne] at h
    injection h with h
    rw [← h]
    exact (List.dropLast_concat_getLast hne).symm

theorem textL_some {l t : List UInt8} (h : textL l = some t) : l = 39 :: (dbl t ++ [39]) ∧ t.length ≤ 64 := by
  unfold textL at h
  cases l with
  | nil => simp at h
  | cons c r =>
    dsimp only at h
    split at h
    · rename_i hh
      rw [Option.bind_eq_some_iff] at h
      obtain ⟨t', h1, h2⟩ := h
      split at h2
      · rename_i hlen
        injection h2 with h2
        subst h2
        have e := dbl_unq _ _ _ (Nat.le_refl _) h1
        refine ⟨?_, hlen⟩
        rw [e, ← snoc_of_last hh.2, is39 hh.1]
      · cases h2
    · cases h

theorem textL_of (t : List UInt8) (h : t.length ≤ 64) : textL (39 :: (dbl t ++ [39])) = some t := by
  unfold textL
  dsimp only
  rw [if_pos ⟨rfl, by simp⟩, List.dropLast_concat, unq_dbl]
  simp [h]

def nullL : List UInt8 := [110, 117, 108, 108]

/-- What every text is read as: the kind, the number, the text's bytes. -/
def readL (l : List UInt8) : Option (Int × Int × List UInt8) :=
  if l = nullL then some (0, 0, []) else
    match numL l with
    | some v => some (1, v, [])
    | none => (textL l).map fun t => (2, 0, t)

theorem readL_len {l : List UInt8} {p : Int × Int × List UInt8} (h : readL l = some p) : 0 < l.length ∧ l.length ≤ 130 := by
  unfold readL at h
  split at h
  · rename_i e
    rw [e]
    decide
  · split at h
    · rename_i v hv
      obtain ⟨he, _, h0, h1, _⟩ := numL_itoa hv
      have := Lib.itoa_length_le v h0 h1
      rw [he] at this
      obtain ⟨c, r, e, _⟩ := (numL_itoa hv).2.2.2.2
      rw [e] at this ⊢
      simp at this ⊢
      omega
    · rw [Option.map_eq_some_iff] at h
      obtain ⟨t, ht, _⟩ := h
      obtain ⟨e, hl⟩ := textL_some ht
      have := dbl_le t
      rw [e]
      simp
      omega
end Go.Proofs.YtakpahmngkfpkaaDoor
