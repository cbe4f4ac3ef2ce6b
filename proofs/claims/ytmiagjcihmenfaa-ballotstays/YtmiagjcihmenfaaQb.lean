/- What a majority has, plain. -/
import Derived.Test.YtmiagjcihmenfaaBc
namespace Go.Proofs.Ytmiagjcihmenfaa
namespace Bs

/-- How far each node's log is known to be; a leader's own is all there. -/
def endsTo (b : Bs) : Nat → List Int
  | 0 => []
  | n + 1 => b.endsTo n ++ [if n = b.id then b.last else b.mat.getD n 0]
theorem endsTo_len (b : Bs) : ∀ n, (b.endsTo n).length = n
  | 0 => rfl
  | n + 1 => by
    unfold endsTo
    rw [List.length_append, endsTo_len b n]
    rfl
theorem count_ends (b : Bs) (i : Int) (hi : i ≤ b.last) : ∀ n, (b.endsTo n).countP (fun x => decide (i ≤ x)) = b.matched i n + if b.id < n then 1 else 0
  | 0 => rfl
  | n + 1 => by
    have ih := count_ends b i hi n
    unfold endsTo matched
    rw [List.countP_append, ih]
    by_cases h : n = b.id
    · rw [if_pos h]
      have h2 : ¬ (n ≠ b.id ∧ i ≤ b.mat.getD n 0) := fun q => q.1 h
      rw [if_neg h2, if_neg (show ¬ b.id < n by omega), if_pos (show b.id < n + 1 by omega)]
      simp [hi]
    · rw [if_neg h]
      have e : (if b.id < n + 1 then 1 else 0) = (if b.id < n then 1 else 0 : Nat) := by
        by_cases q : b.id < n
        · rw [if_pos q, if_pos (by omega)]
        · rw [if_neg q, if_neg (by omega)]
      rw [e]
      generalize b.mat.getD n 0 = y
      by_cases q : i ≤ y
      · rw [if_pos (show n ≠ b.id ∧ i ≤ y from ⟨h, q⟩)]
        simp only [List.countP_cons, List.countP_nil, decide_eq_true q, if_true]
        omega
      · rw [if_neg (show ¬ (n ≠ b.id ∧ i ≤ y) from fun z => q z.2)]
        simp only [List.countP_cons, List.countP_nil, decide_eq_false q]
        simp
/-- In a sorted list a number is at most what stands at place p just if that many are as great. -/
theorem sorted_count (L : List Int) (hs : ∀ p q, p < q → q < L.length → L.getD p 0 ≤ L.getD q 0) (i : Int) : ∀ p, p < L.length → (i ≤ L.getD p 0 ↔ L.length - p ≤ L.countP (fun x => decide (i ≤ x))) := by
  induction L with
  | nil => intro p hp; simp at hp
  | cons a L ih =>
    have hs' : ∀ p q, p < q → q < L.length → L.getD p 0 ≤ L.getD q 0 := fun p q h1 h2 => by
      have := hs (p + 1) (q + 1) (by omega) (by simp; omega)
      simpa using this
    intro p hp
    have hc : L.countP (fun x => decide (i ≤ x)) ≤ L.length := List.countP_le_length
    rw [List.countP_cons, List.length_cons]
    cases p with
    | zero =>
      have e : (a :: L).getD 0 0 = a := rfl
      rw [e]
      by_cases h : i ≤ a
      · rw [if_pos (by simpa using h)]
        refine ⟨fun _ => ?_, fun _ => h⟩
        have hall : ∀ x ∈ L, decide (i ≤ x) = true := by
          intro x hx
          obtain ⟨k, hk, rfl⟩ := List.getElem_of_mem hx
          have := hs 0 (k + 1) (by omega) (by simp; omega)
          simp [List.getD, hk] at this
          simp
          omega
        rw [List.countP_eq_length.2 hall]
        omega
      · rw [if_neg (by simpa using h)]
        exact ⟨fun q => absurd q h, fun q => by omega⟩
    | succ p =>
      have e : (a :: L).getD (p + 1) 0 = L.getD p 0 := rfl
      have hp' : p < L.length := by simpa using hp
      rw [e, ih hs' p hp']
      by_cases h : i ≤ a
      · rw [if_pos (by simpa using h)]
        constructor
        · intro q; omega
        · intro q
          have hall : ∀ x ∈ L, decide (i ≤ x) = true := by
            intro x hx
            obtain ⟨k, hk, rfl⟩ := List.getElem_of_mem hx
            have := hs 0 (k + 1) (by omega) (by simp; omega)
            simp [List.getD, hk] at this
            simp
            omega
          rw [List.countP_eq_length.2 hall]
          omega
      · rw [if_neg (by simpa using h)]
        constructor
        · intro q; omega
        · intro q; omega
/-- What is agreed on. -/
theorem agreed_most {b : Bs} {L : List Int} (hp : L.Perm (b.endsTo b.size)) (hs : ∀ p q, p < q → q < L.length → L.getD p 0 ≤ L.getD q 0) (hid : b.id < b.size) {i : Int} (hi : i ≤ b.last) : ((b.size : Int) < 2 * (1 + b.matched i b.size : Nat) ↔ i ≤ L.getD ((b.size - 1) / 2) 0) := by
  have hl : L.length = b.size := hp.length_eq.trans (endsTo_len b b.size)
  rw [sorted_count L hs i _ (by omega), hp.countP_eq, count_ends b i hi, if_pos hid, hl]
  omega
theorem best_zero {b : Bs} : ∀ k, (∀ j, j < k → ¬ b.most (b.commit + 1 + (j : Nat))) → b.best k = 0
  | 0, _ => rfl
  | k + 1, h => by
    unfold best
    rw [if_neg (h k (by omega))]
    exact best_zero k (fun j hj => h j (by omega))
theorem best_at {b : Bs} : ∀ (k n : Nat), k < n → b.most (b.commit + 1 + (k : Nat)) → (∀ j, k < j → j < n → ¬ b.most (b.commit + 1 + (j : Nat))) → b.best n = b.commit + 1 + (k : Nat)
  | k, 0, h, _, _ => by omega
  | k, n + 1, h, hm, hj => by
    unfold best
    by_cases q : k = n
    · subst q
      rw [if_pos hm]
    · rw [if_neg (hj n (by omega) (by omega))]
      exact best_at k n (by omega) hm (fun j a c => hj j a (by omega))
end Bs
end Go.Proofs.Ytmiagjcihmenfaa
