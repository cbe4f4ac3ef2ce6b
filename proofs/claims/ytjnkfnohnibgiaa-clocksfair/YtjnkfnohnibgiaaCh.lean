/- Clocks that stand together, plain. -/
import Derived.Test.YtjnkfnohnibgiaaCf
namespace Go.Proofs.Ytjnkfnohnibgiaa
open Go.RowKit

def maxC (T : List Int) (x : Int) : Int := T.foldl max x
theorem maxC_snoc (T : List Int) (k : Nat) (h : k < T.length) (x : Int) : maxC (T.take (k + 1)) x = max (maxC (T.take k) x) T[k] := by
  unfold maxC
  rw [List.take_succ_eq_append_getElem h, List.foldl_append]
  rfl
theorem maxC_le (T : List Int) : ∀ x, x ≤ maxC T x ∧ (∀ t ∈ T, t ≤ maxC T x) ∧ (maxC T x = x ∨ maxC T x ∈ T) := by
  induction T with
  | nil => intro x; simp [maxC]
  | cons a T ih =>
    intro x
    obtain ⟨h1, h2, h3⟩ := ih (max x a)
    have e : maxC (a :: T) x = maxC T (max x a) := rfl
    rw [e]
    refine ⟨by omega, fun t ht => ?_, ?_⟩
    · rcases List.mem_cons.1 ht with rfl | ht
      · omega
      · exact h2 t ht
    · rcases h3 with h3 | h3
      · rw [h3]
        by_cases hx : a ≤ x
        · exact .inl (by omega)
        · right
          have : max x a = a := by omega
          rw [this]
          exact List.mem_cons_self
      · exact .inr (List.mem_cons_of_mem _ h3)
/-- The clocks T are at most at top, one of them is there. -/
structure Top (T : List Int) (top : Int) : Prop where
  le : ∀ t ∈ T, t ≤ top
  mem : top ∈ T
theorem Ok.top {T : List Int} {most : Int} (h : Ok T most) : Top T (maxC T 0) := by
  obtain ⟨h1, h2, h3⟩ := maxC_le T 0
  refine ⟨h2, ?_⟩
  rcases h3 with e | e
  · have hp : 0 < T.length := h.len1
    have hm := List.getElem_mem hp
    have := h.lo _ hm
    have := h2 _ hm
    have e2 : maxC T 0 = T[0] := by omega
    rw [e2]
    exact hm
  · exact e
theorem catch_up {T : List Int} {most top : Int} (hok : Ok T most) (ht : Top T top) {k : Nat} (hk : k < T.length) (hlt : T[k] < top) : stepC T most k (top - T[k]) = top - T[k] := by
  rw [stepC_nat hk most (by omega)]
  obtain ⟨l1, l2, l3⟩ := least_le T T[k]
  have hm := List.getElem_mem hk
  have hl : leastC T T[k] ∈ T := by
    rcases l3 with e | e
    · rw [e]; exact hm
    · exact e
  have h1 := hok.near _ ht.mem _ hl
  have h2 := hok.hi _ ht.mem
  rw [if_neg (by omega)]
  omega
theorem put_top {T : List Int} {top : Int} (ht : Top T top) {k : Nat} (hk : k < T.length) : putC T k (top - T[k]) = T.set k top ∧ Top (T.set k top) top := by
  refine ⟨?_, fun t h => ?_, ?_⟩
  · rw [putC_nat hk]
    congr 1
    omega
  · rcases List.mem_or_eq_of_mem_set h with h | h
    · exact ht.le t h
    · omega
  · exact List.mem_set hk _
theorem put_bound {T : List Int} {i s b c : Int} (h : ∀ t ∈ T, t ≤ b) (hs : s ≤ c) (hb : 0 ≤ c) : ∀ t ∈ putC T i s, t ≤ b + c := by
  intro t ht
  rcases hasC_split T i with ⟨k, rfl, hk⟩ | hi
  · rw [putC_nat hk] at ht
    rcases List.mem_or_eq_of_mem_set ht with ht | ht
    · have := h t ht; omega
    · have := h _ (List.getElem_mem hk); omega
  · rw [putC_not hi] at ht
    have := h t ht; omega
/-- The first i clocks have gone on by one from v, the others stand at v. -/
def stT (n i : Nat) (v : Int) : List Int := List.replicate i (v + 1) ++ List.replicate (n - i) v
theorem stT_len {n i : Nat} (h : i ≤ n) (v : Int) : (stT n i v).length = n := by simp [stT]; omega
theorem stT_zero (n : Nat) (v : Int) : stT n 0 v = List.replicate n v := by simp [stT]
theorem stT_full (n : Nat) (v : Int) : stT n n v = stT n 0 (v + 1) := by simp [stT]
theorem stT_at {n i : Nat} (h : i < n) (v : Int) (h' : i < (stT n i v).length) : (stT n i v)[i] = v := by
  have e : (stT n i v)[i]? = some v := by
    unfold stT
    rw [List.getElem?_append_right (by simp), List.length_replicate, Nat.sub_self, List.getElem?_replicate, if_pos (by omega)]
  rw [List.getElem?_eq_getElem h'] at e
  exact Option.some.inj e
theorem stT_least (n i : Nat) (v : Int) : leastC (stT n i v) v = v := by
  obtain ⟨h1, h2, h3⟩ := least_le (stT n i v) v
  rcases h3 with e | e
  · exact e
  · unfold stT at e
    rcases List.mem_append.1 e with e | e
    · have e2 := List.eq_of_mem_replicate e
      unfold stT at h1
      unfold stT
      omega
    · exact List.eq_of_mem_replicate e
theorem stT_step {n i : Nat} {most v : Int} (h : i < n) (m1 : 1 ≤ most) (hv : v + 1 ≤ 1125899906842624) : stepC (stT n i v) most i 1 = 1 := by
  have hl : i < (stT n i v).length := by rw [stT_len (by omega)]; exact h
  rw [stepC_nat hl most (by omega), stT_at h v hl, stT_least n i v, if_neg (by omega)]
  omega
theorem stT_put {n i : Nat} {v : Int} (h : i < n) : putC (stT n i v) i 1 = stT n (i + 1) v := by
  have hl : i < (stT n i v).length := by rw [stT_len (by omega)]; exact h
  rw [putC_nat hl, stT_at h v hl]
  unfold stT
  rw [List.set_append_right _ _ (by simp)]
  obtain ⟨m, rfl⟩ : ∃ m, n = i + 1 + m := ⟨n - (i + 1), by omega⟩
  have e1 : i + 1 + m - i = m + 1 := by omega
  have e2 : i + 1 + m - (i + 1) = m := by omega
  rw [e1, e2, List.replicate_succ, List.replicate_succ' (n := i)]
  simp
theorem all_top {T : List Int} {top : Int} (h : ∀ q (hq : q < T.length), T[q] = top) : T = stT T.length 0 top := by
  rw [stT_zero]
  refine List.eq_replicate_iff.2 ⟨rfl, fun b hb => ?_⟩
  obtain ⟨q, hq, rfl⟩ := List.getElem_of_mem hb
  exact h q hq
/-- Where a clock stands, read off the memory. -/
def atW (w : World) (A i : Nat) : Int := match w.cell? ⟨A, i, none⟩ with
  | some (.int _ x) => x
  | _ => 0
theorem Cs.atW {w : World} {A : Nat} {T : List Int} {most : Int} (h : Cs w A T most) {k : Nat} (hk : k < T.length) : atW w A k = T[k] := by
  have e := h.cells.1 k hk
  unfold Go.Proofs.Ytjnkfnohnibgiaa.atW
  rw [e]
end Go.Proofs.Ytjnkfnohnibgiaa
