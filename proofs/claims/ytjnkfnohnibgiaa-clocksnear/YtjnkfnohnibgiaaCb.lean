/- Clocks in memory; the walks of New, has, Now. -/
import Derived.Test.YtjnkfnohnibgiaaCa
namespace Go.Proofs.Ytjnkfnohnibgiaa
open Go.RowKit

/-- The clocks T, with the bound most, lie at A. -/
def Cs (w : World) (A : Nat) (T : List Int) (most : Int) : Prop :=
  ∃ C : Array Value, w.heap[A]? = some (.cells C 38 (0, 0)) ∧ C.size = 7 ∧ (∀ k (h : k < T.length), C[k]? = some (.int .i64 T[k])) ∧ C[5]? = some (.int .i64 T.length) ∧ C[6]? = some (.int .i64 most) ∧ Ok T most
section
variable {w w' : World} {A : Nat} {T : List Int} {most : Int} {S : Nat → Prop}
theorem Cs.ok (h : Cs w A T most) : Ok T most := by
  obtain ⟨C, _, _, _, _, _, h⟩ := h
  exact h
theorem Cs.lt (h : Cs w A T most) : A < w.heap.size := by
  obtain ⟨C, h, _⟩ := h
  exact blk_lt h
theorem Cs.stays (h : Cs w A T most) (hf : Fr w w' S) (hA : ¬ S A) : Cs w' A T most := by
  obtain ⟨C, h1, h2⟩ := h
  exact ⟨C, (hf.block A (blk_lt h1) hA).trans h1, h2⟩
theorem Cs.on (h : Cs w A T most) (hb : Below w.heap.size w w') : Cs w' A T most := h.stays (Fr.ofBelow (fun _ => False) hb) (fun q => q)
theorem Cs.cells (h : Cs w A T most) : (∀ k (h : k < T.length), w.cell? ⟨A, k, none⟩ = some (.int .i64 T[k])) ∧ w.cell? ⟨A, 5, none⟩ = some (.int .i64 T.length) ∧ w.cell? ⟨A, 6, none⟩ = some (.int .i64 most) := by
  obtain ⟨C, h1, _, h2, h3, h4, _⟩ := h
  exact ⟨fun k hk => (cell_blk h1 k).trans (h2 k hk), (cell_blk h1 5).trans h3, (cell_blk h1 6).trans h4⟩

theorem new_yes (n : Nat) (h1 : 1 ≤ n) (h5 : n ≤ 5) (m1 : 1 ≤ most) (m2 : most ≤ 1073741824) (w : World) :
    Calls Try.prog 7 #[.int .i64 n, .int .i64 most] w fun e w' => e = .returned (.tuple #[.pointer (some ⟨w.heap.size, 0, none⟩), .int .i64 0]) ∧ Cs w' w.heap.size (List.replicate n 0) most ∧ Below w.heap.size w w' := by
  have a1 : ¬ (n : Int) < 1 := by omega
  have a2 : ¬ (5 : Int) < n := by omega
  have a3 : ¬ most < 1 := by omega
  have a4 : ¬ 1073741824 < most := by omega
  have hok := Ok.zero h1 h5 m1 m2
  go_enter Try.func7, Try.ntmps7
  go_wp2
  refine bodyPost_ret (v := .tuple #[.pointer (some ⟨w.heap.size, 0, none⟩), .int .i64 0]) (by simp [results, Try.results7, go_sem]) rfl ?_
  refine ⟨rfl, ⟨_, heap_alloc_new w _, rfl, fun k hk => ?_, ?_, rfl, hok⟩, (Below.refl _ w).alloc (Nat.le_refl _) _⟩
  · have hk' : k < n := by simpa using hk
    have : k = 0 ∨ k = 1 ∨ k = 2 ∨ k = 3 ∨ k = 4 := by omega
    rcases this with rfl | rfl | rfl | rfl | rfl <;> simp
  · simp
theorem new_no {n most : Int} (h : n < 1 ∨ 5 < n ∨ most < 1 ∨ 1073741824 < most) (w : World) :
    Calls Try.prog 7 #[.int .i64 n, .int .i64 most] w fun e w' => e = .returned (.tuple #[.pointer none, .int .i64 1]) ∧ w' = w := by
  have h' : n < 1 ∨ (¬ n < 1 ∧ 5 < n) ∨ (¬ n < 1 ∧ ¬ 5 < n ∧ most < 1) ∨ (¬ n < 1 ∧ ¬ 5 < n ∧ ¬ most < 1 ∧ 1073741824 < most) := by omega
  rcases h' with h | ⟨h0, h⟩ | ⟨h0, h1, h⟩ | ⟨h0, h1, h2, h⟩
  all_goals
    go_enter Try.func7, Try.ntmps7
    go_wp2
    refine bodyPost_ret (v := .tuple #[.pointer none, .int .i64 1]) (by simp [results, Try.results7, go_sem]) rfl ?_
    exact ⟨rfl, rfl⟩
theorem has_any (h : Cs w A T most) (i : Int) : Calls Try.prog 12 #[.pointer (some ⟨A, 0, none⟩), .int .i64 i] w fun e w' => e = .returned (.bool (hasC T i)) ∧ w' = w := by
  obtain ⟨_, c5, _⟩ := h.cells
  rcases hasC_split T i with ⟨k, rfl, hk⟩ | hi
  · rw [hasC_nat hk]
    have i0 : (0 : Int) ≤ k := by omega
    have i1 : (k : Int) < T.length := by omega
    go_enter Try.func12, Try.ntmps12
    go_wp2
    go_ret
    exact ⟨rfl, rfl⟩
  · rw [hasC_not hi]
    by_cases i0 : 0 ≤ i
    · have i1 : ¬ i < T.length := by omega
      go_enter Try.func12, Try.ntmps12
      go_wp2
      go_ret
      exact ⟨by simp, rfl⟩
    · go_enter Try.func12, Try.ntmps12
      go_wp2
      go_ret
      exact ⟨rfl, rfl⟩
theorem has_nil (i : Int) (w : World) : Calls Try.prog 12 #[.pointer none, .int .i64 i] w fun e w' => e = .returned (.bool false) ∧ w' = w := by
  go_enter Try.func12, Try.ntmps12
  go_wp2
  go_ret
  exact ⟨rfl, rfl⟩
theorem now_any (h : Cs w A T most) (i : Int) : Calls Try.prog 11 #[.pointer (some ⟨A, 0, none⟩), .int .i64 i] w fun e w' => e = .returned (.int .i64 (nowC T i)) ∧ w' = w := by
  have hh := has_any h i
  have hok := h.ok
  have h5 := hok.len5
  rcases hasC_split T i with ⟨k, rfl, hk⟩ | hi
  · have c := h.cells.1 k hk
    rw [hasC_nat hk] at hh
    rw [nowC_nat hk]
    obtain ⟨x, hx⟩ : ∃ x, T[k] = x := ⟨_, rfl⟩
    rw [hx] at c ⊢
    have i0 : (0 : Int) ≤ k := by omega
    have i1 : (k : Int) < 5 := by omega
    have i2 : k < 5 := by omega
    clear hx hok
    go_enter Try.func11, Try.ntmps11
    go_wp2_with fail
    refine hh.mono ?_
    rintro e w1 ⟨rfl, rfl⟩
    go_wp2
    go_ret
    exact ⟨rfl, rfl⟩
  · rw [hasC_not hi] at hh
    rw [nowC_not hi]
    go_enter Try.func11, Try.ntmps11
    go_wp2_with fail
    refine hh.mono ?_
    rintro e w1 ⟨rfl, rfl⟩
    go_wp2
    go_ret
    exact ⟨rfl, rfl⟩
theorem now_nil (i : Int) (w : World) : Calls Try.prog 11 #[.pointer none, .int .i64 i] w fun e w' => e = .returned (.int .i64 0) ∧ w' = w := by
  go_enter Try.func11, Try.ntmps11
  go_wp2_with fail
  refine (has_nil i w).mono ?_
  rintro e w1 ⟨rfl, rfl⟩
  go_wp2
  go_ret
  exact ⟨rfl, rfl⟩
end
end Go.Proofs.Ytjnkfnohnibgiaa
