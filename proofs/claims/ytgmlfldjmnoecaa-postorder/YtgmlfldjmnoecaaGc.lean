/- The walks of Copy, Take and Lose. -/
import Derived.Test.YtgmlfldjmnoecaaGb
namespace Go.Proofs.Ytgmlfldjmnoecaa
open Go.RowKit

/-- Is there a letter i; which; the others. -/
def isL (L : List Lt) (i : Int) : Bool := decide (0 ≤ i ∧ i < L.length)
def atL (L : List Lt) (i : Int) : Lt := if isL L i then L.getD i.toNat lt0 else lt0
def remL (L : List Lt) (i : Int) : List Lt := if isL L i then L.eraseIdx i.toNat else L
theorem isL_nat {L : List Lt} {k : Nat} (h : k < L.length) : isL L (k : Int) = true := by unfold isL; simp; omega
theorem isL_not {L : List Lt} {i : Int} (h : i < 0 ∨ (L.length : Int) ≤ i) : isL L i = false := by unfold isL; simp; omega
theorem isL_split (L : List Lt) (i : Int) : (∃ k : Nat, i = k ∧ k < L.length) ∨ (i < 0 ∨ (L.length : Int) ≤ i) := by
  by_cases h : 0 ≤ i ∧ i < L.length
  · exact .inl ⟨i.toNat, by omega, by omega⟩
  · exact .inr (by omega)
theorem atL_nat {L : List Lt} {k : Nat} (h : k < L.length) : atL L (k : Int) = L[k] := by
  unfold atL
  rw [isL_nat h]
  simp [h]
theorem atL_not {L : List Lt} {i : Int} (h : i < 0 ∨ (L.length : Int) ≤ i) : atL L i = lt0 := by
  unfold atL
  rw [isL_not h]
  rfl
theorem remL_nat {L : List Lt} {k : Nat} (h : k < L.length) : remL L (k : Int) = L.eraseIdx k := by
  unfold remL
  rw [isL_nat h]
  simp
theorem remL_not {L : List Lt} {i : Int} (h : i < 0 ∨ (L.length : Int) ≤ i) : remL L i = L := by
  unfold remL
  rw [isL_not h]
  rfl
theorem remL_le (L : List Lt) (i : Int) : (remL L i).length ≤ L.length := by
  rcases isL_split L i with ⟨k, rfl, hk⟩ | h
  · rw [remL_nat hk, List.length_eraseIdx_of_lt hk]
    omega
  · rw [remL_not h]
    omega
theorem remL_step (L : List Lt) (i : Int) (k : Nat) (hk : k < L.length) : remL (L.take (k + 1)) i = if (k : Int) = i then remL (L.take k) i else remL (L.take k) i ++ [L[k]] := by
  have e : L.take (k + 1) = L.take k ++ [L[k]] := by simp
  have hl : (L.take k).length = k := by simp; omega
  have hl1 : (L.take (k + 1)).length = k + 1 := by simp; omega
  rcases isL_split (L.take k) i with ⟨m, rfl, hm⟩ | h
  · rw [hl] at hm
    rw [if_neg (by omega), remL_nat (by rw [hl1]; omega), remL_nat (by rw [hl]; exact hm), e, List.eraseIdx_append_of_lt_length (by rw [hl]; exact hm)]
  · rw [hl] at h
    rw [remL_not (L := L.take k) (by rw [hl]; exact h)]
    by_cases hi : (k : Int) = i
    · rw [if_pos hi, ← hi, remL_nat (by rw [hl1]; omega), e, List.eraseIdx_append_of_length_le (by rw [hl]; omega), hl]
      simp
    · rw [if_neg hi, remL_not (by rw [hl1]; omega), e]

section
variable {w w' w1 w2 : World} {A : Nat} {S T : Nat → Prop} {L : List Lt} {v : Value} {l : Lt}
abbrev ltO (l : Lt) : Obj := .cells #[.int .i64 l.fr, .int .i64 l.to, .string l.text] 28
theorem Pv.at' {g cap k : Nat} (h : Pv w A S L (.slice (some ⟨g, 0, none⟩) L.length cap)) (hk : k < L.length) :
    w.cell? ⟨g, k * 3, none⟩ = some (.int .i64 L[k].fr) ∧ w.cell? ⟨g, k * 3 + 1, none⟩ = some (.int .i64 L[k].to) ∧ w.cell? ⟨g, k * 3 + 2, none⟩ = some (.string L[k].text) := by
  obtain ⟨a, b, c⟩ := ltC_get L k hk
  exact ⟨(h.own.cellAt _ (by omega)).trans a, (h.own.cellAt _ (by omega)).trans b, (h.own.cellAt _ (by omega)).trans c⟩

theorem send_nil (l : Lt) (w : World) : Calls Try.prog 9 #[.pointer none, ltV l] w fun e w' => e = .returned (.tuple #[]) ∧ Below w.heap.size w w' := by
  go_enter Try.func9, Try.ntmps9
  go_wp2
  refine bodyPost_ret (results_none rfl _ _ _) rfl ?_
  exact ⟨rfl, (Below.refl _ w).alloc (Nat.le_refl _) _⟩

set_option maxHeartbeats 2000000 in
theorem has_any (h : Ps w A S L) (i : Int) : Calls Try.prog 16 #[.pointer (some ⟨A, 0, none⟩), .int .i64 i] w fun e w' => e = .returned (.bool (isL L i)) ∧ w' = w := by
  have hlen := len_any h
  rcases isL_split L i with ⟨k, rfl, hk⟩ | hi
  · rw [isL_nat hk]
    have i0 : (0 : Int) ≤ k := by omega
    have i1 : (k : Int) < L.length := by omega
    go_enter Try.func16, Try.ntmps16
    go_wp2_with fail
    refine hlen.mono ?_
    rintro e w1 ⟨rfl, rfl⟩
    go_wp2
    go_ret
    exact ⟨rfl, rfl⟩
  · rw [isL_not hi]
    by_cases i0 : 0 ≤ i
    · have i1 : ¬ i < L.length := by omega
      have i2 : (L.length : Int) ≤ i := by omega
      go_enter Try.func16, Try.ntmps16
      go_wp2_with fail
      refine hlen.mono ?_
      rintro e w1 ⟨rfl, rfl⟩
      go_wp2
      go_ret
      exact ⟨by simp [i1], rfl⟩
    · go_enter Try.func16, Try.ntmps16
      go_wp2
      go_ret
      exact ⟨rfl, rfl⟩
set_option maxHeartbeats 2000000 in
theorem has_nil (i : Int) (w : World) : Calls Try.prog 16 #[.pointer none, .int .i64 i] w fun e w' => e = .returned (.bool false) ∧ w' = w := by
  have hlen := len_nil w
  by_cases i0 : 0 ≤ i
  · have i1 : ¬ i < 0 := by omega
    go_enter Try.func16, Try.ntmps16
    go_wp2_with fail
    refine hlen.mono ?_
    rintro e w1 ⟨rfl, rfl⟩
    go_wp2
    go_ret
    exact ⟨by simp [i1], rfl⟩
  · go_enter Try.func16, Try.ntmps16
    go_wp2
    go_ret
    exact ⟨rfl, rfl⟩

set_option maxHeartbeats 2000000 in
set_option maxRecDepth 100000 in
theorem copy_yes (h : Ps w A S L) {i : Nat} (hi : i < L.length) : Calls Try.prog 11 #[.pointer (some ⟨A, 0, none⟩), .int .i64 i] w fun e w' => e = .returned (.tuple #[ltV L[i], .bool true]) ∧ Below w.heap.size w w' := by
  have hal : Below w.heap.size w (w.alloc (ltO lt0)) := (Below.refl _ w).alloc (Nat.le_refl _) _
  have h1 := h.on hal
  have hhas := has_any h1 i
  rw [isL_nat hi] at hhas
  have hf := h.few
  obtain ⟨v, h2⟩ := h1
  obtain ⟨g, cap, rfl⟩ := h2.form (by omega)
  have c0 := h2.c0
  obtain ⟨x0, x1, x2⟩ := h2.at' hi
  obtain ⟨y, hy⟩ : ∃ y, L[i] = y := ⟨_, rfl⟩
  rw [hy] at x0 x1 x2 ⊢
  have i0 : ¬ (i : Int) < 0 := by omega
  have i1 : ¬ (L.length : Int) ≤ i := by omega
  have i2 : (i : Int) < L.length := by omega
  go_enter Try.func11, Try.ntmps11
  go_wp2_with fail
  refine hhas.mono ?_
  rintro e w1 ⟨rfl, rfl⟩
  go_wp2
  refine bodyPost_ret (v := .tuple #[ltV y, .bool true]) (by simp [results, Try.results11, go_sem]) rfl ?_
  exact ⟨rfl, (Below.refl _ w).alloc (Nat.le_refl _) _⟩
set_option maxHeartbeats 2000000 in
set_option maxRecDepth 100000 in
theorem copy_none {a : Option Addr} {i : Int} (hhas : Calls Try.prog 16 #[.pointer a, .int .i64 i] (w.alloc (ltO lt0)) fun e w' => e = .returned (.bool false) ∧ w' = (w.alloc (ltO lt0))) : Calls Try.prog 11 #[.pointer a, .int .i64 i] w fun e w' => e = .returned (.tuple #[ltV lt0, .bool false]) ∧ Below w.heap.size w w' := by
  have hal : Below w.heap.size w (w.alloc (ltO lt0)) := (Below.refl _ w).alloc (Nat.le_refl _) _
  go_enter Try.func11, Try.ntmps11
  go_wp2_with fail
  refine hhas.mono ?_
  rintro e w1 ⟨rfl, rfl⟩
  go_wp2
  refine bodyPost_ret (v := .tuple #[ltV lt0, .bool false]) (by simp [results, Try.results11, go_sem]) rfl ?_
  exact ⟨rfl, hal⟩
theorem copy_no (h : Ps w A S L) {i : Int} (hi : i < 0 ∨ (L.length : Int) ≤ i) : Calls Try.prog 11 #[.pointer (some ⟨A, 0, none⟩), .int .i64 i] w fun e w' => e = .returned (.tuple #[ltV lt0, .bool false]) ∧ Below w.heap.size w w' := by
  have hal : Below w.heap.size w (w.alloc (ltO lt0)) := (Below.refl _ w).alloc (Nat.le_refl _) _
  have hhas := has_any (h.on hal) i
  rw [isL_not hi] at hhas
  exact copy_none hhas
theorem copy_nil (i : Int) (w : World) : Calls Try.prog 11 #[.pointer none, .int .i64 i] w fun e w' => e = .returned (.tuple #[ltV lt0, .bool false]) ∧ Below w.heap.size w w' := copy_none (has_nil i _)
end
end Go.Proofs.Ytgmlfldjmnoecaa
