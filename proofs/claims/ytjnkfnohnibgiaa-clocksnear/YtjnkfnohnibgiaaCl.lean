/- The walk of least. -/
import Derived.Test.YtjnkfnohnibgiaaCb
namespace Go.Proofs.Ytjnkfnohnibgiaa
open Go.RowKit

section
variable {w w' : World} {A : Nat} {T : List Int} {most : Int} {S : Nat → Prop}
theorem leastC_one {T : List Int} (h : 0 < T.length) {k : Nat} (hk : k < T.length) : leastC (T.drop 1) T[0] = leastC T T[k] := by
  obtain ⟨a1, a2, a3⟩ := least_le (T.drop 1) T[0]
  obtain ⟨b1, b2, b3⟩ := least_le T T[k]
  have m0 : T[0] ∈ T := List.getElem_mem h
  have mk : T[k] ∈ T := List.getElem_mem hk
  have hall : ∀ t ∈ T, leastC (T.drop 1) T[0] ≤ t := by
    intro t ht
    obtain ⟨j, hj, rfl⟩ := List.getElem_of_mem ht
    by_cases h0 : j = 0
    · subst h0; exact a1
    · refine a2 _ ?_
      rw [List.mem_iff_getElem]
      refine ⟨j - 1, by simp; omega, ?_⟩
      have e : j - 1 + 1 = j := by omega
      simp [e]
  have l1 : leastC (T.drop 1) T[0] ≤ leastC T T[k] := by
    rcases b3 with e | e
    · rw [e]; exact hall _ mk
    · exact hall _ e
  have l2 : leastC T T[k] ≤ leastC (T.drop 1) T[0] := by
    rcases a3 with e | e
    · rw [e]; exact b2 _ m0
    · exact b2 _ (List.mem_of_mem_drop e)
  omega
set_option maxHeartbeats 4000000 in
set_option maxRecDepth 100000 in
theorem least_any (h : Cs w A T most) {k : Nat} (hk : k < T.length) {m : Int} (hm : leastC T T[k] = m) : Calls Try.prog 13 #[.pointer (some ⟨A, 0, none⟩)] w fun e w' => e = .returned (.int .i64 m) ∧ w' = w.drew := by
  have hok := h.ok
  have h5 := hok.len5
  have h1 := hok.len1
  obtain ⟨hc, c5, c6⟩ := h.cells
  have h0 : 0 < T.length := by omega
  have cx := hc 0 h0
  have HM := Lib.hid ((leastC_one h0 hk).trans hm)
  clear hm
  obtain ⟨x, hx⟩ : ∃ x, T[0] = x := ⟨_, rfl⟩
  rw [hx] at cx
  have l5 : (T.length : Int) ≤ 5 := by omega
  have l1 : (1 : Int) ≤ T.length := by omega
  go_enter Try.func13, Try.ntmps13
  go_wp2
  go_region
  have hcd : ∀ (j : Nat) (h : j < (T.drop 1).length), w.drew.cell? ⟨A, 1 + j, none⟩ = some (.int .i64 (T.drop 1)[j]) := by
    intro j hj
    have := hc (1 + j) (by simp at hj; omega)
    rw [List.getElem_drop]
    exact this
  have hl : (T.drop 1).length = T.length - 1 := by simp
  rw [← hl]
  have l4 : ((T.drop 1).length : Int) ≤ 4 := by omega
  have HX := Lib.hid hx
  clear hx hc h c5 c6 cx hok hl l5 l1 h5 h1
  obtain ⟨R, hR⟩ : ∃ R, R = T.drop 1 := ⟨_, rfl⟩
  obtain ⟨W, hW⟩ : ∃ W, W = w.drew := ⟨_, rfl⟩
  rw [← hR] at hcd l4 ⊢
  rw [← hW] at hcd ⊢
  have HR := Lib.hid hR
  have HW := Lib.hid hW
  clear hR hW
  go_wp2
  go_loopw [3, 20] (fun lv iv wr => ∃ j : Nat, j ≤ R.length ∧ iv = .int .i64 j ∧ lv = .int .i64 (leastC (R.take j) x) ∧ wr = W) (fun _ iv _ => R.length - (intOf iv).toNat)
  case atStart => exact ⟨0, Nat.zero_le _, rfl, rfl, rfl⟩
  case round =>
    obtain ⟨j, hj, rfl, rfl, rfl⟩ := hrel
    by_cases hjl : j < R.length
    · have j0 : (0 : Int) ≤ j := by omega
      have j1 : (j : Int) < R.length := by omega
      have cj := hcd j hjl
      have hsn := leastC_snoc R j hjl x
      obtain ⟨y, hy⟩ : ∃ y, R[j] = y := ⟨_, rfl⟩
      rw [hy] at cj hsn
      obtain ⟨m, hm⟩ : ∃ m, leastC (R.take j) x = m := ⟨_, rfl⟩
      rw [hm] at hsn ⊢
      have HS := Lib.hid hsn
      clear hsn hy hm hcd
      by_cases hmy : m ≤ y
      all_goals
        go_wp2
        go_roundw
        case rel => exact ⟨j + 1, hjl, by go_num, by rw [HS.out]; congr 1; omega, by first | rfl | trivial⟩
        case measure => simp [intOf]; omega
    · have e : j = R.length := by omega
      have j1 : ¬ (j : Int) < R.length := by omega
      subst e
      rw [List.take_of_length_le (Nat.le_refl _)]
      go_wp2
      go_ret
      have e := HM.out
      rw [HX.out, ← HR.out] at e
      rw [← e]
      exact ⟨rfl, HW.out⟩
end
end Go.Proofs.Ytjnkfnohnibgiaa
