/- HasPrefix of a quote. -/
import Derived.Test.YtcmdpahchbbicaaDoorWc
namespace Go.Proofs.YtcmdpahchbbicaaDoor
open Go.RowKit

def headQ : List UInt8 → Bool
  | [] => false
  | c :: _ => decide (c.toNat = 39)
theorem ext1 (s : ByteArray) (h : 0 < s.size) : (s.extract 0 1).toList = [s[0]] := by
  rw [Lib.extract_toList]
  have := drop_at s 0 h
  rw [this]
  rfl
theorem head_at (s : ByteArray) (h : 0 < s.size) : headQ s.data.toList = decide (s[0].toNat = 39) := by
  have := drop_at s 0 h
  simp only [List.drop_zero] at this
  rw [this]
  rfl
theorem head_nil (s : ByteArray) (h : ¬ 0 < s.size) : headQ s.data.toList = false := by
  have : s.data.toList = [] := List.eq_nil_of_length_eq_zero (by rw [Array.length_toList]; show s.size = 0; omega)
  rw [this]
  rfl
theorem eq39 (c : UInt8) : ([c] == [(39 : UInt8)]) = decide (c.toNat = 39) := by
  by_cases h : c.toNat = 39
  · have : c = 39 := UInt8.toNat_inj.1 h
    subst this
    rfl
  · rw [decide_eq_false h, beq_eq_false_iff_ne]
    intro e
    simp at e
    subst e
    exact h rfl
set_option maxHeartbeats 1000000 in
set_option maxRecDepth 100000 in
theorem pre35 (s : ByteArray) (w : World) (hs : s.size ≤ 1024) : Calls Tryd.prog 35 #[.string s, .string ⟨#[39]⟩] w fun e w' => e = .returned (.bool (headQ s.data.toList)) ∧ w' = w := by
  by_cases h : 0 < s.size
  · have h1 : (1 : Int) ≤ (s.size : Int) := by omega
    have h2 : ((s.extract 0 1).toList == [39]) = headQ s.data.toList := by rw [ext1 s h, head_at s h]; exact eq39 _
    obtain ⟨q, hq⟩ : ∃ q, headQ s.data.toList = q := ⟨_, rfl⟩
    rw [hq] at h2 ⊢
    clear hq
    go_enter Tryd.func35, Tryd.ntmps35
    go_wp2
    go_ret
    exact ⟨by simp, rfl⟩
  · have h1 : ¬ (1 : Int) ≤ (s.size : Int) := by omega
    rw [head_nil s h]
    go_enter Tryd.func35, Tryd.ntmps35
    go_wp2
    go_ret
    exact ⟨rfl, rfl⟩
set_option maxHeartbeats 1000000 in
theorem pre_any (s : ByteArray) (w : World) (hs : s.size ≤ 1024) : Calls Tryd.prog 29 #[.string s, .string ⟨#[39]⟩] w fun e w' => e = .returned (.bool (headQ s.data.toList)) ∧ w' = w := by
  obtain ⟨q, hq⟩ : ∃ q, headQ s.data.toList = q := ⟨_, rfl⟩
  have hcl : ∀ X, Calls Tryd.prog 35 #[.string s, .string ⟨#[39]⟩] X fun e w' => e = .returned (.bool q) ∧ w' = X := fun X => by rw [← hq]; exact pre35 s X hs
  have HC := Lib.hid hcl
  rw [hq]
  clear hcl hq
  go_enter Tryd.func29, Tryd.ntmps29
  go_wp2_with (go_at_call 35; refine (HC.out _).mono ?_; rintro e w1 ⟨rfl, rfl⟩; refine Hid.out ?_)
  refine Lib.hid ?_
  go_wp2
  go_ret
  exact ⟨rfl, rfl⟩
end Go.Proofs.YtcmdpahchbbicaaDoor
