/- The walk of beginnings. -/
import Derived.Test.YtcmdpahchbbicaaDoorWe
namespace Go.Proofs.YtcmdpahchbbicaaDoor
open Go.RowKit

abbrev letT : ByteArray := ⟨#[97, 98, 99, 100, 101, 102, 103, 104, 105, 106, 107, 108, 109, 110, 111, 112, 113, 114, 115, 116, 117, 118, 119, 120, 121, 122]⟩
abbrev numT : ByteArray := ⟨#[45, 48, 49, 50, 51, 52, 53, 54, 55, 56, 57]⟩
abbrev quoT : ByteArray := ⟨#[39]⟩
abbrev sigT : ByteArray := ⟨#[40, 41, 44, 59, 61, 42]⟩
abbrev rdF (f : FuncId) (R : Nat) : Value := .func (.func f) #[.pointer (some ⟨R, 0, none⟩)] #[]
theorem zero_size : Tryd.zeroCells42.size = 256 := by kernel_rfl
theorem zero_all : Tryd.zeroCells42.all (fun v => match v with | .nilFunc => true | _ => false) = true := by kernel_rfl
theorem zero_at (b : UInt8) : Tryd.zeroCells42[b.toNat]? = some .nilFunc := by
  have hb : b.toNat < Tryd.zeroCells42.size := by rw [zero_size]; exact b.toNat_lt
  rw [Array.getElem?_eq_getElem hb]
  have h := Array.all_eq_true.1 zero_all b.toNat hb
  revert h
  cases Tryd.zeroCells42[b.toNat] <;> simp
theorem tab_one {cs : Array Value} (h : cs.all (·.oneCell') = true) {f : Value} (hf : f.oneCell' = true) : ∀ (l : List UInt8), (setAll cs l f).all (·.oneCell') = true := by
  intro l
  induction l generalizing cs with
  | nil => exact h
  | cons c r ih =>
    show (setAll (cs.setIfInBounds c.toNat f) r f).all _ = true
    apply ih
    rw [Array.all_eq_true] at h ⊢
    intro i hi
    rw [Array.getElem_setIfInBounds (by simpa using hi)]
    split
    · exact hf
    · exact h i (by simpa using hi)
theorem zero_one : Tryd.zeroCells42.all (·.oneCell') = true := by kernel_rfl
def begV (R : Nat) (b : UInt8) : Value := if isL b = true then rdF 18 R else if isD b = true ∨ b.toNat = 45 then rdF 19 R else if b.toNat = 39 then rdF 20 R else if isS b = true then rdF 21 R else .nilFunc
theorem any_let (b : UInt8) : letT.data.toList.any (fun c => c == b) = isL b := by
  have h : ∀ n : Fin 256, letT.data.toList.any (fun c => c == UInt8.ofNat n.val) = isL (UInt8.ofNat n.val) := by decide +kernel
  have := h ⟨b.toNat, b.toNat_lt⟩
  simpa using this
theorem any_num (b : UInt8) : numT.data.toList.any (fun c => c == b) = (isD b || decide (b.toNat = 45)) := by
  have h : ∀ n : Fin 256, numT.data.toList.any (fun c => c == UInt8.ofNat n.val) = (isD (UInt8.ofNat n.val) || decide ((UInt8.ofNat n.val).toNat = 45)) := by decide +kernel
  have := h ⟨b.toNat, b.toNat_lt⟩
  simpa using this
theorem any_quo (b : UInt8) : quoT.data.toList.any (fun c => c == b) = decide (b.toNat = 39) := by
  have h : ∀ n : Fin 256, quoT.data.toList.any (fun c => c == UInt8.ofNat n.val) = decide ((UInt8.ofNat n.val).toNat = 39) := by decide +kernel
  have := h ⟨b.toNat, b.toNat_lt⟩
  simpa using this
theorem any_sig (b : UInt8) : sigT.data.toList.any (fun c => c == b) = isS b := by
  have h : ∀ n : Fin 256, sigT.data.toList.any (fun c => c == UInt8.ofNat n.val) = isS (UInt8.ofNat n.val) := by decide +kernel
  have := h ⟨b.toNat, b.toNat_lt⟩
  simpa using this
theorem apart_all (b : UInt8) : (isL b = true → ¬ (isD b = true ∨ b.toNat = 45) ∧ b.toNat ≠ 39 ∧ isS b = false) ∧ ((isD b = true ∨ b.toNat = 45) → b.toNat ≠ 39 ∧ isS b = false) ∧ (b.toNat = 39 → isS b = false) := by
  rw [← Bool.not_eq_true (isS b), isL_iff, isD_iff, isS_iff]
  omega
/-- A table that leads from each byte to how the word is read that begins with it. -/
structure Tab (R : Nat) (cs : Array Value) : Prop where
  size : cs.size = 256
  one : cs.all (·.oneCell') = true
  get : ∀ b : UInt8, cs[b.toNat]? = some (begV R b)
theorem tab_ok (R : Nat) : Tab R (setAll (setAll (setAll (setAll Tryd.zeroCells42 letT.data.toList (rdF 18 R)) numT.data.toList (rdF 19 R)) quoT.data.toList (rdF 20 R)) sigT.data.toList (rdF 21 R)) := by
  refine ⟨by rw [setAll_size, setAll_size, setAll_size, setAll_size, zero_size], tab_one (tab_one (tab_one (tab_one zero_one rfl _) rfl _) rfl _) rfl _, fun b => ?_⟩
  obtain ⟨h1, h2, h3⟩ := apart_all b
  rw [setAll_get _ _ _ _ (by rw [setAll_size, setAll_size, setAll_size, zero_size]), setAll_get _ _ _ _ (by rw [setAll_size, setAll_size, zero_size]), setAll_get _ _ _ _ (by rw [setAll_size, zero_size]), setAll_get _ _ _ _ zero_size, any_let, any_num, any_quo, any_sig, zero_at]
  unfold begV
  by_cases c1 : isL b = true
  · obtain ⟨q1, q2, q3⟩ := h1 c1
    have q4 : isD b = false := by rw [← Bool.not_eq_true]; exact fun e => q1 (.inl e)
    have q5 : ¬ b.toNat = 45 := fun e => q1 (.inr e)
    simp [c1, q2, q3, q4, q5]
  · by_cases c2 : isD b = true ∨ b.toNat = 45
    · obtain ⟨q2, q3⟩ := h2 c2
      simp [c1, c2, q2, q3]
    · have c2' := c2
      simp only [not_or] at c2'
      by_cases c3 : b.toNat = 39
      · have q3 := h3 c3
        simp [c1, c2', c3, q3]
      · by_cases c4 : isS b = true
        · simp [c1, c2', c3, c4]
        · simp [c1, c2', c3, c4]
end Go.Proofs.YtcmdpahchbbicaaDoor
