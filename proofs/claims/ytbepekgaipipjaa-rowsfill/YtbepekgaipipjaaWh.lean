/- The walks of the document's Stands and Compare. -/
import Derived.Test.YtbepekgaipipjaaWd
import Derived.Deep.QuietTactic
import Derived.BigQuiet
import Derived.Lib.Hide
namespace Go.Proofs.Ytbepekgaipipjaa
open Go.RowKit

theorem cb_end1 (a b : List UInt8) (h : a = []) (h2 : b ≠ []) : Lib.compareBytes a b = -1 := by
  subst h
  cases b with
  | nil => exact absurd rfl h2
  | cons x y => rfl
theorem cb_end2 (a b : List UInt8) (h : b = []) (h2 : a ≠ []) : Lib.compareBytes a b = 1 := by
  subst h
  cases a with
  | nil => exact absurd rfl h2
  | cons x y => rfl
theorem drop_atS (s : ByteArray) (k : Nat) (h : k < s.size) : s.data.toList.drop k = s[k] :: s.data.toList.drop (k + 1) := by
  rw [List.drop_eq_getElem_cons (by simpa using h)]; rfl
theorem drop_nil (s : ByteArray) (k : Nat) (h : ¬ k < s.size) : s.data.toList.drop k = [] := List.drop_eq_nil_of_le (by simp; omega)
theorem drop_ne (s : ByteArray) (k : Nat) (h : k < s.size) : s.data.toList.drop k ≠ [] := by rw [drop_atS s k h]; exact List.cons_ne_nil _ _

set_option maxHeartbeats 1000000 in
set_option maxRecDepth 100000 in
theorem stands_any (a b : ByteArray) (w : World) (ha : a.size ≤ maxLen) (hb : b.size ≤ maxLen) :
    Calls Try.prog 56 #[.string a, .string b] w fun e w' => e = .returned (.int .i64 (Lib.compareBytes a.data.toList b.data.toList)) ∧ Below w.heap.size w w' := by
  unfold maxLen at ha hb
  go_enter Try.func56, Try.ntmps56
  go_wp2
  go_loopw [5] (fun i wr => ∃ k : Nat, k ≤ a.size ∧ k ≤ b.size ∧ i = .int .i64 k ∧ Hid (Lib.compareBytes (a.data.toList.drop k) (b.data.toList.drop k) = Lib.compareBytes a.data.toList b.data.toList) ∧ Below w.heap.size w wr) (fun i _ => a.size - (intOf i).toNat)
  case atStart => exact ⟨0, by omega, by omega, rfl, rfl, Below.refl _ _⟩
  case round =>
    obtain ⟨k, hka, hkb, rfl, H, hw⟩ := hrel
    by_cases h1 : k < a.size
    · by_cases h2 : k < b.size
      · have e1 := drop_atS a k h1
        have e2 := drop_atS b k h2
        by_cases c1 : (a[k].toNat : Int) < (b[k].toNat : Int)
        · have HR : Hid (Lib.compareBytes a.data.toList b.data.toList = -1) := by
            have h := H.out
            rw [e1, e2, Lib.compareBytes, if_pos (UInt8.lt_iff_toNat_lt.2 (by omega))] at h
            exact h.symm
          clear e1 e2 H
          go_wp2
          go_quiet (fail)
          go_wp2
          go_ret
          rw [HR.out]
          exact ⟨rfl, below_drewN hw _⟩
        · by_cases c2 : (b[k].toNat : Int) < (a[k].toNat : Int)
          · have HR : Hid (Lib.compareBytes a.data.toList b.data.toList = 1) := by
              have h := H.out
              rw [e1, e2, Lib.compareBytes, if_neg (by rw [UInt8.lt_iff_toNat_lt]; omega), if_pos (UInt8.lt_iff_toNat_lt.2 (by omega))] at h
              exact h.symm
            clear e1 e2 H
            go_wp2
            go_quiet (fail)
            go_wp2
            go_quiet (fail)
            go_wp2
            go_ret
            rw [HR.out]
            exact ⟨rfl, below_drewN (below_drewN hw _) _⟩
          · have HR : Hid (Lib.compareBytes (a.data.toList.drop (k + 1)) (b.data.toList.drop (k + 1)) = Lib.compareBytes a.data.toList b.data.toList) := by
              have h := H.out
              rw [e1, e2, Lib.compareBytes, if_neg (by rw [UInt8.lt_iff_toNat_lt]; omega), if_neg (by rw [UInt8.lt_iff_toNat_lt]; omega)] at h
              exact h
            clear e1 e2 H
            go_wp2
            go_quiet (fail)
            go_wp2
            go_quiet (fail)
            go_wp2
            exact ⟨⟨k + 1, by omega, by omega, by go_num, HR, below_drewN hw _⟩, by simp [intOf]; omega⟩
      · have HR : Hid (Lib.compareBytes a.data.toList b.data.toList = 1) := by
          have h := H.out
          rw [cb_end2 _ _ (drop_nil b k h2) (drop_ne a k h1)] at h
          exact h.symm
        clear H
        go_wp2
        go_ret
        rw [HR.out]
        exact ⟨rfl, hw⟩
    · by_cases h2 : k < b.size
      · have HR : Hid (Lib.compareBytes a.data.toList b.data.toList = -1) := by
          have h := H.out
          rw [cb_end1 _ _ (drop_nil a k h1) (drop_ne b k h2)] at h
          exact h.symm
        clear H
        go_wp2
        go_ret
        rw [HR.out]
        exact ⟨rfl, hw⟩
      · have HR : Hid (Lib.compareBytes a.data.toList b.data.toList = 0) := by
          have h := H.out
          rw [drop_nil a k h1, drop_nil b k h2] at h
          exact h.symm
        clear H
        go_wp2
        go_ret
        rw [HR.out]
        exact ⟨rfl, hw⟩

end Go.Proofs.Ytbepekgaipipjaa
