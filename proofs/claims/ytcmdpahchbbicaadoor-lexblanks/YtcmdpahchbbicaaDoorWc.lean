/- The walk of past; HasPrefix of a quote. -/
import Derived.Test.YtcmdpahchbbicaaDoorWb
namespace Go.Proofs.YtcmdpahchbbicaaDoor
open Go.RowKit

theorem drop_at (s : ByteArray) (k : Nat) (h : k < s.size) : s.data.toList.drop k = s[k] :: s.data.toList.drop (k + 1) := by
  rw [List.drop_eq_getElem_cons (by simpa using h)]; rfl
theorem cnt_no {p : UInt8 → Bool} {c : UInt8} {r : List UInt8} (h : p c = false) : cnt p (c :: r) = 0 := by simp [cnt, h]
theorem cnt_yes {p : UInt8 → Bool} {c : UInt8} {r : List UInt8} (h : p c = true) : cnt p (c :: r) = cnt p r + 1 := by simp [cnt, h]
set_option maxHeartbeats 1000000 in
set_option maxRecDepth 100000 in
theorem past_any {w : World} {R : Nat} {s t : ByteArray} {k : Nat} (p : UInt8 → Bool) (c0 : w.cell? ⟨R, 0, none⟩ = some (.string s)) (hp : ∀ c, inS t c = p c) (hk : k ≤ s.size) (hs : s.size ≤ 1024) :
    Calls Tryd.prog 13 #[.pointer (some ⟨R, 0, none⟩), .int .i64 k, .string t] w fun e w' => e = .returned (.int .i64 ((k + cnt p (s.data.toList.drop k) : Nat) : Int)) ∧ w' = w := by
  have HP := Lib.hid hp
  obtain ⟨m, hm⟩ : ∃ m, k + cnt p (s.data.toList.drop k) = m := ⟨_, rfl⟩
  rw [hm]
  have HM := Lib.hid hm
  clear hp hm
  go_enter Tryd.func13, Tryd.ntmps13
  go_wp2
  go_loopw [1] (fun i wr => ∃ j : Nat, k ≤ j ∧ j ≤ s.size ∧ i = .int .i64 j ∧ wr = w ∧ Hid (j + cnt p (s.data.toList.drop j) = m)) (fun i _ => s.size - (intOf i).toNat)
  case atStart => exact ⟨k, Nat.le_refl _, hk, rfl, rfl, HM⟩
  case round =>
    obtain ⟨j, hkj, hj, rfl, rfl, HJ⟩ := hrel
    clear HM
    by_cases hlt : j < s.size
    · have hlt' : (j : Int) < (s.size : Int) := by omega
      have hda := drop_at s j hlt
      obtain ⟨x, hx⟩ : ∃ x, Lib.indexByte t.data.toList s[j] = x := ⟨_, rfl⟩
      have hcall : ∀ X, Calls Tryd.prog 22 #[.string t, .int .u8 s[j].toNat] X fun e w' => e = .returned (.int .i64 x) ∧ w' = X := fun X => by rw [← hx]; exact index_any t s[j] X
      have HC := Lib.hid hcall
      clear hcall
      have hpx : p s[j] = decide (0 ≤ x) := by rw [← HP.out, ← hx]; rfl
      by_cases h0 : 0 ≤ x
      · have HN : Hid (j + 1 + cnt p (s.data.toList.drop (j + 1)) = m) := by
          have h := HJ.out
          rw [hda, cnt_yes (by rw [hpx]; exact decide_eq_true h0)] at h
          exact (by omega : j + 1 + cnt p (s.data.toList.drop (j + 1)) = m)
        clear hda HJ hpx hx HP
        go_wp2_with (go_at_call 22; refine (HC.out _).mono ?_; rintro e w1 ⟨rfl, rfl⟩; refine Hid.out ?_)
        refine Lib.hid ?_
        go_wp2
        exact ⟨⟨j + 1, by omega, by omega, by go_num, by first | rfl | trivial, HN⟩, by simp [intOf]; omega⟩
      · have HN : Hid (j = m) := by
          have h := HJ.out
          rw [hda, cnt_no (by rw [hpx]; exact decide_eq_false h0)] at h
          exact (by omega : j = m)
        clear hda HJ hpx hx HP
        go_wp2_with (go_at_call 22; refine (HC.out _).mono ?_; rintro e w1 ⟨rfl, rfl⟩; refine Hid.out ?_)
        refine Lib.hid ?_
        go_wp2
        go_ret
        exact ⟨by have q := HN.out; clear HN; subst q; rfl, rfl⟩
    · have HN : Hid (j = m) := by
        have h := HJ.out
        rw [List.drop_eq_nil_of_le (by simp; omega)] at h
        exact h
      have hlt' : ¬ (j : Int) < (s.size : Int) := by omega
      clear HJ HP
      go_wp2
      go_ret
      exact ⟨by have q := HN.out; clear HN; subst q; rfl, rfl⟩
end Go.Proofs.YtcmdpahchbbicaaDoor
