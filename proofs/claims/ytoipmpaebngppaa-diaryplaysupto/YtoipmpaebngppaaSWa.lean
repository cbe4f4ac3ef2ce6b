/- The walks of strip.addByte, strip.Sum and the document's Sum. -/
import Derived.Test.YtoipmpaebngppaaSYa
import Derived.Test.YtoipmpaebngppaaRows
import Derived.WalkKit
import Derived.WalkSpells
import Derived.WalkLawsBesides
import Derived.Lib.Slices
import Derived.Lib.Hide
import Derived.Laws.IdiomStrings
import Derived.Laws.BitsAllLaws
import Derived.Laws.BytesArg
import Derived.OwnWalk
import Derived.BigCall
namespace Go.Proofs.Ytoipmpaebngppaa
open Go.RowKit

theorem ret_int {k : IntKind} {a b : Int} (h : a = b) : Ending.returned (.int k a) = .returned (.int k b) := by rw [h]
theorem xor_at (x : Nat) (b : UInt8) (h : x < 4294967296) : Go.bits .xor .u32 (x : Int) (b.toNat : Int) = ((x ^^^ b.toNat : Nat) : Int) := u32_xor_nat x b.toNat h (by have := b.toNat_lt; omega)
theorem and_odd (m : Nat) (h : m < 4294967296) (e : m % 2 = 1) : Go.bits .and .u32 (m : Int) 1 = 1 := by
  have := u32_and_nat m 1 h (by omega)
  rw [nat_mask1, e] at this
  exact this
theorem and_even (m : Nat) (h : m < 4294967296) (e : ¬ m % 2 = 1) : Go.bits .and .u32 (m : Int) 1 = 0 := by
  have := u32_and_nat m 1 h (by omega)
  rw [nat_mask1, show m % 2 = 0 by omega] at this
  exact this
theorem xor_odd (m : Nat) (h : m < 4294967296) (e : m % 2 = 1) : Go.bits .xor .u32 ((m : Int) / 2) 3988292384 = (bitN m : Int) := by
  have := u32_xor_nat (m / 2) 3988292384 (by omega) (by omega)
  unfold bitN
  rw [if_pos e]
  exact this
theorem half_even (m : Nat) (e : ¬ m % 2 = 1) : (m : Int) / 2 = (bitN m : Int) := by
  unfold bitN
  rw [if_neg e]
  omega

set_option maxHeartbeats 1000000 in
set_option maxRecDepth 100000 in
theorem addByte_any (x : Nat) (b : UInt8) (w : World) (h : x < 4294967296) :
    Calls Try.prog 69 #[.int .u32 x, .int .u8 b.toNat] w fun e w' => e = .returned (.int .u32 (addB x b)) ∧ w' = w := by
  have hx := xor_at x b h
  have hb := b.toNat_lt
  have hy := xorb_lt x b h
  obtain ⟨y, hY⟩ : ∃ y, x ^^^ b.toNat = y := ⟨_, rfl⟩
  have HA : Hid (addB x b = bitsK 8 y) := by
    show _ = _
    rw [← hY]
    rfl
  rw [hY] at hx hy
  clear hY
  go_enter Try.func69, Try.ntmps69
  go_wp2
  go_loop [0, 10] (fun v i => ∃ k : Nat, k ≤ 8 ∧ i = .int .i64 k ∧ v = .int .u32 (bitsK k y)) (fun _ i => 8 - (intOf i).toNat)
  case atStart => exact ⟨0, by omega, rfl, rfl⟩
  case round =>
    obtain ⟨k, hk, rfl, rfl⟩ := hrel
    have hm := bitsK_lt k y hy
    have HS : Hid (bitsK (k + 1) y = bitN (bitsK k y)) := rfl
    obtain ⟨m, hM⟩ : ∃ m, bitsK k y = m := ⟨_, rfl⟩
    rw [hM] at hm HS ⊢
    have HM := Lib.hid hM
    clear hM
    by_cases hlt : k < 8
    · by_cases ho : m % 2 = 1
      · have h1 := and_odd m hm ho
        have h2 := xor_odd m hm ho
        clear ho
        go_wp2
        go_round
        case rel => exact ⟨k + 1, by omega, by go_num, by rw [HS.out]⟩
        case measure => simp [intOf]; omega
      · have h1 := and_even m hm ho
        have h2 := half_even m ho
        clear ho
        go_wp2
        go_round
        case rel => exact ⟨k + 1, by omega, by go_num, by rw [HS.out]⟩
        case measure => simp [intOf]; omega
    · go_wp2
      go_ret
      have : k = 8 := by omega
      subst this
      exact ⟨ret_int (by rw [HA.out, HM.out]), rfl⟩

theorem turn_at (m : Nat) (h : m < 4294967296) : Go.bits .xor .u32 IntKind.u32.max (m : Int) = ((4294967295 - m : Nat) : Int) := by
  have := u32_xor_nat 4294967295 m (by omega) h
  rw [Nat.xor_comm, turn32 m h] at this
  exact this
theorem turn_at' (m : Nat) (h : m < 4294967296) : Go.bits .xor .u32 (m : Int) 4294967295 = ((4294967295 - m : Nat) : Int) := by
  have := u32_xor_nat m 4294967295 h (by omega)
  rw [turn32 m h] at this
  exact this
theorem take_snoc (s : ByteArray) (k : Nat) (h : k < s.size) : s.data.toList.take (k + 1) = s.data.toList.take k ++ [s[k]] := by
  rw [List.take_succ_eq_append_getElem (by simpa using h)]; rfl
theorem crc_step (s : ByteArray) (k : Nat) (h : k < s.size) : crcL 4294967295 (s.data.toList.take (k + 1)) = addB (crcL 4294967295 (s.data.toList.take k)) s[k] := by
  rw [take_snoc s k h, crcL_snoc]

set_option maxHeartbeats 1000000 in
set_option maxRecDepth 100000 in
theorem sum_any (s : ByteArray) (w : World) (hs : s.size ≤ maxLen) :
    Calls Try.prog 63 #[.string s] w fun e w' => e = .returned (.int .u32 (sumL s.data.toList)) ∧ w' = w := by
  unfold maxLen at hs
  have HR : Hid (sumL s.data.toList = 4294967295 - crcL 4294967295 s.data.toList) := rfl
  go_enter Try.func63, Try.ntmps63
  go_wp2
  go_loop [3, 7] (fun v i => ∃ k : Nat, k ≤ s.size ∧ i = .int .i64 k ∧ v = .int .u32 (crcL 4294967295 (s.data.toList.take k))) (fun _ i => s.size - (intOf i).toNat)
  case atStart => exact ⟨0, by omega, rfl, rfl⟩
  case round =>
    obtain ⟨k, hk, rfl, rfl⟩ := hrel
    have hm := crcL_lt (s.data.toList.take k) 4294967295 (by omega)
    by_cases hlt : k < s.size
    · have HS := Lib.hid (crc_step s k hlt)
      obtain ⟨m, hM⟩ : ∃ m, crcL 4294967295 (s.data.toList.take k) = m := ⟨_, rfl⟩
      rw [hM] at hm HS ⊢
      clear hM
      go_wp2_with (go_at_call 69; refine (addByte_any _ _ _ hm).mono ?_; rintro e w1 ⟨rfl, rfl⟩)
      go_round
      case rel => exact ⟨k + 1, by omega, by go_num, by rw [HS.out]⟩
      case measure => simp [intOf]; omega
    · rw [List.take_of_length_le (by simp; omega)] at hm ⊢
      obtain ⟨m, hM⟩ : ∃ m, crcL 4294967295 s.data.toList = m := ⟨_, rfl⟩
      rw [hM] at hm HR ⊢
      clear hM
      have h1 := turn_at m hm
      have hsg : IntKind.u32.signed = false := rfl
      go_wp2
      go_ret
      exact ⟨ret_int (by rw [HR.out]), rfl⟩

theorem rem_odd (m : Nat) (e : m % 2 = 1) : (m : Int) % 2 = 1 := by omega
theorem rem_even (m : Nat) (e : ¬ m % 2 = 1) : (m : Int) % 2 = 0 := by omega

set_option maxHeartbeats 1000000 in
set_option maxRecDepth 100000 in
theorem refSum_any (s : ByteArray) (w : World) (hs : s.size ≤ maxLen) :
    Calls Try.prog 53 #[.string s] w fun e w' => e = .returned (.int .u32 (sumL s.data.toList)) ∧ w' = w := by
  unfold maxLen at hs
  have HR : Hid (sumL s.data.toList = 4294967295 - crcL 4294967295 s.data.toList) := rfl
  go_enter Try.func53, Try.ntmps53
  go_wp2
  go_loop [3, 4] (fun v i => ∃ k : Nat, k ≤ s.size ∧ i = .int .i64 k ∧ v = .int .u32 (crcL 4294967295 (s.data.toList.take k))) (fun _ i => s.size - (intOf i).toNat)
  case atStart => exact ⟨0, by omega, rfl, rfl⟩
  case round =>
    obtain ⟨k, hk, rfl, rfl⟩ := hrel
    have hm := crcL_lt (s.data.toList.take k) 4294967295 (by omega)
    by_cases hlt : k < s.size
    · have HS := Lib.hid (crc_step s k hlt)
      obtain ⟨x, hM⟩ : ∃ m, crcL 4294967295 (s.data.toList.take k) = m := ⟨_, rfl⟩
      rw [hM] at hm HS ⊢
      clear hM
      have hx := xor_at x s[k] hm
      have hb := (s[k]).toNat_lt
      have hy := xorb_lt x s[k] hm
      obtain ⟨y, hY⟩ : ∃ y, x ^^^ (s[k]).toNat = y := ⟨_, rfl⟩
      have HA : Hid (addB x s[k] = bitsK 8 y) := by
        show _ = _
        rw [← hY]
        rfl
      rw [hY] at hx hy
      clear hY
      go_wp2
      go_loop [3, 5] (fun v i => ∃ j : Nat, j ≤ 8 ∧ i = .int .i64 j ∧ v = .int .u32 (bitsK j y)) (fun _ i => 8 - (intOf i).toNat)
      case atStart => exact ⟨0, by omega, rfl, rfl⟩
      case round =>
        obtain ⟨j, hj, rfl, rfl⟩ := hrel
        have hm := bitsK_lt j y hy
        have HT : Hid (bitsK (j + 1) y = bitN (bitsK j y)) := rfl
        obtain ⟨m, hM⟩ : ∃ m, bitsK j y = m := ⟨_, rfl⟩
        rw [hM] at hm HT ⊢
        have HM := Lib.hid hM
        clear hM hx
        by_cases hlt8 : j < 8
        · by_cases ho : m % 2 = 1
          · have h1 := rem_odd m ho
            have h2 := xor_odd m hm ho
            clear ho
            go_wp2
            go_round
            case rel => exact ⟨j + 1, by omega, by go_num, by rw [HT.out]⟩
            case measure => simp [intOf]; omega
          · have h1 := rem_even m ho
            have h2 := half_even m ho
            clear ho
            go_wp2
            go_round
            case rel => exact ⟨j + 1, by omega, by go_num, by rw [HT.out]⟩
            case measure => simp [intOf]; omega
        · have h8 : j = 8 := by omega
          subst h8
          go_wp2
          go_round
          case rel => exact ⟨k + 1, by omega, by go_num, by rw [HS.out, HA.out, HM.out]⟩
          case measure => simp [intOf]; omega
    · rw [List.take_of_length_le (by simp; omega)] at hm ⊢
      obtain ⟨m, hM⟩ : ∃ m, crcL 4294967295 s.data.toList = m := ⟨_, rfl⟩
      rw [hM] at hm HR ⊢
      clear hM
      have h1 := turn_at' m hm
      go_wp2
      go_ret
      exact ⟨ret_int (by rw [HR.out]), rfl⟩
end Go.Proofs.Ytoipmpaebngppaa
