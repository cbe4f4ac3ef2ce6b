/- The walk of the document's number: digits, with a minus or without. -/
import Derived.Test.YtakpahmngkfpkaaDoorZb
import Derived.Test.YtakpahmngkfpkaaDoorWd
import Derived.Deep.QuietTactic
import Derived.BigQuiet
import Derived.Lib.IndexBytes
namespace Go.Proofs.YtakpahmngkfpkaaDoor
open Go.RowKit

theorem wrapu (z : Int) (h0 : 0 ≤ z) (h1 : z < 18446744073709551616) : IntKind.u64.wrap z = z := by
  simp [IntKind.wrap, IntKind.bits, IntKind.signed]
  omega
def okP (s : ByteArray) (b : Bool) : Prop := (decide ((nv 0 s.data.toList : Int) < 9223372036854775808) && (((s.size : Int) == 1) || (((s.data.toList.headD 0).toNat : Int) != 48))) = b
def okM (m : ByteArray) (b : Bool) : Prop := ((decide ((nv 0 m.data.toList : Int) ≤ 9223372036854775808) && decide (0 < (nv 0 m.data.toList : Int))) && (((m.data.toList.headD 0).toNat : Int) != 48)) = b
theorem head0 (s : ByteArray) (h : 0 < s.size) : s.data.toList.headD 0 = s[0] := by
  obtain ⟨⟨l⟩⟩ := s
  cases l with
  | nil => exact absurd h (by decide)
  | cons a b => rfl
def valP (s : ByteArray) (V : Int) : Prop := wrap64 (nv 0 s.data.toList : Int) = V
def valM (m : ByteArray) (V : Int) : Prop := wrap64 (-(wrap64 (nv 0 m.data.toList : Int))) = V
theorem ret_ib {a c : Int} {b d : Bool} (h : a = c) (h2 : b = d) : Ending.returned (.tuple #[.int .i64 a, .bool b]) = .returned (.tuple #[.int .i64 c, .bool d]) := by rw [h, h2]

set_option maxHeartbeats 2000000 in
set_option maxRecDepth 100000 in
theorem plain_digits (s : ByteArray) (w : World) (hm : ∀ h : 0 < s.size, ((s[0].toNat : Int) == 45) = false) (h1 : 0 < s.size) (hs : s.size ≤ 19) (ha : s.data.toList.all isD = true) :
    Calls Tryd.prog 27 #[.string s] w fun e w' => ∃ (V : Int) (b : Bool), e = .returned (.tuple #[.int .i64 V, .bool b]) ∧ valP s V ∧ okP s b ∧ Below w.heap.size w w' := by
  have t0 := hm h1
  clear hm
  have t1 : (0 : Int) < (s.size : Int) := by omega
  have t2 : ((s.size : Int) == 0) = false := by rw [beq_eq_false_iff_ne]; omega
  have t3 : (s.size : Int) ≤ 19 := by omega
  go_enter Tryd.func27, Tryd.ntmps27
  go_wp2
  go_loop [5, 6] (fun a i => ∃ (k : Nat) (x : Int), k ≤ s.size ∧ i = .int .i64 k ∧ a = .int .u64 x ∧ Hid (x = (nv 0 (s.data.toList.take k) : Int))) (fun _ i => s.size - (intOf i).toNat)
  case atStart => exact ⟨0, 0, by omega, rfl, rfl, rfl⟩
  case round =>
    obtain ⟨k, x, hk, rfl, rfl, HX⟩ := hrel
    by_cases hlt : k < s.size
    · have hd : isD s[k] = true := by
        have := ha
        rw [List.all_eq_true] at this
        exact this _ (by show s.data.toList[k] ∈ _; exact List.getElem_mem _)
      have hdd := (isD_iff _).1 hd
      have d0 : (48 : Int) ≤ (s[k].toNat : Int) := by omega
      have d1 : (s[k].toNat : Int) ≤ 57 := by omega
      have hts := take_snoc s k hlt
      have HN : Hid ((nv 0 (s.data.toList.take (k + 1)) : Int) = x * 10 + ((s[k].toNat : Int) - 48) ∧ 0 ≤ x ∧ x < 1000000000000000000) := by
        have hx := HX.out
        have hb := nv_lt (s.data.toList.take k) 0 (by rw [List.all_eq_true] at ha ⊢; exact fun c hc => ha c (List.mem_of_mem_take hc))
        have hl : (s.data.toList.take k).length ≤ 18 := by have := List.length_take_le k s.data.toList; omega
        have hp : 10 ^ (s.data.toList.take k).length ≤ 10 ^ 18 := Nat.pow_le_pow_right (by decide) hl
        have e18 : (10 : Nat) ^ 18 = 1000000000000000000 := by decide
        refine ⟨?_, by omega, by omega⟩
        rw [hts, nv_snoc]
        omega
      clear hts
      obtain ⟨x0, x1⟩ := HN.out.2
      have w1 : IntKind.u64.wrap (x * 10) = x * 10 := wrapu _ (by omega) (by omega)
      have w2 : IntKind.u64.wrap (x * 10 + ((s[k].toNat : Int) - 48)) = x * 10 + ((s[k].toNat : Int) - 48) := wrapu _ (by omega) (by omega)
      go_wp2
      exact ⟨⟨k + 1, _, by omega, by go_num, rfl, HN.out.1.symm⟩, by simp [intOf]; omega⟩
    · have hkk : k = s.size := by omega
      subst hkk
      have HV : Hid (x = (nv 0 s.data.toList : Int)) := by
        have hx := HX.out
        rw [List.take_of_length_le (by simp)] at hx
        exact hx
      clear HX
      cases c1 : decide (x < 9223372036854775808) <;> cases c2 : ((s.size : Int) == 1) <;> cases c3 : ((s[0].toNat : Int) != 48)
      all_goals
        go_wp2
        go_quiet (fail)
        go_wp2
        go_ret2
        refine ⟨_, _, rfl, ?_, ?_, below_drewN (Below.refl _ _) _⟩
        · unfold valP; rw [← HV.out]
        · unfold okP; rw [head0 _ h1, ← HV.out, c1, c2, c3]; rfl

set_option maxHeartbeats 2000000 in
set_option maxRecDepth 100000 in
theorem plain_bad (s : ByteArray) (w : World) (hm : ∀ h : 0 < s.size, ((s[0].toNat : Int) == 45) = false) (h1 : 0 < s.size) (hs : s.size ≤ 19) (ha : s.data.toList.all isD = false) :
    Calls Tryd.prog 27 #[.string s] w fun e w' => e = .returned (.tuple #[.int .i64 0, .bool false]) ∧ Below w.heap.size w w' := by
  have t0 := hm h1
  clear hm
  have t1 : (0 : Int) < (s.size : Int) := by omega
  have t2 : ((s.size : Int) == 0) = false := by rw [beq_eq_false_iff_ne]; omega
  have t3 : (s.size : Int) ≤ 19 := by omega
  have HA := Lib.hid ha
  clear ha
  go_enter Tryd.func27, Tryd.ntmps27
  go_wp2
  go_loop [5, 6] (fun a i => ∃ (k : Nat) (x : Int), k ≤ s.size ∧ i = .int .i64 k ∧ a = .int .u64 x ∧ Hid ((s.data.toList.take k).all isD = true)) (fun _ i => s.size - (intOf i).toNat)
  case atStart => exact ⟨0, 0, by omega, rfl, rfl, rfl⟩
  case round =>
    obtain ⟨k, x, hk, rfl, rfl, HX⟩ := hrel
    by_cases hlt : k < s.size
    · have hts := take_snoc s k hlt
      by_cases d0 : (s[k].toNat : Int) < 48
      · clear hts
        go_wp2
        go_ret2
        exact ⟨rfl, Below.refl _ _⟩
      · by_cases d1 : (57 : Int) < (s[k].toNat : Int)
        · clear hts
          go_wp2
          go_ret2
          exact ⟨rfl, Below.refl _ _⟩
        · have HN : Hid ((s.data.toList.take (k + 1)).all isD = true) := by
            show _ = _
            rw [hts, List.all_append, HX.out, Bool.true_and, List.all_cons, List.all_nil, Bool.and_true, isD_iff]
            omega
          clear hts
          go_wp2
          exact ⟨⟨k + 1, _, by omega, by go_num, rfl, HN⟩, by simp [intOf]; omega⟩
    · exfalso
      have hx := HX.out
      rw [List.take_of_length_le (by simp; omega)] at hx
      have := HA.out
      rw [hx] at this
      cases this

set_option maxHeartbeats 2000000 in
set_option maxRecDepth 100000 in
theorem minus_digits (s m : ByteArray) (w : World) (h0 : 0 < s.size) (hm : ((s[0].toNat : Int) == 45) = true) (he : s.extract 1 s.size = m) (h1 : 0 < m.size) (hs : m.size ≤ 19) (ha : m.data.toList.all isD = true) :
    Calls Tryd.prog 27 #[.string s] w fun e w' => ∃ (V : Int) (b : Bool), e = .returned (.tuple #[.int .i64 V, .bool b]) ∧ valM m V ∧ okM m b ∧ Below w.heap.size w w' := by
  have t1 : (0 : Int) < (s.size : Int) := by omega
  have t2 : ((m.size : Int) == 0) = false := by rw [beq_eq_false_iff_ne]; omega
  have t3 : (m.size : Int) ≤ 19 := by omega
  go_enter Tryd.func27, Tryd.ntmps27
  go_wp2
  go_loop [5, 6] (fun a i => ∃ (k : Nat) (x : Int), k ≤ m.size ∧ i = .int .i64 k ∧ a = .int .u64 x ∧ Hid (x = (nv 0 (m.data.toList.take k) : Int))) (fun _ i => m.size - (intOf i).toNat)
  case atStart => exact ⟨0, 0, by omega, rfl, rfl, rfl⟩
  case round =>
    obtain ⟨k, x, hk, rfl, rfl, HX⟩ := hrel
    by_cases hlt : k < m.size
    · have hd : isD m[k] = true := by
        have := ha
        rw [List.all_eq_true] at this
        exact this _ (by show m.data.toList[k] ∈ _; exact List.getElem_mem _)
      have hdd := (isD_iff _).1 hd
      have d0 : (48 : Int) ≤ (m[k].toNat : Int) := by omega
      have d1 : (m[k].toNat : Int) ≤ 57 := by omega
      have hts := take_snoc m k hlt
      have HN : Hid ((nv 0 (m.data.toList.take (k + 1)) : Int) = x * 10 + ((m[k].toNat : Int) - 48) ∧ 0 ≤ x ∧ x < 1000000000000000000) := by
        have hx := HX.out
        have hb := nv_lt (m.data.toList.take k) 0 (by rw [List.all_eq_true] at ha ⊢; exact fun c hc => ha c (List.mem_of_mem_take hc))
        have hl : (m.data.toList.take k).length ≤ 18 := by have := List.length_take_le k m.data.toList; omega
        have hp : 10 ^ (m.data.toList.take k).length ≤ 10 ^ 18 := Nat.pow_le_pow_right (by decide) hl
        have e18 : (10 : Nat) ^ 18 = 1000000000000000000 := by decide
        refine ⟨?_, by omega, by omega⟩
        rw [hts, nv_snoc]
        omega
      clear hts
      obtain ⟨x0, x1⟩ := HN.out.2
      have w1 : IntKind.u64.wrap (x * 10) = x * 10 := wrapu _ (by omega) (by omega)
      have w2 : IntKind.u64.wrap (x * 10 + ((m[k].toNat : Int) - 48)) = x * 10 + ((m[k].toNat : Int) - 48) := wrapu _ (by omega) (by omega)
      go_wp2
      exact ⟨⟨k + 1, _, by omega, by go_num, rfl, HN.out.1.symm⟩, by simp [intOf]; omega⟩
    · have hkk : k = m.size := by omega
      subst hkk
      have HV : Hid (x = (nv 0 m.data.toList : Int)) := by
        have hx := HX.out
        rw [List.take_of_length_le (by simp)] at hx
        exact hx
      clear HX
      cases c1 : decide (x ≤ 9223372036854775808) <;> cases c2 : decide (0 < x) <;> cases c3 : ((m[0].toNat : Int) != 48)
      all_goals
        go_wp2
        go_quiet (fail)
        go_wp2
        go_ret2
        refine ⟨_, _, rfl, ?_, ?_, below_drewN (Below.refl _ _) _⟩
        · unfold valM; rw [← HV.out]
        · unfold okM; rw [head0 _ h1, ← HV.out, c1, c2, c3]; rfl

set_option maxHeartbeats 2000000 in
set_option maxRecDepth 100000 in
theorem minus_bad (s m : ByteArray) (w : World) (h0 : 0 < s.size) (hm : ((s[0].toNat : Int) == 45) = true) (he : s.extract 1 s.size = m) (h1 : 0 < m.size) (hs : m.size ≤ 19) (ha : m.data.toList.all isD = false) :
    Calls Tryd.prog 27 #[.string s] w fun e w' => e = .returned (.tuple #[.int .i64 0, .bool false]) ∧ Below w.heap.size w w' := by
  have t1 : (0 : Int) < (s.size : Int) := by omega
  have t2 : ((m.size : Int) == 0) = false := by rw [beq_eq_false_iff_ne]; omega
  have t3 : (m.size : Int) ≤ 19 := by omega
  have HA := Lib.hid ha
  clear ha
  go_enter Tryd.func27, Tryd.ntmps27
  go_wp2
  go_loop [5, 6] (fun a i => ∃ (k : Nat) (x : Int), k ≤ m.size ∧ i = .int .i64 k ∧ a = .int .u64 x ∧ Hid ((m.data.toList.take k).all isD = true)) (fun _ i => m.size - (intOf i).toNat)
  case atStart => exact ⟨0, 0, by omega, rfl, rfl, rfl⟩
  case round =>
    obtain ⟨k, x, hk, rfl, rfl, HX⟩ := hrel
    by_cases hlt : k < m.size
    · have hts := take_snoc m k hlt
      by_cases d0 : (m[k].toNat : Int) < 48
      · clear hts
        go_wp2
        go_ret2
        exact ⟨rfl, Below.refl _ _⟩
      · by_cases d1 : (57 : Int) < (m[k].toNat : Int)
        · clear hts
          go_wp2
          go_ret2
          exact ⟨rfl, Below.refl _ _⟩
        · have HN : Hid ((m.data.toList.take (k + 1)).all isD = true) := by
            show _ = _
            rw [hts, List.all_append, HX.out, Bool.true_and, List.all_cons, List.all_nil, Bool.and_true, isD_iff]
            omega
          clear hts
          go_wp2
          exact ⟨⟨k + 1, _, by omega, by go_num, rfl, HN⟩, by simp [intOf]; omega⟩
    · exfalso
      have hx := HX.out
      rw [List.take_of_length_le (by simp; omega)] at hx
      have := HA.out
      rw [hx] at this
      cases this

end Go.Proofs.YtakpahmngkfpkaaDoor
