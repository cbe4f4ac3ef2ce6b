/- The walks of cmp.Compare, cmp.Or, strings.Compare and of the document's Stands: what each answers at every input. -/
import Derived.Test.YtakpahmngkfpkaaDoorRows
import Derived.WalkKit
import Derived.WalkSpells
import Derived.WalkLawsBesides
import Derived.Lib.Bytealg
import Derived.Deep.QuietTactic
import Derived.BigQuiet
namespace Go.Proofs.YtakpahmngkfpkaaDoor
open Go.RowKit

def cmpI (x y : Int) : Int := if x < y then -1 else if y < x then 1 else 0

set_option maxHeartbeats 400000 in
theorem cmpInt_any (x y : Int) (w : World) : Calls Tryd.prog 19 #[.int .i64 x, .int .i64 y] w fun e w' => e = .returned (.int .i64 (cmpI x y)) ∧ w' = w := by
  have hx : (x != x) = false := by simp
  have hy : (y != y) = false := by simp
  by_cases h1 : x < y
  · have hc : cmpI x y = -1 := by unfold cmpI; rw [if_pos h1]
    rw [hc]; clear hc
    go_enter Tryd.func19, Tryd.ntmps19
    go_wp2
    go_ret
    exact ⟨rfl, rfl⟩
  · by_cases h2 : y < x
    · have hc : cmpI x y = 1 := by unfold cmpI; rw [if_neg h1, if_pos h2]
      rw [hc]; clear hc
      go_enter Tryd.func19, Tryd.ntmps19
      go_wp2
      go_ret
      exact ⟨rfl, rfl⟩
    · have hc : cmpI x y = 0 := by unfold cmpI; rw [if_neg h1, if_neg h2]
      rw [hc]; clear hc
      go_enter Tryd.func19, Tryd.ntmps19
      go_wp2
      go_ret
      exact ⟨rfl, rfl⟩

set_option maxHeartbeats 400000 in
theorem cmpInt64_any (x y : Int) (w : World) : Calls Tryd.prog 20 #[.int .i64 x, .int .i64 y] w fun e w' => e = .returned (.int .i64 (cmpI x y)) ∧ w' = w := by
  have hx : (x != x) = false := by simp
  have hy : (y != y) = false := by simp
  by_cases h1 : x < y
  · have hc : cmpI x y = -1 := by unfold cmpI; rw [if_pos h1]
    rw [hc]; clear hc
    go_enter Tryd.func20, Tryd.ntmps20
    go_wp2
    go_ret
    exact ⟨rfl, rfl⟩
  · by_cases h2 : y < x
    · have hc : cmpI x y = 1 := by unfold cmpI; rw [if_neg h1, if_pos h2]
      rw [hc]; clear hc
      go_enter Tryd.func20, Tryd.ntmps20
      go_wp2
      go_ret
      exact ⟨rfl, rfl⟩
    · have hc : cmpI x y = 0 := by unfold cmpI; rw [if_neg h1, if_neg h2]
      rw [hc]; clear hc
      go_enter Tryd.func20, Tryd.ntmps20
      go_wp2
      go_ret
      exact ⟨rfl, rfl⟩

set_option maxHeartbeats 1000000 in
set_option maxRecDepth 100000 in
theorem compareString_any (a b : ByteArray) (w : World) :
    Calls Tryd.prog 31 #[.string a, .string b] w fun e w' => e = .returned (.int .i64 (Lib.compareBytes a.data.toList b.data.toList)) ∧ w' = w := by
  go_enter Tryd.func31, Tryd.ntmps31
  go_wp2
  rw [run_callFunc_extern Tryd.func35 (by kernel_rfl) (by kernel_rfl) (by kernel_rfl) (e := Extern.BytealgCompare.compare) (by kernel_rfl), Lib.run_compareString]
  simp only [Result.andThen]
  rw [Oper.upon_value]
  go_wp2
  go_ret
  exact ⟨rfl, rfl⟩

set_option maxHeartbeats 400000 in
theorem strCompare_any (a b : ByteArray) (w : World) :
    Calls Tryd.prog 21 #[.string a, .string b] w fun e w' => e = .returned (.int .i64 (Lib.compareBytes a.data.toList b.data.toList)) ∧ w' = w := by
  go_enter Tryd.func21, Tryd.ntmps21
  go_wp2_with (go_at_call 31; refine (compareString_any _ _ _).mono ?_; rintro e w' ⟨rfl, rfl⟩)
  go_ret
  exact ⟨rfl, rfl⟩

def orI (a b c : Int) : Int := if a = 0 then if b = 0 then c else b else a

set_option maxHeartbeats 400000 in
theorem or3_any (a b c : Int) (g : Nat) (w : World) (h0 : w.cell? ⟨g, 0, none⟩ = some (.int .i64 a)) (h1 : w.cell? ⟨g, 1, none⟩ = some (.int .i64 b)) (h2 : w.cell? ⟨g, 2, none⟩ = some (.int .i64 c)) :
    Calls Tryd.prog 18 #[.slice (some ⟨g, 0, none⟩) 3 3] w fun e w' => e = .returned (.int .i64 (orI a b c)) ∧ w' = w := by
  go_enter Tryd.func18, Tryd.ntmps18
  go_wp2
  go_loop [8] (fun i => ∃ k : Nat, k ≤ 3 ∧ i = .int .i64 k ∧ Hid ((1 ≤ k → a = 0) ∧ (2 ≤ k → b = 0) ∧ (3 ≤ k → c = 0))) (fun i => 3 - (intOf i).toNat)
  case atStart => exact ⟨0, by omega, rfl, ⟨by omega, by omega, by omega⟩⟩
  case round =>
    obtain ⟨k, hk, rfl, H⟩ := hrel
    match k, hk, H with
    | 0, _, H =>
      by_cases ha : a = 0
      · have hA : (a != 0) = false := by simp [ha]
        have HA : Hid (a = 0) := ha
        clear ha
        go_wp2
        go_round
        case rel => exact ⟨1, by omega, by go_num, ⟨fun _ => HA.out, by omega, by omega⟩⟩
        case measure => simp [intOf]
      · have hA : (a != 0) = true := by simp [ha]
        have HA : Hid (orI a b c = a) := by unfold orI; exact if_neg ha
        clear ha
        go_wp2
        go_ret
        rw [HA.out]
        exact ⟨rfl, rfl⟩
    | 1, _, H =>
      by_cases hb : b = 0
      · have hB : (b != 0) = false := by simp [hb]
        have HB : Hid (b = 0) := hb
        clear hb
        go_wp2
        go_round
        case rel => exact ⟨2, by omega, by go_num, ⟨fun _ => H.out.1 (by omega), fun _ => HB.out, by omega⟩⟩
        case measure => simp [intOf]
      · have hB : (b != 0) = true := by simp [hb]
        have HB : Hid (orI a b c = b) := by unfold orI; rw [if_pos (H.out.1 (by omega)), if_neg hb]; rfl
        clear hb
        go_wp2
        go_ret
        rw [HB.out]
        exact ⟨rfl, rfl⟩
    | 2, _, H =>
      by_cases hc : c = 0
      · have hC : (c != 0) = false := by simp [hc]
        have HC : Hid (c = 0) := hc
        clear hc
        go_wp2
        go_round
        case rel => exact ⟨3, by omega, by go_num, ⟨fun _ => H.out.1 (by omega), fun _ => H.out.2.1 (by omega), fun _ => HC.out⟩⟩
        case measure => simp [intOf]
      · have hC : (c != 0) = true := by simp [hc]
        have HC : Hid (orI a b c = c) := by unfold orI; rw [if_pos (H.out.1 (by omega)), if_pos (H.out.2.1 (by omega))]; rfl
        clear hc
        go_wp2
        go_ret
        rw [HC.out]
        exact ⟨rfl, rfl⟩
    | 3, _, H =>
      have HC : Hid (orI a b c = 0) := by unfold orI; rw [if_pos (H.out.1 (by omega)), if_pos (H.out.2.1 (by omega))]; exact H.out.2.2 (by omega)
      go_wp2
      go_ret
      rw [HC.out]
      exact ⟨rfl, rfl⟩
end Go.Proofs.YtakpahmngkfpkaaDoor
