/- The walks of fold, unfold, mayEnd, fail. -/
import Derived.Test.YtjhgmncmcklnkaaKd
import Derived.Laws.BitsAllLaws
namespace Go.Proofs.Ytjhgmncmcklnkaa
open Go.RowKit

theorem ret_int {k : IntKind} {a b : Int} (h : a = b) : Ending.returned (.int k a) = .returned (.int k b) := by rw [h]
theorem ret_bool {a b : Bool} (h : a = b) : Ending.returned (.bool a) = .returned (.bool b) := by rw [h]
theorem nat_not (m : Nat) (h : m < 18446744073709551616) : 18446744073709551615 ^^^ m = 18446744073709551615 - m := by
  apply Nat.eq_of_testBit_eq
  intro i
  have e1 : (18446744073709551615 : Nat) = 2 ^ 64 - 1 := by decide
  have e2 : 18446744073709551615 - m = 2 ^ 64 - (m + 1) := by omega
  rw [Nat.xor_comm, Nat.testBit_xor, e2, Nat.testBit_two_pow_sub_succ (by omega), e1, Nat.testBit_two_pow_sub_one]
  by_cases hi : i < 64
  · simp [hi]
  · simp only [hi, decide_false, Bool.xor_false, Bool.false_and]
    exact Nat.testBit_lt_two_pow (Nat.lt_of_lt_of_le h (Nat.pow_le_pow_right (n := 2) (i := 64) (by omega) (by omega)))
theorem not_u64 (m : Nat) (h : m < 18446744073709551616) : Go.bits .xor .u64 IntKind.u64.max (m : Int) = ((18446744073709551615 - m : Nat) : Int) := by
  have := u64_xor_nat 18446744073709551615 m (by omega) h
  rw [nat_not m h] at this
  exact this
theorem fold_pos {n : Int} (h : I64 n) (hn : 0 ≤ n) : IntKind.u64.wrap (IntKind.u64.wrap n * 2) = (zig n : Int) := by
  unfold I64 at h
  rw [IntKind.wrap_u64, IntKind.wrap_u64]
  unfold zig
  rw [if_neg (by omega)]
  omega
theorem fold_neg {n : Int} (h : I64 n) (hn : n < 0) : Go.bits .xor .u64 IntKind.u64.max (IntKind.u64.wrap (IntKind.u64.wrap n * 2)) = (zig n : Int) := by
  unfold I64 at h
  obtain ⟨m, hm⟩ : ∃ m : Nat, IntKind.u64.wrap (IntKind.u64.wrap n * 2) = (m : Int) ∧ m < 18446744073709551616 ∧ (m : Int) = 2 * n + 18446744073709551616 := by
    refine ⟨(2 * n + 18446744073709551616).toNat, ?_, by omega, by omega⟩
    rw [IntKind.wrap_u64, IntKind.wrap_u64]
    omega
  rw [hm.1, not_u64 m hm.2.1]
  unfold zig
  rw [if_pos hn]
  omega
theorem half_pos {z : Nat} (h : z < 18446744073709551616) (e : ¬ z % 2 = 1) : wrap64 ((z : Int) / 2) = zag z := by
  unfold wrap64
  unfold zag
  rw [if_neg e]
  omega
theorem half_neg {z : Nat} (h : z < 18446744073709551616) (e : z % 2 = 1) : wrap64 (Go.bits .xor .u64 IntKind.u64.max ((z : Int) / 2)) = zag z := by
  have h1 : (z : Int) / 2 = ((z / 2 : Nat) : Int) := by omega
  rw [h1, not_u64 (z / 2) (by omega)]
  unfold zag
  rw [if_pos e]
  unfold wrap64
  omega
theorem odd_and {z : Nat} (h : z < 18446744073709551616) (e : z % 2 = 1) : Go.bits .and .u64 (z : Int) 1 = 1 := by
  have := u64_and_nat z 1 h (by omega)
  rw [nat_mask1, e] at this
  exact this
theorem even_and {z : Nat} (h : z < 18446744073709551616) (e : ¬ z % 2 = 1) : Go.bits .and .u64 (z : Int) 1 = 0 := by
  have := u64_and_nat z 1 h (by omega)
  rw [nat_mask1, show z % 2 = 0 by omega] at this
  exact this
/-- A number of 64 bits without a sign. -/
def U64 (z : Nat) : Prop := z < 18446744073709551616

set_option maxHeartbeats 1000000 in
set_option maxRecDepth 100000 in
theorem fold_any (n : Int) (w : World) (h : I64 n) : Calls Try.prog 96 #[.int .i64 n] w fun e w' => e = .returned (.int .u64 (zig n)) ∧ w' = w := by
  have HH := Lib.hid h
  clear h
  obtain ⟨U, hU⟩ : ∃ U, IntKind.u64.wrap n = U := ⟨_, rfl⟩
  have HU := Lib.hid hU
  by_cases hn : n < 0
  · go_enter Try.func96, Try.ntmps96
    go_wp2
    all_goals
      first
        | (exfalso; rename_i hs; exact absurd hs (by decide))
        | (go_ret
           refine ⟨ret_int ?_, rfl⟩
           rw [← HU.out]
           exact fold_neg HH.out hn)
  · go_enter Try.func96, Try.ntmps96
    go_wp2
    go_ret
    refine ⟨ret_int ?_, rfl⟩
    rw [← HU.out]
    exact fold_pos HH.out (by omega)
set_option maxHeartbeats 1000000 in
set_option maxRecDepth 100000 in
theorem unfold_any (z : Nat) (w : World) (h : U64 z) : Calls Try.prog 93 #[.int .u64 z] w fun e w' => e = .returned (.int .i64 (zag z)) ∧ w' = w := by
  by_cases ho : z % 2 = 1
  · have h1 := odd_and h ho
    have h2 := half_neg h ho
    have H2 := Lib.hid h2
    clear h ho h2
    go_enter Try.func93, Try.ntmps93
    go_wp2
    all_goals
      first
        | (exfalso; rename_i hs; exact absurd hs (by decide))
        | (go_ret
           exact ⟨ret_int H2.out, rfl⟩)
  · have h1 := even_and h ho
    have h2 := half_pos h ho
    have H2 := Lib.hid h2
    clear h ho h2
    go_enter Try.func93, Try.ntmps93
    go_wp2
    go_ret
    exact ⟨ret_int H2.out, rfl⟩
set_option maxHeartbeats 1000000 in
set_option maxRecDepth 100000 in
theorem mayEnd_any (b : UInt8) (k : Nat) (hk : k < 10) (w : World) : Calls Try.prog 102 #[.int .u8 b.toNat, .int .i64 k] w fun e w' => e = .returned (.bool (endK (9 - k) b.toNat)) ∧ w' = w := by
  have hb := b.toNat_lt
  obtain ⟨c, hc⟩ : ∃ c : Nat, b.toNat = c := ⟨_, rfl⟩
  rw [hc] at hb ⊢
  clear hc
  by_cases h0 : c = 0
  · subst h0
    have e : endK (9 - k) 0 = decide (k = 0) := by
      unfold endK
      rw [if_pos rfl]
      by_cases q : k = 0
      · simp [q]
      · have : (9 - k == 9) = false := by simp; omega
        simp [q, this]
    rw [e]
    by_cases h1 : k = 0
    · subst h1
      go_enter Try.func102, Try.ntmps102
      go_wp2
      go_ret
      exact ⟨rfl, rfl⟩
    · have h2 : ¬ ((k : Int) = 0) := by omega
      rw [show decide (k = 0) = false by simp [h1]]
      go_enter Try.func102, Try.ntmps102
      go_wp2
      go_ret
      exact ⟨ret_bool (by simp; omega), rfl⟩
  · have e : endK (9 - k) c = (decide (k < 9) || decide (c ≤ 1)) := by
      unfold endK
      rw [if_neg h0]
      congr 2
      simp
      omega
    rw [e]
    clear e
    by_cases h1 : k < 9
    · rw [show decide (k < 9) = true by simp [h1]]
      go_enter Try.func102, Try.ntmps102
      go_wp2
      go_ret
      exact ⟨rfl, rfl⟩
    · rw [show decide (k < 9) = false by simp [h1]]
      by_cases h2 : c ≤ 1
      · rw [show decide (c ≤ 1) = true by simp [h2]]
        go_enter Try.func102, Try.ntmps102
        go_wp2
        go_ret
        exact ⟨ret_bool (by simp; omega), rfl⟩
      · rw [show decide (c ≤ 1) = false by simp [h2]]
        go_enter Try.func102, Try.ntmps102
        go_wp2
        go_ret
        exact ⟨ret_bool (by simp; omega), rfl⟩
set_option maxHeartbeats 1000000 in
set_option maxRecDepth 100000 in
theorem fail_any {w : World} {A : Nat} {S : Nat → Prop} {s : TS} (h : Tp w A S s) : Calls Try.prog 79 #[.pointer (some ⟨A, 0, none⟩)] w fun e w' => e = .returned (.tuple #[]) ∧ Tp w' A S { s with rest := [], bad := true } ∧ Fr w w' S ∧ w'.heap.size = w.heap.size ∧ ∀ k, k ≠ A → w'.heap[k]? = w.heap[k]? := by
  obtain ⟨rv, h⟩ := h
  have hob := h.ob
  have c2 : w.cell? ⟨A, 2, none⟩ = some (.string (txt s.rest)) := cell_blk hob 2
  have c3 : w.cell? ⟨A, 3, none⟩ = some (.bool s.bad) := cell_blk hob 3
  have f2 : w.frozen? ⟨A, 2, none⟩ = false := frozen_blk hob 2
  have f3 : w.frozen? ⟨A, 3, none⟩ = false := frozen_blk hob 3
  have HH := Lib.hid h
  clear h hob
  go_enter Try.func79, Try.ntmps79
  go_wp2
  go_end0
  have h := HH.out
  have e := set_blk (i := 2) (set_blk (i := 3) h.ob (.bool true)) (.string ⟨#[]⟩)
  have hne : ∀ k, k ≠ A → ((w.setCell ⟨A, 3, none⟩ (.bool true)).setCell ⟨A, 2, none⟩ (.string ⟨#[]⟩)).heap[k]? = w.heap[k]? := fun k hk => (set_other (a := ⟨A, 2, none⟩) _ hk).trans (set_other (a := ⟨A, 3, none⟩) _ hk)
  refine ⟨rfl, ⟨rv, ⟨e, own_like h.row (fun k hk => hne k (h.neA k hk)), h.cov, h.covA, fun k hk => by simpa [World.setCell] using h.lt k hk⟩⟩, ?_, by simp [World.setCell], hne⟩
  exact ⟨rfl, rfl, rfl, by simp [World.setCell], fun k _ hk => hne k (fun e => hk (e ▸ h.covA))⟩
end Go.Proofs.Ytjhgmncmcklnkaa
