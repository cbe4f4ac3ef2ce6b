/- The walk of the statement PostCopies. -/
import Derived.Test.YtgmlfldjmnoecaaGf
namespace Go.Proofs.Ytgmlfldjmnoecaa
open Go.RowKit

theorem str_self (s : ByteArray) : (s.toList == s.toList) = true := by simp
theorem take_snoc (L : List Lt) (k : Nat) (h : k < L.length) : L.take (k + 1) = L.take k ++ [L[k]] := by simp

set_option maxHeartbeats 8000000 in
set_option maxRecDepth 100000 in
theorem copies_law {L : List Lt} {ad : Option Addr} {cap : Nat} {w : World} {i n : Int} (hL : Lk L ad w) :
    Calls Try.prog 5 #[.slice ad L.length cap, .int .i64 i, .int .i64 n] w fun e w' => e = .returned (.bool true) ∧ Below w.heap.size w w' := by
  by_cases hbig : 300 < L.length ∨ 100 < n
  · have hbig' : (300 : Int) < L.length ∨ (¬ (300 : Int) < L.length ∧ 100 < n) := by omega
    rcases hbig' with h | ⟨h, h'⟩
    all_goals
      go_enter Try.func5, Try.ntmps5
      go_wp2_with fail
      refine (awake_any w).mono ?_
      rintro e w1 ⟨rfl, hb1⟩
      go_wp2_with fail
      refine (awake_any w1).mono ?_
      rintro e w2 ⟨rfl, hb2⟩
      go_wp2
      go_ret
      exact ⟨rfl, hb1.trans (hb2.mono hb1.size)⟩
  · have n1 : ¬ (300 : Int) < L.length := by omega
    have n2 : ¬ 100 < n := by omega
    have n3 : (L.length : Int) ≤ 300 := by omega
    go_enter Try.func5, Try.ntmps5
    go_wp2_with fail
    refine (awake_any w).mono ?_
    rintro e w1 ⟨rfl, hb1⟩
    go_wp2_with fail
    refine (bk_new hb1).mono ?_
    rintro e w2 ⟨A, rfl, h2⟩
    go_wp2
    go_loopw [28] (fun iv wr => ∃ k : Nat, k ≤ L.length ∧ iv = .int .i64 k ∧ Bk w wr A (L.take k) []) (fun iv _ => L.length - (intOf iv).toNat)
    case atStart => exact ⟨0, Nat.zero_le _, rfl, h2⟩
    case round =>
      obtain ⟨k, hk, rfl, hB⟩ := hrel
      by_cases hkl : k < L.length
      · have hki : (k : Int) < L.length := by omega
        have k0 : (0 : Int) ≤ k := by omega
        obtain ⟨b, o, rfl, hbl, c0, c1, c2⟩ := (hL.on hB.below).at' k hkl
        have hst := take_snoc L k hkl
        obtain ⟨y, hy⟩ : ∃ y, L[k] = y := ⟨_, rfl⟩
        rw [hy] at c0 c1 c2 hst
        have hsend := bk_send (hB.on ((Below.refl _ wr).alloc (Nat.le_refl _) (ltO y))) (by simp; omega) y
        rw [← hst] at hsend
        clear hst hy
        go_wp2_with fail
        refine hsend.mono ?_
        rintro e w3 ⟨rfl, h3⟩
        go_wp2
        go_roundw
        case rel => exact ⟨k + 1, hkl, by go_num, h3⟩
        case measure => simp [intOf]; omega
      · have e : k = L.length := by omega
        have hki : ¬ (k : Int) < L.length := by omega
        subst e
        rw [List.take_of_length_le (Nat.le_refl _)] at hB
        by_cases hn0 : 0 < n
        · have hn1 : ¬ n < 0 := by omega
          go_wp2
          go_loopw [38] (fun iv wr => ∃ k : Nat, (k : Int) ≤ n ∧ iv = .int .i64 k ∧ Bk w wr A L []) (fun iv _ => (n : Int).toNat - (intOf iv).toNat)
          case atStart => exact ⟨0, by omega, rfl, hB⟩
          case round =>
            clear hB
            obtain ⟨k, hk, rfl, hB⟩ := hrel
            by_cases hkl : (k : Int) < n
            · have k0 : (0 : Int) ≤ k := by omega
              rcases isL_split L i with ⟨m, rfl, hm⟩ | hi
              · have hcp := bk_copy hB (m : Int)
                rw [atL_nat hm, isL_nat hm] at hcp
                obtain ⟨y, hy⟩ : ∃ y, L[m] = y := ⟨_, rfl⟩
                rw [hy] at hcp
                have m0 : (0 : Int) ≤ m := by omega
                have m1 : (m : Int) < L.length := by omega
                go_wp2_with fail
                refine hcp.mono ?_
                rintro e w3 ⟨rfl, h3⟩
                have h4 := h3.box (ltO y)
                obtain ⟨x0, x1, x2⟩ := lt_cells (h4.blk _ List.mem_cons_self)
                obtain ⟨b, o, rfl, hbl, c0, c1, c2⟩ := (hL.on h4.below).at' m hm
                rw [hy] at c0 c1 c2
                have e1 := str_self y.text
                clear hcp hy
                go_wp2
                go_quiet (fail)
                go_wp2
                go_roundw
                case rel => exact ⟨k + 1, by omega, by go_num, (h4.sub (fun p hp => by cases hp)).on (below_draw (Below.refl _ _) _)⟩
                case measure => simp [intOf]; omega
              · have hcp := bk_copy hB i
                rw [atL_not hi, isL_not hi] at hcp
                have hi2 : i < 0 ∨ (¬ i < 0 ∧ decide (i < (L.length : Int)) = false) := by
                  by_cases h : i < 0
                  · exact .inl h
                  · exact .inr ⟨h, by simp; omega⟩
                rcases hi2 with hi2 | ⟨hi2, hi3⟩
                all_goals
                  go_wp2_with fail
                  refine hcp.mono ?_
                  rintro e w3 ⟨rfl, h3⟩
                  have h4 := h3.on ((Below.refl _ w3).alloc (Nat.le_refl _) (ltO lt0))
                  go_wp2
                  go_quiet (fail)
                  go_wp2
                  go_roundw
                  case rel => exact ⟨k + 1, by omega, by go_num, h4.on (below_draw (Below.refl _ _) _)⟩
                  case measure => simp [intOf]; omega
            · have hk2 : ¬ (k : Int) < n := hkl
              have hlen := bk_len hB
              go_wp2_with fail
              refine hlen.mono ?_
              rintro e w3 ⟨rfl, rfl⟩
              go_wp2
              go_ret
              exact ⟨rfl, hB.below⟩
        · have hn1 : n ≤ 0 := by omega
          go_wp2
          go_loopw [38] (fun iv wr => ∃ k : Nat, (k : Int) ≤ 0 ∧ iv = .int .i64 k ∧ Bk w wr A L []) (fun iv _ => (0 : Int).toNat - (intOf iv).toNat)
          case atStart => exact ⟨0, by omega, rfl, hB⟩
          case round =>
            clear hB
            obtain ⟨k, hk, rfl, hB⟩ := hrel
            have hk2 : ¬ (k : Int) < 0 := by omega
            have hlen := bk_len hB
            go_wp2_with fail
            refine hlen.mono ?_
            rintro e w3 ⟨rfl, rfl⟩
            go_wp2
            go_ret
            exact ⟨rfl, hB.below⟩
end Go.Proofs.Ytgmlfldjmnoecaa
