/- The walk of the document's Tick. -/
import Derived.Test.YtjnkfnohnibgiaaCa
namespace Go.Proofs.Ytjnkfnohnibgiaa
open Go.RowKit

set_option maxHeartbeats 4000000 in
set_option maxRecDepth 100000 in
theorem ref_any {T : List Int} {most : Int} {g cap : Nat} {w : World} (hok : Ok T most) (hc : ∀ k (h : k < T.length), w.cell? ⟨g, k, none⟩ = some (.int .i64 T[k])) (i : Int) {d : Int} (hd2 : d ≤ 9223372036854775807) :
    Calls Try.prog 9 #[.slice (some ⟨g, 0, none⟩) T.length cap, .int .i64 most, .int .i64 i, .int .i64 d] w fun e w' => e = .returned (.int .i64 (stepC T most i d)) ∧ w' = w := by
  by_cases hi0 : i < 0
  · rw [stepC_not (.inl hi0)]
    clear hok hc
    go_enter Try.func9, Try.ntmps9
    go_wp2
    go_ret
    exact ⟨rfl, rfl⟩
  · by_cases hi1 : (T.length : Int) ≤ i
    · rw [stepC_not (.inr hi1)]
      clear hok hc
      go_enter Try.func9, Try.ntmps9
      go_wp2
      go_ret
      exact ⟨rfl, rfl⟩
    · have hi2 : ¬ i ≥ (T.length : Int) := hi1
      have hi3 : decide ((T.length : Int) ≤ i) = false := by simp; omega
      by_cases hd : d < 1
      · rw [stepC_small T most i hd]
        clear hok hc
        go_enter Try.func9, Try.ntmps9
        go_wp2
        go_ret
        exact ⟨rfl, rfl⟩
      · obtain ⟨k, rfl⟩ : ∃ k : Nat, i = k := ⟨i.toNat, by omega⟩
        have hk : k < T.length := by omega
        have h5 := hok.len5
        have hm1 := hok.m1
        have hm2 := hok.m2
        obtain ⟨r1, r2, r3, r4, r5, r6⟩ := hok.room hk
        have hst := stepC_nat hk most (d := d) (by omega)
        have cx := hc k hk
        obtain ⟨x, hx⟩ : ∃ x, T[k] = x := ⟨_, rfl⟩
        rw [hx] at cx r1 r2 r3 r4 r5 r6 hst
        have i0 : (0 : Int) ≤ k := by omega
        have i1 : (k : Int) < T.length := by omega
        have HT := Lib.hid hst
        have HC := Lib.hid hc
        clear hst hx hok hi1 hi2 hc
        go_enter Try.func9, Try.ntmps9
        go_wp2
        go_loopw [9, 10] (fun lv iv wr => ∃ j : Nat, j ≤ T.length ∧ iv = .int .i64 j ∧ lv = .int .i64 (leastC (T.take j) x) ∧ wr = w) (fun _ iv _ => T.length - (intOf iv).toNat)
        case atStart => exact ⟨0, Nat.zero_le _, rfl, rfl, rfl⟩
        case round =>
          obtain ⟨j, hj, rfl, rfl, rfl⟩ := hrel
          by_cases hjl : j < T.length
          · have j0 : (0 : Int) ≤ j := by omega
            have j1 : (j : Int) < T.length := by omega
            have cj := HC.out j hjl
            have hsn := leastC_snoc T j hjl x
            obtain ⟨y, hy⟩ : ∃ y, T[j] = y := ⟨_, rfl⟩
            rw [hy] at cj hsn
            obtain ⟨m, hm⟩ : ∃ m, leastC (T.take j) x = m := ⟨_, rfl⟩
            rw [hm] at hsn ⊢
            have HS := Lib.hid hsn
            clear hsn hy hm
            by_cases hmy : y < m
            all_goals
              go_wp2
              exact ⟨⟨j + 1, hjl, by go_num, by rw [HS.out]; congr 1; omega, by first | rfl | trivial⟩, by simp [intOf]; omega⟩
          · have e : j = T.length := by omega
            have j1 : ¬ (j : Int) < T.length := by omega
            subst e
            rw [List.take_of_length_le (Nat.le_refl _)]
            obtain ⟨m, hm⟩ : ∃ m, leastC T x = m := ⟨_, rfl⟩
            rw [hm] at r1 r2 r3 r6 ⊢
            have he := HT.out
            rw [hm] at he
            have HE := Lib.hid he
            clear hm he HT
            by_cases hdm : d ≤ most - (x - m)
            · by_cases hbig : 1125899906842624 < x + d
              · have hb2 : 1125899906842624 - x < d := by omega
                have hb3 : ¬ most - (x - m) < d := by omega
                go_wp2
                go_ret
                rw [HE.out, show min d (most - (x - m)) = d by omega, if_pos (by omega)]
                exact ⟨rfl, rfl⟩
              · have hb2 : ¬ 1125899906842624 - x < d := by omega
                have hb3 : ¬ most - (x - m) < d := by omega
                go_wp2
                go_ret
                rw [HE.out, show min d (most - (x - m)) = d by omega, if_neg (by omega)]
                exact ⟨rfl, rfl⟩
            · have hb3 : most - (x - m) < d := by omega
              by_cases hbig : 1125899906842624 < x + (most - (x - m))
              · have hb2 : 1125899906842624 - x < most - (x - m) := by omega
                go_wp2
                go_ret
                rw [HE.out, show min d (most - (x - m)) = most - (x - m) by omega, if_pos (by omega)]
                exact ⟨rfl, rfl⟩
              · have hb2 : ¬ 1125899906842624 - x < most - (x - m) := by omega
                go_wp2
                go_ret
                rw [HE.out, show min d (most - (x - m)) = most - (x - m) by omega, if_neg (by omega)]
                exact ⟨rfl, rfl⟩
end Go.Proofs.Ytjnkfnohnibgiaa
