/- The walk of AgendaTies. -/
import Derived.Test.YtmehdhjelggkpaaLa
namespace Go.Proofs.Ytmehdhjelggkpaa
open Go.RowKit Go.Maps

def tie (due : Int) (k : Nat) : Ti := ⟨((k : Int) * 37 + 11) % 211, due⟩
def ties (due : Int) (n : Nat) : List Ti := (List.range n).map (tie due)
theorem tie_inj {due : Int} {i j : Nat} (hi : i ≤ 200) (hj : j ≤ 200) (h : (tie due i).what = (tie due j).what) : i = j := by
  simp only [tie] at h
  omega
theorem tie_range (k : Nat) : inI (((k : Int) * 37 + 11) % 211) := inI_of (by omega) (by omega)
theorem ties_set (due : Int) (k : Nat) (hk : k < 200) : setL (ties due k) (((k : Int) * 37 + 11) % 211) due = ties due (k + 1) := by
  have hn : ((k : Int) * 37 + 11) % 211 ∉ whats (ties due k) := by
    intro h
    obtain ⟨t, ht, e⟩ := List.mem_map.1 h
    obtain ⟨j, hj, rfl⟩ := List.mem_map.1 ht
    have hj' := List.mem_range.1 hj
    have := tie_inj (due := due) (i := j) (j := k) (by omega) (by omega) e
    omega
  unfold setL
  rw [dropL_none hn]
  unfold ties
  rw [List.range_succ, List.map_append]
  rfl
theorem ties_nodup (due : Int) (n : Nat) (hn : n ≤ 200) : (whats (ties due n)).Nodup := by
  induction n with
  | zero => simp [ties]
  | succ n ih =>
    rw [← ties_set due n (by omega)]
    exact setL_nodup (ih (by omega)) _ _
theorem ties_drop (due : Int) (n k : Nat) (hk : k < n) : (ties due n).drop k = tie due k :: (ties due n).drop (k + 1) := by
  rw [List.drop_eq_getElem_cons (by simpa [ties] using hk)]
  simp [ties]
theorem ties_next (due : Int) (n k : Nat) (hk : k < n) : nextL ((ties due n).drop k) = some (tie due k) := by
  rw [ties_drop due n k hk]
  refine nextL_of (next_ties ?_)
  intro x hx
  have := List.mem_of_mem_drop hx
  obtain ⟨j, _, rfl⟩ := List.mem_map.1 this
  rfl
theorem ties_pop (due : Int) (n k : Nat) (hk : k < n) (hn : n ≤ 200) : dropL ((ties due n).drop k) (tie due k).what = (ties due n).drop (k + 1) := by
  rw [ties_drop due n k hk]
  refine drop_head ?_
  have h := ties_nodup due n hn
  rw [← ties_drop due n k hk]
  unfold whats at *
  rw [List.map_drop]
  exact List.Nodup.sublist (List.drop_sublist _ _) h

set_option maxHeartbeats 2000000 in
set_option maxRecDepth 100000 in
theorem ties_out (n due : Int) (w : World) (h : n < 0 ∨ 200 < n) : Calls Try.prog 6 #[.int .i64 n, .int .i64 due] w fun e w' => e = .returned (.bool true) ∧ Below w.heap.size w w' := by
  rcases h with h | h
  all_goals
    go_enter Try.func6, Try.ntmps6
    go_wp2_with fail
    refine (awake_any _).mono ?_
    rintro e w1 ⟨rfl, b1⟩
    go_wp2_with fail
    refine (awake_any _).mono ?_
    rintro e w2 ⟨rfl, b2⟩
    go_wp2
    go_ret
    exact ⟨rfl, b1.trans (b2.mono b1.size)⟩

set_option maxHeartbeats 2000000 in
set_option maxRecDepth 100000 in
theorem ties_in (m : Nat) (due : Int) (w : World) (h : m ≤ 200) : Calls Try.prog 6 #[.int .i64 m, .int .i64 due] w fun e w' => e = .returned (.bool true) ∧ Below w.heap.size w w' := by
  have h0 : ¬ (m : Int) < 0 := by omega
  have h1 : ¬ 200 < (m : Int) := by omega
  have h0' : decide ((m : Int) < 0) = false := by simp
  have h1' : decide (200 < (m : Int)) = false := by simpa using h1
  go_enter Try.func6, Try.ntmps6
  go_wp2_with fail
  refine (awake_any _).mono ?_
  rintro e w1 ⟨rfl, b1⟩
  go_wp2_with fail
  refine (Own.new w1).mono ?_
  rintro e w2 ⟨rfl, o2, b2⟩
  obtain ⟨B, hB⟩ : ∃ B, B = w1.heap.size := ⟨_, rfl⟩
  rw [← hB] at o2 b2 ⊢
  have b2' : Below w.heap.size w w2 := b1.trans (b2.mono (by rw [hB]; exact b1.size))
  have hwB : w.heap.size ≤ B := by rw [hB]; exact b1.size
  clear hB
  go_wp2
  go_loopw [23] (fun t wr => ∃ k : Nat, t = .int .i64 k ∧ k ≤ m ∧ Own B wr B k (ties due k) ∧ Below w.heap.size w wr) (fun t _ => m - (intOf t).toNat)
  case atStart => exact ⟨0, rfl, Nat.zero_le _, o2, b2'⟩
  case round =>
    obtain ⟨k, rfl, hk, ho, hb⟩ := hrel
    by_cases hlt : k < m
    · have q1 : (k : Int) < m := by omega
      have q2 : (m : Int) ≤ 200 := by omega
      go_wp2_with fail
      refine (ho.set (by omega) (tie_range k)).mono ?_
      rintro e w3 ⟨rfl, o3, b3⟩
      rw [ties_set due k (by omega)] at o3
      go_wp2
      go_roundw
      case rel => exact ⟨k + 1, by go_num, by omega, o3, hb.trans (b3.mono hwB)⟩
      case measure => simp [intOf]; omega
    · have hkm : k = m := by omega
      subst hkm
      go_wp2
      go_loopw [35] (fun t wr => ∃ i : Nat, t = .int .i64 i ∧ i ≤ k ∧ Own B wr B k ((ties due k).drop i) ∧ Below w.heap.size w wr) (fun t _ => k - (intOf t).toNat)
      case atStart => exact ⟨0, rfl, Nat.zero_le _, ho, hb⟩
      case round =>
        obtain ⟨i, rfl, hi, ho2, hb2⟩ := hrel
        by_cases hlt2 : i < k
        · have q1 : (i : Int) < k := by omega
          have q2 : (k : Int) ≤ 200 := by omega
          go_wp2_with fail
          refine (ho2.pop (ties_next due k i hlt2) (Int.le_refl _)).mono ?_
          rintro e w4 ⟨rfl, o4, b4⟩
          rw [ties_pop due k i hlt2 h] at o4
          have he : (tie due i).what = ((i : Int) * 37 + 11) % 211 := rfl
          rw [he]
          clear he
          go_wp2
          go_roundw
          case rel => exact ⟨i + 1, by go_num, by omega, o4, hb2.trans (b4.mono hwB)⟩
          case measure => simp [intOf]; omega
        · have hik : i = k := by omega
          subst hik
          have hnil : (ties due i).drop i = [] := by simp [ties]
          rw [hnil] at ho2
          go_wp2_with fail
          refine (alen_any ho2.2).mono ?_
          rintro e w5 ⟨rfl, rfl⟩
          go_wp2
          go_ret
          exact ⟨rfl, hb2⟩

theorem agendaTies_any (n due : Int) (w : World) : Calls Try.prog 6 #[.int .i64 n, .int .i64 due] w fun e w' => e = .returned (.bool true) ∧ Below w.heap.size w w' := by
  by_cases h : n < 0 ∨ 200 < n
  · exact ties_out n due w h
  · obtain ⟨m, rfl⟩ : ∃ m : Nat, n = m := ⟨n.toNat, by omega⟩
    exact ties_in m due w (by omega)
end Go.Proofs.Ytmehdhjelggkpaa
