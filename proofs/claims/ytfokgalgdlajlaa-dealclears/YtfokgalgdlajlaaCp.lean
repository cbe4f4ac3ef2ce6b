/- Late, Verdict, Over. -/
import Derived.Test.YtfokgalgdlajlaaCo
namespace Go.Proofs.Ytfokgalgdlajlaa
open Go.RowKit
def Dl.late (d : Dl) (now : Int) : Dl := if d.phase = 1 then (if d.til < now then d.fin 0 133 else d) else d
section
variable {w : World}
set_option maxHeartbeats 4000000 in
set_option maxRecDepth 100000 in
theorem late_nil (w : World) (n : Int) : Calls Try.prog 15 #[.pointer none, .int .i64 n] w fun e w' => e = .returned (.tuple #[]) ∧ w' = w := by
  go_enter Try.func15, Try.ntmps15
  go_wp2
  first | refine bodyPost_end (results_none rfl _ _ _) rfl ?_ | refine bodyPost_ret (results_none rfl _ _ _) rfl ?_
  exact ⟨rfl, rfl⟩
set_option maxHeartbeats 4000000 in
set_option maxRecDepth 100000 in
theorem verdict_nil (w : World) : Calls Try.prog 16 #[.pointer none] w fun e w' => e = .returned (.tuple #[.int .i64 0, .int .i64 0, .bool false]) ∧ w' = w := by
  go_enter Try.func16, Try.ntmps16
  go_wp2
  refine bodyPost_ret (v := .tuple #[.int .i64 0, .int .i64 0, .bool false]) (by simp [results, Try.results16, go_sem]) rfl ?_
  exact ⟨rfl, rfl⟩
set_option maxHeartbeats 4000000 in
set_option maxRecDepth 100000 in
theorem over_nil (w : World) : Calls Try.prog 18 #[.pointer none] w fun e w' => e = .returned (.bool true) ∧ w' = w := by
  go_enter Try.func18, Try.ntmps18
  go_wp2
  refine bodyPost_ret (v := .bool true) (by simp [results, Try.results18, go_sem]) rfl ?_
  exact ⟨rfl, rfl⟩
variable {A : Nat} {d : Dl} {pa wa : Option Addr} {pc wc : Nat}
set_option maxHeartbeats 4000000 in
set_option maxRecDepth 100000 in
theorem late_any (h : Dx w A d pa pc wa wc) (n : Int) : Calls Try.prog 15 #[.pointer (some ⟨A, 0, none⟩), .int .i64 n] w (DlAns w A (d.late n) pa pc) := by
  have l9 : w.cell? ⟨A, 9, none⟩ = some (.int .i64 d.phase) := h.cell 9
  have l5 : w.cell? ⟨A, 5, none⟩ = some (.int .i64 d.til) := h.cell 5
  have HE := Lib.hid (end_any h 0 133)
  have HD := Lib.hid h
  clear h
  unfold Dl.late
  by_cases h1 : d.phase = 1
  · rw [if_pos h1]
    by_cases h2 : d.til < n
    · rw [if_pos h2]
      go_enter Try.func15, Try.ntmps15
      go_wp2_with fail
      refine HE.out.mono ?_
      rintro e v2 ⟨rfl, h2, f2⟩
      have HR : Hid (DlAns w A (d.fin 0 133) pa pc (.returned (.tuple #[])) v2) := Lib.hid ⟨rfl, ⟨_, _, h2⟩, f2⟩
      clear h2 f2
      go_wp2
      refine bodyPost_end (results_none rfl _ _ _) rfl ?_
      exact HR.out
    · rw [if_neg h2]
      go_enter Try.func15, Try.ntmps15
      go_wp2
      refine bodyPost_end (results_none rfl _ _ _) rfl ?_
      exact ⟨rfl, ⟨_, _, HD.out⟩, Fr.refl _ _⟩
  · rw [if_neg h1]
    go_enter Try.func15, Try.ntmps15
    go_wp2
    refine bodyPost_end (results_none rfl _ _ _) rfl ?_
    exact ⟨rfl, ⟨_, _, HD.out⟩, Fr.refl _ _⟩
set_option maxHeartbeats 4000000 in
set_option maxRecDepth 100000 in
theorem over_any (h : Dx w A d pa pc wa wc) : Calls Try.prog 18 #[.pointer (some ⟨A, 0, none⟩)] w fun e w' => e = .returned (.bool (decide (d.phase = 0) || decide (d.phase = 4))) ∧ w' = w := by
  have l9 : w.cell? ⟨A, 9, none⟩ = some (.int .i64 d.phase) := h.cell 9
  clear h
  by_cases h1 : d.phase = 0
  · rw [decide_eq_true h1]
    go_enter Try.func18, Try.ntmps18
    go_wp2
    refine bodyPost_ret (v := .bool true) (by simp [results, Try.results18, go_sem]) rfl ?_
    exact ⟨rfl, rfl⟩
  · rw [decide_eq_false h1]
    by_cases h2 : d.phase = 4
    · rw [decide_eq_true h2]
      go_enter Try.func18, Try.ntmps18
      go_wp2
      refine bodyPost_ret (v := .bool true) (by simp [results, Try.results18, go_sem]) rfl ?_
      exact ⟨rfl, rfl⟩
    · rw [decide_eq_false h2]
      go_enter Try.func18, Try.ntmps18
      go_wp2
      refine bodyPost_ret (v := .bool false) (by simp [results, Try.results18, go_sem, h1, h2]) rfl ?_
      exact ⟨rfl, rfl⟩
set_option maxHeartbeats 4000000 in
set_option maxRecDepth 100000 in
theorem verdict_any (h : Dx w A d pa pc wa wc) : Calls Try.prog 16 #[.pointer (some ⟨A, 0, none⟩)] w fun e w' => e = .returned (.tuple #[.int .i64 d.ts, .int .i64 d.why, .bool (decide (3 ≤ d.phase))]) ∧ Below w.heap.size w w' := by
  have HD := Lib.hid h
  clear h
  go_enter Try.func16, Try.ntmps16
  go_upto_region 3 with fail
  refine wp_region_fb (fun _ X9 => Below w.heap.size w X9) (fun _ _ => True) [
    fun v9 _ => v9 = .pointer (some ⟨A, 0, none⟩),
    fun v9 _ => v9 = .pointer (some ⟨A, 0, none⟩),
    fun v9 _ => v9 = .pointer (some ⟨A, 12, none⟩),
    fun v9 _ => v9 = .int .i64 d.ts,
    fun v9 _ => v9 = .pointer (some ⟨A, 0, none⟩),
    fun v9 _ => v9 = .pointer (some ⟨A, 0, none⟩),
    fun v9 _ => v9 = .pointer (some ⟨A, 13, none⟩),
    fun v9 _ => v9 = .int .i64 d.why,
    fun v9 _ => v9 = .pointer (some ⟨A, 0, none⟩),
    fun v9 _ => v9 = .pointer (some ⟨A, 0, none⟩),
    fun v9 _ => v9 = .pointer (some ⟨A, 9, none⟩),
    fun v9 _ => v9 = .int .i64 d.phase,
    fun v9 _ => v9 = .bool (decide (3 ≤ d.phase)),
    fun v9 _ => v9 = .int .i64 d.ts,
    fun v9 _ => v9 = .int .i64 d.why,
    fun v9 _ => v9 = .bool (decide (3 ≤ d.phase))]
    (by kernel_rfl) (by kernel_rfl) (by kernel_rfl) ?st ?g0 ?os ?en
  case st => exact ⟨fun _ _ _ _ h => h, fun _ _ _ _ h => h, fun _ _ _ _ h => h, fun _ _ _ _ h => h, fun _ _ _ _ h => h, fun _ _ _ _ h => h, fun _ _ _ _ h => h, fun _ _ _ _ h => h, fun _ _ _ _ h => h, fun _ _ _ _ h => h, fun _ _ _ _ h => h, fun _ _ _ _ h => h, fun _ _ _ _ h => h, fun _ _ _ _ h => h, fun _ _ _ _ h => h, fun _ _ _ _ h => h, trivial⟩
  case g0 => exact ⟨rfl, rfl, rfl, Nat.le_refl _, fun _ _ => rfl⟩
  case os =>
    refine ⟨?_, ?_, ?_, ?_, ?_, ?_, ?_, ?_, ?_, ?_, ?_, ?_, ?_, ?_, ?_, ?_, trivial⟩
    · exact fun ρ X9 fl hg hn hl hp ho hc hf hr => .inl ⟨rfl, Runs.val _ (op_move (show ρ (.tmp 0) = .pointer (some ⟨A, 0, none⟩) from ho 0 rfl)) ⟨hg, trivial, rfl⟩⟩
    · exact fun ρ X9 fl hg hn hl hp ho hc hf hr => .inl ⟨rfl, Runs.val _ (op_nil (show ρ (.tmp 7) = .pointer (some ⟨A, 0, none⟩) from hr 0 7 rfl rfl)) ⟨hg, trivial, rfl⟩⟩
    · exact fun ρ X9 fl hg hn hl hp ho hc hf hr => .inl ⟨rfl, Runs.val _ (op_f82_10 (show ρ (.tmp 8) = .pointer (some ⟨A, 0, none⟩) from hr 1 8 rfl rfl)) ⟨hg, trivial, rfl⟩⟩
    · exact fun ρ X9 fl hg hn hl hp ho hc hf hr => .inl ⟨rfl, Runs.val _ (op_load3 (show ρ (.tmp 9) = .pointer (some ⟨A, 12, none⟩) from hr 2 9 rfl rfl) (cell_on hg (HD.out.cell 12))) ⟨hg, trivial, rfl⟩⟩
    · exact fun ρ X9 fl hg hn hl hp ho hc hf hr => .inl ⟨rfl, Runs.val _ (op_move (show ρ (.tmp 0) = .pointer (some ⟨A, 0, none⟩) from ho 0 rfl)) ⟨hg, trivial, rfl⟩⟩
    · exact fun ρ X9 fl hg hn hl hp ho hc hf hr => .inl ⟨rfl, Runs.val _ (op_nil (show ρ (.tmp 11) = .pointer (some ⟨A, 0, none⟩) from hr 4 11 rfl rfl)) ⟨hg, trivial, rfl⟩⟩
    · exact fun ρ X9 fl hg hn hl hp ho hc hf hr => .inl ⟨rfl, Runs.val _ (op_f82_11 (show ρ (.tmp 12) = .pointer (some ⟨A, 0, none⟩) from hr 5 12 rfl rfl)) ⟨hg, trivial, rfl⟩⟩
    · exact fun ρ X9 fl hg hn hl hp ho hc hf hr => .inl ⟨rfl, Runs.val _ (op_load31 (show ρ (.tmp 13) = .pointer (some ⟨A, 13, none⟩) from hr 6 13 rfl rfl) (cell_on hg (HD.out.cell 13))) ⟨hg, trivial, rfl⟩⟩
    · exact fun ρ X9 fl hg hn hl hp ho hc hf hr => .inl ⟨rfl, Runs.val _ (op_move (show ρ (.tmp 0) = .pointer (some ⟨A, 0, none⟩) from ho 0 rfl)) ⟨hg, trivial, rfl⟩⟩
    · exact fun ρ X9 fl hg hn hl hp ho hc hf hr => .inl ⟨rfl, Runs.val _ (op_nil (show ρ (.tmp 15) = .pointer (some ⟨A, 0, none⟩) from hr 8 15 rfl rfl)) ⟨hg, trivial, rfl⟩⟩
    · exact fun ρ X9 fl hg hn hl hp ho hc hf hr => .inl ⟨rfl, Runs.val _ (op_f82_7 (show ρ (.tmp 16) = .pointer (some ⟨A, 0, none⟩) from hr 9 16 rfl rfl)) ⟨hg, trivial, rfl⟩⟩
    · exact fun ρ X9 fl hg hn hl hp ho hc hf hr => .inl ⟨rfl, Runs.val _ (op_load3 (show ρ (.tmp 17) = .pointer (some ⟨A, 9, none⟩) from hr 10 17 rfl rfl) (cell_on hg (HD.out.cell 9))) ⟨hg, trivial, rfl⟩⟩
    · exact fun ρ X9 fl hg hn hl hp ho hc hf hr => .inl ⟨rfl, Runs.val _ (op_geq3 (show ρ (.tmp 18) = .int .i64 d.phase from hr 11 18 rfl rfl) (hc _) rfl) ⟨hg, trivial, rfl⟩⟩
    · exact fun ρ X9 fl hg hn hl hp ho hc hf hr => .inl ⟨rfl, Runs.val _ (op_assign (show ρ (.tmp 10) = .int .i64 d.ts from hr 3 10 rfl rfl)) ⟨hg, trivial, rfl⟩⟩
    · exact fun ρ X9 fl hg hn hl hp ho hc hf hr => .inl ⟨rfl, Runs.val _ (op_assign (show ρ (.tmp 14) = .int .i64 d.why from hr 7 14 rfl rfl)) ⟨hg, trivial, rfl⟩⟩
    · exact fun ρ X9 fl hg hn hl hp ho hc hf hr => .inl ⟨rfl, Runs.val _ (op_assign (show ρ (.tmp 19) = .bool (decide (3 ≤ d.phase)) from hr 12 19 rfl rfl)) ⟨hg, trivial, rfl⟩⟩
  case en =>
    intro a9 w6 fl hfl hG9 hs9 hd9 ho9 hr9
    obtain ⟨x9, hx, hxt⟩ := act_put hs9 hd9 ho9
    have xk2 : x9 2 = .int .i64 d.ts := (hxt 2).symm.trans (hr9 13 2 rfl)
    have xk3 : x9 3 = .int .i64 d.why := (hxt 3).symm.trans (hr9 14 3 rfl)
    have xk4 : x9 4 = .bool (decide (3 ≤ d.phase)) := (hxt 4).symm.trans (hr9 15 4 rfl)
    change a9 = putAll _ x9 [7, 8, 9, 10, 11, 12, 13, 14, 15, 16, 17, 18, 19, 2, 3, 4] at hx
    simp only [putAll, Act.put, List.setIfInBounds_toArray, List.set_cons_zero, List.set_cons_succ, xk2, xk3, xk4] at hx
    subst hx
    clear hs9 hd9 ho9 hr9 hxt hfl xk2 xk3 xk4
    generalize x9 7 = z7, x9 8 = z8, x9 9 = z9, x9 10 = z10, x9 11 = z11, x9 12 = z12, x9 13 = z13, x9 14 = z14, x9 15 = z15, x9 16 = z16, x9 17 = z17, x9 18 = z18, x9 19 = z19
    have HB := Lib.hid hG9
    clear hG9
    go_wp2
    refine bodyPost_ret (v := .tuple #[.int .i64 d.ts, .int .i64 d.why, .bool (decide (3 ≤ d.phase))]) (by simp [results, Try.results16, go_sem]) rfl ?_
    exact ⟨rfl, HB.out⟩
end
end Go.Proofs.Ytfokgalgdlajlaa
