/- cell and Get. -/
import Derived.Test.YtbepekgaipipjaaRe
import Derived.Test.YtbepekgaipipjaaRf
import Derived.RegionTactic
namespace Go.Proofs.Ytbepekgaipipjaa
open Go.RowKit
def zeroCe : Ce := ⟨0, nullV0⟩
abbrev zCA : Array Value := #[.int .i64 0, .int .i64 0, .int .i64 0, .string ⟨#[]⟩]
theorem size89 : (Try.prog.info? 89).map (·.size) = some 4 := by kernel_rfl
theorem cellP_some {l : List UInt8} {c : Ce} (h : cellP l = some c) : ∃ a b, decL 8 l = some [a, b] ∧ a.k = 1 ∧ c = ⟨a.n, b⟩ := by
  unfold cellP at h
  cases hd : decL 8 l with
  | none => rw [hd] at h; cases h
  | some M =>
    rw [hd] at h
    match M, h with
    | [], h => cases h
    | [_], h => cases h
    | a :: b :: x :: y, h => cases h
    | [a, b], h =>
      have h' : (if a.k = 1 then some (⟨a.n, b⟩ : Ce) else none) = some c := h
      split at h'
      · exact ⟨a, b, rfl, by assumption, (Option.some.inj h').symm⟩
      · cases h'
theorem cellP_none {l : List UInt8} (h : cellP l = none) : decL 8 l = none ∨ ∃ M, decL 8 l = some M ∧ (M.length ≠ 2 ∨ ∃ a b, M = [a, b] ∧ a.k ≠ 1) := by
  unfold cellP at h
  cases hd : decL 8 l with
  | none => exact .inl rfl
  | some M =>
    rw [hd] at h
    refine .inr ⟨M, rfl, ?_⟩
    match M, h with
    | [], h => exact .inl (by simp)
    | [_], h => exact .inl (by simp)
    | a :: b :: x :: y, h => exact .inl (by simp)
    | [a, b], h =>
      have h' : (if a.k = 1 then some (⟨a.n, b⟩ : Ce) else none) = none := h
      split at h'
      · cases h'
      · exact .inr ⟨a, b, rfl, by assumption⟩
set_option maxHeartbeats 4000000 in
set_option maxRecDepth 100000 in
theorem cell_no (s : ByteArray) (w : World) (hm : s.size ≤ maxLen) (hc : cellP s.data.toList = none) : Calls Try.prog 45 #[.string s] w fun e w' => e = .returned (.tuple #[.agg zCA, .bool false]) ∧ Below w.heap.size w w' := by
  obtain ⟨W, hW⟩ : ∃ W, W = w.alloc (.cells zCA 89) := ⟨_, rfl⟩
  have hbW : Below w.heap.size w W := by rw [hW]; exact bnew _ _
  obtain ⟨Y, hY⟩ : ∃ Y, w.heap.size = Y := ⟨_, rfl⟩
  have hYW : Y < W.heap.size := by rw [hW, ← hY]; simp
  have HJ := Lib.hid (box_new w _ _ hW hY)
  have HB := Lib.hid hbW
  have HW := Lib.hid hW
  have HY := Lib.hid hY
  have HYW := Lib.hid hYW
  clear hW hbW hY hYW
  rcases cellP_none hc with hd | ⟨M, hd, hM⟩
  · have hdec := decode_no s W hm hd
    clear hd hc
    go_enter Try.func45, Try.ntmps45
    go_upto_region 1 with fail
    rw [← HW.out, HY.out]
    go_wp2_with (go_at_call 42; refine hdec.mono ?_; rintro e w4 ⟨rfl, b4⟩; refine Hid.out ?_)
    refine Lib.hid ?_
    have HB4 := Lib.hid (HB.out.trans (b4.mono HB.out.size))
    obtain ⟨X', hst, j', f'⟩ := st_row ((b4.block Y (blk_lt HJ.out)).trans HJ.out) (us := zCA) rfl size89 (by simp [Value.oneCell'])
    have HR := Lib.hid (And.intro j' f')
    clear hdec HJ b4 j' f'
    go_wp2_with (refine wpl_store _ _ rfl (by simp [Act.eval]) (by simp [Act.eval]) hst ?_)
    refine bodyPost_ret (results_two rfl rfl rfl (load_var HR.out.1 Try.underlying89 rfl size89)) rfl ?_
    exact ⟨rfl, HB4.out.trans (HR.out.2.toBelow (fun k hk q => by have := HY.out; omega) HB4.out.size)⟩
  · have hdec := decode_yes s W hm M hd
    clear hd hc
    rcases hM with hM | ⟨a, b, rfl, hk⟩
    · obtain ⟨n, hn⟩ : ∃ n, M.length = n := ⟨_, rfl⟩
      have hne : ((n : Int) == 2) = false := by rw [beq_eq_false_iff_ne]; omega
      have hne' : ¬ ((n : Int) = 2) := by omega
      rw [hn] at hdec
      clear hM hn
      go_enter Try.func45, Try.ntmps45
      go_upto_region 1 with fail
      rw [← HW.out, HY.out]
      go_wp2_with (go_at_call 42; refine hdec.mono ?_; rintro e w4 ⟨ad, cap, rfl, b4, _, _⟩; refine Hid.out ?_)
      refine Lib.hid ?_
      have HB4 := Lib.hid (HB.out.trans (b4.mono HB.out.size))
      obtain ⟨X', hst, j', f'⟩ := st_row ((b4.block Y (blk_lt HJ.out)).trans HJ.out) (us := zCA) rfl size89 (by simp [Value.oneCell'])
      have HR := Lib.hid (And.intro j' f')
      clear hdec HJ b4 j' f'
      go_wp2_with (refine wpl_store _ _ rfl (by simp [Act.eval]) (by simp [Act.eval]) hst ?_)
      refine bodyPost_ret (results_two rfl rfl rfl (load_var HR.out.1 Try.underlying89 rfl size89)) rfl ?_
      exact ⟨rfl, HB4.out.trans (HR.out.2.toBelow (fun k hk q => by have := HY.out; omega) HB4.out.size)⟩
    · have hk' : (a.k == 1) = false := by rw [beq_eq_false_iff_ne]; exact hk
      go_enter Try.func45, Try.ntmps45
      go_upto_region 1 with fail
      rw [← HW.out, HY.out]
      go_wp2_with (go_at_call 42; refine hdec.mono ?_; rintro e w4 ⟨ad, cap, rfl, b4, hli, _⟩; refine Hid.out ?_)
      refine Lib.hid ?_
      have HB4 := Lib.hid (HB.out.trans (b4.mono HB.out.size))
      obtain ⟨b1, o1, rfl, _, c0, _, _⟩ := hli.at' 0 (by simp)
      have c0 : w4.cell? ⟨b1, o1, none⟩ = some (.int .i64 a.k) := by simpa using c0
      clear hli
      obtain ⟨X', hst, j', f'⟩ := st_row ((b4.block Y (blk_lt HJ.out)).trans HJ.out) (us := zCA) rfl size89 (by simp [Value.oneCell'])
      have HR := Lib.hid (And.intro j' f')
      clear hdec HJ b4 j' f'
      go_wp2_with (refine wpl_store _ _ rfl (by simp [Act.eval]) (by simp [Act.eval]) hst ?_)
      refine bodyPost_ret (results_two rfl rfl rfl (load_var HR.out.1 Try.underlying89 rfl size89)) rfl ?_
      exact ⟨rfl, HB4.out.trans (HR.out.2.toBelow (fun k hk q => by have := HY.out; omega) HB4.out.size)⟩
set_option maxHeartbeats 4000000 in
set_option maxRecDepth 100000 in
theorem cell_yes (s : ByteArray) (w : World) (hm : s.size ≤ maxLen) {c : Ce} (hc : cellP s.data.toList = some c) : Calls Try.prog 45 #[.string s] w fun e w' => e = .returned (.tuple #[.agg (ceA c), .bool true]) ∧ Below w.heap.size w w' := by
  obtain ⟨W, hW⟩ : ∃ W, W = w.alloc (.cells zCA 89) := ⟨_, rfl⟩
  have hbW : Below w.heap.size w W := by rw [hW]; exact bnew _ _
  obtain ⟨Y, hY⟩ : ∃ Y, w.heap.size = Y := ⟨_, rfl⟩
  have hYW : Y < W.heap.size := by rw [hW, ← hY]; simp
  have HJ := Lib.hid (box_new w _ _ hW hY)
  have HB := Lib.hid hbW
  have HW := Lib.hid hW
  have HY := Lib.hid hY
  have HYW := Lib.hid hYW
  clear hW hbW hY hYW
  obtain ⟨a, b, hd, hk, rfl⟩ := cellP_some hc
  have hdec := decode_yes s W hm _ hd
  clear hd hc
  have HK := Lib.hid hk
  clear hk
  go_enter Try.func45, Try.ntmps45
  go_upto_region 1 with fail
  rw [← HW.out, HY.out]
  go_upto_region 2 with (go_at_call 42; refine hdec.mono ?_; rintro e w4 ⟨ad, cap, rfl, b4, hli, hown⟩; refine Hid.out ?_)
  refine Lib.hid ?_
  have HB4 := Lib.hid (HB.out.trans (b4.mono HB.out.size))
  obtain ⟨g, rfl, hgW⟩ : ∃ g, ad = some ⟨g, 0, none⟩ ∧ W.heap.size ≤ g := by
    rcases hown.2 with ⟨_, h0⟩ | ⟨g, cap', cur, hv, hg, _⟩
    · simp at h0
    · cases hv
      exact ⟨g, rfl, hg⟩
  obtain ⟨_, _, e, hgl, c0a, c1a, c2⟩ := hli.at' 0 (by simp)
  cases e
  obtain ⟨_, _, e, _, d0, d1, d2⟩ := hli.at' 1 (by simp)
  cases e
  have c0 : w4.cell? ⟨g, 0, none⟩ = some (.int .i64 1) := by rw [← HK.out]; exact c0a
  have c1 : w4.cell? ⟨g, 1, none⟩ = some (.int .i64 a.n) := c1a
  have j4 := (b4.block Y (blk_lt HJ.out)).trans HJ.out
  have HJ4 := Lib.hid j4
  have gc : ∀ (X : World) o u, (∀ k, k ≠ Y → k < w4.heap.size → X.heap[k]? = w4.heap[k]?) → w4.cell? ⟨g, o, none⟩ = some u → X.cell? ⟨g, o, none⟩ = some u := fun X o u h q => by
    have := h g (by have := HYW.out; omega) hgl
    unfold World.cell? at q ⊢
    rw [this]
    exact q
  have HGC := Lib.hid gc
  have HD := Lib.hid (And.intro d0 (And.intro d1 d2))
  have HC1 := Lib.hid c1
  clear hdec HJ b4 hli hown j4 gc hgl hgW d0 d1 d2 c2 c0a c1a
  go_upto_region 5 with fail
  refine wp_region_fb (fun fl X9 => (∀ k, k ≠ Y → k < w4.heap.size → X9.heap[k]? = w4.heap[k]?) ∧ X9.heap[Y]? = some (.cells (bif fl 11 then ceA ⟨a.n, b⟩ else zCA) 89 (0, 0)) ∧ Below w.heap.size w X9 ∧ w4.heap.size ≤ X9.heap.size) (fun _ _ => True) [
    fun v9 _ => v9 = .int .i64 a.n,
    fun v9 _ => v9 = .slice (some ⟨g, 0, none⟩) 2 cap,
    fun v9 _ => v9 = .pointer (some ⟨g, 0 + 1 * 3, none⟩),
    fun v9 _ => v9 = vlV b,
    fun v9 _ => v9 = .agg (ceA ⟨a.n, b⟩),
    fun v9 _ => v9 = .int .i64 a.n,
    fun v9 _ => v9 = .slice (some ⟨g, 0, none⟩) 2 cap,
    fun v9 _ => v9 = .pointer (some ⟨g, 0 + 0 * 3, none⟩),
    fun v9 _ => v9 = .pointer (some ⟨g, 0 + 0 * 3 + 1, none⟩),
    fun v9 _ => v9 = .int .i64 a.n,
    fun v9 _ => v9 = .bool true,
    fun _ _ => True,
    fun v9 _ => v9 = .bool true]
    (by kernel_rfl) (by kernel_rfl) (by kernel_rfl) ?st ?g0 ?os ?en
  case st => exact ⟨fun _ _ _ _ h => h, fun _ _ _ _ h => h, fun _ _ _ _ h => h, fun _ _ _ _ h => h, fun _ _ _ _ h => h, fun _ _ _ _ h => h, fun _ _ _ _ h => h, fun _ _ _ _ h => h, fun _ _ _ _ h => h, fun _ _ _ _ h => h, fun _ _ _ _ h => h, fun _ _ _ _ h => h, fun _ _ _ _ h => h, trivial⟩
  case g0 => exact ⟨fun _ _ _ => rfl, HJ4.out, ⟨HB4.out.os, HB4.out.tape, HB4.out.output, HB4.out.size, HB4.out.block⟩, Nat.le_refl _⟩
  case os =>
    refine ⟨?_, ?_, ?_, ?_, ?_, ?_, ?_, ?_, ?_, ?_, ?_, ?_, ?_, trivial⟩
    · exact fun ρ X9 fl hg hn hl hp ho hc hf hr => .inl ⟨rfl, Runs.val _ (op_move (show ρ (.tmp 6) = .int .i64 a.n from ho 6 rfl)) ⟨hg, trivial, rfl⟩⟩
    · exact fun ρ X9 fl hg hn hl hp ho hc hf hr => .inl ⟨rfl, Runs.val _ (op_move (show ρ (.tmp 4) = .slice (some ⟨g, 0, none⟩) 2 cap from ho 4 rfl)) ⟨hg, trivial, rfl⟩⟩
    · exact fun ρ X9 fl hg hn hl hp ho hc hf hr => .inl ⟨rfl, Runs.val _ (op_i32 (show ρ (.tmp 32) = .slice (some ⟨g, 0, none⟩) 2 cap from hr 1 32 rfl rfl) (i := 1) (hc _) (by decide)) ⟨hg, trivial, rfl⟩⟩
    · exact fun ρ X9 fl hg hn hl hp ho hc hf hr => .inl ⟨rfl, Runs.val _ (op_load23 (show ρ (.tmp 33) = .pointer (some ⟨g, 0 + 1 * 3, none⟩) from hr 2 33 rfl rfl) (HGC.out X9 _ _ hg.1 HD.out.1) (HGC.out X9 _ _ hg.1 HD.out.2.1) (HGC.out X9 _ _ hg.1 HD.out.2.2)) ⟨hg, trivial, rfl⟩⟩
    · exact fun ρ X9 fl hg hn hl hp ho hc hf hr => .inl ⟨rfl, Runs.val _ (op_b89 (show ρ (.tmp 31) = .int .i64 a.n from hr 0 31 rfl rfl) (show ρ (.tmp 34) = vlV b from hr 3 34 rfl rfl)) ⟨hg, trivial, rfl⟩⟩
    · exact fun ρ X9 fl hg hn hl hp ho hc hf hr => .inl ⟨rfl, Runs.val _ (op_move (show ρ (.tmp 6) = .int .i64 a.n from ho 6 rfl)) ⟨hg, trivial, rfl⟩⟩
    · exact fun ρ X9 fl hg hn hl hp ho hc hf hr => .inl ⟨rfl, Runs.val _ (op_move (show ρ (.tmp 4) = .slice (some ⟨g, 0, none⟩) 2 cap from ho 4 rfl)) ⟨hg, trivial, rfl⟩⟩
    · exact fun ρ X9 fl hg hn hl hp ho hc hf hr => .inl ⟨rfl, Runs.val _ (op_i32 (show ρ (.tmp 37) = .slice (some ⟨g, 0, none⟩) 2 cap from hr 6 37 rfl rfl) (i := 0) (hc _) (by decide)) ⟨hg, trivial, rfl⟩⟩
    · exact fun ρ X9 fl hg hn hl hp ho hc hf hr => .inl ⟨rfl, Runs.val _ (op_f23_1 (show ρ (.tmp 38) = .pointer (some ⟨g, 0 + 0 * 3, none⟩) from hr 7 38 rfl rfl)) ⟨hg, trivial, rfl⟩⟩
    · exact fun ρ X9 fl hg hn hl hp ho hc hf hr => .inl ⟨rfl, Runs.val _ (op_load2 (show ρ (.tmp 39) = .pointer (some ⟨g, 0 + 0 * 3 + 1, none⟩) from hr 8 39 rfl rfl) (HGC.out X9 _ _ hg.1 HC1.out)) ⟨hg, trivial, rfl⟩⟩
    · exact fun ρ X9 fl hg hn hl hp ho hc hf hr => .inl ⟨rfl, Runs.val _ (op_eql2 (show ρ (.tmp 36) = .int .i64 a.n from hr 5 36 rfl rfl) (show ρ (.tmp 40) = .int .i64 a.n from hr 9 40 rfl rfl) (b := true) (by simp)) ⟨hg, trivial, rfl⟩⟩
    · intro ρ X9 fl hg hn hl hp ho hc hf hr
      refine .inl ⟨rfl, ?_⟩
      obtain ⟨q1, q2, q3⟩ := hg
      rw [hn] at q2
      obtain ⟨X', hst, j', f'⟩ := st_row q2 (us := ceA ⟨a.n, b⟩) rfl size89 (by simp [Value.oneCell'])
      exact Runs.skips (op_storeAt (show ρ (.tmp 2) = .pointer (some ⟨Y, 0, none⟩) from ho 2 rfl) (show ρ (.tmp 35) = .agg (ceA ⟨a.n, b⟩) from hr 4 35 rfl rfl) hst) ⟨⟨fun k hk hl' => (f'.block k (by have := q3.2; omega) hk).trans (q1 k hk hl'), j', q3.1.trans (f'.toBelow (fun k hk q => by have := HY.out; omega) q3.1.size), Nat.le_trans q3.2 f'.size⟩, trivial, trivial⟩
    · exact fun ρ X9 fl hg hn hl hp ho hc hf hr => .inl ⟨rfl, Runs.val _ (op_assign (show ρ (.tmp 41) = .bool true from hr 10 41 rfl rfl)) ⟨hg, trivial, rfl⟩⟩
  case en =>
    intro a9 w6 fl hfl hg6 hs9 hd9 ho9 hr9
    obtain ⟨x9, hx, hxt⟩ := act_put hs9 hd9 ho9
    have x3 : x9 3 = .bool true := (hxt 3).symm.trans (hr9 12 3 rfl)
    change a9 = putAll _ x9 [31, 32, 33, 34, 35, 36, 37, 38, 39, 40, 41, 3] at hx
    simp only [putAll, Act.put, List.setIfInBounds_toArray, List.set_cons_zero, List.set_cons_succ, x3] at hx
    subst hx
    clear hs9 hd9 ho9 hr9 x3
    generalize x9 31 = z31, x9 32 = z32, x9 33 = z33, x9 34 = z34, x9 35 = z35, x9 36 = z36, x9 37 = z37, x9 38 = z38, x9 39 = z39, x9 40 = z40, x9 41 = z41
    have hR := hg6.2.1
    rw [hfl 11 (by decide)] at hR
    have HR := Lib.hid (And.intro hR hg6.2.2.1)
    clear hg6 hR hfl
    go_wp2
    refine bodyPost_ret (results_two rfl rfl rfl (load_var HR.out.1 Try.underlying89 rfl size89)) rfl ?_
    exact ⟨rfl, HR.out.2⟩
end Go.Proofs.Ytbepekgaipipjaa
