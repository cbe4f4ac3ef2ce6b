/- The law SchemaPaths. -/
import Derived.Test.YtongmhfpoopebaaPq
import Derived.Test.YtongmhfpoopebaaPw
namespace Go.Proofs.Ytongmhfpoopebaa
open Go.RowKit Go.Maps
section
variable {w : World}
set_option maxHeartbeats 4000000 in
set_option maxRecDepth 100000 in
theorem paths_law {cs : Array Value} {k : Int} {b : Bool} (hs : cs.size = 11) (h0 : cs[0]? = some (.int .i64 k)) : Calls Try.prog 3 #[.agg cs, .bool b] w fun e w' => e = .returned (.bool true) ∧ Below w.heap.size w w' := by
  obtain ⟨W, hW⟩ : ∃ W, W = w.alloc (.cells cs 26) := ⟨_, rfl⟩
  have hbW : Below w.heap.size w W := by rw [hW]; exact bnew _ _
  obtain ⟨Y, hY⟩ : ∃ Y, w.heap.size = Y := ⟨_, rfl⟩
  have jY : W.heap[Y]? = some (.cells cs 26 (0, 0)) := by rw [hW, ← hY]; exact heap_alloc_new w _
  obtain ⟨Q, hQ⟩ : ∃ Q, pathP k b = Q := ⟨_, rfl⟩
  have hQm : Q.length ≤ 10 := by
    rw [← hQ]
    unfold pathP backP onP
    repeat' split
    all_goals decide
  have HW := Lib.hid hW
  have HY := Lib.hid hY
  have HB := Lib.hid hbW
  have JY := Lib.hid jY
  have HS := Lib.hid hs
  have H0 := Lib.hid h0
  have HQM := Lib.hid hQm
  have HPA : Hid (∀ X, Calls Try.prog 5 #[.agg cs, .bool b] X (MvAns X Q)) := fun X => by
    have := path_any X cs k b h0
    rwa [hQ] at this
  have HPB : Hid (∀ X, Calls Try.prog 6 #[.int .i64 k, .bool b] X (MvAns X Q)) := fun X => by
    have := refpath_any X k b
    rwa [hQ] at this
  clear hW hY hbW jY hs h0 hQm hQ
  go_enter Try.func3, Try.ntmps3
  go_upto_region 1 with fail
  rw [← HW.out, HY.out]
  refine wp_region_fb (fun _ X9 => Below W.heap.size W X9) (fun X9 X' => Below X9.heap.size X9 X') [
    fun v9 _ => v9 = .agg cs,
    fun v9 _ => v9 = .bool b,
    fun v9 X9 => ∃ ad ac, v9 = .slice ad Q.length ac ∧ Lr mvE 2 X9 Q (.slice ad Q.length ac),
    fun v9 _ => v9 = .pointer (some ⟨Y, 0, none⟩),
    fun v9 _ => v9 = .int .i64 k,
    fun v9 _ => v9 = .bool b,
    fun v9 X9 => ∃ ad ac, v9 = .slice ad Q.length ac ∧ Lr mvE 2 X9 Q (.slice ad Q.length ac),
    fun v9 X9 => ∃ ad ac, v9 = .slice ad Q.length ac ∧ Lr mvE 2 X9 Q (.slice ad Q.length ac),
    fun v9 X9 => ∃ ad ac, v9 = .slice ad Q.length ac ∧ Lr mvE 2 X9 Q (.slice ad Q.length ac)]
    (by kernel_rfl) (by kernel_rfl) (by kernel_rfl) ?st ?g0 ?os ?en
  case st => exact ⟨fun _ _ _ _ h => h, fun _ _ _ _ h => h, fun _ _ _ s9 h => by obtain ⟨ad, ac, e, l⟩ := h; exact ⟨ad, ac, e, l.on mvE_held s9⟩, fun _ _ _ _ h => h, fun _ _ _ _ h => h, fun _ _ _ _ h => h, fun _ _ _ s9 h => by obtain ⟨ad, ac, e, l⟩ := h; exact ⟨ad, ac, e, l.on mvE_held s9⟩, fun _ _ _ s9 h => by obtain ⟨ad, ac, e, l⟩ := h; exact ⟨ad, ac, e, l.on mvE_held s9⟩, fun _ _ _ s9 h => by obtain ⟨ad, ac, e, l⟩ := h; exact ⟨ad, ac, e, l.on mvE_held s9⟩, trivial⟩
  case g0 => exact ⟨rfl, rfl, rfl, Nat.le_refl _, fun _ _ => rfl⟩
  case os =>
    refine ⟨?_, ?_, ?_, ?_, ?_, ?_, ?_, ?_, ?_, trivial⟩
    · exact fun ρ X9 fl hg hn hl hp ho hc hf hr => .inl ⟨rfl, Runs.val _ (op_loadAt (show ρ (.tmp 2) = .pointer (some ⟨Y, 0, none⟩) from ho 2 rfl) (load_row ((hg.block Y (blk_lt JY.out)).trans JY.out) Try.underlying26 rfl (by rw [HS.out]; exact size26))) ⟨hg, Below.refl _ _, rfl⟩⟩
    · exact fun ρ X9 fl hg hn hl hp ho hc hf hr => .inl ⟨rfl, Runs.val _ (op_move (show ρ (.tmp 1) = .bool b from ho 1 rfl)) ⟨hg, Below.refl _ _, rfl⟩⟩
    · refine fun ρ X9 fl hg hn hl hp ho hc hf hr => .inl ⟨rfl, ?_⟩
      refine Runs.goes 5 #[.agg cs, .bool b] (op_call2 hf (by go_simp) (show ρ (.tmp 8) = .agg cs from hr 0 8 rfl rfl) (show ρ (.tmp 9) = .bool b from hr 1 9 rfl rfl)) ((HPA.out X9).mono ?_)
      rintro e7 w7 ⟨ad, ac, rfl, o7, b7⟩
      exact ⟨_, rfl, bgo hg b7, b7, ad, ac, rfl, Lr.own mvL_len o7⟩
    · exact fun ρ X9 fl hg hn hl hp ho hc hf hr => .inl ⟨rfl, Runs.val _ (op_f26_0 (show ρ (.tmp 2) = .pointer (some ⟨Y, 0, none⟩) from ho 2 rfl)) ⟨hg, Below.refl _ _, rfl⟩⟩
    · exact fun ρ X9 fl hg hn hl hp ho hc hf hr => .inl ⟨rfl, Runs.val _ (op_load3 (show ρ (.tmp 11) = .pointer (some ⟨Y, 0, none⟩) from hr 3 11 rfl rfl) (cell_on hg ((cell_blk JY.out 0).trans H0.out))) ⟨hg, Below.refl _ _, rfl⟩⟩
    · exact fun ρ X9 fl hg hn hl hp ho hc hf hr => .inl ⟨rfl, Runs.val _ (op_move (show ρ (.tmp 1) = .bool b from ho 1 rfl)) ⟨hg, Below.refl _ _, rfl⟩⟩
    · refine fun ρ X9 fl hg hn hl hp ho hc hf hr => .inl ⟨rfl, ?_⟩
      refine Runs.goes 6 #[.int .i64 k, .bool b] (op_call2 hf (by go_simp) (show ρ (.tmp 12) = .int .i64 k from hr 4 12 rfl rfl) (show ρ (.tmp 13) = .bool b from hr 5 13 rfl rfl)) ((HPB.out X9).mono ?_)
      rintro e7 w7 ⟨ad, ac, rfl, o7, b7⟩
      exact ⟨_, rfl, bgo hg b7, b7, ad, ac, rfl, Lr.own mvL_len o7⟩
    · refine fun ρ X9 fl hg hn hl hp ho hc hf hr => .inl ⟨rfl, ?_⟩
      obtain ⟨ad, ac, e9, l9⟩ : ∃ ad ac, ρ (.tmp 10) = .slice ad Q.length ac ∧ Lr mvE 2 X9 Q (.slice ad Q.length ac) := hr 2 10 rfl rfl
      exact Runs.val _ (op_assign e9) ⟨hg, Below.refl _ _, ad, ac, rfl, l9⟩
    · refine fun ρ X9 fl hg hn hl hp ho hc hf hr => .inl ⟨rfl, ?_⟩
      obtain ⟨ad, ac, e9, l9⟩ : ∃ ad ac, ρ (.tmp 14) = .slice ad Q.length ac ∧ Lr mvE 2 X9 Q (.slice ad Q.length ac) := hr 6 14 rfl rfl
      exact Runs.val _ (op_assign e9) ⟨hg, Below.refl _ _, ad, ac, rfl, l9⟩
  case en =>
    intro a9 X9 fl hfl hG hs hd ho hr
    obtain ⟨x, hx, hxt⟩ := act_put hs hd ho
    obtain ⟨ad, ac, e5, l5⟩ : ∃ ad ac, x 5 = .slice ad Q.length ac ∧ Lr mvE 2 X9 Q (.slice ad Q.length ac) := by
      have := hr 7 5 rfl
      rw [hxt 5] at this
      exact this
    obtain ⟨bd, bc, e6, l6⟩ : ∃ ad ac, x 6 = .slice ad Q.length ac ∧ Lr mvE 2 X9 Q (.slice ad Q.length ac) := by
      have := hr 8 6 rfl
      rw [hxt 6] at this
      exact this
    change a9 = putAll _ x [8, 9, 10, 11, 12, 13, 14, 5, 6] at hx
    simp only [putAll, Act.put, List.setIfInBounds_toArray, List.set_cons_zero, List.set_cons_succ, e5, e6] at hx
    have HX := Lib.hid (bgo HB.out hG)
    have L5 := Lib.hid l5
    have L6 := Lib.hid l6
    generalize x 8 = z8, x 9 = z9, x 10 = z10, x 11 = z11, x 12 = z12, x 13 = z13, x 14 = z14 at hx
    have haw := awake_any X9
    obtain ⟨n, hn⟩ : ∃ n, Q.length = n := ⟨_, rfl⟩
    have hm := HQM.out
    have hnn : n ≤ 10 := by rw [← hn]; exact hm
    have hni : (n : Int) ≤ 9223372036854775807 := by omega
    have HN := Lib.hid hn
    rw [hn] at hx
    clear hG hs hd ho hr hxt e5 e6 l5 l6 hm hn
    subst hx
    go_wp2_with (go_at_call 7; refine haw.mono ?_; rintro e w1 ⟨rfl, b1⟩; refine Hid.out ?_)
    refine Lib.hid ?_
    have HB1 := Lib.hid (bgo HX.out b1)
    have hl5 := L5.out.on mvE_held b1
    have hl6 := L6.out.on mvE_held b1
    obtain ⟨ad', ac', ee5, _, _, _, h5⟩ := hl5
    cases ee5
    obtain ⟨bd', bc', ee6, _, _, _, h6⟩ := hl6
    cases ee6
    have H5 := Lib.hid h5
    have H6 := Lib.hid h6
    clear haw b1 h5 h6
    go_wp2
    go_loopw [26] (fun iv wr => ∃ i : Nat, i ≤ n ∧ iv = .int .i64 (i : Int) ∧ Below w1.heap.size w1 wr) (fun iv _ => n - (intOf iv).toNat)
    case atStart => exact ⟨0, Nat.zero_le _, rfl, Below.refl _ _⟩
    case round =>
      obtain ⟨i, hi, rfl, hb⟩ := hrel
      obtain ⟨V, rfl⟩ : ∃ V, V = wr := ⟨_, rfl⟩
      have HBV := Lib.hid hb
      by_cases hlt : i < n
      · have k0 : (0 : Int) ≤ i := by omega
        have k1 : (i : Int) < n := by omega
        have hlt' : i < Q.length := by rw [HN.out]; exact hlt
        obtain ⟨b5, p5, cs5, rfl, _, hE5, _, c5⟩ := H5.out i hlt'
        cases hE5
        obtain ⟨b6, p6, cs6, rfl, _, hE6, _, c6⟩ := H6.out i hlt'
        cases hE6
        obtain ⟨x1, hx1⟩ : ∃ x, Q[i].1 = x := ⟨_, rfl⟩
        obtain ⟨x2, hx2⟩ : ∃ x, Q[i].2 = x := ⟨_, rfl⟩
        rw [show mvL Q[i] = [.int .i64 Q[i].1, .int .i64 Q[i].2] from rfl, hx1, hx2] at c5 c6
        have d0 : V.cell? ⟨b5, p5 + i * 2, none⟩ = some (.int .i64 x1) := cell_on hb (c5 0 _ rfl)
        have d1 : V.cell? ⟨b5, p5 + i * 2 + 1, none⟩ = some (.int .i64 x2) := cell_on hb (c5 1 _ rfl)
        have g0 : V.cell? ⟨b6, p6 + i * 2, none⟩ = some (.int .i64 x1) := cell_on hb (c6 0 _ rfl)
        have g1 : V.cell? ⟨b6, p6 + i * 2 + 1, none⟩ = some (.int .i64 x2) := cell_on hb (c6 1 _ rfl)
        have q0 : ∀ w, (binOp BinOp.neq 32 (.agg #[.int .i64 x1, .int .i64 x2]) (.agg #[.int .i64 x1, .int .i64 x2])).run Try.prog w = .ok (.bool false) w := fun w => by go_simp
        clear c5 c6 hx1 hx2 hb
        go_upto_region 7 with fail
        go_region
        all_goals
          go_wp2
          go_roundw
          case rel => exact ⟨i + 1, hlt, by go_num, bdrew HBV.out⟩
          case measure => simp [intOf]; omega
      · have k1 : ¬ (i : Int) < n := by omega
        clear hb
        go_wp2
        go_ret
        exact ⟨rfl, bgo HB1.out HBV.out⟩
end
end Go.Proofs.Ytongmhfpoopebaa
