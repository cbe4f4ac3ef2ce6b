/- The law of clearings. -/
import Derived.Test.YtfokgalgdlajlaaRj
namespace Go.Proofs.Ytfokgalgdlajlaa
open Go.RowKit
/-- Amid 'plays(Clear(..), Clear(..), script)', in any order. -/
def GL (W : World) (c : CW) (f3 f7 f9 f10 : Bool) (v20 v24 v26 v8 : Value) (X : World) : Prop := Below W.heap.size W X ∧ (f9 = false → (f3 = true → ∃ A g, v20 = .pointer (some ⟨A, 0, none⟩) ∧ W.heap.size ≤ A ∧ PD X A g c ⟨2, 0, 0⟩) ∧ (f7 = true → ∃ R b, v24 = .pointer (some ⟨R, 0, none⟩) ∧ W.heap.size ≤ R ∧ W.heap.size ≤ b ∧ RS X R b c ⟨2, 0, 0⟩)) ∧ (f9 = true → v26 = .bool true) ∧ (f10 = true → v8 = .bool true)
theorem GL.same {W : World} {c : CW} {f3 f7 f9 f10 g3 g7 g9 g10 : Bool} {v20 v24 v26 v8 u20 u24 u26 u8 : Value} {X : World} (h : GL W c f3 f7 f9 f10 v20 v24 v26 v8 X) (e1 : g3 = f3) (e2 : g7 = f7) (e3 : g9 = f9) (e4 : g10 = f10) (q1 : u20 = v20) (q2 : u24 = v24) (q3 : u26 = v26) (q4 : u8 = v8) : GL W c g3 g7 g9 g10 u20 u24 u26 u8 X := by rw [e1, e2, e3, e4, q1, q2, q3, q4]; exact h
section
variable {w : World}
set_option maxHeartbeats 16000000 in
set_option maxRecDepth 100000 in
theorem clears_law {c : CW} (hc : CI c) {Os : List Od} {v : Value} (hl : Lr (fun _ x cs => cs = odL x) 13 w Os v) : Calls Try.prog 4 #[.agg #[.int .i64 c.t0, .int .i64 c.t1, .int .i64 c.t2], .int .i64 c.home, .int .i64 c.sh, v] w fun e w' => e = .returned (.bool true) ∧ Below w.heap.size w w' := by
  obtain ⟨V, hV⟩ : ∃ V, V = w.alloc (.cells #[.int .i64 c.t0, .int .i64 c.t1, .int .i64 c.t2] 37) := ⟨_, rfl⟩
  obtain ⟨Y, hY⟩ : ∃ Y, w.heap.size = Y := ⟨_, rfl⟩
  have hb : Below w.heap.size w V := by rw [hV]; exact bnew w _
  have jY : V.heap[Y]? = some (.cells #[.int .i64 c.t0, .int .i64 c.t1, .int .i64 c.t2] 37 (0, 0)) := by rw [hV, ← hY]; exact heap_alloc_new w _
  have hl9 := hl
  obtain ⟨la, lc, rfl, _, z1, z2, _⟩ := hl9
  have hmx : (Os.length : Int) ≤ 9223372036854775807 := by unfold maxLen at z2; omega
  have HL := Lib.hid hl
  have HCI := Lib.hid hc
  have HV := Lib.hid hV
  have HY := Lib.hid hY
  have HB := Lib.hid hb
  have HJ := Lib.hid jY
  have HAW := Lib.hid (awake_any V)
  clear hl hc hV hY hb jY z1 z2
  go_enter Try.func4, Try.ntmps4
  go_upto_region 1 with fail
  rw [← HV.out, HY.out]
  go_wp2_with fail
  refine HAW.out.mono ?_
  rintro e W ⟨rfl, b1⟩
  have HBW := Lib.hid (bgo HB.out b1)
  have HJW : Hid (W.heap[Y]? = some (.cells #[.int .i64 c.t0, .int .i64 c.t1, .int .i64 c.t2] 37 (0, 0))) := Lib.hid ((b1.block _ (blk_lt HJ.out)).trans HJ.out)
  have HLW := Lib.hid (HL.out.on (fun _ _ _ _ _ h => h) (bgo HB.out b1))
  have HAW2 := Lib.hid (awake_any W)
  clear b1 HAW
  by_cases hg : (200 : Int) < (Os.length : Int)
  · go_wp2_with fail
    refine HAW2.out.mono ?_
    rintro e w2 ⟨rfl, b2⟩
    have HB2 := Lib.hid (bgo HBW.out b2)
    clear b2
    go_wp2
    refine bodyPost_ret (v := .bool true) (by simp [results, Try.results4, go_sem]) rfl ?_
    exact ⟨rfl, HB2.out⟩
  · go_upto_region 3 with fail
    refine wp_region_gs (fun fl r X9 => GL W c (fl 3) (fl 7) (fl 9) (fl 10) (r 20) (r 24) (r 26) (r 8) X9) (fun _ _ => True) [
      fun v9 _ => v9 = .agg #[.int .i64 c.t0, .int .i64 c.t1, .int .i64 c.t2],
      fun v9 _ => v9 = .int .i64 c.home,
      fun v9 _ => v9 = .int .i64 c.sh,
      fun _ _ => True,
      fun v9 _ => v9 = .agg #[.int .i64 c.t0, .int .i64 c.t1, .int .i64 c.t2],
      fun v9 _ => v9 = .int .i64 c.home,
      fun v9 _ => v9 = .int .i64 c.sh,
      fun _ _ => True,
      fun v9 _ => v9 = .slice la Os.length lc,
      fun _ _ => True,
      fun _ _ => True]
      (by kernel_rfl) (by kernel_rfl) (by kernel_rfl) ?st ?g0 ?os ?en
    case st => exact ⟨fun _ _ _ _ h => h, fun _ _ _ _ h => h, fun _ _ _ _ h => h, fun _ _ _ _ h => h, fun _ _ _ _ h => h, fun _ _ _ _ h => h, fun _ _ _ _ h => h, fun _ _ _ _ h => h, fun _ _ _ _ h => h, fun _ _ _ _ h => h, fun _ _ _ _ h => h, trivial⟩
    case g0 => exact ⟨⟨rfl, rfl, rfl, Nat.le_refl _, fun _ _ => rfl⟩, fun _ => ⟨fun e => (by cases e), fun e => (by cases e)⟩, fun e => (by cases e), fun e => (by cases e)⟩
    case os =>
      refine ⟨?_, ?_, ?_, ?_, ?_, ?_, ?_, ?_, ?_, ?_, ?_, trivial⟩
      · exact fun ρ X9 fl hg hn hl hp ho hc hf hr => .inl ⟨rfl, Runs.val _ (op_loadAt (show ρ (.tmp 4) = .pointer (some ⟨Y, 0, none⟩) from ho 4 rfl) (load_row ((hg.1.block _ (blk_lt HJW.out)).trans HJW.out) Try.underlying37 rfl size37)) ⟨(fun r' h1 h2 => hg.same rfl rfl rfl rfl (h1 20 (by decide)) (h1 24 (by decide)) (h1 26 (by decide)) (h1 8 (by decide))), trivial, rfl⟩⟩
      · exact fun ρ X9 fl hg hn hl hp ho hc hf hr => .inl ⟨rfl, Runs.val _ (op_move (show ρ (.tmp 1) = .int .i64 c.home from ho 1 rfl)) ⟨(fun r' h1 h2 => hg.same rfl rfl rfl rfl (h1 20 (by decide)) (h1 24 (by decide)) (h1 26 (by decide)) (h1 8 (by decide))), trivial, rfl⟩⟩
      · exact fun ρ X9 fl hg hn hl hp ho hc hf hr => .inl ⟨rfl, Runs.val _ (op_move (show ρ (.tmp 2) = .int .i64 c.sh from ho 2 rfl)) ⟨(fun r' h1 h2 => hg.same rfl rfl rfl rfl (h1 20 (by decide)) (h1 24 (by decide)) (h1 26 (by decide)) (h1 8 (by decide))), trivial, rfl⟩⟩
      · intro ρ X9 fl hg hn hl hp ho hc hf hr
        have n9 : fl 9 = false := by
          cases h9 : fl 9 with
          | false => rfl
          | true => exact absurd (hl 9 _ 3 rfl rfl h9) (by rw [hn]; decide)
        have hG : GL W c (fl 3) (fl 7) (fl 9) (fl 10) (ρ (.tmp 20)) (ρ (.tmp 24)) (ρ (.tmp 26)) (ρ (.tmp 8)) X9 := hg
        rw [n9, show fl 3 = false from hn] at hG
        obtain ⟨hb, h2, h3, h4⟩ := hG
        obtain ⟨_, h5⟩ := h2 rfl
        refine .inl ⟨rfl, ?_⟩
        refine Runs.goes 12 #[.agg #[.int .i64 c.t0, .int .i64 c.t1, .int .i64 c.t2], .int .i64 c.home, .int .i64 c.sh] (op_call3 hf (by go_simp) (show ρ (.tmp 17) = .agg #[.int .i64 c.t0, .int .i64 c.t1, .int .i64 c.t2] from hr 0 17 rfl rfl) (show ρ (.tmp 18) = .int .i64 c.home from hr 1 18 rfl rfl) (show ρ (.tmp 19) = .int .i64 c.sh from hr 2 19 rfl rfl)) ((clear_any c).mono ?_)
        rintro e7 w7 ⟨A, g, rfl, p7, l7, b7⟩
        refine ⟨_, rfl, (fun r' h1 hd => ?_), trivial, trivial⟩
        show GL W c true (fl 7) (fl 9) (fl 10) (r' 20) (r' 24) (r' 26) (r' 8) w7
        rw [hd 20 rfl, h1 24 (by decide), h1 26 (by decide), h1 8 (by decide), n9]
        refine ⟨bgo hb b7, fun _ => ⟨fun _ => ⟨A, g, rfl, Nat.le_trans hb.size l7, p7⟩, fun e => ?_⟩, h3, h4⟩
        obtain ⟨R, b, e1, e2, e3, e4⟩ := h5 e
        exact ⟨R, b, e1, e2, e3, e4.on b7⟩
      · exact fun ρ X9 fl hg hn hl hp ho hc hf hr => .inl ⟨rfl, Runs.val _ (op_loadAt (show ρ (.tmp 4) = .pointer (some ⟨Y, 0, none⟩) from ho 4 rfl) (load_row ((hg.1.block _ (blk_lt HJW.out)).trans HJW.out) Try.underlying37 rfl size37)) ⟨(fun r' h1 h2 => hg.same rfl rfl rfl rfl (h1 20 (by decide)) (h1 24 (by decide)) (h1 26 (by decide)) (h1 8 (by decide))), trivial, rfl⟩⟩
      · exact fun ρ X9 fl hg hn hl hp ho hc hf hr => .inl ⟨rfl, Runs.val _ (op_move (show ρ (.tmp 1) = .int .i64 c.home from ho 1 rfl)) ⟨(fun r' h1 h2 => hg.same rfl rfl rfl rfl (h1 20 (by decide)) (h1 24 (by decide)) (h1 26 (by decide)) (h1 8 (by decide))), trivial, rfl⟩⟩
      · exact fun ρ X9 fl hg hn hl hp ho hc hf hr => .inl ⟨rfl, Runs.val _ (op_move (show ρ (.tmp 2) = .int .i64 c.sh from ho 2 rfl)) ⟨(fun r' h1 h2 => hg.same rfl rfl rfl rfl (h1 20 (by decide)) (h1 24 (by decide)) (h1 26 (by decide)) (h1 8 (by decide))), trivial, rfl⟩⟩
      · intro ρ X9 fl hg hn hl hp ho hc hf hr
        have n9 : fl 9 = false := by
          cases h9 : fl 9 with
          | false => rfl
          | true => exact absurd (hl 9 _ 7 rfl rfl h9) (by rw [hn]; decide)
        have hG : GL W c (fl 3) (fl 7) (fl 9) (fl 10) (ρ (.tmp 20)) (ρ (.tmp 24)) (ρ (.tmp 26)) (ρ (.tmp 8)) X9 := hg
        rw [n9, show fl 7 = false from hn] at hG
        obtain ⟨hb, h2, h3, h4⟩ := hG
        obtain ⟨h5, _⟩ := h2 rfl
        refine .inl ⟨rfl, ?_⟩
        refine Runs.goes 13 #[.agg #[.int .i64 c.t0, .int .i64 c.t1, .int .i64 c.t2], .int .i64 c.home, .int .i64 c.sh] (op_call3 hf (by go_simp) (show ρ (.tmp 21) = .agg #[.int .i64 c.t0, .int .i64 c.t1, .int .i64 c.t2] from hr 4 21 rfl rfl) (show ρ (.tmp 22) = .int .i64 c.home from hr 5 22 rfl rfl) (show ρ (.tmp 23) = .int .i64 c.sh from hr 6 23 rfl rfl)) ((refClear_any c).mono ?_)
        rintro e7 w7 ⟨R, b, rfl, p7, l7, m7, b7⟩
        refine ⟨_, rfl, (fun r' h1 hd => ?_), trivial, trivial⟩
        show GL W c (fl 3) true (fl 9) (fl 10) (r' 20) (r' 24) (r' 26) (r' 8) w7
        rw [h1 20 (by decide), hd 24 rfl, h1 26 (by decide), h1 8 (by decide), n9]
        refine ⟨bgo hb b7, fun _ => ⟨fun e => ?_, fun _ => ⟨R, b, rfl, Nat.le_trans hb.size l7, Nat.le_trans hb.size m7, p7, .inl rfl⟩⟩, h3, h4⟩
        obtain ⟨A, g, e1, e2, e4⟩ := h5 e
        exact ⟨A, g, e1, e2, e4.on b7⟩
      · exact fun ρ X9 fl hg hn hl hp ho hc hf hr => .inl ⟨rfl, Runs.val _ (op_move (show ρ (.tmp 3) = .slice la Os.length lc from ho 3 rfl)) ⟨(fun r' h1 h2 => hg.same rfl rfl rfl rfl (h1 20 (by decide)) (h1 24 (by decide)) (h1 26 (by decide)) (h1 8 (by decide))), trivial, rfl⟩⟩
      · intro ρ X9 fl hg hn hl hp ho hc hf hr
        have n10 : fl 10 = false := by
          cases h9 : fl 10 with
          | false => rfl
          | true => exact absurd (hl 10 _ 9 rfl rfl h9) (by rw [hn]; decide)
        have y3 : fl 3 = true := hp 3 rfl
        have y7 : fl 7 = true := hp 7 rfl
        have hG : GL W c (fl 3) (fl 7) (fl 9) (fl 10) (ρ (.tmp 20)) (ρ (.tmp 24)) (ρ (.tmp 26)) (ρ (.tmp 8)) X9 := hg
        rw [show fl 9 = false from hn, y3, y7] at hG
        obtain ⟨hb, h2, h3, h4⟩ := hG
        obtain ⟨h5, h6⟩ := h2 rfl
        obtain ⟨A, g, e1, e2, e4⟩ := h5 rfl
        obtain ⟨R, b, f1, f2, f3, f4⟩ := h6 rfl
        have hpl := plays_any HCI.out HLW.out ⟨e4, f4, (by unfold I64; show (-9223372036854775808 : Int) ≤ 0 ∧ (0 : Int) ≤ 9223372036854775807; omega), hb⟩ e2 f2 f3
        refine .inl ⟨rfl, ?_⟩
        refine Runs.goes 11 #[.pointer (some ⟨A, 0, none⟩), .pointer (some ⟨R, 0, none⟩), .slice la Os.length lc] (op_call3 hf (by go_simp) e1 f1 (show ρ (.tmp 25) = .slice la Os.length lc from hr 8 25 rfl rfl)) (hpl.mono ?_)
        rintro e7 w7 ⟨rfl, b7⟩
        refine ⟨_, rfl, (fun r' h1 hd => ?_), trivial, trivial⟩
        show GL W c (fl 3) (fl 7) true (fl 10) (r' 20) (r' 24) (r' 26) (r' 8) w7
        rw [h1 20 (by decide), h1 24 (by decide), hd 26 rfl, h1 8 (by decide)]
        exact ⟨b7, fun e => (by cases e), fun _ => rfl, h4⟩
      · intro ρ X9 fl hg hn hl hp ho hc hf hr
        have y9 : fl 9 = true := hp 9 rfl
        have hG : GL W c (fl 3) (fl 7) (fl 9) (fl 10) (ρ (.tmp 20)) (ρ (.tmp 24)) (ρ (.tmp 26)) (ρ (.tmp 8)) X9 := hg
        refine .inl ⟨rfl, Runs.val _ (op_assign rfl) ⟨(fun r' h1 hd => ?_), trivial, trivial⟩⟩
        show GL W c (fl 3) (fl 7) (fl 9) true (r' 20) (r' 24) (r' 26) (r' 8) X9
        rw [h1 20 (by decide), h1 24 (by decide), h1 26 (by decide), hd 8 rfl]
        exact ⟨hG.1, hG.2.1, hG.2.2.1, fun _ => hG.2.2.1 y9⟩
    case en =>
      intro a9 w6 fl hfl hG9 hs9 hd9 ho9 hr9
      obtain ⟨x9, hx, hxt⟩ := act_put hs9 hd9 ho9
      have h8 := (show GL W c (fl 3) (fl 7) (fl 9) (fl 10) (a9.tmps.getD 20 undef) (a9.tmps.getD 24 undef) (a9.tmps.getD 26 undef) (a9.tmps.getD 8 undef) w6 from hG9)
      have e8 : x9 8 = .bool true := (hxt 8).symm.trans (h8.2.2.2 (hfl 10 (by decide)))
      have HE := Lib.hid (bgo HBW.out h8.1)
      clear h8 hfl hG9 hs9 hd9 ho9 hr9
      change a9 = putAll _ x9 [17, 18, 19, 20, 21, 22, 23, 24, 25, 26, 8] at hx
      simp only [putAll, Act.put, List.setIfInBounds_toArray, List.set_cons_zero, List.set_cons_succ, e8] at hx
      subst hx
      clear hxt e8
      generalize x9 17 = z17, x9 18 = z18, x9 19 = z19, x9 20 = z20, x9 21 = z21, x9 22 = z22, x9 23 = z23, x9 24 = z24, x9 25 = z25, x9 26 = z26
      go_wp2
      refine bodyPost_ret (v := .bool true) (by simp [results, Try.results4, go_sem]) rfl ?_
      exact ⟨rfl, HE.out⟩
end
end Go.Proofs.Ytfokgalgdlajlaa
