/- What a deal asks for now. -/
import Derived.Test.YtfokgalgdlajlaaCg
namespace Go.Proofs.Ytfokgalgdlajlaa
open Go.RowKit
theorem AsAns.up {w W : World} {L : List Ak} {e : Ending} {w' : World} (h : AsAns W L e w') (hb : Below w.heap.size w W) : AsAns w L e w' := by
  obtain ⟨ad, cap, e1, h1, h2⟩ := h
  exact ⟨ad, cap, e1, own_mono h1 hb.size, bgo hb h2⟩
theorem as_none (w : World) : AsAns w [] (.returned (.slice none 0 0)) w := ⟨none, 0, rfl, World.ownsRow_nil _ _ _ _, Below.refl _ _⟩
theorem box_row {w X : World} {b : Nat} {a : Ak} (h : X.heap[b]? = some (.cells (akA a) 78 (0, 0))) (hb : w.heap.size ≤ b) : X.ownsRow w.heap.size 78 31 (.slice (some ⟨b, 0, none⟩) 1 1) 1 (akL a) :=
  ⟨rfl, .inr ⟨b, 1, akA a, rfl, hb, h, Nat.le_refl _, (by decide), rfl, rfl⟩⟩
theorem shF_prep (d : Dl) : shF d.prep = d.prep := rfl
theorem shF_reso (d : Dl) : shF d.reso = d.reso := rfl
section
variable {w : World} {A : Nat} {d : Dl} {pa wa : Option Addr} {pc wc : Nat}
set_option maxRecDepth 100000 in
theorem nothing_any (v : Value) : Calls Try.prog 52 #[v] w (AsAns w []) := by
  go_enter Try.func52, Try.ntmps52
  go_wp2
  refine bodyPost_ret (v := .slice none 0 0) (by simp [results, Try.results52, go_sem]) rfl ?_
  exact as_none _
set_option maxHeartbeats 1000000 in
set_option maxRecDepth 100000 in
theorem prepares_any (h : Dx w A d pa pc wa wc) (hz : d.wait.length ≤ 900000) : Calls Try.prog 53 #[.pointer (some ⟨A, 0, none⟩)] w (AsAns w (d.wait.map d.prep)) := by
  obtain ⟨W, hW⟩ : ∃ W, W = w.alloc (.cells #[.pointer (some ⟨A, 0, none⟩)] 38) := ⟨_, rfl⟩
  obtain ⟨Y, hY⟩ : ∃ Y, w.heap.size = Y := ⟨_, rfl⟩
  have hb : Below w.heap.size w W := by rw [hW]; exact bnew w _
  have jY : W.heap[Y]? = some (.cells #[.pointer (some ⟨A, 0, none⟩)] 38 (0, 0)) := by rw [hW, ← hY]; exact heap_alloc_new w _
  have cY : W.cell? ⟨Y, 0, none⟩ = some (.pointer (some ⟨A, 0, none⟩)) := cell_blk jY 0
  have hD := h.on hb
  have hm : Makes W d.wait 72 #[.pointer (some ⟨Y, 0, none⟩)] d.prep := fun X hX l _ => prep_clo (hD.on hX) (cell_on hX cY) l
  have hc := each_any hD (f := 72) (cs := #[.pointer (some ⟨Y, 0, none⟩)]) (F := d.prep) (fun X a => by go_simp) hm hz
  rw [shF_prep] at hc
  have HB := Lib.hid hb
  have HC := Lib.hid hc
  have HW := Lib.hid hW
  have HY := Lib.hid hY
  have HCY := Lib.hid cY
  clear h hz hW hY hb jY cY hD hm hc
  go_enter Try.func53, Try.ntmps53
  go_upto_region 1 with fail
  rw [← HW.out, HY.out]
  have cY := HCY.out
  go_wp2_with fail
  refine HC.out.mono ?_
  rintro e v6 ⟨ad, cap, rfl, h1, h2⟩
  have HA : Hid (AsAns W (d.wait.map d.prep) (.returned (.slice ad (d.wait.map d.prep).length cap)) v6) := Lib.hid ⟨ad, cap, rfl, h1, h2⟩
  clear h1 h2 cY
  go_wp2
  refine bodyPost_ret (v := .slice ad (d.wait.map d.prep).length cap) (by simp [results, Try.results53, go_sem]) rfl ?_
  exact HA.out.up HB.out
set_option maxHeartbeats 1000000 in
set_option maxRecDepth 100000 in
theorem resolves_any (h : Dx w A d pa pc wa wc) (hz : d.wait.length ≤ 900000) : Calls Try.prog 55 #[.pointer (some ⟨A, 0, none⟩)] w (AsAns w (d.wait.map d.reso)) := by
  obtain ⟨W, hW⟩ : ∃ W, W = w.alloc (.cells #[.pointer (some ⟨A, 0, none⟩)] 38) := ⟨_, rfl⟩
  obtain ⟨Y, hY⟩ : ∃ Y, w.heap.size = Y := ⟨_, rfl⟩
  have hb : Below w.heap.size w W := by rw [hW]; exact bnew w _
  have jY : W.heap[Y]? = some (.cells #[.pointer (some ⟨A, 0, none⟩)] 38 (0, 0)) := by rw [hW, ← hY]; exact heap_alloc_new w _
  have cY : W.cell? ⟨Y, 0, none⟩ = some (.pointer (some ⟨A, 0, none⟩)) := cell_blk jY 0
  have hD := h.on hb
  have hm : Makes W d.wait 74 #[.pointer (some ⟨Y, 0, none⟩)] d.reso := fun X hX l _ => reso_clo (hD.on hX) (cell_on hX cY) l
  have hc := each_any hD (f := 74) (cs := #[.pointer (some ⟨Y, 0, none⟩)]) (F := d.reso) (fun X a => by go_simp) hm hz
  rw [shF_reso] at hc
  have HB := Lib.hid hb
  have HC := Lib.hid hc
  have HW := Lib.hid hW
  have HY := Lib.hid hY
  have HCY := Lib.hid cY
  clear h hz hW hY hb jY cY hD hm hc
  go_enter Try.func55, Try.ntmps55
  go_upto_region 1 with fail
  rw [← HW.out, HY.out]
  have cY := HCY.out
  go_wp2_with fail
  refine HC.out.mono ?_
  rintro e v6 ⟨ad, cap, rfl, h1, h2⟩
  have HA : Hid (AsAns W (d.wait.map d.reso) (.returned (.slice ad (d.wait.map d.reso).length cap)) v6) := Lib.hid ⟨ad, cap, rfl, h1, h2⟩
  clear h1 h2 cY
  go_wp2
  refine bodyPost_ret (v := .slice ad (d.wait.map d.reso).length cap) (by simp [results, Try.results55, go_sem]) rfl ?_
  exact HA.out.up HB.out
set_option maxHeartbeats 2000000 in
set_option maxRecDepth 100000 in
theorem commits_clr (h : Dx w A d pa pc wa wc) (hc : d.clr = true) : Calls Try.prog 54 #[.pointer (some ⟨A, 0, none⟩)] w (AsAns w [d.cmd d.home 3]) := by
  have l7 : w.cell? ⟨A, 7, none⟩ = some (.bool true) := by rw [← hc]; exact h.cell 7
  have HD := Lib.hid h
  clear h hc
  go_enter Try.func54, Try.ntmps54
  go_upto_region 2 with fail
  refine wp_region_fb (fun _ X9 => Below w.heap.size w X9) (fun X9 X8 => Below X9.heap.size X9 X8) [
    fun v9 _ => v9 = .pointer (some ⟨A, 0, none⟩),
    fun v9 _ => v9 = .pointer (some ⟨A, 0, none⟩),
    fun v9 _ => v9 = .pointer (some ⟨A, 6, none⟩),
    fun v9 _ => v9 = .int .i64 d.home,
    fun v9 _ => v9 = .pointer (some ⟨A, 0, none⟩),
    fun v9 _ => v9 = .agg (cmA (d.cmd 0 3)),
    fun v9 _ => v9 = .agg (akA (d.cmd d.home 3)),
    fun v9 X9 => ∃ b, v9 = .slice (some ⟨b, 0, none⟩) 1 1 ∧ w.heap.size ≤ b ∧ X9.heap[b]? = some (.cells (akA (d.cmd d.home 3)) 78 (0, 0)),
    fun v9 X9 => ∃ b, v9 = .slice (some ⟨b, 0, none⟩) 1 1 ∧ w.heap.size ≤ b ∧ X9.heap[b]? = some (.cells (akA (d.cmd d.home 3)) 78 (0, 0))]
    (by kernel_rfl) (by kernel_rfl) (by kernel_rfl) ?st ?g0 ?os ?en
  case st => exact ⟨fun _ _ _ _ h => h, fun _ _ _ _ h => h, fun _ _ _ _ h => h, fun _ _ _ _ h => h, fun _ _ _ _ h => h, fun _ _ _ _ h => h, fun _ _ _ _ h => h, (fun _ _ _ hb h => by obtain ⟨b, e9, h1, h2⟩ := h; exact ⟨b, e9, h1, (hb.block b (blk_lt h2)).trans h2⟩), (fun _ _ _ hb h => by obtain ⟨b, e9, h1, h2⟩ := h; exact ⟨b, e9, h1, (hb.block b (blk_lt h2)).trans h2⟩), trivial⟩
  case g0 => exact ⟨rfl, rfl, rfl, Nat.le_refl _, fun _ _ => rfl⟩
  case os =>
    refine ⟨?_, ?_, ?_, ?_, ?_, ?_, ?_, ?_, ?_, trivial⟩
    · exact fun ρ X9 fl hg hn hl hp ho hc hf hr => .inl ⟨rfl, Runs.val _ (op_move (show ρ (.tmp 0) = .pointer (some ⟨A, 0, none⟩) from ho 0 rfl)) ⟨hg, Below.refl _ _, rfl⟩⟩
    · exact fun ρ X9 fl hg hn hl hp ho hc hf hr => .inl ⟨rfl, Runs.val _ (op_nil (show ρ (.tmp 8) = .pointer (some ⟨A, 0, none⟩) from hr 0 8 rfl rfl)) ⟨hg, Below.refl _ _, rfl⟩⟩
    · exact fun ρ X9 fl hg hn hl hp ho hc hf hr => .inl ⟨rfl, Runs.val _ (op_f82_4 (show ρ (.tmp 9) = .pointer (some ⟨A, 0, none⟩) from hr 1 9 rfl rfl)) ⟨hg, Below.refl _ _, rfl⟩⟩
    · exact fun ρ X9 fl hg hn hl hp ho hc hf hr => .inl ⟨rfl, Runs.val _ (op_load3 (show ρ (.tmp 10) = .pointer (some ⟨A, 6, none⟩) from hr 2 10 rfl rfl) (cell_on hg (HD.out.cell 6))) ⟨hg, Below.refl _ _, rfl⟩⟩
    · exact fun ρ X9 fl hg hn hl hp ho hc hf hr => .inl ⟨rfl, Runs.val _ (op_move (show ρ (.tmp 0) = .pointer (some ⟨A, 0, none⟩) from ho 0 rfl)) ⟨hg, Below.refl _ _, rfl⟩⟩
    · intro ρ X9 fl hg hn hl hp ho hc hf hr
      refine .inl ⟨rfl, ?_⟩
      refine Runs.goes 73 #[.pointer (some ⟨A, 0, none⟩), .int .i64 3] (op_call2 hf (by go_simp) (show ρ (.tmp 12) = .pointer (some ⟨A, 0, none⟩) from hr 4 12 rfl rfl) (hc _)) ((command_any (HD.out.on hg) 3).mono ?_)
      rintro e7 w7 ⟨rfl, b7⟩
      exact ⟨_, rfl, bgo hg b7, b7, rfl⟩
    · exact fun ρ X9 fl hg hn hl hp ho hc hf hr => .inl ⟨rfl, Runs.val _ (op_b78 (a := d.cmd 0 3) (show ρ (.tmp 11) = .int .i64 d.home from hr 3 11 rfl rfl) (show ρ (.tmp 13) = .agg (cmA (d.cmd 0 3)) from hr 5 13 rfl rfl)) ⟨hg, Below.refl _ _, rfl⟩⟩
    · intro ρ X9 fl hg hn hl hp ho hc hf hr
      exact .inl ⟨rfl, Runs.val _ (op_s55 (show ρ (.tmp 14) = .agg (akA (d.cmd d.home 3)) from hr 6 14 rfl rfl)) ⟨bgo hg (bnew _ _), bnew _ _, X9.heap.size, rfl, hg.size, heap_alloc_new _ _⟩⟩
    · intro ρ X9 fl hg hn hl hp ho hc hf hr
      exact .inl ⟨rfl, Runs.val _ (op_assign rfl) ⟨hg, Below.refl _ _, (show ∃ b, ρ (.tmp 15) = .slice (some ⟨b, 0, none⟩) 1 1 ∧ w.heap.size ≤ b ∧ X9.heap[b]? = some (.cells (akA (d.cmd d.home 3)) 78 (0, 0)) from hr 7 15 rfl rfl)⟩⟩
  case en =>
    intro a9 w6 fl hfl hG9 hs9 hd9 ho9 hr9
    obtain ⟨x9, hx, hxt⟩ := act_put hs9 hd9 ho9
    obtain ⟨b, q2, h1, h2⟩ := hr9 8 2 rfl
    have xk2 : x9 2 = .slice (some ⟨b, 0, none⟩) 1 1 := (hxt 2).symm.trans q2
    change a9 = putAll _ x9 [8, 9, 10, 11, 12, 13, 14, 15, 2] at hx
    simp only [putAll, Act.put, List.setIfInBounds_toArray, List.set_cons_zero, List.set_cons_succ, xk2] at hx
    subst hx
    clear hs9 hd9 ho9 hr9 hxt hfl xk2 q2
    generalize x9 8 = z8, x9 9 = z9, x9 10 = z10, x9 11 = z11, x9 12 = z12, x9 13 = z13, x9 14 = z14, x9 15 = z15
    have HE := Lib.hid (And.intro hG9 (box_row h2 h1))
    clear hG9 h1 h2
    go_wp2
    refine bodyPost_ret (v := .slice (some ⟨b, 0, none⟩) 1 1) (by simp [results, Try.results54, go_sem]) rfl ?_
    exact ⟨_, _, rfl, HE.out.2, HE.out.1⟩
end
def Dl.commF (d : Dl) (f1 f2 f3 f4 : Bool) : Ak := { d.cmd 0 2 with mn := cond f1 (d.high + 1) 0, til := cond f2 d.til 0, ver := cond f3 d.ver 0, call := cond f4 d.call 0 }
section
variable {w : World} {A : Nat} {d : Dl} {pa wa : Option Addr} {pc wc : Nat}
set_option maxHeartbeats 4000000 in
set_option maxRecDepth 100000 in
theorem commits_put (h : Dx w A d pa pc wa wc) (hc : d.clr = false) (hh : 0 ≤ d.high ∧ d.high ≤ 1125899906842624) : Calls Try.prog 54 #[.pointer (some ⟨A, 0, none⟩)] w (AsAns w [d.comm]) := by
  have l7 : w.cell? ⟨A, 7, none⟩ = some (.bool false) := by rw [← hc]; exact h.cell 7
  have hcm := command_any h 2
  have HC := Lib.hid hcm
  have HD := Lib.hid h
  have HH := Lib.hid hh
  clear h hc hcm hh
  go_enter Try.func54, Try.ntmps54
  go_upto_region 4 with (first | (go_at_call 73; refine HC.out.mono ?_; rintro e v6 ⟨rfl, b6⟩; have B6 := Lib.hid b6; clear b6; obtain ⟨V2, e2, k2, f2⟩ := st_row (heap_alloc_new v6 (.cells zC 76)) (us := cmA (d.cmd 0 2)) rfl size76 (by simp [Value.oneCell']); have HS2 := Lib.hid e2; have HK2 := Lib.hid k2; have HF2 := Lib.hid f2; clear e2 k2 f2) | (refine wpl_store _ _ rfl (by first | rfl | simp [Act.eval]) (by first | rfl | simp [Act.eval]) HS2.out ?_))
  have BV : Hid (Below v6.heap.size v6 V2) := Lib.hid (below_put (bnew v6 _) (Nat.le_refl _) HF2.out (Nat.le_refl _))
  have HDV := Lib.hid (HD.out.on (bgo B6.out BV.out))
  have HLT : Hid (A < v6.heap.size) := Lib.hid (Nat.lt_of_lt_of_le HD.out.lt B6.out.size)
  refine wp_region_fb (fun fl X9 => Fr V2 X9 (fun k => k = v6.heap.size) ∧ X9.heap[v6.heap.size]? = some (.cells (cmA (d.commF (fl 18) (fl 20) (fl 22) (fl 24))) 76 (0, 0))) (fun _ _ => True) [
    fun v9 _ => v9 = .pointer (some ⟨A, 0, none⟩),
    fun v9 _ => v9 = .pointer (some ⟨A, 0, none⟩),
    fun v9 _ => v9 = .pointer (some ⟨A, 11, none⟩),
    fun v9 _ => v9 = .int .i64 d.high,
    fun v9 _ => v9 = .int .i64 (d.high + 1),
    fun v9 _ => v9 = .pointer (some ⟨A, 0, none⟩),
    fun v9 _ => v9 = .pointer (some ⟨A, 0, none⟩),
    fun v9 _ => v9 = .pointer (some ⟨A, 5, none⟩),
    fun v9 _ => v9 = .int .i64 d.til,
    fun v9 _ => v9 = .pointer (some ⟨A, 0, none⟩),
    fun v9 _ => v9 = .pointer (some ⟨A, 0, none⟩),
    fun v9 _ => v9 = .pointer (some ⟨A, 4, none⟩),
    fun v9 _ => v9 = .int .i64 d.ver,
    fun v9 _ => v9 = .pointer (some ⟨A, 0, none⟩),
    fun v9 _ => v9 = .pointer (some ⟨A, 0, none⟩),
    fun v9 _ => v9 = .pointer (some ⟨A, 3, none⟩),
    fun v9 _ => v9 = .int .i64 d.call,
    fun v9 _ => v9 = .pointer (some ⟨v6.heap.size, 10, none⟩),
    fun _ _ => True,
    fun v9 _ => v9 = .pointer (some ⟨v6.heap.size, 11, none⟩),
    fun _ _ => True,
    fun v9 _ => v9 = .pointer (some ⟨v6.heap.size, 13, none⟩),
    fun _ _ => True,
    fun v9 _ => v9 = .pointer (some ⟨v6.heap.size, 14, none⟩),
    fun _ _ => True]
    (by kernel_rfl) (by kernel_rfl) (by kernel_rfl) ?st ?g0 ?os ?en
  case st => exact ⟨fun _ _ _ _ h => h, fun _ _ _ _ h => h, fun _ _ _ _ h => h, fun _ _ _ _ h => h, fun _ _ _ _ h => h, fun _ _ _ _ h => h, fun _ _ _ _ h => h, fun _ _ _ _ h => h, fun _ _ _ _ h => h, fun _ _ _ _ h => h, fun _ _ _ _ h => h, fun _ _ _ _ h => h, fun _ _ _ _ h => h, fun _ _ _ _ h => h, fun _ _ _ _ h => h, fun _ _ _ _ h => h, fun _ _ _ _ h => h, fun _ _ _ _ h => h, fun _ _ _ _ h => h, fun _ _ _ _ h => h, fun _ _ _ _ h => h, fun _ _ _ _ h => h, fun _ _ _ _ h => h, fun _ _ _ _ h => h, fun _ _ _ _ h => h, trivial⟩
  case g0 => exact ⟨Fr.ofBelow _ ⟨rfl, rfl, rfl, Nat.le_refl _, fun _ _ => rfl⟩, HK2.out⟩
  case os =>
    refine ⟨?_, ?_, ?_, ?_, ?_, ?_, ?_, ?_, ?_, ?_, ?_, ?_, ?_, ?_, ?_, ?_, ?_, ?_, ?_, ?_, ?_, ?_, ?_, ?_, ?_, trivial⟩
    · exact fun ρ X9 fl hg hn hl hp ho hc hf hr => .inl ⟨rfl, Runs.val _ (op_move (show ρ (.tmp 0) = .pointer (some ⟨A, 0, none⟩) from ho 0 rfl)) ⟨hg, trivial, rfl⟩⟩
    · exact fun ρ X9 fl hg hn hl hp ho hc hf hr => .inl ⟨rfl, Runs.val _ (op_nil (show ρ (.tmp 18) = .pointer (some ⟨A, 0, none⟩) from hr 0 18 rfl rfl)) ⟨hg, trivial, rfl⟩⟩
    · exact fun ρ X9 fl hg hn hl hp ho hc hf hr => .inl ⟨rfl, Runs.val _ (op_f82_9 (show ρ (.tmp 19) = .pointer (some ⟨A, 0, none⟩) from hr 1 19 rfl rfl)) ⟨hg, trivial, rfl⟩⟩
    · exact fun ρ X9 fl hg hn hl hp ho hc hf hr => .inl ⟨rfl, Runs.val _ (op_load3 (show ρ (.tmp 20) = .pointer (some ⟨A, 11, none⟩) from hr 2 20 rfl rfl) (fr_cell hg.1 (HDV.out.cell 11) (Nat.ne_of_lt HLT.out))) ⟨hg, trivial, rfl⟩⟩
    · exact fun ρ X9 fl hg hn hl hp ho hc hf hr => .inl ⟨rfl, Runs.val _ (op_add3 (show ρ (.tmp 21) = .int .i64 d.high from hr 3 21 rfl rfl) (hc _) rfl (by have := HH.out; omega) (by have := HH.out; omega)) ⟨hg, trivial, rfl⟩⟩
    · exact fun ρ X9 fl hg hn hl hp ho hc hf hr => .inl ⟨rfl, Runs.val _ (op_move (show ρ (.tmp 0) = .pointer (some ⟨A, 0, none⟩) from ho 0 rfl)) ⟨hg, trivial, rfl⟩⟩
    · exact fun ρ X9 fl hg hn hl hp ho hc hf hr => .inl ⟨rfl, Runs.val _ (op_nil (show ρ (.tmp 23) = .pointer (some ⟨A, 0, none⟩) from hr 5 23 rfl rfl)) ⟨hg, trivial, rfl⟩⟩
    · exact fun ρ X9 fl hg hn hl hp ho hc hf hr => .inl ⟨rfl, Runs.val _ (op_f82_3 (show ρ (.tmp 24) = .pointer (some ⟨A, 0, none⟩) from hr 6 24 rfl rfl)) ⟨hg, trivial, rfl⟩⟩
    · exact fun ρ X9 fl hg hn hl hp ho hc hf hr => .inl ⟨rfl, Runs.val _ (op_load3 (show ρ (.tmp 25) = .pointer (some ⟨A, 5, none⟩) from hr 7 25 rfl rfl) (fr_cell hg.1 (HDV.out.cell 5) (Nat.ne_of_lt HLT.out))) ⟨hg, trivial, rfl⟩⟩
    · exact fun ρ X9 fl hg hn hl hp ho hc hf hr => .inl ⟨rfl, Runs.val _ (op_move (show ρ (.tmp 0) = .pointer (some ⟨A, 0, none⟩) from ho 0 rfl)) ⟨hg, trivial, rfl⟩⟩
    · exact fun ρ X9 fl hg hn hl hp ho hc hf hr => .inl ⟨rfl, Runs.val _ (op_nil (show ρ (.tmp 27) = .pointer (some ⟨A, 0, none⟩) from hr 9 27 rfl rfl)) ⟨hg, trivial, rfl⟩⟩
    · exact fun ρ X9 fl hg hn hl hp ho hc hf hr => .inl ⟨rfl, Runs.val _ (op_f82_2 (show ρ (.tmp 28) = .pointer (some ⟨A, 0, none⟩) from hr 10 28 rfl rfl)) ⟨hg, trivial, rfl⟩⟩
    · exact fun ρ X9 fl hg hn hl hp ho hc hf hr => .inl ⟨rfl, Runs.val _ (op_load3 (show ρ (.tmp 29) = .pointer (some ⟨A, 4, none⟩) from hr 11 29 rfl rfl) (fr_cell hg.1 (HDV.out.cell 4) (Nat.ne_of_lt HLT.out))) ⟨hg, trivial, rfl⟩⟩
    · exact fun ρ X9 fl hg hn hl hp ho hc hf hr => .inl ⟨rfl, Runs.val _ (op_move (show ρ (.tmp 0) = .pointer (some ⟨A, 0, none⟩) from ho 0 rfl)) ⟨hg, trivial, rfl⟩⟩
    · exact fun ρ X9 fl hg hn hl hp ho hc hf hr => .inl ⟨rfl, Runs.val _ (op_nil (show ρ (.tmp 31) = .pointer (some ⟨A, 0, none⟩) from hr 13 31 rfl rfl)) ⟨hg, trivial, rfl⟩⟩
    · exact fun ρ X9 fl hg hn hl hp ho hc hf hr => .inl ⟨rfl, Runs.val _ (op_f82_1 (show ρ (.tmp 32) = .pointer (some ⟨A, 0, none⟩) from hr 14 32 rfl rfl)) ⟨hg, trivial, rfl⟩⟩
    · exact fun ρ X9 fl hg hn hl hp ho hc hf hr => .inl ⟨rfl, Runs.val _ (op_load3 (show ρ (.tmp 33) = .pointer (some ⟨A, 3, none⟩) from hr 15 33 rfl rfl) (fr_cell hg.1 (HDV.out.cell 3) (Nat.ne_of_lt HLT.out))) ⟨hg, trivial, rfl⟩⟩
    · exact fun ρ X9 fl hg hn hl hp ho hc hf hr => .inl ⟨rfl, Runs.val _ (op_f76_6 (show ρ (.tmp 3) = .pointer (some ⟨v6.heap.size, 0, none⟩) from ho 3 rfl)) ⟨hg, trivial, rfl⟩⟩
    · intro ρ X9 fl hg hn hl hp ho hc hf hr
      have hG : Fr V2 X9 (fun k => k = v6.heap.size) ∧ X9.heap[v6.heap.size]? = some (.cells (cmA (d.commF (fl 18) (fl 20) (fl 22) (fl 24))) 76 (0, 0)) := hg
      refine .inl ⟨rfl, ?_⟩
      exact Runs.skips (op_store3 (show ρ (.tmp 35) = .pointer (some ⟨v6.heap.size, 10, none⟩) from hr 17 35 rfl rfl) (show ρ (.tmp 22) = .int .i64 (d.high + 1) from hr 4 22 rfl rfl) (cell_blk hG.2 10) (frozen_blk hG.2 _)) ⟨⟨hG.1.set (a := ⟨v6.heap.size, 10, none⟩) (.inl rfl) _, set_blk hG.2 _⟩, trivial, trivial⟩
    · exact fun ρ X9 fl hg hn hl hp ho hc hf hr => .inl ⟨rfl, Runs.val _ (op_f76_7 (show ρ (.tmp 3) = .pointer (some ⟨v6.heap.size, 0, none⟩) from ho 3 rfl)) ⟨hg, trivial, rfl⟩⟩
    · intro ρ X9 fl hg hn hl hp ho hc hf hr
      have hG : Fr V2 X9 (fun k => k = v6.heap.size) ∧ X9.heap[v6.heap.size]? = some (.cells (cmA (d.commF (fl 18) (fl 20) (fl 22) (fl 24))) 76 (0, 0)) := hg
      refine .inl ⟨rfl, ?_⟩
      exact Runs.skips (op_store3 (show ρ (.tmp 36) = .pointer (some ⟨v6.heap.size, 11, none⟩) from hr 19 36 rfl rfl) (show ρ (.tmp 26) = .int .i64 d.til from hr 8 26 rfl rfl) (cell_blk hG.2 11) (frozen_blk hG.2 _)) ⟨⟨hG.1.set (a := ⟨v6.heap.size, 11, none⟩) (.inl rfl) _, set_blk hG.2 _⟩, trivial, trivial⟩
    · exact fun ρ X9 fl hg hn hl hp ho hc hf hr => .inl ⟨rfl, Runs.val _ (op_f76_9 (show ρ (.tmp 3) = .pointer (some ⟨v6.heap.size, 0, none⟩) from ho 3 rfl)) ⟨hg, trivial, rfl⟩⟩
    · intro ρ X9 fl hg hn hl hp ho hc hf hr
      have hG : Fr V2 X9 (fun k => k = v6.heap.size) ∧ X9.heap[v6.heap.size]? = some (.cells (cmA (d.commF (fl 18) (fl 20) (fl 22) (fl 24))) 76 (0, 0)) := hg
      refine .inl ⟨rfl, ?_⟩
      exact Runs.skips (op_store3 (show ρ (.tmp 37) = .pointer (some ⟨v6.heap.size, 13, none⟩) from hr 21 37 rfl rfl) (show ρ (.tmp 30) = .int .i64 d.ver from hr 12 30 rfl rfl) (cell_blk hG.2 13) (frozen_blk hG.2 _)) ⟨⟨hG.1.set (a := ⟨v6.heap.size, 13, none⟩) (.inl rfl) _, set_blk hG.2 _⟩, trivial, trivial⟩
    · exact fun ρ X9 fl hg hn hl hp ho hc hf hr => .inl ⟨rfl, Runs.val _ (op_f76_10 (show ρ (.tmp 3) = .pointer (some ⟨v6.heap.size, 0, none⟩) from ho 3 rfl)) ⟨hg, trivial, rfl⟩⟩
    · intro ρ X9 fl hg hn hl hp ho hc hf hr
      have hG : Fr V2 X9 (fun k => k = v6.heap.size) ∧ X9.heap[v6.heap.size]? = some (.cells (cmA (d.commF (fl 18) (fl 20) (fl 22) (fl 24))) 76 (0, 0)) := hg
      refine .inl ⟨rfl, ?_⟩
      exact Runs.skips (op_store3 (show ρ (.tmp 38) = .pointer (some ⟨v6.heap.size, 14, none⟩) from hr 23 38 rfl rfl) (show ρ (.tmp 34) = .int .i64 d.call from hr 16 34 rfl rfl) (cell_blk hG.2 14) (frozen_blk hG.2 _)) ⟨⟨hG.1.set (a := ⟨v6.heap.size, 14, none⟩) (.inl rfl) _, set_blk hG.2 _⟩, trivial, trivial⟩
  case en =>
    intro a9 w6 fl hfl hG9 hs9 hd9 ho9 hr9
    obtain ⟨x9, hx, hxt⟩ := act_put hs9 hd9 ho9
    change a9 = putAll _ x9 [18, 19, 20, 21, 22, 23, 24, 25, 26, 27, 28, 29, 30, 31, 32, 33, 34, 35, 36, 37, 38] at hx
    simp only [putAll, Act.put, List.setIfInBounds_toArray, List.set_cons_zero, List.set_cons_succ] at hx
    subst hx
    clear hs9 hd9 ho9 hr9 hxt 
    generalize x9 18 = z18, x9 19 = z19, x9 20 = z20, x9 21 = z21, x9 22 = z22, x9 23 = z23, x9 24 = z24, x9 25 = z25, x9 26 = z26, x9 27 = z27, x9 28 = z28, x9 29 = z29, x9 30 = z30, x9 31 = z31, x9 32 = z32, x9 33 = z33, x9 34 = z34, x9 35 = z35, x9 36 = z36, x9 37 = z37, x9 38 = z38
    have hG : Fr V2 w6 (fun k => k = v6.heap.size) ∧ w6.heap[v6.heap.size]? = some (.cells (cmA { d.comm with sh := 0 }) 76 (0, 0)) := by
      have h9 := hG9
      rw [hfl 18 (by decide), hfl 20 (by decide), hfl 22 (by decide), hfl 24 (by decide)] at h9
      exact h9
    clear hfl hG9
    have HK6 := Lib.hid hG.2
    have b0 : Below w.heap.size w w6 := below_put (bgo B6.out BV.out) (Nat.le_refl _) hG.1 B6.out.size
    have HB6 := Lib.hid b0
    have HD6 := Lib.hid (HD.out.on b0)
    clear hG b0
    go_upto_region 5 with fail
    refine wp_region_fb (fun _ X9 => Below w6.heap.size w6 X9) (fun X9 X8 => Below X9.heap.size X9 X8) [
      fun v9 _ => v9 = .pointer (some ⟨A, 0, none⟩),
      fun v9 _ => v9 = .pointer (some ⟨A, 0, none⟩),
      fun v9 _ => v9 = .pointer (some ⟨A, 6, none⟩),
      fun v9 _ => v9 = .int .i64 d.home,
      fun v9 _ => v9 = .agg (cmA d.comm),
      fun v9 _ => v9 = .agg (akA d.comm),
      fun v9 X9 => ∃ b, v9 = .slice (some ⟨b, 0, none⟩) 1 1 ∧ w.heap.size ≤ b ∧ X9.heap[b]? = some (.cells (akA d.comm) 78 (0, 0)),
      fun v9 X9 => ∃ b, v9 = .slice (some ⟨b, 0, none⟩) 1 1 ∧ w.heap.size ≤ b ∧ X9.heap[b]? = some (.cells (akA d.comm) 78 (0, 0))]
      (by kernel_rfl) (by kernel_rfl) (by kernel_rfl) ?st ?g0 ?os ?en
    case st => exact ⟨fun _ _ _ _ h => h, fun _ _ _ _ h => h, fun _ _ _ _ h => h, fun _ _ _ _ h => h, fun _ _ _ _ h => h, fun _ _ _ _ h => h, (fun _ _ _ hb h => by obtain ⟨b, e9, h1, h2⟩ := h; exact ⟨b, e9, h1, (hb.block b (blk_lt h2)).trans h2⟩), (fun _ _ _ hb h => by obtain ⟨b, e9, h1, h2⟩ := h; exact ⟨b, e9, h1, (hb.block b (blk_lt h2)).trans h2⟩), trivial⟩
    case g0 => exact ⟨rfl, rfl, rfl, Nat.le_refl _, fun _ _ => rfl⟩
    case os =>
      refine ⟨?_, ?_, ?_, ?_, ?_, ?_, ?_, ?_, trivial⟩
      · exact fun ρ X9 fl hg hn hl hp ho hc hf hr => .inl ⟨rfl, Runs.val _ (op_move (show ρ (.tmp 0) = .pointer (some ⟨A, 0, none⟩) from ho 0 rfl)) ⟨hg, Below.refl _ _, rfl⟩⟩
      · exact fun ρ X9 fl hg hn hl hp ho hc hf hr => .inl ⟨rfl, Runs.val _ (op_nil (show ρ (.tmp 39) = .pointer (some ⟨A, 0, none⟩) from hr 0 39 rfl rfl)) ⟨hg, Below.refl _ _, rfl⟩⟩
      · exact fun ρ X9 fl hg hn hl hp ho hc hf hr => .inl ⟨rfl, Runs.val _ (op_f82_4 (show ρ (.tmp 40) = .pointer (some ⟨A, 0, none⟩) from hr 1 40 rfl rfl)) ⟨hg, Below.refl _ _, rfl⟩⟩
      · exact fun ρ X9 fl hg hn hl hp ho hc hf hr => .inl ⟨rfl, Runs.val _ (op_load3 (show ρ (.tmp 41) = .pointer (some ⟨A, 6, none⟩) from hr 2 41 rfl rfl) (cell_on hg (HD6.out.cell 6))) ⟨hg, Below.refl _ _, rfl⟩⟩
      · exact fun ρ X9 fl hg hn hl hp ho hc hf hr => .inl ⟨rfl, Runs.val _ (op_loadAt (show ρ (.tmp 3) = .pointer (some ⟨v6.heap.size, 0, none⟩) from ho 3 rfl) (load_row ((hg.block _ (blk_lt HK6.out)).trans HK6.out) Try.underlying76 rfl size76)) ⟨hg, Below.refl _ _, rfl⟩⟩
      · exact fun ρ X9 fl hg hn hl hp ho hc hf hr => .inl ⟨rfl, Runs.val _ (op_b78 (a := d.comm) (show ρ (.tmp 42) = .int .i64 d.home from hr 3 42 rfl rfl) (show ρ (.tmp 43) = .agg (cmA d.comm) from hr 4 43 rfl rfl)) ⟨hg, Below.refl _ _, rfl⟩⟩
      · intro ρ X9 fl hg hn hl hp ho hc hf hr
        exact .inl ⟨rfl, Runs.val _ (op_s55 (show ρ (.tmp 44) = .agg (akA d.comm) from hr 5 44 rfl rfl)) ⟨bgo hg (bnew _ _), bnew _ _, X9.heap.size, rfl, Nat.le_trans HB6.out.size hg.size, heap_alloc_new _ _⟩⟩
      · intro ρ X9 fl hg hn hl hp ho hc hf hr
        exact .inl ⟨rfl, Runs.val _ (op_assign rfl) ⟨hg, Below.refl _ _, (show ∃ b, ρ (.tmp 45) = .slice (some ⟨b, 0, none⟩) 1 1 ∧ w.heap.size ≤ b ∧ X9.heap[b]? = some (.cells (akA d.comm) 78 (0, 0)) from hr 6 45 rfl rfl)⟩⟩
    case en =>
      intro a9 w8 fl hfl hG9 hs9 hd9 ho9 hr9
      obtain ⟨x9, hx, hxt⟩ := act_put hs9 hd9 ho9
      obtain ⟨b, q2, h1, h2⟩ := hr9 7 2 rfl
      have xk2 : x9 2 = .slice (some ⟨b, 0, none⟩) 1 1 := (hxt 2).symm.trans q2
      change a9 = putAll _ x9 [39, 40, 41, 42, 43, 44, 45, 2] at hx
      simp only [putAll, Act.put, List.setIfInBounds_toArray, List.set_cons_zero, List.set_cons_succ, xk2] at hx
      subst hx
      clear hs9 hd9 ho9 hr9 hxt hfl xk2 q2
      generalize x9 39 = z39, x9 40 = z40, x9 41 = z41, x9 42 = z42, x9 43 = z43, x9 44 = z44, x9 45 = z45
      have HE := Lib.hid (And.intro (bgo HB6.out hG9) (box_row h2 h1))
      clear hG9 h1 h2
      go_wp2
      refine bodyPost_ret (v := .slice (some ⟨b, 0, none⟩) 1 1) (by simp [results, Try.results54, go_sem]) rfl ?_
      exact ⟨_, _, rfl, HE.out.2, HE.out.1⟩
end
end Go.Proofs.Ytfokgalgdlajlaa
