/- now: what is asked for, by the phase. -/
import Derived.Test.YtfokgalgdlajlaaCh
namespace Go.Proofs.Ytfokgalgdlajlaa
open Go.RowKit
theorem size124 : (Try.prog.info? 124).map (·.size) = some 5 := by kernel_rfl
/-- What a deal is that goes on. -/
structure DOk (d : Dl) : Prop where
  ph : 0 ≤ d.phase ∧ d.phase ≤ 4
  few : d.wait.length ≤ 900000
  hi : 0 ≤ d.high ∧ d.high ≤ 1125899906842624
set_option maxRecDepth 100000 in
theorem now_nil (w : World) : Calls Try.prog 30 #[.pointer none] w fun e w' => e = .returned (.slice none 0 0) ∧ w' = w := by
  go_enter Try.func30, Try.ntmps30
  go_wp2
  refine bodyPost_ret (v := .slice none 0 0) (by simp [results, Try.results30, go_sem]) rfl ?_
  exact ⟨rfl, rfl⟩
section
variable {w : World} {A : Nat} {d : Dl} {pa wa : Option Addr} {pc wc : Nat}
set_option maxHeartbeats 2000000 in
set_option maxRecDepth 100000 in
theorem now_p0 (h : Dx w A d pa pc wa wc) (hk : d.phase = 0) : Calls Try.prog 30 #[.pointer (some ⟨A, 0, none⟩)] w (AsAns w ([] : List Ak)) := by
  obtain ⟨W, hW⟩ : ∃ W, W = w.alloc (.cells #[.func (.func 52) #[.pointer (some ⟨A, 0, none⟩)] #[], .func (.func 53) #[.pointer (some ⟨A, 0, none⟩)] #[], .func (.func 54) #[.pointer (some ⟨A, 0, none⟩)] #[], .func (.func 55) #[.pointer (some ⟨A, 0, none⟩)] #[], .func (.func 52) #[.pointer (some ⟨A, 0, none⟩)] #[]] 124) := ⟨_, rfl⟩
  obtain ⟨Y, hY⟩ : ∃ Y, w.heap.size = Y := ⟨_, rfl⟩
  have hb : Below w.heap.size w W := by rw [hW]; exact bnew w _
  have jY : W.heap[Y]? = some (.cells #[.func (.func 52) #[.pointer (some ⟨A, 0, none⟩)] #[], .func (.func 53) #[.pointer (some ⟨A, 0, none⟩)] #[], .func (.func 54) #[.pointer (some ⟨A, 0, none⟩)] #[], .func (.func 55) #[.pointer (some ⟨A, 0, none⟩)] #[], .func (.func 52) #[.pointer (some ⟨A, 0, none⟩)] #[]] 124 (0, 0)) := by rw [hW, ← hY]; exact heap_alloc_new w _
  have cY : W.cell? ⟨Y, 0, none⟩ = some (.func (.func 52) #[.pointer (some ⟨A, 0, none⟩)] #[]) := cell_blk jY 0
  have hD := h.on hb
  have l9 : W.cell? ⟨A, 9, none⟩ = some (.int .i64 0) := by rw [← hk]; exact hD.cell 9
  have hc := nothing_any (w := W) (.pointer (some ⟨A, 0, none⟩))
  obtain ⟨LL, hLL⟩ : ∃ LL, ([] : List Ak) = LL := ⟨_, rfl⟩
  rw [hLL] at hc ⊢
  clear hLL
  have HW := Lib.hid hW
  have HY := Lib.hid hY
  have HB := Lib.hid hb
  have HC := Lib.hid hc
  clear h hk hW hY hb jY hD hc
  go_enter Try.func30, Try.ntmps30
  go_upto_region 4 with fail
  rw [← HW.out, HY.out]
  go_wp2_with fail
  refine HC.out.mono ?_
  rintro e v6 ⟨ad, cap, rfl, h1, h2⟩
  have HA : Hid (AsAns W LL (.returned (.slice ad LL.length cap)) v6) := Lib.hid ⟨ad, cap, rfl, h1, h2⟩
  clear h1 h2 l9 cY
  go_wp2
  refine bodyPost_ret (v := .slice ad LL.length cap) (by simp [results, Try.results30, go_sem]) rfl ?_
  exact HA.out.up HB.out
set_option maxHeartbeats 2000000 in
set_option maxRecDepth 100000 in
theorem now_p1 (h : Dx w A d pa pc wa wc) (hk : d.phase = 1) (hz : d.wait.length ≤ 900000) : Calls Try.prog 30 #[.pointer (some ⟨A, 0, none⟩)] w (AsAns w (d.wait.map d.prep)) := by
  obtain ⟨W, hW⟩ : ∃ W, W = w.alloc (.cells #[.func (.func 52) #[.pointer (some ⟨A, 0, none⟩)] #[], .func (.func 53) #[.pointer (some ⟨A, 0, none⟩)] #[], .func (.func 54) #[.pointer (some ⟨A, 0, none⟩)] #[], .func (.func 55) #[.pointer (some ⟨A, 0, none⟩)] #[], .func (.func 52) #[.pointer (some ⟨A, 0, none⟩)] #[]] 124) := ⟨_, rfl⟩
  obtain ⟨Y, hY⟩ : ∃ Y, w.heap.size = Y := ⟨_, rfl⟩
  have hb : Below w.heap.size w W := by rw [hW]; exact bnew w _
  have jY : W.heap[Y]? = some (.cells #[.func (.func 52) #[.pointer (some ⟨A, 0, none⟩)] #[], .func (.func 53) #[.pointer (some ⟨A, 0, none⟩)] #[], .func (.func 54) #[.pointer (some ⟨A, 0, none⟩)] #[], .func (.func 55) #[.pointer (some ⟨A, 0, none⟩)] #[], .func (.func 52) #[.pointer (some ⟨A, 0, none⟩)] #[]] 124 (0, 0)) := by rw [hW, ← hY]; exact heap_alloc_new w _
  have cY : W.cell? ⟨Y, 1, none⟩ = some (.func (.func 53) #[.pointer (some ⟨A, 0, none⟩)] #[]) := cell_blk jY 1
  have hD := h.on hb
  have l9 : W.cell? ⟨A, 9, none⟩ = some (.int .i64 1) := by rw [← hk]; exact hD.cell 9
  have hc := prepares_any hD hz
  obtain ⟨LL, hLL⟩ : ∃ LL, (d.wait.map d.prep) = LL := ⟨_, rfl⟩
  rw [hLL] at hc ⊢
  clear hLL
  have HW := Lib.hid hW
  have HY := Lib.hid hY
  have HB := Lib.hid hb
  have HC := Lib.hid hc
  clear h hk hW hY hb jY hD hc
  go_enter Try.func30, Try.ntmps30
  go_upto_region 4 with fail
  rw [← HW.out, HY.out]
  go_wp2_with fail
  refine HC.out.mono ?_
  rintro e v6 ⟨ad, cap, rfl, h1, h2⟩
  have HA : Hid (AsAns W LL (.returned (.slice ad LL.length cap)) v6) := Lib.hid ⟨ad, cap, rfl, h1, h2⟩
  clear h1 h2 l9 cY
  go_wp2
  refine bodyPost_ret (v := .slice ad LL.length cap) (by simp [results, Try.results30, go_sem]) rfl ?_
  exact HA.out.up HB.out
theorem commits_any (h : Dx w A d pa pc wa wc) (hh : 0 ≤ d.high ∧ d.high ≤ 1125899906842624) : Calls Try.prog 54 #[.pointer (some ⟨A, 0, none⟩)] w (AsAns w [if d.clr then d.cmd d.home 3 else d.comm]) := by
  cases hc : d.clr with
  | true => exact commits_clr h hc
  | false => exact commits_put h hc hh
set_option maxHeartbeats 2000000 in
set_option maxRecDepth 100000 in
theorem now_p2 (h : Dx w A d pa pc wa wc) (hk : d.phase = 2) (hh : 0 ≤ d.high ∧ d.high ≤ 1125899906842624) : Calls Try.prog 30 #[.pointer (some ⟨A, 0, none⟩)] w (AsAns w [if d.clr then d.cmd d.home 3 else d.comm]) := by
  obtain ⟨W, hW⟩ : ∃ W, W = w.alloc (.cells #[.func (.func 52) #[.pointer (some ⟨A, 0, none⟩)] #[], .func (.func 53) #[.pointer (some ⟨A, 0, none⟩)] #[], .func (.func 54) #[.pointer (some ⟨A, 0, none⟩)] #[], .func (.func 55) #[.pointer (some ⟨A, 0, none⟩)] #[], .func (.func 52) #[.pointer (some ⟨A, 0, none⟩)] #[]] 124) := ⟨_, rfl⟩
  obtain ⟨Y, hY⟩ : ∃ Y, w.heap.size = Y := ⟨_, rfl⟩
  have hb : Below w.heap.size w W := by rw [hW]; exact bnew w _
  have jY : W.heap[Y]? = some (.cells #[.func (.func 52) #[.pointer (some ⟨A, 0, none⟩)] #[], .func (.func 53) #[.pointer (some ⟨A, 0, none⟩)] #[], .func (.func 54) #[.pointer (some ⟨A, 0, none⟩)] #[], .func (.func 55) #[.pointer (some ⟨A, 0, none⟩)] #[], .func (.func 52) #[.pointer (some ⟨A, 0, none⟩)] #[]] 124 (0, 0)) := by rw [hW, ← hY]; exact heap_alloc_new w _
  have cY : W.cell? ⟨Y, 2, none⟩ = some (.func (.func 54) #[.pointer (some ⟨A, 0, none⟩)] #[]) := cell_blk jY 2
  have hD := h.on hb
  have l9 : W.cell? ⟨A, 9, none⟩ = some (.int .i64 2) := by rw [← hk]; exact hD.cell 9
  have hc := commits_any hD hh
  obtain ⟨LL, hLL⟩ : ∃ LL, [if d.clr then d.cmd d.home 3 else d.comm] = LL := ⟨_, rfl⟩
  rw [hLL] at hc ⊢
  clear hLL
  have HW := Lib.hid hW
  have HY := Lib.hid hY
  have HB := Lib.hid hb
  have HC := Lib.hid hc
  clear h hk hW hY hb jY hD hc
  go_enter Try.func30, Try.ntmps30
  go_upto_region 4 with fail
  rw [← HW.out, HY.out]
  go_wp2_with fail
  refine HC.out.mono ?_
  rintro e v6 ⟨ad, cap, rfl, h1, h2⟩
  have HA : Hid (AsAns W LL (.returned (.slice ad LL.length cap)) v6) := Lib.hid ⟨ad, cap, rfl, h1, h2⟩
  clear h1 h2 l9 cY
  go_wp2
  refine bodyPost_ret (v := .slice ad LL.length cap) (by simp [results, Try.results30, go_sem]) rfl ?_
  exact HA.out.up HB.out
set_option maxHeartbeats 2000000 in
set_option maxRecDepth 100000 in
theorem now_p3 (h : Dx w A d pa pc wa wc) (hk : d.phase = 3) (hz : d.wait.length ≤ 900000) : Calls Try.prog 30 #[.pointer (some ⟨A, 0, none⟩)] w (AsAns w (d.wait.map d.reso)) := by
  obtain ⟨W, hW⟩ : ∃ W, W = w.alloc (.cells #[.func (.func 52) #[.pointer (some ⟨A, 0, none⟩)] #[], .func (.func 53) #[.pointer (some ⟨A, 0, none⟩)] #[], .func (.func 54) #[.pointer (some ⟨A, 0, none⟩)] #[], .func (.func 55) #[.pointer (some ⟨A, 0, none⟩)] #[], .func (.func 52) #[.pointer (some ⟨A, 0, none⟩)] #[]] 124) := ⟨_, rfl⟩
  obtain ⟨Y, hY⟩ : ∃ Y, w.heap.size = Y := ⟨_, rfl⟩
  have hb : Below w.heap.size w W := by rw [hW]; exact bnew w _
  have jY : W.heap[Y]? = some (.cells #[.func (.func 52) #[.pointer (some ⟨A, 0, none⟩)] #[], .func (.func 53) #[.pointer (some ⟨A, 0, none⟩)] #[], .func (.func 54) #[.pointer (some ⟨A, 0, none⟩)] #[], .func (.func 55) #[.pointer (some ⟨A, 0, none⟩)] #[], .func (.func 52) #[.pointer (some ⟨A, 0, none⟩)] #[]] 124 (0, 0)) := by rw [hW, ← hY]; exact heap_alloc_new w _
  have cY : W.cell? ⟨Y, 3, none⟩ = some (.func (.func 55) #[.pointer (some ⟨A, 0, none⟩)] #[]) := cell_blk jY 3
  have hD := h.on hb
  have l9 : W.cell? ⟨A, 9, none⟩ = some (.int .i64 3) := by rw [← hk]; exact hD.cell 9
  have hc := resolves_any hD hz
  obtain ⟨LL, hLL⟩ : ∃ LL, (d.wait.map d.reso) = LL := ⟨_, rfl⟩
  rw [hLL] at hc ⊢
  clear hLL
  have HW := Lib.hid hW
  have HY := Lib.hid hY
  have HB := Lib.hid hb
  have HC := Lib.hid hc
  clear h hk hW hY hb jY hD hc
  go_enter Try.func30, Try.ntmps30
  go_upto_region 4 with fail
  rw [← HW.out, HY.out]
  go_wp2_with fail
  refine HC.out.mono ?_
  rintro e v6 ⟨ad, cap, rfl, h1, h2⟩
  have HA : Hid (AsAns W LL (.returned (.slice ad LL.length cap)) v6) := Lib.hid ⟨ad, cap, rfl, h1, h2⟩
  clear h1 h2 l9 cY
  go_wp2
  refine bodyPost_ret (v := .slice ad LL.length cap) (by simp [results, Try.results30, go_sem]) rfl ?_
  exact HA.out.up HB.out
set_option maxHeartbeats 2000000 in
set_option maxRecDepth 100000 in
theorem now_p4 (h : Dx w A d pa pc wa wc) (hk : d.phase = 4) : Calls Try.prog 30 #[.pointer (some ⟨A, 0, none⟩)] w (AsAns w ([] : List Ak)) := by
  obtain ⟨W, hW⟩ : ∃ W, W = w.alloc (.cells #[.func (.func 52) #[.pointer (some ⟨A, 0, none⟩)] #[], .func (.func 53) #[.pointer (some ⟨A, 0, none⟩)] #[], .func (.func 54) #[.pointer (some ⟨A, 0, none⟩)] #[], .func (.func 55) #[.pointer (some ⟨A, 0, none⟩)] #[], .func (.func 52) #[.pointer (some ⟨A, 0, none⟩)] #[]] 124) := ⟨_, rfl⟩
  obtain ⟨Y, hY⟩ : ∃ Y, w.heap.size = Y := ⟨_, rfl⟩
  have hb : Below w.heap.size w W := by rw [hW]; exact bnew w _
  have jY : W.heap[Y]? = some (.cells #[.func (.func 52) #[.pointer (some ⟨A, 0, none⟩)] #[], .func (.func 53) #[.pointer (some ⟨A, 0, none⟩)] #[], .func (.func 54) #[.pointer (some ⟨A, 0, none⟩)] #[], .func (.func 55) #[.pointer (some ⟨A, 0, none⟩)] #[], .func (.func 52) #[.pointer (some ⟨A, 0, none⟩)] #[]] 124 (0, 0)) := by rw [hW, ← hY]; exact heap_alloc_new w _
  have cY : W.cell? ⟨Y, 4, none⟩ = some (.func (.func 52) #[.pointer (some ⟨A, 0, none⟩)] #[]) := cell_blk jY 4
  have hD := h.on hb
  have l9 : W.cell? ⟨A, 9, none⟩ = some (.int .i64 4) := by rw [← hk]; exact hD.cell 9
  have hc := nothing_any (w := W) (.pointer (some ⟨A, 0, none⟩))
  obtain ⟨LL, hLL⟩ : ∃ LL, ([] : List Ak) = LL := ⟨_, rfl⟩
  rw [hLL] at hc ⊢
  clear hLL
  have HW := Lib.hid hW
  have HY := Lib.hid hY
  have HB := Lib.hid hb
  have HC := Lib.hid hc
  clear h hk hW hY hb jY hD hc
  go_enter Try.func30, Try.ntmps30
  go_upto_region 4 with fail
  rw [← HW.out, HY.out]
  go_wp2_with fail
  refine HC.out.mono ?_
  rintro e v6 ⟨ad, cap, rfl, h1, h2⟩
  have HA : Hid (AsAns W LL (.returned (.slice ad LL.length cap)) v6) := Lib.hid ⟨ad, cap, rfl, h1, h2⟩
  clear h1 h2 l9 cY
  go_wp2
  refine bodyPost_ret (v := .slice ad LL.length cap) (by simp [results, Try.results30, go_sem]) rfl ?_
  exact HA.out.up HB.out
theorem now_any (h : Dx w A d pa pc wa wc) (hd : DOk d) : Calls Try.prog 30 #[.pointer (some ⟨A, 0, none⟩)] w (AsAns w d.asks) := by
  have hp := hd.ph
  have : d.phase = 0 ∨ d.phase = 1 ∨ d.phase = 2 ∨ d.phase = 3 ∨ d.phase = 4 := by omega
  rcases this with q | q | q | q | q
  · have e : d.asks = [] := by unfold Dl.asks; rw [if_neg (by omega), if_neg (by omega), if_neg (by omega)]
    rw [e]
    exact now_p0 h q
  · have e : d.asks = d.wait.map d.prep := by unfold Dl.asks; rw [if_pos q]
    rw [e]
    exact now_p1 h q hd.few
  · have e : d.asks = [if d.clr then d.cmd d.home 3 else d.comm] := by unfold Dl.asks; rw [if_neg (by omega), if_pos q]
    rw [e]
    exact now_p2 h q hd.hi
  · have e : d.asks = d.wait.map d.reso := by unfold Dl.asks; rw [if_neg (by omega), if_neg (by omega), if_pos q]
    rw [e]
    exact now_p3 h q hd.few
  · have e : d.asks = [] := by unfold Dl.asks; rw [if_neg (by omega), if_neg (by omega), if_neg (by omega)]
    rw [e]
    exact now_p4 h q
end
end Go.Proofs.Ytfokgalgdlajlaa
