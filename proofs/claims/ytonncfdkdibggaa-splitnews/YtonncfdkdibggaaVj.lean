/- The laws SplitNil, SplitNews and SplitFinds. -/
import Derived.Test.YtonncfdkdibggaaVi
namespace Go.Proofs.Ytonncfdkdibggaa
open Go.RowKit
section
variable {w w' W V X : World} {L : List ByteArray} {v : Value}
set_option maxHeartbeats 2000000 in
set_option maxRecDepth 100000 in
theorem nil_law (w : World) (k a b : ByteArray) : Calls Try.prog 7 #[.string k, .agg #[.string a, .string b]] w fun e w' => e = .returned (.bool true) ∧ Below w.heap.size w w' := by
  obtain ⟨W, hW⟩ : ∃ W, W = w.alloc (.cells #[.string a, .string b] 34) := ⟨_, rfl⟩
  obtain ⟨Y, hY⟩ : ∃ Y, w.heap.size = Y := ⟨_, rfl⟩
  have hb : Below w.heap.size w W := by rw [hW]; exact (Below.refl _ w).alloc (Nat.le_refl _) _
  have jY : W.heap[Y]? = some (.cells #[.string a, .string b] 34 (0, 0)) := by rw [hW, ← hY]; exact heap_alloc_new w _
  have haw := awake_any W
  have HW := Lib.hid hW
  have HYY := Lib.hid hY
  have HB := Lib.hid hb
  have HJ := Lib.hid jY
  clear hW hY hb jY
  go_enter Try.func7, Try.ntmps7
  go_upto_region 2 with fail
  rw [← HW.out, HYY.out]
  go_wp2_with (go_at_call 10; refine haw.mono ?_; rintro e w1 ⟨rfl, hb1⟩; refine Hid.out ?_)
  refine Lib.hid ?_
  have hfn := find_nil w1 k
  have HB1 := Lib.hid hb1
  have y0 : w1.cell? ⟨Y, 0, none⟩ = some (.string a) := cell_on hb1 (cell_blk HJ.out 0)
  have y1 : w1.cell? ⟨Y, 1, none⟩ = some (.string b) := cell_on hb1 (cell_blk HJ.out 1)
  have hpn := parts_nil w1 a b
  clear hb1 haw
  go_wp2_with (go_at_call 13; refine hfn.mono ?_; rintro e w2 ⟨rfl, rfl⟩; refine Hid.out ?_)
  refine Lib.hid ?_
  go_wp2_with (go_at_call 14; refine hpn.mono ?_; rintro e w3 ⟨rfl, hb3⟩; refine Hid.out ?_)
  refine Lib.hid ?_
  have hsn := size_nil w3
  have HB3 := Lib.hid hb3
  clear hb3 hpn
  go_wp2_with (go_at_call 11; refine hsn.mono ?_; rintro e w4 ⟨rfl, rfl⟩; refine Hid.out ?_)
  refine Lib.hid ?_
  go_wp2
  go_ret
  have h1 := HB.out.trans (HB1.out.mono HB.out.size)
  exact ⟨rfl, h1.trans (HB3.out.mono h1.size)⟩
set_option maxHeartbeats 2000000 in
set_option maxRecDepth 100000 in
theorem news_law (hl : Ls w L v) (hs : Sz L) (hz : L.length * 16 ≤ 140737488355328) : Calls Try.prog 3 #[v] w fun e w' => e = .returned (.bool true) ∧ Below w.heap.size w w' := by
  obtain ⟨ad', cap', wc, hrun, ho, hb⟩ := copy_run hl hz
  have hl' := hl
  obtain ⟨ad, cap, rfl, h0, h1, h2, _⟩ := hl'
  have hnew := new_any (Ls.own ho)
  have HB := Lib.hid hb
  have HL := Lib.hid hl
  have hmx : (L.length : Int) ≤ 9223372036854775806 := by omega
  clear ho hb h0 h1 h2 hl hz
  by_cases hok : okB L = true
  · go_enter Try.func3, Try.ntmps3
    go_wp2_with (first | (at_builtin; refine wpl_run2 _ _ rfl (by simp [Act.eval]) (by simp [Act.eval]) hrun ?_) | (go_at_call 8; refine hnew.mono ?_; rintro e w1 ⟨hb1, hq | hq⟩; rotate_left; exact absurd (hok.symm.trans hq.1) (by decide); obtain ⟨_, B, rfl, hsp⟩ := hq; refine Hid.out ?_))
    refine Lib.hid ?_
    have HSP := Lib.hid hsp
    have HB1 := Lib.hid (HB.out.trans (hb1.mono HB.out.size))
    have hr := right_any (HL.out.on HB1.out) hs
    rw [right_ok, hok] at hr
    clear hsp hb1 hnew hok
    go_wp2_with (go_at_call 9; refine hr.mono ?_; rintro e w2 ⟨rfl, hb2⟩; refine Hid.out ?_)
    refine Lib.hid ?_
    have HB2 := Lib.hid (HB1.out.trans (hb2.mono HB1.out.size))
    have HSP2 := Lib.hid (HSP.out.on hb2)
    have haw := awake_any w2
    clear hb2 hr
    go_wp2_with (go_at_call 10; refine haw.mono ?_; rintro e w3 ⟨rfl, hb3⟩; refine Hid.out ?_)
    refine Lib.hid ?_
    have hsz := size_any (HSP2.out.on hb3)
    have HB3 := Lib.hid (HB2.out.trans (hb3.mono HB2.out.size))
    clear haw hb3
    go_wp2_with (go_at_call 11; refine hsz.mono ?_; rintro e w4 ⟨rfl, rfl⟩; refine Hid.out ?_)
    refine Lib.hid ?_
    have k1 : ((L.length + 1 : Nat) : Int) = (L.length : Int) + 1 := by omega
    go_wp2
    go_ret
    exact ⟨by simp, HB3.out⟩
  · have hok : okB L = false := by simpa using hok
    go_enter Try.func3, Try.ntmps3
    go_wp2_with (first | (at_builtin; refine wpl_run2 _ _ rfl (by simp [Act.eval]) (by simp [Act.eval]) hrun ?_) | (go_at_call 8; refine hnew.mono ?_; rintro e w1 ⟨hb1, hq | hq⟩; exact absurd (hok.symm.trans hq.1) (by decide); obtain ⟨_, rfl⟩ := hq; refine Hid.out ?_))
    refine Lib.hid ?_
    have HB1 := Lib.hid (HB.out.trans (hb1.mono HB.out.size))
    have hr := right_any (HL.out.on HB1.out) hs
    rw [right_ok, hok] at hr
    clear hb1 hnew hok
    go_wp2_with (go_at_call 9; refine hr.mono ?_; rintro e w2 ⟨rfl, hb2⟩; refine Hid.out ?_)
    refine Lib.hid ?_
    have HB2 := Lib.hid (HB1.out.trans (hb2.mono HB1.out.size))
    have haw := awake_any w2
    clear hb2 hr
    have hq : ∀ w, (binOp BinOp.eql 23 (.pointer none) (.pointer none)).run Try.prog w = .ok (.bool true) w := fun _ => by kernel_rfl
    go_wp2_with (go_at_call 10; refine haw.mono ?_; rintro e w3 ⟨rfl, hb3⟩; refine Hid.out ?_)
    refine Lib.hid ?_
    have HB3 := Lib.hid (HB2.out.trans (hb3.mono HB2.out.size))
    clear haw hb3
    go_wp2
    go_ret
    exact ⟨rfl, HB3.out⟩
end
end Go.Proofs.Ytonncfdkdibggaa
