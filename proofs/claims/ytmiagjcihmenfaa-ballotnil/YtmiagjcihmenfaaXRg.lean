/- The law BallotNil. -/
import Derived.Test.YtmiagjcihmenfaaXk
import Derived.Test.YtmiagjcihmenfaaXRf
import Derived.Test.YtmiagjcihmenfaaXRb
namespace Go.Proofs.Ytmiagjcihmenfaa
open Go.RowKit

section
variable {w w' : World}
/-- A call is boxed. -/
structure Ob (w W : World) (o : Op) (mad : Option Addr) (mcap : Nat) : Prop where
  eq : W = w.alloc (.cells #[.int .i64 o.kind, .int .i64 o.a, .int .i64 o.b, .string o.text, .int .i64 o.m.kind, .int .i64 o.m.fr, .int .i64 o.m.tgt, .int .i64 o.m.term, .int .i64 o.m.index, .int .i64 o.m.prev, .int .i64 o.m.commit, .bool o.m.good, .slice mad o.m.list.length mcap, .string o.m.snap] 36)
  bel : Below w.heap.size w W
  blk : W.heap[w.heap.size]? = some (.cells #[.int .i64 o.kind, .int .i64 o.a, .int .i64 o.b, .string o.text, .int .i64 o.m.kind, .int .i64 o.m.fr, .int .i64 o.m.tgt, .int .i64 o.m.term, .int .i64 o.m.index, .int .i64 o.m.prev, .int .i64 o.m.commit, .bool o.m.good, .slice mad o.m.list.length mcap, .string o.m.snap] 36 (0, 0))
theorem Ob.mk' (o : Op) (mad : Option Addr) (mcap : Nat) : ∃ W, Ob w W o mad mcap := ⟨_, rfl, (Below.refl _ w).alloc (Nat.le_refl _) _, heap_alloc_new w _⟩
set_option maxHeartbeats 1000000 in
set_option maxRecDepth 100000 in
theorem did_nil (o : Op) {mad : Option Addr} {mcap : Nat} (hE : Es w (fun _ => False) o.m.list (.slice mad o.m.list.length mcap)) (hz : o.m.list.length * 40 ≤ 140737488355328) :
    Calls Try.prog 13 #[NP, opV o (.slice mad o.m.list.length mcap)] w fun e w' => e = .returned (.tuple #[.slice none 0 0, .int .i64 0]) ∧ Below w.heap.size w w' := by
  obtain ⟨W, hX⟩ := Ob.mk' (w := w) o mad mcap
  have hEW := hE.on hX.bel
  have HW := Lib.hid hX.eq
  have HB := Lib.hid hX.bel
  have o0 : W.cell? ⟨w.heap.size, 0, none⟩ = some (.int .i64 o.kind) := cell_blk hX.blk 0
  have o1 : W.cell? ⟨w.heap.size, 1, none⟩ = some (.int .i64 o.a) := cell_blk hX.blk 1
  have o2 : W.cell? ⟨w.heap.size, 2, none⟩ = some (.int .i64 o.b) := cell_blk hX.blk 2
  have o3 : W.cell? ⟨w.heap.size, 3, none⟩ = some (.string o.text) := cell_blk hX.blk 3
  have o4 : W.cell? ⟨w.heap.size, 4, none⟩ = some (.int .i64 o.m.kind) := cell_blk hX.blk 4
  have o5 : W.cell? ⟨w.heap.size, 5, none⟩ = some (.int .i64 o.m.fr) := cell_blk hX.blk 5
  have o6 : W.cell? ⟨w.heap.size, 6, none⟩ = some (.int .i64 o.m.tgt) := cell_blk hX.blk 6
  have o7 : W.cell? ⟨w.heap.size, 7, none⟩ = some (.int .i64 o.m.term) := cell_blk hX.blk 7
  have o8 : W.cell? ⟨w.heap.size, 8, none⟩ = some (.int .i64 o.m.index) := cell_blk hX.blk 8
  have o9 : W.cell? ⟨w.heap.size, 9, none⟩ = some (.int .i64 o.m.prev) := cell_blk hX.blk 9
  have o10 : W.cell? ⟨w.heap.size, 10, none⟩ = some (.int .i64 o.m.commit) := cell_blk hX.blk 10
  have o11 : W.cell? ⟨w.heap.size, 11, none⟩ = some (.bool o.m.good) := cell_blk hX.blk 11
  have o12 : W.cell? ⟨w.heap.size, 12, none⟩ = some (.slice mad o.m.list.length mcap) := cell_blk hX.blk 12
  have o13 : W.cell? ⟨w.heap.size, 13, none⟩ = some (.string o.m.snap) := cell_blk hX.blk 13
  clear hX hE
  by_cases k1 : o.kind = 1
  · have hc := timeout_nil W
    rw [k1] at o0
    clear k1
    go_enter Try.func13, Try.ntmps13
    go_upto_region 1 with fail
    rw [← HW.out]
    go_wp2_with fail
    refine hc.mono ?_
    rintro e' w' ⟨rfl, rfl⟩
    go_wp2
    refine bodyPost_ret (v := .tuple #[.slice none 0 0, .int .i64 0]) (by simp [results, Try.results13, go_sem]) rfl ?_
    exact ⟨rfl, HB.out⟩
  · by_cases k2 : o.kind = 2
    · have hc := beat_nil W
      rw [k2] at o0
      clear k1 k2
      go_enter Try.func13, Try.ntmps13
      go_upto_region 1 with fail
      rw [← HW.out]
      go_wp2_with fail
      refine hc.mono ?_
      rintro e' w' ⟨rfl, rfl⟩
      go_wp2
      refine bodyPost_ret (v := .tuple #[.slice none 0 0, .int .i64 0]) (by simp [results, Try.results13, go_sem]) rfl ?_
      exact ⟨rfl, HB.out⟩
    · by_cases k3 : o.kind = 3
      · have hc := propose_nil W o.a o.b o.text
        rw [k3] at o0
        clear k1 k2 k3
        go_enter Try.func13, Try.ntmps13
        go_upto_region 1 with fail
        rw [← HW.out]
        go_wp2_with fail
        refine hc.mono ?_
        rintro e' w' ⟨rfl, rfl⟩
        go_wp2
        refine bodyPost_ret (v := .tuple #[.slice none 0 0, .int .i64 0]) (by simp [results, Try.results13, go_sem]) rfl ?_
        exact ⟨rfl, HB.out⟩
      · by_cases k4 : o.kind = 4
        · have hcp := copiedL_p hEW (fun k hk => hk.elim) hz
          rw [k4] at o0
          clear k1 k2 k3 k4 hEW
          go_enter Try.func13, Try.ntmps13
          go_upto_region 1 with fail
          rw [← HW.out]
          go_wp2_with fail
          refine hcp.mono ?_
          rintro e1 w1 ⟨ad1, cap1, rfl, hb1, hE1⟩
          have hc := take_nil w1 o.m ad1 o.m.list.length cap1
          go_wp2_with fail
          refine hc.mono ?_
          rintro e' w' ⟨rfl, hb2⟩
          have HQ : Hid (Below w.heap.size w w') := (HB.out.trans (hb1.mono HB.out.size)).trans (hb2.mono (Nat.le_trans HB.out.size hb1.size))
          clear hb1 hb2 hE1 hcp hc
          go_wp2
          refine bodyPost_ret (v := .tuple #[.slice none 0 0, .int .i64 0]) (by simp [results, Try.results13, go_sem]) rfl ?_
          exact ⟨rfl, HQ.out⟩
        · by_cases k5 : o.kind = 5
          · have hc := cut_nil W o.a o.text
            rw [k5] at o0
            clear k1 k2 k3 k4 k5
            go_enter Try.func13, Try.ntmps13
            go_upto_region 1 with fail
            rw [← HW.out]
            go_wp2_with fail
            refine hc.mono ?_
            rintro e' w' ⟨rfl, rfl⟩
            go_wp2
            refine bodyPost_ret (v := .tuple #[.slice none 0 0, .int .i64 0]) (by simp [results, Try.results13, go_sem]) rfl ?_
            exact ⟨rfl, HB.out⟩
          · go_enter Try.func13, Try.ntmps13
            go_upto_region 1 with fail
            rw [← HW.out]
            go_wp2
            refine bodyPost_ret (v := .tuple #[.slice none 0 0, .int .i64 0]) (by simp [results, Try.results13, go_sem]) rfl ?_
            exact ⟨rfl, HB.out⟩
set_option maxHeartbeats 1000000 in
set_option maxRecDepth 100000 in
theorem nil_law (o : Op) {mad : Option Addr} {mcap : Nat} (hE : Es w (fun _ => False) o.m.list (.slice mad o.m.list.length mcap)) (hz : o.m.list.length * 40 ≤ 140737488355328) :
    Calls Try.prog 8 #[opV o (.slice mad o.m.list.length mcap)] w fun e w' => e = .returned (.bool true) ∧ Below w.heap.size w w' := by
  obtain ⟨W, hX⟩ := Ob.mk' (w := w) o mad mcap
  have hdid := did_nil o (hE.on hX.bel) hz
  have HX := Lib.hid hX
  have HW := Lib.hid hX.eq
  have o0 : W.cell? ⟨w.heap.size, 0, none⟩ = some (.int .i64 o.kind) := cell_blk hX.blk 0
  have o1 : W.cell? ⟨w.heap.size, 1, none⟩ = some (.int .i64 o.a) := cell_blk hX.blk 1
  have o2 : W.cell? ⟨w.heap.size, 2, none⟩ = some (.int .i64 o.b) := cell_blk hX.blk 2
  have o3 : W.cell? ⟨w.heap.size, 3, none⟩ = some (.string o.text) := cell_blk hX.blk 3
  have o4 : W.cell? ⟨w.heap.size, 4, none⟩ = some (.int .i64 o.m.kind) := cell_blk hX.blk 4
  have o5 : W.cell? ⟨w.heap.size, 5, none⟩ = some (.int .i64 o.m.fr) := cell_blk hX.blk 5
  have o6 : W.cell? ⟨w.heap.size, 6, none⟩ = some (.int .i64 o.m.tgt) := cell_blk hX.blk 6
  have o7 : W.cell? ⟨w.heap.size, 7, none⟩ = some (.int .i64 o.m.term) := cell_blk hX.blk 7
  have o8 : W.cell? ⟨w.heap.size, 8, none⟩ = some (.int .i64 o.m.index) := cell_blk hX.blk 8
  have o9 : W.cell? ⟨w.heap.size, 9, none⟩ = some (.int .i64 o.m.prev) := cell_blk hX.blk 9
  have o10 : W.cell? ⟨w.heap.size, 10, none⟩ = some (.int .i64 o.m.commit) := cell_blk hX.blk 10
  have o11 : W.cell? ⟨w.heap.size, 11, none⟩ = some (.bool o.m.good) := cell_blk hX.blk 11
  have o12 : W.cell? ⟨w.heap.size, 12, none⟩ = some (.slice mad o.m.list.length mcap) := cell_blk hX.blk 12
  have o13 : W.cell? ⟨w.heap.size, 13, none⟩ = some (.string o.m.snap) := cell_blk hX.blk 13
  clear hX hE
  go_enter Try.func8, Try.ntmps8
  go_upto_region 1 with fail
  rw [← HW.out]
  go_wp2_with fail
  refine hdid.mono ?_
  rintro e1 w1 ⟨rfl, hb1⟩
  clear hdid
  have hB1 := HX.out.bel.trans (hb1.mono HX.out.bel.size)
  have j1 : w1.heap[w.heap.size]? = _ := (hb1.block _ (blk_lt HX.out.blk)).trans HX.out.blk
  have hd := delta_nil w1
  clear o0 o1 o2 o3 o4 o5 o6 o7 o8 o9 o10 o11 o12 o13
  go_wp2_with fail
  refine hd.mono ?_
  rintro e2 w2 ⟨rfl, hb2⟩
  clear hd
  obtain ⟨W2, hW2⟩ : ∃ W2, W2 = w2.alloc (.cells #[.int .i64 0, .int .i64 0, .bool false, .int .i64 0, .int .i64 0, .string ⟨#[]⟩, .int .i64 0, .slice none 0 0] 44) := ⟨_, rfl⟩
  have hb2' : Below w1.heap.size w1 W2 := by rw [hW2]; exact hb2.alloc hb2.size _
  have j2 := (hb2'.block _ (blk_lt j1)).trans j1
  have a2 : W2.cell? ⟨w.heap.size, 1, none⟩ = some (.int .i64 o.a) := cell_blk j2 1
  have hB2 := hB1.trans (hb2'.mono hB1.size)
  have HB2 := Lib.hid hB2
  have HW2 := Lib.hid hW2
  have he := entry_nil W2 o.a
  clear hW2 hb2 hb2' j1 j2 hb1 hB1 hB2
  go_upto_region 4 with fail
  rw [← HW2.out]
  go_wp2_with fail
  refine he.mono ?_
  rintro e3 w3 ⟨rfl, hb3⟩
  clear he a2
  obtain ⟨W3, hW3⟩ : ∃ W3, W3 = w3.alloc (.cells #[.int .i64 0, .int .i64 0, .int .i64 0, .string noT] 49) := ⟨_, rfl⟩
  have hb3' : Below w.heap.size w W3 := by rw [hW3]; exact (HB2.out.trans (hb3.mono HB2.out.size)).alloc (Nat.le_trans HB2.out.size hb3.size) _
  have HB3 := Lib.hid hb3'
  have HW3 := Lib.hid hW3
  have haw := awake_p W3
  clear hW3 hb3 hb3'
  go_upto_region 5 with fail
  rw [← HW3.out]
  go_wp2_with fail
  refine haw.mono ?_
  rintro e4 w4 ⟨rfl, hb4⟩
  have hsn := snap_nil w4
  go_wp2_with fail
  refine hsn.mono ?_
  rintro e5 w5 ⟨rfl, rfl⟩
  have hst := stand_nil w5
  go_wp2_with fail
  refine hst.mono ?_
  rintro e6 w6 ⟨rfl, hb6⟩
  have HQ : Hid (Below w.heap.size w w6) := (HB3.out.trans (hb4.mono HB3.out.size)).trans (hb6.mono (Nat.le_trans HB3.out.size hb4.size))
  clear hst hsn haw hb4 hb6
  go_wp2
  go_ret
  exact ⟨rfl, HQ.out⟩
end
end Go.Proofs.Ytmiagjcihmenfaa
