/- The walk of awake; the law of a deal that is none. -/
import Derived.Test.YtfokgalgdlajlaaDb
namespace Go.Proofs.Ytfokgalgdlajlaa
open Go.RowKit
set_option maxHeartbeats 16000000 in
set_option maxRecDepth 100000 in
theorem awake_any (w : World) : Calls Try.prog 7 #[] w fun e w' => e = .returned (.bool true) ∧ Below w.heap.size w w' := by
  have jb := heap_alloc_new w (.cells #[.string sB] 9)
  have bb := bnew w (.cells #[.string sB] 9)
  have hls : Ls (w.alloc (.cells #[.string sB] 9)) [sB] (.slice (some ⟨w.heap.size, 0, none⟩) 1 1) := ⟨_, 1, rfl, fun q => (by cases q), Nat.le_refl _, by decide, fun i hi => by
    have hi0 : i = 0 := by simpa using hi
    subst hi0
    exact ⟨w.heap.size, 0, rfl, blk_lt jb, cell_blk jb 0⟩⟩
  have hnew := new_any hls
  have HNEW := Lib.hid hnew
  have HBB := Lib.hid bb
  clear jb bb hls hnew
  go_enter Try.func7, Try.ntmps7
  go_wp2_with fail
  refine HNEW.out.mono ?_
  rintro e v1 ⟨b1, h⟩
  obtain ⟨S, rfl, hsp⟩ : ∃ S, e = .returned (.tuple #[.pointer (some ⟨S, 0, none⟩), .int .i64 0]) ∧ Sp v1 (w.alloc (.cells #[.string sB] 9)).heap.size S [sB] := by
    rcases h with ⟨_, S, q, hsp⟩ | ⟨q, _⟩
    · exact ⟨S, q, hsp⟩
    · rw [ok1] at q
      cases q
  obtain ⟨hb3, j1, j2, j3⟩ := box3 (w := v1) (o1 := .cells #[.string sA, .int .i64 3] 64) (o2 := .cells #[.string sA, .string sC, .slice (some ⟨v1.heap.size, 0, none⟩) 1 1] 67) (o3 := .cells #[.string sD, .string ⟨#[]⟩, .bool false] 69) rfl
  have hn := new_1 (hsp.on hb3) j1 j2 j3
  have HN := Lib.hid hn
  have HB3 := Lib.hid (bgo HBB.out (bgo b1 hb3))
  clear h hsp hb3 j1 j2 j3 hn b1
  go_wp2_with fail
  refine HN.out.mono ?_
  rintro e v2 ⟨A, pa, pc, L, rfl, hA, hpa, ⟨h0, hdx⟩, b2⟩
  have hl2 : L.length = 2 := hpa.ln
  obtain ⟨g0, g1, rfl⟩ : ∃ g0 g1, L = [g0, g1] := by
    match L, hl2 with
    | [a, b], _ => exact ⟨a, b, rfl⟩
  have p0 : PtIn _ v2 g0 ⟨0, [⟨sA, sB, [⟨sA, 3⟩]⟩], []⟩ := hpa.pt 0 (by show 0 < 2; decide) (by show 0 < 2; decide)
  have p1 : PtIn _ v2 g1 ⟨1, [⟨sB, sC, []⟩], [x1]⟩ := hpa.pt 1 (by show 1 < 2; decide) (by show 1 < 2; decide)
  obtain ⟨s0, a, b⟩ := g0
  obtain ⟨s1, c, d⟩ := g1
  have e0 : s0 = 0 := p0.sh
  have e1 : s1 = 1 := p1.sh
  subst e0 e1
  have hD0 : Dx v2 A (da0 ⟨0, a, b⟩ ⟨1, c, d⟩) pa pc pa pc := hdx
  have HB2 := Lib.hid (bgo HB3.out b2)
  have HAW : Hid (w.heap.size ≤ A) := Lib.hid (Nat.le_trans HB3.out.size hA)
  have HA0 := Lib.hid (asks_is0 hD0 rfl rfl p0 p1)
  have HD0 := Lib.hid hD0
  clear hA hpa h0 hdx b2 hl2 p0 p1 hD0 HN HNEW
  go_wp2_with fail
  refine HA0.out.mono ?_
  rintro e v3 ⟨g, cap, rfl, q0, q31, ⟨h, cc, q9, qh⟩, ⟨wa, wc, q41⟩, b3⟩
  have hD3 := HD0.out.on b3
  have ht := told_any hD3 (dok_0 _ _) 0 1 (rz 3)
  rw [told_0] at ht
  have HT := Lib.hid ht
  have HB4 := Lib.hid (bgo HB2.out b3)
  clear hD3 ht b3 HA0 HD0
  go_wp2_with fail
  refine HT.out.mono ?_
  rintro e v4 ⟨rfl, ⟨wa1, wc1, h4⟩, f4⟩
  have ht1 := told_any h4 (dok_1 _ _) 1 1 (rz 7)
  rw [told_1] at ht1
  have HT1 := Lib.hid ht1
  have HB5 := Lib.hid (below_put HB4.out (Nat.le_refl _) f4 HAW.out)
  clear h4 ht1 f4 q0 q31 q9 qh q41 HT
  go_wp2_with fail
  refine HT1.out.mono ?_
  rintro e v5 ⟨rfl, ⟨wa2, wc2, h5⟩, f5⟩
  have HB6 := Lib.hid (below_put HB5.out (Nat.le_refl _) f5 HAW.out)
  have HD5 := Lib.hid h5
  have HA2 := Lib.hid (asks_is2 HD5.out)
  clear h5 f5 HT1 HD5
  go_wp2_with fail
  refine HA2.out.mono ?_
  rintro e v6 ⟨g, cap, rfl, q1, q11, q15, q14, q12, b6⟩
  have HB7 := Lib.hid (bgo HB6.out b6)
  clear b6 HA2
  go_wp2
  refine bodyPost_ret (v := .bool true) (by simp [results, Try.results7, go_sem]) rfl ?_
  exact ⟨rfl, HB7.out⟩
abbrev opA (o s k n : Int) (r : Rz) : Array Value := #[.int .i64 o, .int .i64 s, .int .i64 k, .int .i64 n, .int .i64 r.er, .int .i64 r.ts, .int .i64 r.a, .int .i64 r.b, .int .i64 r.c, .int .i64 r.d, .int .i64 r.e, .int .i64 r.f, .bool r.nw]
set_option maxHeartbeats 16000000 in
set_option maxRecDepth 100000 in
theorem nil_law (w : World) (o s k n : Int) (r : Rz) : Calls Try.prog 5 #[.agg (opA o s k n r)] w fun e w' => e = .returned (.bool true) ∧ Below w.heap.size w w' := by
  obtain ⟨W, hW⟩ : ∃ W, W = w.alloc (.cells (opA o s k n r) 50) := ⟨_, rfl⟩
  obtain ⟨Y, hY⟩ : ∃ Y, w.heap.size = Y := ⟨_, rfl⟩
  have hb : Below w.heap.size w W := by rw [hW]; exact bnew w _
  have jY : W.heap[Y]? = some (.cells (opA o s k n r) 50 (0, 0)) := by rw [hW, ← hY]; exact heap_alloc_new w _
  have c1 : W.cell? ⟨Y, 1, none⟩ = some (.int .i64 s) := cell_blk jY 1
  have c2 : W.cell? ⟨Y, 2, none⟩ = some (.int .i64 k) := cell_blk jY 2
  have hld : (Instr.loadAt 48 (.pointer (some ⟨Y, 4, none⟩))).run Try.prog W = .ok (.agg (rzA r)) W := run_loadAt_mid W Y 4 48 ((rzA r).toList) _ (fun j u hu => by
    rw [cell_blk jY]
    match j, hu with
    | 0, hu => exact hu
    | 1, hu => exact hu
    | 2, hu => exact hu
    | 3, hu => exact hu
    | 4, hu => exact hu
    | 5, hu => exact hu
    | 6, hu => exact hu
    | 7, hu => exact hu
    | 8, hu => exact hu
    | m + 9, hu => cases hu) Try.underlying48 rfl size48
  have HT := Lib.hid (told_nil (w := W) s k r)
  have HLD := Lib.hid hld
  have HW := Lib.hid hW
  have HY := Lib.hid hY
  have HB := Lib.hid hb
  have HJ := Lib.hid jY
  clear hW hY hb jY hld
  go_enter Try.func5, Try.ntmps5
  go_upto_region 1 with fail
  rw [← HW.out, HY.out]
  go_wp2_with (refine wpl_load _ rfl (by first | rfl | simp [Act.eval]) HLD.out ?_)
  refine HT.out.mono ?_
  rintro e v1 ⟨rfl, b1⟩
  have c3 : v1.cell? ⟨Y, 3, none⟩ = some (.int .i64 n) := cell_on b1 (cell_blk HJ.out 3)
  have HL := Lib.hid (late_nil v1 n)
  have HV := Lib.hid (verdict_nil v1)
  have HB1 := Lib.hid (bgo HB.out b1)
  have HAW := Lib.hid (awake_any v1)
  clear b1 c1 c2 HT HLD
  go_wp2_with fail
  refine HL.out.mono ?_
  rintro e v2 ⟨rfl, e2⟩
  subst e2
  go_wp2_with fail
  refine HV.out.mono ?_
  rintro e v3 ⟨rfl, e3⟩
  subst e3
  go_wp2_with fail
  refine HAW.out.mono ?_
  rintro e v4 ⟨rfl, b4⟩
  have HAS := Lib.hid (asks_nil v4)
  have HOV := Lib.hid (over_nil v4)
  have HB4 := Lib.hid (bgo HB1.out b4)
  clear b4 c3 HL HV HAW
  go_wp2_with fail
  refine HAS.out.mono ?_
  rintro e v5 ⟨rfl, e5⟩
  subst e5
  go_wp2_with fail
  refine HOV.out.mono ?_
  rintro e v6 ⟨rfl, e6⟩
  subst e6
  go_wp2
  refine bodyPost_ret (v := .bool true) (by simp [results, Try.results5, go_sem]) rfl ?_
  exact ⟨rfl, HB4.out⟩
end Go.Proofs.Ytfokgalgdlajlaa
