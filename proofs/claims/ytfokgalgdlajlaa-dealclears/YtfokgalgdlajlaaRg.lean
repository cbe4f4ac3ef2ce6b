/- A clearing of the program's, told. -/
import Derived.Test.YtfokgalgdlajlaaRf
import Derived.Test.YtfokgalgdlajlaaCo
namespace Go.Proofs.Ytfokgalgdlajlaa
open Go.RowKit
/-- A deal whose waiting list is its list of parts. -/
def DlAns2 (w : World) (A : Nat) (d : Dl) (pa : Option Addr) (pc : Nat) (e : Ending) (w' : World) : Prop := e = .returned (.tuple #[]) ∧ Dx w' A d pa pc pa pc ∧ Fr w w' (fun k => k = A)
theorem DlAns2.up {w W : World} {A : Nat} {d : Dl} {pa : Option Addr} {pc : Nat} {e : Ending} {w' : World} (h : DlAns2 W A d pa pc e w') (hb : Fr w W (fun k => k = A)) : DlAns2 w A d pa pc e w' := ⟨h.1, h.2.1, hb.trans h.2.2⟩
section
variable {w : World} {A : Nat} {d : Dl} {pa : Option Addr} {pc : Nat}
set_option maxHeartbeats 4000000 in
set_option maxRecDepth 100000 in
theorem aborted2 (h : Dx w A d pa pc pa pc) (r : Rz) : Calls Try.prog 33 #[.pointer (some ⟨A, 0, none⟩), .agg (rzA r)] w (DlAns2 w A (d.aborted r) pa pc) := by
  obtain ⟨W, hW⟩ : ∃ W, W = w.alloc (.cells (rzA r) 48) := ⟨_, rfl⟩
  obtain ⟨Y, hY⟩ : ∃ Y, w.heap.size = Y := ⟨_, rfl⟩
  have hb : Below w.heap.size w W := by rw [hW]; exact bnew w _
  have jY : W.heap[Y]? = some (.cells (rzA r) 48 (0, 0)) := by rw [hW, ← hY]; exact heap_alloc_new w _
  have hD := h.on hb
  have l0 : W.cell? ⟨Y, 0, none⟩ = some (.int .i64 r.er) := cell_blk jY 0
  have l1 : W.cell? ⟨Y, 1, none⟩ = some (.int .i64 r.ts) := cell_blk jY 1
  have HD := Lib.hid hD
  have HB := Lib.hid hb
  have HW := Lib.hid hW
  have HY := Lib.hid hY
  have HJ := Lib.hid jY
  clear h hb hW hY jY hD
  unfold Dl.aborted
  by_cases he : r.er = 0
  · rw [if_pos he]
    have HE := Lib.hid (end_any HD.out 0 132)
    go_enter Try.func33, Try.ntmps33
    go_upto_region 1 with fail
    rw [← HW.out, HY.out]
    go_wp2_with fail
    refine HE.out.mono ?_
    rintro e v2 ⟨rfl, h2, f2⟩
    have HR : Hid (DlAns2 w A (d.fin 0 132) pa pc (.returned (.tuple #[])) v2) := Lib.hid ⟨rfl, h2, (Fr.ofBelow _ HB.out).trans f2⟩
    clear h2 f2
    go_wp2
    refine bodyPost_end (results_none rfl _ _ _) rfl ?_
    exact HR.out
  · rw [if_neg he]
    by_cases he2 : r.er = 132
    · rw [if_pos he2]
      have HE := Lib.hid (end_any HD.out r.ts 0)
      go_enter Try.func33, Try.ntmps33
      go_upto_region 1 with fail
      rw [← HW.out, HY.out]
      go_wp2_with fail
      refine HE.out.mono ?_
      rintro e v2 ⟨rfl, h2, f2⟩
      have HR : Hid (DlAns2 w A (d.fin r.ts 0) pa pc (.returned (.tuple #[])) v2) := Lib.hid ⟨rfl, h2, (Fr.ofBelow _ HB.out).trans f2⟩
      clear h2 f2
      go_wp2
      refine bodyPost_end (results_none rfl _ _ _) rfl ?_
      exact HR.out
    · rw [if_neg he2]
      go_enter Try.func33, Try.ntmps33
      go_upto_region 1 with fail
      rw [← HW.out, HY.out]
      go_wp2
      refine bodyPost_end (results_none rfl _ _ _) rfl ?_
      exact ⟨rfl, HD.out, Fr.ofBelow _ HB.out⟩
set_option maxHeartbeats 4000000 in
set_option maxRecDepth 100000 in
theorem resolved2 (h : Dx w A d pa pc pa pc) (hz : d.wait.length ≤ 900000) (sh : Int) (hn : (d.less sh).wait.length = 0) : Calls Try.prog 34 #[.pointer (some ⟨A, 0, none⟩), .int .i64 sh] w (DlAns2 w A (d.after sh 4) pa pc) := by
  have hc := answered_any h hz sh
  have HC := Lib.hid hc
  clear h hz hc
  unfold Dl.after
  generalize d.less sh = d1 at HC hn
  rw [if_pos hn]
  go_enter Try.func34, Try.ntmps34
  go_wp2_with fail
  refine HC.out.mono ?_
  rintro e v1 ⟨rfl, ⟨wa1, wc1, h1⟩, f1⟩
  rw [decide_eq_true hn]
  have HE := Lib.hid (enter_any h1 4)
  have HF := Lib.hid f1
  clear h1 f1
  go_wp2_with fail
  refine HE.out.mono ?_
  rintro e v2 ⟨rfl, h2, f2⟩
  have HR : Hid (DlAns2 w A (d1.enter 4) pa pc (.returned (.tuple #[])) v2) := Lib.hid ⟨rfl, h2, HF.out.trans f2⟩
  clear h2 f2
  go_wp2
  refine bodyPost_end (results_none rfl _ _ _) rfl ?_
  exact HR.out
set_option maxHeartbeats 4000000 in
set_option maxRecDepth 100000 in
theorem told2 (h : Dx w A d pa pc pa pc) (hd : DOk d) (sh kd : Int) (r : Rz) (hc : d.asks.any (fun a => decide (a.sh = sh) && decide (a.kd = kd)) = true → kd = 3 ∨ kd = 4 ∧ (d.less sh).wait.length = 0) : Calls Try.prog 14 #[.pointer (some ⟨A, 0, none⟩), .int .i64 sh, .int .i64 kd, .agg (rzA r)] w (DlAns2 w A (d.told sh kd r) pa pc) := by
  obtain ⟨W, hW⟩ : ∃ W, W = ((w.alloc (.cells #[.int .i64 sh] 3)).alloc (.cells #[.int .i64 kd] 3)).alloc (.cells (rzA r) 48) := ⟨_, rfl⟩
  obtain ⟨hb, j1, j2, j3⟩ := box3 hW
  obtain ⟨Y1, hY1⟩ : ∃ Y, w.heap.size = Y := ⟨_, rfl⟩
  obtain ⟨Y2, hY2⟩ : ∃ Y, Y1 + 1 = Y := ⟨_, rfl⟩
  obtain ⟨Y3, hY3⟩ : ∃ Y, Y2 + 1 = Y := ⟨_, rfl⟩
  have hY3' : Y1 + 2 = Y3 := by omega
  rw [hY1] at j1 j2 j3
  rw [hY2] at j2
  rw [hY3'] at j3
  clear hY3'
  have l1 : W.cell? ⟨Y3, 1, none⟩ = some (.int .i64 r.ts) := cell_blk j3 1
  have HW := Lib.hid hW
  have HN := Lib.hid (And.intro hY1 (And.intro hY2 hY3))
  have HB := Lib.hid hb
  have HJ := Lib.hid (And.intro j1 (And.intro j2 j3))
  have hD := h.on hb
  have hn := now_any hD hd
  have HZ := Lib.hid hd.few
  have HNW := Lib.hid hn
  have HD := Lib.hid hD
  clear h hW hb j1 j2 j3 hY1 hY2 hY3 hn hD hd
  unfold Dl.told
  by_cases h1 : r.ts < 0
  · rw [if_pos h1]
    go_enter Try.func14, Try.ntmps14
    go_upto_region 1 with fail
    rw [← HW.out, HN.out.1, HN.out.2.1, HN.out.2.2]
    go_wp2_with fail
    first | refine bodyPost_end (results_none rfl _ _ _) rfl ?_ | refine bodyPost_ret (results_none rfl _ _ _) rfl ?_
    exact ⟨rfl, HD.out, Fr.ofBelow _ HB.out⟩
  · rw [if_neg h1]
    by_cases h2 : 1125899906842624 < r.ts
    · rw [if_pos h2]
      go_enter Try.func14, Try.ntmps14
      go_upto_region 1 with fail
      rw [← HW.out, HN.out.1, HN.out.2.1, HN.out.2.2]
      go_wp2_with fail
      first | refine bodyPost_end (results_none rfl _ _ _) rfl ?_ | refine bodyPost_ret (results_none rfl _ _ _) rfl ?_
      exact ⟨rfl, HD.out, Fr.ofBelow _ HB.out⟩
    · rw [if_neg h2]
      obtain ⟨ak, hak⟩ : ∃ b, d.asks.any (fun a => decide (a.sh = sh) && decide (a.kd = kd)) = b := ⟨_, rfl⟩
      have HAK := Lib.hid hak
      have HC0 := Lib.hid hc
      rw [hak] at HC0
      clear hc
      rw [hak]
      clear hak
      obtain ⟨D, hDD⟩ : ∃ D, d.takes sh kd r = D := ⟨_, rfl⟩
      rw [hDD]
      have HDD := Lib.hid hDD
      clear hDD
      obtain ⟨LL, hLL⟩ : ∃ LL, d.asks = LL := ⟨_, rfl⟩
      rw [hLL] at HNW HAK
      clear hLL
      cases ak with
      | false =>
        rw [if_neg (by decide)]
        go_enter Try.func14, Try.ntmps14
        go_upto_region 1 with fail
        rw [← HW.out, HN.out.1, HN.out.2.1, HN.out.2.2]
        go_wp2_with fail
        refine HNW.out.mono ?_
        rintro e v1 ⟨ca, cc, rfl, o1, b1⟩
        have hc := conK_any (w := v1) (L := LL) (f := 28) (cs := #[.pointer (some ⟨Y1, 0, none⟩), .pointer (some ⟨Y2, 0, none⟩)]) (p := fun a => decide (a.sh = sh) && decide (a.kd = kd)) (Lr.own akL_len o1) (fun X a => by go_simp) (fun X hX l _ => told1_any l (cell_on (bgo b1 hX) (cell_blk HJ.out.1 0)) (cell_on (bgo b1 hX) (cell_blk HJ.out.2.1 0)))
        rw [HAK.out] at hc
        have HC := Lib.hid hc
        have HB1 := Lib.hid b1
        clear b1 o1 hc
        go_wp2_with fail
        refine HC.out.mono ?_
        rintro e v2 ⟨rfl, b2⟩
        have hb2 := bgo HB1.out b2
        have HB2 := Lib.hid (bgo HB.out hb2)
        have q2 : v2.cell? ⟨Y2, 0, none⟩ = some (.int .i64 kd) := cell_on hb2 (cell_blk HJ.out.2.1 0)
        have q1 : v2.cell? ⟨Y1, 0, none⟩ = some (.int .i64 sh) := cell_on hb2 (cell_blk HJ.out.1 0)
        have HLD : Hid ((Instr.loadAt 48 (.pointer (some ⟨Y3, 0, none⟩))).run Try.prog v2 = .ok (.agg (rzA r)) v2) := Lib.hid (load_row ((hb2.block Y3 (blk_lt HJ.out.2.2)).trans HJ.out.2.2) Try.underlying48 rfl size48)
        have HD2 := Lib.hid (HD.out.on hb2)
        clear b2 hb2 HC HB1
        clear HLD q1 q2
        go_wp2
        first | refine bodyPost_end (results_none rfl _ _ _) rfl ?_ | refine bodyPost_ret (results_none rfl _ _ _) rfl ?_
        exact ⟨rfl, HD2.out, Fr.ofBelow _ HB2.out⟩
      | true =>
        rw [if_pos rfl]
        have HCC := Lib.hid (HC0.out rfl)
        unfold Dl.takes at HDD
        by_cases k1 : kd = 1
        · rcases HCC.out with q | q
          · omega
          · omega
        · rw [if_neg k1] at HDD
          by_cases k2 : kd = 2
          · rcases HCC.out with q | q
            · omega
            · omega
          · rw [if_neg k2] at HDD
            by_cases k3 : kd = 3
            · rw [if_pos k3] at HDD
              have K3 := Lib.hid k3
              clear k3
              go_enter Try.func14, Try.ntmps14
              go_upto_region 1 with fail
              rw [← HW.out, HN.out.1, HN.out.2.1, HN.out.2.2]
              have k3 := K3.out
              go_wp2_with fail
              refine HNW.out.mono ?_
              rintro e v1 ⟨ca, cc, rfl, o1, b1⟩
              have hc := conK_any (w := v1) (L := LL) (f := 28) (cs := #[.pointer (some ⟨Y1, 0, none⟩), .pointer (some ⟨Y2, 0, none⟩)]) (p := fun a => decide (a.sh = sh) && decide (a.kd = kd)) (Lr.own akL_len o1) (fun X a => by go_simp) (fun X hX l _ => told1_any l (cell_on (bgo b1 hX) (cell_blk HJ.out.1 0)) (cell_on (bgo b1 hX) (cell_blk HJ.out.2.1 0)))
              rw [HAK.out] at hc
              have HC := Lib.hid hc
              have HB1 := Lib.hid b1
              clear b1 o1 hc
              go_wp2_with fail
              refine HC.out.mono ?_
              rintro e v2 ⟨rfl, b2⟩
              have hb2 := bgo HB1.out b2
              have HB2 := Lib.hid (bgo HB.out hb2)
              have q2 : v2.cell? ⟨Y2, 0, none⟩ = some (.int .i64 kd) := cell_on hb2 (cell_blk HJ.out.2.1 0)
              have q1 : v2.cell? ⟨Y1, 0, none⟩ = some (.int .i64 sh) := cell_on hb2 (cell_blk HJ.out.1 0)
              have HLD : Hid ((Instr.loadAt 48 (.pointer (some ⟨Y3, 0, none⟩))).run Try.prog v2 = .ok (.agg (rzA r)) v2) := Lib.hid (load_row ((hb2.block Y3 (blk_lt HJ.out.2.2)).trans HJ.out.2.2) Try.underlying48 rfl size48)
              have HD2 := Lib.hid (HD.out.on hb2)
              clear b2 hb2 HC HB1
              have HE := Lib.hid (aborted2 HD2.out r)
              go_wp2_with (refine wpl_load _ rfl (by first | rfl | simp [Act.eval]) HLD.out ?_)
              refine HE.out.mono ?_
              rintro e v3 h3
              have e3 := h3.1
              subst e3
              have HR : Hid (DlAns2 w A D pa pc (.returned (.tuple #[])) v3) := Lib.hid (by rw [← HDD.out]; exact h3.up (Fr.ofBelow _ HB2.out))
              clear h3
              go_wp2
              first | refine bodyPost_end (results_none rfl _ _ _) rfl ?_ | refine bodyPost_ret (results_none rfl _ _ _) rfl ?_
              exact HR.out
            · rw [if_neg k3] at HDD
              by_cases k4 : kd = 4
              · rw [if_pos k4] at HDD
                have HLS : Hid ((d.less sh).wait.length = 0) := Lib.hid (by
                  rcases HCC.out with q | q
                  · omega
                  · exact q.2)
                have K4 := Lib.hid k4
                clear k4
                go_enter Try.func14, Try.ntmps14
                go_upto_region 1 with fail
                rw [← HW.out, HN.out.1, HN.out.2.1, HN.out.2.2]
                have k4 := K4.out
                go_wp2_with fail
                refine HNW.out.mono ?_
                rintro e v1 ⟨ca, cc, rfl, o1, b1⟩
                have hc := conK_any (w := v1) (L := LL) (f := 28) (cs := #[.pointer (some ⟨Y1, 0, none⟩), .pointer (some ⟨Y2, 0, none⟩)]) (p := fun a => decide (a.sh = sh) && decide (a.kd = kd)) (Lr.own akL_len o1) (fun X a => by go_simp) (fun X hX l _ => told1_any l (cell_on (bgo b1 hX) (cell_blk HJ.out.1 0)) (cell_on (bgo b1 hX) (cell_blk HJ.out.2.1 0)))
                rw [HAK.out] at hc
                have HC := Lib.hid hc
                have HB1 := Lib.hid b1
                clear b1 o1 hc
                go_wp2_with fail
                refine HC.out.mono ?_
                rintro e v2 ⟨rfl, b2⟩
                have hb2 := bgo HB1.out b2
                have HB2 := Lib.hid (bgo HB.out hb2)
                have q2 : v2.cell? ⟨Y2, 0, none⟩ = some (.int .i64 kd) := cell_on hb2 (cell_blk HJ.out.2.1 0)
                have q1 : v2.cell? ⟨Y1, 0, none⟩ = some (.int .i64 sh) := cell_on hb2 (cell_blk HJ.out.1 0)
                have HLD : Hid ((Instr.loadAt 48 (.pointer (some ⟨Y3, 0, none⟩))).run Try.prog v2 = .ok (.agg (rzA r)) v2) := Lib.hid (load_row ((hb2.block Y3 (blk_lt HJ.out.2.2)).trans HJ.out.2.2) Try.underlying48 rfl size48)
                have HD2 := Lib.hid (HD.out.on hb2)
                clear b2 hb2 HC HB1
                have HE := Lib.hid (resolved2 HD2.out HZ.out sh HLS.out)
                go_wp2_with (refine wpl_load _ rfl (by first | rfl | simp [Act.eval]) HLD.out ?_)
                refine HE.out.mono ?_
                rintro e v3 h3
                have e3 := h3.1
                subst e3
                have HR : Hid (DlAns2 w A D pa pc (.returned (.tuple #[])) v3) := Lib.hid (by rw [← HDD.out]; exact h3.up (Fr.ofBelow _ HB2.out))
                clear h3
                go_wp2
                first | refine bodyPost_end (results_none rfl _ _ _) rfl ?_ | refine bodyPost_ret (results_none rfl _ _ _) rfl ?_
                exact HR.out
              · rw [if_neg k4] at HDD
                have e9 := HDD.out
                subst e9
                go_enter Try.func14, Try.ntmps14
                go_upto_region 1 with fail
                rw [← HW.out, HN.out.1, HN.out.2.1, HN.out.2.2]
                go_wp2_with fail
                refine HNW.out.mono ?_
                rintro e v1 ⟨ca, cc, rfl, o1, b1⟩
                have hc := conK_any (w := v1) (L := LL) (f := 28) (cs := #[.pointer (some ⟨Y1, 0, none⟩), .pointer (some ⟨Y2, 0, none⟩)]) (p := fun a => decide (a.sh = sh) && decide (a.kd = kd)) (Lr.own akL_len o1) (fun X a => by go_simp) (fun X hX l _ => told1_any l (cell_on (bgo b1 hX) (cell_blk HJ.out.1 0)) (cell_on (bgo b1 hX) (cell_blk HJ.out.2.1 0)))
                rw [HAK.out] at hc
                have HC := Lib.hid hc
                have HB1 := Lib.hid b1
                clear b1 o1 hc
                go_wp2_with fail
                refine HC.out.mono ?_
                rintro e v2 ⟨rfl, b2⟩
                have hb2 := bgo HB1.out b2
                have HB2 := Lib.hid (bgo HB.out hb2)
                have q2 : v2.cell? ⟨Y2, 0, none⟩ = some (.int .i64 kd) := cell_on hb2 (cell_blk HJ.out.2.1 0)
                have q1 : v2.cell? ⟨Y1, 0, none⟩ = some (.int .i64 sh) := cell_on hb2 (cell_blk HJ.out.1 0)
                have HLD : Hid ((Instr.loadAt 48 (.pointer (some ⟨Y3, 0, none⟩))).run Try.prog v2 = .ok (.agg (rzA r)) v2) := Lib.hid (load_row ((hb2.block Y3 (blk_lt HJ.out.2.2)).trans HJ.out.2.2) Try.underlying48 rfl size48)
                have HD2 := Lib.hid (HD.out.on hb2)
                clear b2 hb2 HC HB1
                clear HLD q1
                go_wp2
                first | refine bodyPost_end (results_none rfl _ _ _) rfl ?_ | refine bodyPost_ret (results_none rfl _ _ _) rfl ?_
                exact ⟨rfl, HD2.out, Fr.ofBelow _ HB2.out⟩
end
theorem dl_told (c : CW) (s : CS) (hp : s.ph = 2 ∨ s.ph = 3 ∨ s.ph = 4) (sh kd : Int) (r : Rz) : (c.dl s).told sh kd r = c.dl (CS.told c s sh kd r) := by
  unfold Dl.told CS.told
  rw [asks_eq c s hp]
  have e : (fun a : Ak => decide (a.sh = sh) && decide (a.kd = kd)) = askP sh kd := rfl
  rw [e]
  by_cases h1 : r.ts < 0
  · rw [if_pos h1, if_pos h1]
  · rw [if_neg h1, if_neg h1]
    by_cases h2 : 1125899906842624 < r.ts
    · rw [if_pos h2, if_pos h2]
    · rw [if_neg h2, if_neg h2]
      cases ha : (c.asks s).any (askP sh kd) with
      | false => rfl
      | true =>
        rw [if_pos rfl, if_pos rfl]
        rcases hp with q | q | q
        · obtain ⟨e1, e2⟩ := cask_2 q ha
          subst e2
          rw [if_pos q]
          unfold Dl.takes Dl.aborted CS.ends
          rw [if_neg (by omega), if_neg (by omega), if_pos rfl]
          by_cases he : r.er = 0
          · rw [if_pos he, if_pos he]
            rfl
          · rw [if_neg he, if_neg he]
            by_cases he2 : r.er = 132
            · rw [if_pos he2, if_pos he2]
              rfl
            · rw [if_neg he2, if_neg he2]
        · obtain ⟨e1, e2⟩ := cask_3 q ha
          subst e1 e2
          rw [if_neg (by omega)]
          unfold Dl.takes
          rw [if_neg (by omega), if_neg (by omega), if_neg (by omega), if_pos rfl]
          have hl : ((c.dl s).less c.sh).wait.length = 0 := by simp [Dl.less, keepL, CW.dl]
          unfold Dl.after
          rw [if_pos hl]
          rfl
        · exact (cask_4 q ha).elim
/-- A clearing of the program's in memory. -/
structure PD (w : World) (A g : Nat) (c : CW) (s : CS) : Prop where
  blk : w.heap[A]? = some (.cells (dlA (c.dl s) (some ⟨g, 0, none⟩) 1 (some ⟨g, 0, none⟩) 1) 82 (0, 0))
  row : w.heap[g]? = some (.cells (gpA ⟨c.sh, .nil, .nil⟩) 84 (0, 0))
theorem PD.ne {w : World} {A g : Nat} {c : CW} {s : CS} (h : PD w A g c s) : g ≠ A := fun q => by
  have h1 := h.row
  rw [q, h.blk] at h1
  simp only [Option.some.injEq, Obj.cells.injEq] at h1
  exact absurd h1.2.1 (by decide)
theorem PD.dx {w : World} {A g : Nat} {c : CW} {s : CS} (h : PD w A g c s) : Dx w A (c.dl s) (some ⟨g, 0, none⟩) 1 (some ⟨g, 0, none⟩) 1 := by
  have hr : Reads (fun k => k = A) w fun V => Lr (fun _ x cs => cs = gpL x) 3 V [⟨c.sh, .nil, .nil⟩] (.slice (some ⟨g, 0, none⟩) 1 1) := fun V h1 h2 => by
    have j := (h2 g (blk_lt h.row) (fun q => h.ne q)).trans h.row
    refine ⟨_, 1, rfl, fun q => (by cases q), Nat.le_refl _, by decide, fun i hi => ?_⟩
    have hi0 : i = 0 := by simpa using hi
    subst hi0
    refine ⟨g, 0, gpL ⟨c.sh, .nil, .nil⟩, rfl, blk_lt j, rfl, rfl, fun i u hu => ?_⟩
    rw [Nat.zero_mul, Nat.zero_add, cell_blk j, ← hu]
    exact (Array.getElem?_toList (xs := gpA ⟨c.sh, .nil, .nil⟩) (i := i)).symm
  exact ⟨h.blk, hr, hr⟩
theorem PD.on {w w' : World} {A g : Nat} {c : CW} {s : CS} (h : PD w A g c s) (hb : Below w.heap.size w w') : PD w' A g c s := ⟨(hb.block _ (blk_lt h.blk)).trans h.blk, (hb.block _ (blk_lt h.row)).trans h.row⟩
theorem PD.next {w w' : World} {A g : Nat} {c : CW} {s s' : CS} (h : PD w A g c s) (hd : Dx w' A (c.dl s') (some ⟨g, 0, none⟩) 1 (some ⟨g, 0, none⟩) 1) (hf : Fr w w' (fun k => k = A)) : PD w' A g c s' := ⟨hd.blk, (hf.block g (blk_lt h.row) (fun q => h.ne q)).trans h.row⟩
/-- The document's clearing changes, and nothing of the program's. -/
theorem PD.fr {w w' : World} {A g R b : Nat} {c c2 : CW} {s s2 : CS} {dn : Bool} (h : PD w A g c s) (hx : Rx w R b c2 s2 dn) (hf : Fr w w' (fun k => k = R ∨ k = b)) : PD w' A g c s := by
  refine ⟨(hf.block A (blk_lt h.blk) (fun q => ?_)).trans h.blk, (hf.block g (blk_lt h.row) (fun q => ?_)).trans h.row⟩
  · have h1 := h.blk
    rcases q with q | q
    · rw [q, hx.blk] at h1
      simp only [Option.some.injEq, Obj.cells.injEq] at h1
      exact absurd h1.2.1 (by decide)
    · rw [q, hx.part] at h1
      simp only [Option.some.injEq, Obj.cells.injEq] at h1
      exact absurd h1.2.1 (by decide)
  · have h1 := h.row
    rcases q with q | q
    · rw [q, hx.blk] at h1
      simp only [Option.some.injEq, Obj.cells.injEq] at h1
      exact absurd h1.2.1 (by decide)
    · rw [q, hx.part] at h1
      simp only [Option.some.injEq, Obj.cells.injEq] at h1
      exact absurd h1.2.1 (by decide)
theorem dok_c (c : CW) (s : CS) (hp : s.ph = 2 ∨ s.ph = 3 ∨ s.ph = 4) : DOk (c.dl s) := ⟨(by show 0 ≤ s.ph ∧ s.ph ≤ 4; omega), (by show 1 ≤ 900000; decide), (by show (0 : Int) ≤ 0 ∧ (0 : Int) ≤ 1125899906842624; decide)⟩
theorem ptold_any {w : World} {A g : Nat} {c : CW} {s : CS} (h : PD w A g c s) (hp : s.ph = 2 ∨ s.ph = 3 ∨ s.ph = 4) (sh kd : Int) (r : Rz) : Calls Try.prog 14 #[.pointer (some ⟨A, 0, none⟩), .int .i64 sh, .int .i64 kd, .agg (rzA r)] w fun e w' => e = .returned (.tuple #[]) ∧ PD w' A g c (CS.told c s sh kd r) ∧ Fr w w' (fun k => k = A) := by
  refine (told2 h.dx (dok_c c s hp) sh kd r (fun ha => ?_)).mono fun e w' ⟨h1, h2, h3⟩ => ⟨h1, h.next (by rw [← dl_told c s hp]; exact h2) h3, h3⟩
  rw [asks_eq c s hp] at ha
  have ha' : (c.asks s).any (askP sh kd) = true := ha
  rcases hp with q | q | q
  · exact .inl (cask_2 q ha').2
  · obtain ⟨e1, e2⟩ := cask_3 q ha'
    refine .inr ⟨e2, ?_⟩
    subst e1
    simp [Dl.less, keepL, CW.dl]
  · exact (cask_4 q ha').elim
theorem told_ph (c : CW) (s : CS) (hp : s.ph = 2 ∨ s.ph = 3 ∨ s.ph = 4) (sh kd : Int) (r : Rz) : (CS.told c s sh kd r).ph = 2 ∨ (CS.told c s sh kd r).ph = 3 ∨ (CS.told c s sh kd r).ph = 4 := by
  unfold CS.told CS.ends
  repeat' split
  all_goals first | exact hp | exact .inr (.inl rfl) | exact .inr (.inr rfl)
set_option maxRecDepth 100000 in
theorem plate_any {w : World} {A g : Nat} {c : CW} {s : CS} (h : PD w A g c s) (hp : s.ph = 2 ∨ s.ph = 3 ∨ s.ph = 4) (n : Int) : Calls Try.prog 15 #[.pointer (some ⟨A, 0, none⟩), .int .i64 n] w fun e w' => e = .returned (.tuple #[]) ∧ w' = w := by
  have l9 : w.cell? ⟨A, 9, none⟩ = some (.int .i64 s.ph) := h.dx.cell 9
  have l5 : w.cell? ⟨A, 5, none⟩ = some (.int .i64 0) := h.dx.cell 5
  have h1 : ¬ s.ph = 1 := by omega
  clear h hp
  go_enter Try.func15, Try.ntmps15
  go_wp2
  first | refine bodyPost_end (results_none rfl _ _ _) rfl ?_ | refine bodyPost_ret (results_none rfl _ _ _) rfl ?_
  exact ⟨rfl, rfl⟩
end Go.Proofs.Ytfokgalgdlajlaa
