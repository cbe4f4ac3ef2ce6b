/- Told, Late, Verdict, Over. -/
import Derived.Test.YtfokgalgdlajlaaCn
namespace Go.Proofs.Ytfokgalgdlajlaa
open Go.RowKit
theorem box3 {w W : World} {o1 o2 o3 : Obj} (hW : W = ((w.alloc o1).alloc o2).alloc o3) : Below w.heap.size w W ∧ W.heap[w.heap.size]? = some o1 ∧ W.heap[w.heap.size + 1]? = some o2 ∧ W.heap[w.heap.size + 2]? = some o3 := by
  have b1 := bnew w o1
  have s1 : (w.alloc o1).heap.size = w.heap.size + 1 := by simp
  have s2 : ((w.alloc o1).alloc o2).heap.size = w.heap.size + 2 := by simp
  have b2 : Below (w.alloc o1).heap.size (w.alloc o1) ((w.alloc o1).alloc o2) := bnew _ o2
  have b3 : Below ((w.alloc o1).alloc o2).heap.size ((w.alloc o1).alloc o2) (((w.alloc o1).alloc o2).alloc o3) := bnew _ o3
  have j1 := heap_alloc_new w o1
  have j2 := heap_alloc_new (w.alloc o1) o2
  have j3 := heap_alloc_new ((w.alloc o1).alloc o2) o3
  rw [s1] at j2
  rw [s2] at j3
  subst hW
  refine ⟨bgo (bgo b1 b2) b3, ?_, ?_, j3⟩
  · exact (b3.block _ (by rw [s2]; omega)).trans ((b2.block _ (by rw [s1]; omega)).trans j1)
  · exact (b3.block _ (by rw [s2]; omega)).trans j2
section
variable {w : World}
set_option maxHeartbeats 4000000 in
set_option maxRecDepth 100000 in
theorem told_nil (sh kd : Int) (r : Rz) : Calls Try.prog 14 #[.pointer none, .int .i64 sh, .int .i64 kd, .agg (rzA r)] w fun e w' => e = .returned (.tuple #[]) ∧ Below w.heap.size w w' := by
  obtain ⟨W, hW⟩ : ∃ W, W = ((w.alloc (.cells #[.int .i64 sh] 3)).alloc (.cells #[.int .i64 kd] 3)).alloc (.cells (rzA r) 48) := ⟨_, rfl⟩
  obtain ⟨hb, j1, j2, j3⟩ := box3 hW
  obtain ⟨Y1, hY1⟩ : ∃ Y, w.heap.size = Y := ⟨_, rfl⟩
  obtain ⟨Y2, hY2⟩ : ∃ Y, Y1 + 1 = Y := ⟨_, rfl⟩
  obtain ⟨Y3, hY3⟩ : ∃ Y, Y2 + 1 = Y := ⟨_, rfl⟩
  have hY3' : Y1 + 2 = Y3 := by omega
  rw [hY1] at j1 j2 j3
  rw [hY2] at j2
  rw [hY3'] at j3
  clear hY3'
  have l1 : W.cell? ⟨Y3, 1, none⟩ = some (.int .i64 r.ts) := cell_blk j3 1
  have HW := Lib.hid hW
  have HN := Lib.hid (And.intro hY1 (And.intro hY2 hY3))
  have HB := Lib.hid hb
  have HJ := Lib.hid (And.intro j1 (And.intro j2 j3))
  have hc := conK_any (w := W) (L := []) (v := .slice none 0 0) (f := 28) (cs := #[.pointer (some ⟨Y1, 0, none⟩), .pointer (some ⟨Y2, 0, none⟩)]) (p := fun _ => false) ⟨none, 0, rfl, fun _ => rfl, Nat.le_refl _, Nat.zero_le _, fun i hi => absurd hi (by simp)⟩ (fun X a => by go_simp) (fun X _ l hl => by cases hl)
  have hn := now_nil W
  have HC := Lib.hid hc
  have HNW := Lib.hid hn
  clear hW hb j1 j2 j3 hY1 hY2 hY3 hc hn
  by_cases h1 : r.ts < 0
  · go_enter Try.func14, Try.ntmps14
    go_upto_region 1 with fail
    rw [← HW.out, HN.out.1, HN.out.2.1, HN.out.2.2]
    go_wp2_with fail
    first | refine bodyPost_end (results_none rfl _ _ _) rfl ?_ | refine bodyPost_ret (results_none rfl _ _ _) rfl ?_
    exact ⟨rfl, HB.out⟩
  · by_cases h2 : 1125899906842624 < r.ts
    · go_enter Try.func14, Try.ntmps14
      go_upto_region 1 with fail
      rw [← HW.out, HN.out.1, HN.out.2.1, HN.out.2.2]
      go_wp2_with fail
      first | refine bodyPost_end (results_none rfl _ _ _) rfl ?_ | refine bodyPost_ret (results_none rfl _ _ _) rfl ?_
      exact ⟨rfl, HB.out⟩
    · go_enter Try.func14, Try.ntmps14
      go_upto_region 1 with fail
      rw [← HW.out, HN.out.1, HN.out.2.1, HN.out.2.2]
      go_wp2_with fail
      refine HNW.out.mono ?_
      rintro e v1 ⟨rfl, rfl⟩
      go_wp2_with fail
      refine HC.out.mono ?_
      rintro e v2 ⟨rfl, b2⟩
      have HB2 := Lib.hid b2
      clear b2
      go_wp2
      first | refine bodyPost_end (results_none rfl _ _ _) rfl ?_ | refine bodyPost_ret (results_none rfl _ _ _) rfl ?_
      exact ⟨rfl, bgo HB.out HB2.out⟩
set_option maxHeartbeats 4000000 in
set_option maxRecDepth 100000 in
theorem told_any {A : Nat} {d : Dl} {pa wa : Option Addr} {pc wc : Nat} (h : Dx w A d pa pc wa wc) (hd : DOk d) (sh kd : Int) (r : Rz) : Calls Try.prog 14 #[.pointer (some ⟨A, 0, none⟩), .int .i64 sh, .int .i64 kd, .agg (rzA r)] w (DlAns w A (d.told sh kd r) pa pc) := by
  obtain ⟨W, hW⟩ : ∃ W, W = ((w.alloc (.cells #[.int .i64 sh] 3)).alloc (.cells #[.int .i64 kd] 3)).alloc (.cells (rzA r) 48) := ⟨_, rfl⟩
  obtain ⟨hb, j1, j2, j3⟩ := box3 hW
  obtain ⟨Y1, hY1⟩ : ∃ Y, w.heap.size = Y := ⟨_, rfl⟩
  obtain ⟨Y2, hY2⟩ : ∃ Y, Y1 + 1 = Y := ⟨_, rfl⟩
  obtain ⟨Y3, hY3⟩ : ∃ Y, Y2 + 1 = Y := ⟨_, rfl⟩
  have hY3' : Y1 + 2 = Y3 := by omega
  rw [hY1] at j1 j2 j3
  rw [hY2] at j2
  rw [hY3'] at j3
  clear hY3'
  have l1 : W.cell? ⟨Y3, 1, none⟩ = some (.int .i64 r.ts) := cell_blk j3 1
  have HW := Lib.hid hW
  have HN := Lib.hid (And.intro hY1 (And.intro hY2 hY3))
  have HB := Lib.hid hb
  have HJ := Lib.hid (And.intro j1 (And.intro j2 j3))
  have hD := h.on hb
  have hn := now_any hD hd
  have HZ := Lib.hid hd.few
  have HNW := Lib.hid hn
  have HD := Lib.hid hD
  clear h hW hb j1 j2 j3 hY1 hY2 hY3 hn hD hd
  unfold Dl.told
  by_cases h1 : r.ts < 0
  · rw [if_pos h1]
    go_enter Try.func14, Try.ntmps14
    go_upto_region 1 with fail
    rw [← HW.out, HN.out.1, HN.out.2.1, HN.out.2.2]
    go_wp2_with fail
    first | refine bodyPost_end (results_none rfl _ _ _) rfl ?_ | refine bodyPost_ret (results_none rfl _ _ _) rfl ?_
    exact ⟨rfl, ⟨_, _, HD.out⟩, Fr.ofBelow _ HB.out⟩
  · rw [if_neg h1]
    by_cases h2 : 1125899906842624 < r.ts
    · rw [if_pos h2]
      go_enter Try.func14, Try.ntmps14
      go_upto_region 1 with fail
      rw [← HW.out, HN.out.1, HN.out.2.1, HN.out.2.2]
      go_wp2_with fail
      first | refine bodyPost_end (results_none rfl _ _ _) rfl ?_ | refine bodyPost_ret (results_none rfl _ _ _) rfl ?_
      exact ⟨rfl, ⟨_, _, HD.out⟩, Fr.ofBelow _ HB.out⟩
    · rw [if_neg h2]
      obtain ⟨ak, hak⟩ : ∃ b, d.asks.any (fun a => decide (a.sh = sh) && decide (a.kd = kd)) = b := ⟨_, rfl⟩
      have HAK := Lib.hid hak
      rw [hak]
      clear hak
      obtain ⟨D, hDD⟩ : ∃ D, d.takes sh kd r = D := ⟨_, rfl⟩
      rw [hDD]
      have HDD := Lib.hid hDD
      clear hDD
      obtain ⟨LL, hLL⟩ : ∃ LL, d.asks = LL := ⟨_, rfl⟩
      rw [hLL] at HNW HAK
      clear hLL
      cases ak with
      | false =>
        rw [if_neg (by decide)]
        go_enter Try.func14, Try.ntmps14
        go_upto_region 1 with fail
        rw [← HW.out, HN.out.1, HN.out.2.1, HN.out.2.2]
        go_wp2_with fail
        refine HNW.out.mono ?_
        rintro e v1 ⟨ca, cc, rfl, o1, b1⟩
        have hc := conK_any (w := v1) (L := LL) (f := 28) (cs := #[.pointer (some ⟨Y1, 0, none⟩), .pointer (some ⟨Y2, 0, none⟩)]) (p := fun a => decide (a.sh = sh) && decide (a.kd = kd)) (Lr.own akL_len o1) (fun X a => by go_simp) (fun X hX l _ => told1_any l (cell_on (bgo b1 hX) (cell_blk HJ.out.1 0)) (cell_on (bgo b1 hX) (cell_blk HJ.out.2.1 0)))
        rw [HAK.out] at hc
        have HC := Lib.hid hc
        have HB1 := Lib.hid b1
        clear b1 o1 hc
        go_wp2_with fail
        refine HC.out.mono ?_
        rintro e v2 ⟨rfl, b2⟩
        have hb2 := bgo HB1.out b2
        have HB2 := Lib.hid (bgo HB.out hb2)
        have q2 : v2.cell? ⟨Y2, 0, none⟩ = some (.int .i64 kd) := cell_on hb2 (cell_blk HJ.out.2.1 0)
        have q1 : v2.cell? ⟨Y1, 0, none⟩ = some (.int .i64 sh) := cell_on hb2 (cell_blk HJ.out.1 0)
        have HLD : Hid ((Instr.loadAt 48 (.pointer (some ⟨Y3, 0, none⟩))).run Try.prog v2 = .ok (.agg (rzA r)) v2) := Lib.hid (load_row ((hb2.block Y3 (blk_lt HJ.out.2.2)).trans HJ.out.2.2) Try.underlying48 rfl size48)
        have HD2 := Lib.hid (HD.out.on hb2)
        clear b2 hb2 HC HB1
        clear HLD q1 q2
        go_wp2
        first | refine bodyPost_end (results_none rfl _ _ _) rfl ?_ | refine bodyPost_ret (results_none rfl _ _ _) rfl ?_
        exact ⟨rfl, ⟨_, _, HD2.out⟩, Fr.ofBelow _ HB2.out⟩
      | true =>
        rw [if_pos rfl]
        unfold Dl.takes at HDD
        by_cases k1 : kd = 1
        · rw [if_pos k1] at HDD
          have K1 := Lib.hid k1
          clear k1
          go_enter Try.func14, Try.ntmps14
          go_upto_region 1 with fail
          rw [← HW.out, HN.out.1, HN.out.2.1, HN.out.2.2]
          have k1 := K1.out
          go_wp2_with fail
          refine HNW.out.mono ?_
          rintro e v1 ⟨ca, cc, rfl, o1, b1⟩
          have hc := conK_any (w := v1) (L := LL) (f := 28) (cs := #[.pointer (some ⟨Y1, 0, none⟩), .pointer (some ⟨Y2, 0, none⟩)]) (p := fun a => decide (a.sh = sh) && decide (a.kd = kd)) (Lr.own akL_len o1) (fun X a => by go_simp) (fun X hX l _ => told1_any l (cell_on (bgo b1 hX) (cell_blk HJ.out.1 0)) (cell_on (bgo b1 hX) (cell_blk HJ.out.2.1 0)))
          rw [HAK.out] at hc
          have HC := Lib.hid hc
          have HB1 := Lib.hid b1
          clear b1 o1 hc
          go_wp2_with fail
          refine HC.out.mono ?_
          rintro e v2 ⟨rfl, b2⟩
          have hb2 := bgo HB1.out b2
          have HB2 := Lib.hid (bgo HB.out hb2)
          have q2 : v2.cell? ⟨Y2, 0, none⟩ = some (.int .i64 kd) := cell_on hb2 (cell_blk HJ.out.2.1 0)
          have q1 : v2.cell? ⟨Y1, 0, none⟩ = some (.int .i64 sh) := cell_on hb2 (cell_blk HJ.out.1 0)
          have HLD : Hid ((Instr.loadAt 48 (.pointer (some ⟨Y3, 0, none⟩))).run Try.prog v2 = .ok (.agg (rzA r)) v2) := Lib.hid (load_row ((hb2.block Y3 (blk_lt HJ.out.2.2)).trans HJ.out.2.2) Try.underlying48 rfl size48)
          have HD2 := Lib.hid (HD.out.on hb2)
          clear b2 hb2 HC HB1
          have HE := Lib.hid (prepared_any HD2.out HZ.out sh r)
          go_wp2_with (refine wpl_load _ rfl (by first | rfl | simp [Act.eval]) HLD.out ?_)
          refine HE.out.mono ?_
          rintro e v3 h3
          have e3 := h3.1
          subst e3
          have HR : Hid (DlAns w A D pa pc (.returned (.tuple #[])) v3) := Lib.hid (by rw [← HDD.out]; exact h3.up (Fr.ofBelow _ HB2.out))
          clear h3
          go_wp2
          first | refine bodyPost_end (results_none rfl _ _ _) rfl ?_ | refine bodyPost_ret (results_none rfl _ _ _) rfl ?_
          exact HR.out
        · rw [if_neg k1] at HDD
          by_cases k2 : kd = 2
          · rw [if_pos k2] at HDD
            have K2 := Lib.hid k2
            clear k2
            go_enter Try.func14, Try.ntmps14
            go_upto_region 1 with fail
            rw [← HW.out, HN.out.1, HN.out.2.1, HN.out.2.2]
            have k2 := K2.out
            go_wp2_with fail
            refine HNW.out.mono ?_
            rintro e v1 ⟨ca, cc, rfl, o1, b1⟩
            have hc := conK_any (w := v1) (L := LL) (f := 28) (cs := #[.pointer (some ⟨Y1, 0, none⟩), .pointer (some ⟨Y2, 0, none⟩)]) (p := fun a => decide (a.sh = sh) && decide (a.kd = kd)) (Lr.own akL_len o1) (fun X a => by go_simp) (fun X hX l _ => told1_any l (cell_on (bgo b1 hX) (cell_blk HJ.out.1 0)) (cell_on (bgo b1 hX) (cell_blk HJ.out.2.1 0)))
            rw [HAK.out] at hc
            have HC := Lib.hid hc
            have HB1 := Lib.hid b1
            clear b1 o1 hc
            go_wp2_with fail
            refine HC.out.mono ?_
            rintro e v2 ⟨rfl, b2⟩
            have hb2 := bgo HB1.out b2
            have HB2 := Lib.hid (bgo HB.out hb2)
            have q2 : v2.cell? ⟨Y2, 0, none⟩ = some (.int .i64 kd) := cell_on hb2 (cell_blk HJ.out.2.1 0)
            have q1 : v2.cell? ⟨Y1, 0, none⟩ = some (.int .i64 sh) := cell_on hb2 (cell_blk HJ.out.1 0)
            have HLD : Hid ((Instr.loadAt 48 (.pointer (some ⟨Y3, 0, none⟩))).run Try.prog v2 = .ok (.agg (rzA r)) v2) := Lib.hid (load_row ((hb2.block Y3 (blk_lt HJ.out.2.2)).trans HJ.out.2.2) Try.underlying48 rfl size48)
            have HD2 := Lib.hid (HD.out.on hb2)
            clear b2 hb2 HC HB1
            have HE := Lib.hid (committed_any HD2.out r)
            go_wp2_with (refine wpl_load _ rfl (by first | rfl | simp [Act.eval]) HLD.out ?_)
            refine HE.out.mono ?_
            rintro e v3 h3
            have e3 := h3.1
            subst e3
            have HR : Hid (DlAns w A D pa pc (.returned (.tuple #[])) v3) := Lib.hid (by rw [← HDD.out]; exact h3.up (Fr.ofBelow _ HB2.out))
            clear h3
            go_wp2
            first | refine bodyPost_end (results_none rfl _ _ _) rfl ?_ | refine bodyPost_ret (results_none rfl _ _ _) rfl ?_
            exact HR.out
          · rw [if_neg k2] at HDD
            by_cases k3 : kd = 3
            · rw [if_pos k3] at HDD
              have K3 := Lib.hid k3
              clear k3
              go_enter Try.func14, Try.ntmps14
              go_upto_region 1 with fail
              rw [← HW.out, HN.out.1, HN.out.2.1, HN.out.2.2]
              have k3 := K3.out
              go_wp2_with fail
              refine HNW.out.mono ?_
              rintro e v1 ⟨ca, cc, rfl, o1, b1⟩
              have hc := conK_any (w := v1) (L := LL) (f := 28) (cs := #[.pointer (some ⟨Y1, 0, none⟩), .pointer (some ⟨Y2, 0, none⟩)]) (p := fun a => decide (a.sh = sh) && decide (a.kd = kd)) (Lr.own akL_len o1) (fun X a => by go_simp) (fun X hX l _ => told1_any l (cell_on (bgo b1 hX) (cell_blk HJ.out.1 0)) (cell_on (bgo b1 hX) (cell_blk HJ.out.2.1 0)))
              rw [HAK.out] at hc
              have HC := Lib.hid hc
              have HB1 := Lib.hid b1
              clear b1 o1 hc
              go_wp2_with fail
              refine HC.out.mono ?_
              rintro e v2 ⟨rfl, b2⟩
              have hb2 := bgo HB1.out b2
              have HB2 := Lib.hid (bgo HB.out hb2)
              have q2 : v2.cell? ⟨Y2, 0, none⟩ = some (.int .i64 kd) := cell_on hb2 (cell_blk HJ.out.2.1 0)
              have q1 : v2.cell? ⟨Y1, 0, none⟩ = some (.int .i64 sh) := cell_on hb2 (cell_blk HJ.out.1 0)
              have HLD : Hid ((Instr.loadAt 48 (.pointer (some ⟨Y3, 0, none⟩))).run Try.prog v2 = .ok (.agg (rzA r)) v2) := Lib.hid (load_row ((hb2.block Y3 (blk_lt HJ.out.2.2)).trans HJ.out.2.2) Try.underlying48 rfl size48)
              have HD2 := Lib.hid (HD.out.on hb2)
              clear b2 hb2 HC HB1
              have HE := Lib.hid (aborted_any HD2.out r)
              go_wp2_with (refine wpl_load _ rfl (by first | rfl | simp [Act.eval]) HLD.out ?_)
              refine HE.out.mono ?_
              rintro e v3 h3
              have e3 := h3.1
              subst e3
              have HR : Hid (DlAns w A D pa pc (.returned (.tuple #[])) v3) := Lib.hid (by rw [← HDD.out]; exact h3.up (Fr.ofBelow _ HB2.out))
              clear h3
              go_wp2
              first | refine bodyPost_end (results_none rfl _ _ _) rfl ?_ | refine bodyPost_ret (results_none rfl _ _ _) rfl ?_
              exact HR.out
            · rw [if_neg k3] at HDD
              by_cases k4 : kd = 4
              · rw [if_pos k4] at HDD
                have K4 := Lib.hid k4
                clear k4
                go_enter Try.func14, Try.ntmps14
                go_upto_region 1 with fail
                rw [← HW.out, HN.out.1, HN.out.2.1, HN.out.2.2]
                have k4 := K4.out
                go_wp2_with fail
                refine HNW.out.mono ?_
                rintro e v1 ⟨ca, cc, rfl, o1, b1⟩
                have hc := conK_any (w := v1) (L := LL) (f := 28) (cs := #[.pointer (some ⟨Y1, 0, none⟩), .pointer (some ⟨Y2, 0, none⟩)]) (p := fun a => decide (a.sh = sh) && decide (a.kd = kd)) (Lr.own akL_len o1) (fun X a => by go_simp) (fun X hX l _ => told1_any l (cell_on (bgo b1 hX) (cell_blk HJ.out.1 0)) (cell_on (bgo b1 hX) (cell_blk HJ.out.2.1 0)))
                rw [HAK.out] at hc
                have HC := Lib.hid hc
                have HB1 := Lib.hid b1
                clear b1 o1 hc
                go_wp2_with fail
                refine HC.out.mono ?_
                rintro e v2 ⟨rfl, b2⟩
                have hb2 := bgo HB1.out b2
                have HB2 := Lib.hid (bgo HB.out hb2)
                have q2 : v2.cell? ⟨Y2, 0, none⟩ = some (.int .i64 kd) := cell_on hb2 (cell_blk HJ.out.2.1 0)
                have q1 : v2.cell? ⟨Y1, 0, none⟩ = some (.int .i64 sh) := cell_on hb2 (cell_blk HJ.out.1 0)
                have HLD : Hid ((Instr.loadAt 48 (.pointer (some ⟨Y3, 0, none⟩))).run Try.prog v2 = .ok (.agg (rzA r)) v2) := Lib.hid (load_row ((hb2.block Y3 (blk_lt HJ.out.2.2)).trans HJ.out.2.2) Try.underlying48 rfl size48)
                have HD2 := Lib.hid (HD.out.on hb2)
                clear b2 hb2 HC HB1
                have HE := Lib.hid (resolved_any HD2.out HZ.out sh)
                go_wp2_with (refine wpl_load _ rfl (by first | rfl | simp [Act.eval]) HLD.out ?_)
                refine HE.out.mono ?_
                rintro e v3 h3
                have e3 := h3.1
                subst e3
                have HR : Hid (DlAns w A D pa pc (.returned (.tuple #[])) v3) := Lib.hid (by rw [← HDD.out]; exact h3.up (Fr.ofBelow _ HB2.out))
                clear h3
                go_wp2
                first | refine bodyPost_end (results_none rfl _ _ _) rfl ?_ | refine bodyPost_ret (results_none rfl _ _ _) rfl ?_
                exact HR.out
              · rw [if_neg k4] at HDD
                have e9 := HDD.out
                subst e9
                go_enter Try.func14, Try.ntmps14
                go_upto_region 1 with fail
                rw [← HW.out, HN.out.1, HN.out.2.1, HN.out.2.2]
                go_wp2_with fail
                refine HNW.out.mono ?_
                rintro e v1 ⟨ca, cc, rfl, o1, b1⟩
                have hc := conK_any (w := v1) (L := LL) (f := 28) (cs := #[.pointer (some ⟨Y1, 0, none⟩), .pointer (some ⟨Y2, 0, none⟩)]) (p := fun a => decide (a.sh = sh) && decide (a.kd = kd)) (Lr.own akL_len o1) (fun X a => by go_simp) (fun X hX l _ => told1_any l (cell_on (bgo b1 hX) (cell_blk HJ.out.1 0)) (cell_on (bgo b1 hX) (cell_blk HJ.out.2.1 0)))
                rw [HAK.out] at hc
                have HC := Lib.hid hc
                have HB1 := Lib.hid b1
                clear b1 o1 hc
                go_wp2_with fail
                refine HC.out.mono ?_
                rintro e v2 ⟨rfl, b2⟩
                have hb2 := bgo HB1.out b2
                have HB2 := Lib.hid (bgo HB.out hb2)
                have q2 : v2.cell? ⟨Y2, 0, none⟩ = some (.int .i64 kd) := cell_on hb2 (cell_blk HJ.out.2.1 0)
                have q1 : v2.cell? ⟨Y1, 0, none⟩ = some (.int .i64 sh) := cell_on hb2 (cell_blk HJ.out.1 0)
                have HLD : Hid ((Instr.loadAt 48 (.pointer (some ⟨Y3, 0, none⟩))).run Try.prog v2 = .ok (.agg (rzA r)) v2) := Lib.hid (load_row ((hb2.block Y3 (blk_lt HJ.out.2.2)).trans HJ.out.2.2) Try.underlying48 rfl size48)
                have HD2 := Lib.hid (HD.out.on hb2)
                clear b2 hb2 HC HB1
                clear HLD q1
                go_wp2
                first | refine bodyPost_end (results_none rfl _ _ _) rfl ?_ | refine bodyPost_ret (results_none rfl _ _ _) rfl ?_
                exact ⟨rfl, ⟨_, _, HD2.out⟩, Fr.ofBelow _ HB2.out⟩
end
end Go.Proofs.Ytfokgalgdlajlaa
