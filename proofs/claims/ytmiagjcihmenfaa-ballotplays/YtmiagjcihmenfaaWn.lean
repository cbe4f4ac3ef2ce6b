/- The walk of the law's want. -/
import Derived.Test.YtmiagjcihmenfaaWm
import Derived.Test.YtmiagjcihmenfaaWi
namespace Go.Proofs.Ytmiagjcihmenfaa
open Go.RowKit

section
variable {w w' w1 W V : World} {A : Nat} {S T : Nat → Prop} {b c : Bs} {M : List Ms} {ov : Value}
theorem Ro.step (h : Fr w w1 S) (k : Ro w1 w' A S b M ov) : Ro w w' A S b M ov := by
  obtain ⟨S2, k1, k2, k3, k4⟩ := k
  obtain ⟨S3, q1, q2, q3⟩ := Rt.step h ⟨S2, k1, k2, k3⟩
  have hz := h.size
  refine ⟨S2, k1, fun j q => ?_, q3, k4⟩
  rcases k2 j q with q | q
  · exact .inl q
  · exact .inr ⟨by omega, q.2⟩
theorem Ro.shape (h : Ro w w' A S b M ov) : ∃ ad cap, ov = .slice ad M.length cap := by
  obtain ⟨_, _, _, _, O, rfl, h, _⟩ := h
  obtain ⟨ad, cap, rfl⟩ := own_shape h
  exact ⟨ad, cap, by rw [List.length_map]⟩
theorem Ro.ofRt (h : Rt w w' A S b) : Ro w w' A S b [] (.slice Option.none 0 0) := by
  obtain ⟨S2, k1, k2, k3⟩ := h
  exact ⟨S2, k1, k2, k3, [], rfl, World.ownsRow_nil _ _ _ _, fun p hp => by cases hp⟩
theorem Ro.timeout (h : Rb w A S b) (q : (b.role = 2 ∧ w' = w ∧ ov = .slice Option.none 0 0) ∨ (b.role ≠ 2 ∧ Ro w w' A S b.timeout.1 b.timeout.2 ov)) : Ro w w' A S b.timeout.1 b.timeout.2 ov := by
  rcases q with ⟨hr, rfl, rfl⟩ | ⟨_, q⟩
  · have e : b.timeout = (b, []) := by unfold Bs.timeout; rw [if_pos hr]
    rw [e]
    exact Ro.none h (Below.refl _ _)
  · exact q
theorem Ro.propose (h : Rb w A S b) {x y : Int} {t : ByteArray} (q : (b.role ≠ 2 ∧ w' = w ∧ ov = .slice Option.none 0 0) ∨ (b.role = 2 ∧ Ro w w' A S (b.propose x y t).2.1 (b.propose x y t).2.2 ov)) : Ro w w' A S (b.propose x y t).2.1 (b.propose x y t).2.2 ov := by
  rcases q with ⟨hr, rfl, rfl⟩ | ⟨_, q⟩
  · have e : b.propose x y t = (0, b, []) := by unfold Bs.propose; rw [if_neg hr]
    rw [e]
    exact Ro.none h (Below.refl _ _)
  · exact q
set_option maxHeartbeats 4000000 in
set_option maxRecDepth 100000 in
theorem want_any (h : Rb w A S b) (ok : Ok b) (hn : Nb b) (o : Op) {mad : Option Addr} {mcap : Nat} (hE : Es w S o.m.list (.slice mad o.m.list.length mcap)) (hz : b.log.length + o.m.list.length + 1 ≤ 900000) (ht : b.term ≤ 4398046511104) (hl : b.last ≤ 4398046511104) :
    Calls Try.prog 14 #[.pointer (some ⟨A, 0, none⟩), opV o (.slice mad o.m.list.length mcap)] w fun e w' => ∃ ov, e = .returned (.tuple #[ov, .int .i64 (didR b o).2.2]) ∧ Ro w w' A S (didR b o).1 (didR b o).2.1 ov := by
  have ho : b.out.length = 0 := by rw [ok.out]; rfl
  obtain ⟨W, hW⟩ : ∃ W, W = w.alloc (.cells #[.int .i64 o.kind, .int .i64 o.a, .int .i64 o.b, .string o.text, .int .i64 o.m.kind, .int .i64 o.m.fr, .int .i64 o.m.tgt, .int .i64 o.m.term, .int .i64 o.m.index, .int .i64 o.m.prev, .int .i64 o.m.commit, .bool o.m.good, .slice mad o.m.list.length mcap, .string o.m.snap] 36) := ⟨_, rfl⟩
  have hb : Below w.heap.size w W := by rw [hW]; exact (Below.refl _ w).alloc (Nat.le_refl _) _
  have hblk : W.heap[w.heap.size]? = some (.cells #[.int .i64 o.kind, .int .i64 o.a, .int .i64 o.b, .string o.text, .int .i64 o.m.kind, .int .i64 o.m.fr, .int .i64 o.m.tgt, .int .i64 o.m.term, .int .i64 o.m.index, .int .i64 o.m.prev, .int .i64 o.m.commit, .bool o.m.good, .slice mad o.m.list.length mcap, .string o.m.snap] 36 (0, 0)) := by rw [hW]; exact heap_alloc_new w _
  have hP := h.on hb
  have hEW := hE.on hb
  have hfw : Fr w W S := Fr.ofBelow S hb
  have HW := Lib.hid hW
  have o0 : W.cell? ⟨w.heap.size, 0, none⟩ = some (.int .i64 o.kind) := cell_blk hblk 0
  have o1 : W.cell? ⟨w.heap.size, 1, none⟩ = some (.int .i64 o.a) := cell_blk hblk 1
  have o2 : W.cell? ⟨w.heap.size, 2, none⟩ = some (.int .i64 o.b) := cell_blk hblk 2
  have o3 : W.cell? ⟨w.heap.size, 3, none⟩ = some (.string o.text) := cell_blk hblk 3
  have o4 : W.cell? ⟨w.heap.size, 4, none⟩ = some (.int .i64 o.m.kind) := cell_blk hblk 4
  have o5 : W.cell? ⟨w.heap.size, 5, none⟩ = some (.int .i64 o.m.fr) := cell_blk hblk 5
  have o6 : W.cell? ⟨w.heap.size, 6, none⟩ = some (.int .i64 o.m.tgt) := cell_blk hblk 6
  have o7 : W.cell? ⟨w.heap.size, 7, none⟩ = some (.int .i64 o.m.term) := cell_blk hblk 7
  have o8 : W.cell? ⟨w.heap.size, 8, none⟩ = some (.int .i64 o.m.index) := cell_blk hblk 8
  have o9 : W.cell? ⟨w.heap.size, 9, none⟩ = some (.int .i64 o.m.prev) := cell_blk hblk 9
  have o10 : W.cell? ⟨w.heap.size, 10, none⟩ = some (.int .i64 o.m.commit) := cell_blk hblk 10
  have o11 : W.cell? ⟨w.heap.size, 11, none⟩ = some (.bool o.m.good) := cell_blk hblk 11
  have o12 : W.cell? ⟨w.heap.size, 12, none⟩ = some (.slice mad o.m.list.length mcap) := cell_blk hblk 12
  have o13 : W.cell? ⟨w.heap.size, 13, none⟩ = some (.string o.m.snap) := cell_blk hblk 13
  clear hW hblk
  have HKS : True := trivial
  by_cases k1 : o.kind = 1
  · have hk := k1
    clear k1
    have er : didR b o = (b.timeout.1, b.timeout.2, 0) := by unfold didR; rw [if_pos hk]
    rw [er]
    have HC : Hid (Calls Try.prog 32 #[.pointer (some ⟨A, 0, none⟩)] W fun e w' => ∃ ov, e = .returned ov ∧ Ro w w' A S b.timeout.1 b.timeout.2 ov) := by
      refine (timeout_any hP ok.inv (by omega) hn (by omega) ht).mono ?_
      rintro e w' ⟨ov, rfl, q⟩
      exact ⟨ov, rfl, Ro.step hfw (Ro.timeout hP q)⟩
    rw [hk] at o0
    clear hP hEW hfw hE h ok hn hk er HKS
    go_enter Try.func14, Try.ntmps14
    go_upto_region 1 with fail
    rw [← HW.out]
    go_wp2_with fail
    refine HC.out.mono ?_
    rintro e' w' ⟨ov, rfl, q⟩
    obtain ⟨ad, cap, rfl⟩ := q.shape
    have HQ := Lib.hid q
    clear q HC
    go_wp2
    refine bodyPost_ret (v := .tuple #[.slice ad b.timeout.2.length cap, .int .i64 0]) (by simp [results, Try.results14, go_sem]) rfl ?_
    exact ⟨_, rfl, HQ.out⟩
  · by_cases k2 : o.kind = 2
    · have hk := k2
      have er : didR b o = (b.beat.1, b.beat.2, 0) := by unfold didR; rw [if_neg (by omega), if_pos hk]
      rw [er]
      have HC : Hid (Calls Try.prog 33 #[.pointer (some ⟨A, 0, none⟩)] W fun e w' => ∃ ov, e = .returned ov ∧ Ro w w' A S b.beat.1 b.beat.2 ov) := by
        refine (beat_any hP ok.inv.sz (by omega) hn).mono ?_
        rintro e w' ⟨ov, rfl, q⟩
        exact ⟨ov, rfl, Ro.step hfw q⟩
      rw [hk] at o0
      clear k1 k2 hP hEW hfw hE h ok hn hk er HKS
      go_enter Try.func14, Try.ntmps14
      go_upto_region 1 with fail
      rw [← HW.out]
      go_wp2_with fail
      refine HC.out.mono ?_
      rintro e' w' ⟨ov, rfl, q⟩
      obtain ⟨ad, cap, rfl⟩ := q.shape
      have HQ := Lib.hid q
      clear q HC
      go_wp2
      refine bodyPost_ret (v := .tuple #[.slice ad b.beat.2.length cap, .int .i64 0]) (by simp [results, Try.results14, go_sem]) rfl ?_
      exact ⟨_, rfl, HQ.out⟩
    · by_cases k3 : o.kind = 3
      · have hk := k3
        have er : didR b o = ((b.propose o.a o.b o.text).2.1, (b.propose o.a o.b o.text).2.2, (b.propose o.a o.b o.text).1) := by unfold didR; rw [if_neg (by omega), if_neg (by omega), if_pos hk]
        rw [er]
        have HC : Hid (Calls Try.prog 34 #[.pointer (some ⟨A, 0, none⟩), .int .i64 o.a, .int .i64 o.b, .string o.text] W fun e w' => ∃ ov, e = .returned (.tuple #[.int .i64 (b.propose o.a o.b o.text).1, ov]) ∧ Ro w w' A S (b.propose o.a o.b o.text).2.1 (b.propose o.a o.b o.text).2.2 ov) := by
          refine (propose_any hP ok.inv (by omega) hn (by omega) o.a o.b o.text).mono ?_
          rintro e w' ⟨ov, rfl, q⟩
          exact ⟨ov, rfl, Ro.step hfw (Ro.propose hP q)⟩
        obtain ⟨R, hR⟩ : ∃ R, b.propose o.a o.b o.text = R := ⟨_, rfl⟩
        rw [hR] at HC ⊢
        rw [hk] at o0
        clear k1 k2 k3 hP hEW hfw hE h ok hn hk er hR HKS
        go_enter Try.func14, Try.ntmps14
        go_upto_region 1 with fail
        rw [← HW.out]
        go_wp2_with fail
        refine HC.out.mono ?_
        rintro e' w' ⟨ov, rfl, q⟩
        obtain ⟨ad, cap, rfl⟩ := q.shape
        have HQ := Lib.hid q
        clear q HC
        go_wp2
        refine bodyPost_ret (v := .tuple #[.slice ad R.2.2.length cap, .int .i64 R.1]) (by simp [results, Try.results14, go_sem]) rfl ?_
        exact ⟨_, rfl, HQ.out⟩
      · by_cases k4 : o.kind = 4
        · have hk := k4
          have er : didR b o = ((b.take o.m).1, (b.take o.m).2, 0) := by unfold didR; rw [if_neg (by omega), if_neg (by omega), if_neg (by omega), if_pos hk]
          rw [er]
          have HC : Hid (Calls Try.prog 35 #[.pointer (some ⟨A, 0, none⟩), msV o.m (.slice mad o.m.list.length mcap)] W fun e w' => ∃ ov, e = .returned ov ∧ Ro w w' A S (b.take o.m).1 (b.take o.m).2 ov) := by
            refine (take_any hP ok o.m hEW hn hz).mono ?_
            rintro e w' ⟨ov, rfl, q⟩
            exact ⟨ov, rfl, Ro.step hfw q⟩
          rw [hk] at o0
          clear k1 k2 k3 k4 hP hEW hfw hE h ok hn hk er HKS
          go_enter Try.func14, Try.ntmps14
          go_upto_region 1 with fail
          rw [← HW.out]
          go_wp2_with fail
          refine HC.out.mono ?_
          rintro e' w' ⟨ov, rfl, q⟩
          obtain ⟨ad, cap, rfl⟩ := q.shape
          have HQ := Lib.hid q
          clear q HC
          go_wp2
          refine bodyPost_ret (v := .tuple #[.slice ad (b.take o.m).2.length cap, .int .i64 0]) (by simp [results, Try.results14, go_sem]) rfl ?_
          exact ⟨_, rfl, HQ.out⟩
        · by_cases k5 : o.kind = 5
          · have hk := k5
            cases hcv : (b.cut o.a o.text).1 with
            | true =>
              have HC : Hid (Calls Try.prog 36 #[.pointer (some ⟨A, 0, none⟩), .int .i64 o.a, .string o.text] W fun e w' => e = .returned (.bool true) ∧ Ro w w' A S (b.cut o.a o.text).2 [] (.slice none 0 0)) := by
                refine (cut_any hP ok.inv hl o.a o.text).mono ?_
                rintro e w' ⟨rfl, q⟩
                rw [hcv]
                exact ⟨rfl, Ro.ofRt (Rt.step hfw q)⟩
              have er : didR b o = ((b.cut o.a o.text).2, [], 1) := by unfold didR; rw [if_neg (by omega), if_neg (by omega), if_neg (by omega), if_neg (by omega), if_pos hk, hcv]; rfl
              rw [er]
              rw [hk] at o0
              clear k1 k2 k3 k4 k5 hP hEW hfw hE h ok hn hk er hcv HKS
              go_enter Try.func14, Try.ntmps14
              go_upto_region 1 with fail
              rw [← HW.out]
              go_wp2_with fail
              refine HC.out.mono ?_
              rintro e' w' ⟨rfl, q⟩
              have HQ := Lib.hid q
              clear q HC
              go_wp2
              refine bodyPost_ret (v := .tuple #[.slice none 0 0, .int .i64 1]) (by simp [results, Try.results14, go_sem]) rfl ?_
              exact ⟨_, rfl, HQ.out⟩
            | false =>
              have HC : Hid (Calls Try.prog 36 #[.pointer (some ⟨A, 0, none⟩), .int .i64 o.a, .string o.text] W fun e w' => e = .returned (.bool false) ∧ Ro w w' A S (b.cut o.a o.text).2 [] (.slice none 0 0)) := by
                refine (cut_any hP ok.inv hl o.a o.text).mono ?_
                rintro e w' ⟨rfl, q⟩
                rw [hcv]
                exact ⟨rfl, Ro.ofRt (Rt.step hfw q)⟩
              have er : didR b o = ((b.cut o.a o.text).2, [], 0) := by unfold didR; rw [if_neg (by omega), if_neg (by omega), if_neg (by omega), if_neg (by omega), if_pos hk, hcv]; rfl
              rw [er]
              rw [hk] at o0
              clear k1 k2 k3 k4 k5 hP hEW hfw hE h ok hn hk er hcv HKS
              go_enter Try.func14, Try.ntmps14
              go_upto_region 1 with fail
              rw [← HW.out]
              go_wp2_with fail
              refine HC.out.mono ?_
              rintro e' w' ⟨rfl, q⟩
              have HQ := Lib.hid q
              clear q HC
              go_wp2
              refine bodyPost_ret (v := .tuple #[.slice none 0 0, .int .i64 0]) (by simp [results, Try.results14, go_sem]) rfl ?_
              exact ⟨_, rfl, HQ.out⟩
          · have er : didR b o = (b, [], 0) := by unfold didR; rw [if_neg k1, if_neg k2, if_neg k3, if_neg k4, if_neg k5]
            rw [er]
            have HQ : Hid (Ro w W A S b [] (.slice none 0 0)) := Ro.step hfw (Ro.none hP (Below.refl _ _))
            clear hP hEW hfw hE h ok hn er HKS
            go_enter Try.func14, Try.ntmps14
            go_upto_region 1 with fail
            rw [← HW.out]
            go_wp2
            refine bodyPost_ret (v := .tuple #[.slice none 0 0, .int .i64 0]) (by simp [results, Try.results14, go_sem]) rfl ?_
            exact ⟨_, rfl, HQ.out⟩
end
end Go.Proofs.Ytmiagjcihmenfaa
