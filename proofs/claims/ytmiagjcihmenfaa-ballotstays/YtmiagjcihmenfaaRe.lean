/- The walk of the law's did. -/
import Derived.Test.YtmiagjcihmenfaaRd
import Derived.Test.YtmiagjcihmenfaaQj
import Derived.Test.YtmiagjcihmenfaaQy
namespace Go.Proofs.Ytmiagjcihmenfaa
open Go.RowKit

/-- A call. -/
structure Op where
  kind : Int
  a : Int
  b : Int
  text : ByteArray
  m : Ms
abbrev opV (o : Op) (mv : Value) : Value := .agg #[.int .i64 o.kind, .int .i64 o.a, .int .i64 o.b, .string o.text, .int .i64 o.m.kind, .int .i64 o.m.fr, .int .i64 o.m.to, .int .i64 o.m.term, .int .i64 o.m.index, .int .i64 o.m.prev, .int .i64 o.m.commit, .bool o.m.good, mv, .string o.m.snap]
/-- What a call does: the ballot, the messages, the number. -/
def didR (b : Bs) (o : Op) : Bs × List Ms × Int :=
  if o.kind = 1 then (b.timeout.1, b.timeout.2, 0) else if o.kind = 2 then (b.beat.1, b.beat.2, 0)
  else if o.kind = 3 then ((b.propose o.a o.b o.text).2.1, (b.propose o.a o.b o.text).2.2, (b.propose o.a o.b o.text).1)
  else if o.kind = 4 then ((b.take o.m).1, (b.take o.m).2, 0) else if o.kind = 5 then ((b.cut o.a o.text).2, [], if (b.cut o.a o.text).1 then 1 else 0) else (b, [], 0)
theorem did_ok {b : Bs} (ok : Ok b) (o : Op) : Ok (didR b o).1 := by
  unfold didR
  split
  · exact timeout_ok ok
  · split
    · exact beat_ok ok
    · split
      · exact propose_ok ok _ _ _
      · split
        · exact take_ok ok _
        · split
          · exact cut_ok ok _ _
          · exact ok
section
variable {w w' : World} {A : Nat} {S T : Nat → Prop} {b : Bs} {lv : Value} {pf : Int}
theorem Po.ofPt {b' : Bs} (h : Pt w w' A S b') : Po w w' A S b' [] (.slice Option.none 0 0) := by
  obtain ⟨S', h1, h2, h3⟩ := h
  exact ⟨S', w'.heap.size, [], h1, h2, h3, h3.size, h1.lt, rfl, Ou.nil _ _⟩
theorem Po.shape {M : List Ms} {ov : Value} (h : Po w w' A S b M ov) : ∃ ad cap, ov = .slice ad M.length cap := by
  obtain ⟨S2, B, O, k1, k2, k3, k4, k5, k6, k7⟩ := h
  obtain ⟨ad, cap, e⟩ := own_shape k7.own
  refine ⟨ad, cap, ?_⟩
  rw [e, ← k6, List.length_map]
set_option maxHeartbeats 2000000 in
set_option maxRecDepth 100000 in
theorem did_p (h : Pb w A S b) (ok : Ok b) (o : Op) {mad : Option Addr} {mcap : Nat} (hE : Es w S o.m.list (.slice mad o.m.list.length mcap)) (hz : b.log.length + o.m.list.length + 1 ≤ 900000) (ht : b.term ≤ 4611686018427387904) (hl : b.last ≤ 4398046511104) :
    Calls Try.prog 13 #[.pointer (some ⟨A, 0, none⟩), opV o (.slice mad o.m.list.length mcap)] w fun e w' => ∃ ov, e = .returned (.tuple #[ov, .int .i64 (didR b o).2.2]) ∧ Po w w' A S (didR b o).1 (didR b o).2.1 ov := by
  have hlt := h.lt
  obtain ⟨W, hW⟩ : ∃ W, W = w.alloc (.cells #[.int .i64 o.kind, .int .i64 o.a, .int .i64 o.b, .string o.text, .int .i64 o.m.kind, .int .i64 o.m.fr, .int .i64 o.m.to, .int .i64 o.m.term, .int .i64 o.m.index, .int .i64 o.m.prev, .int .i64 o.m.commit, .bool o.m.good, .slice mad o.m.list.length mcap, .string o.m.snap] 36) := ⟨_, rfl⟩
  have hb : Below w.heap.size w W := by rw [hW]; exact (Below.refl _ w).alloc (Nat.le_refl _) _
  have hblk : W.heap[w.heap.size]? = some (.cells #[.int .i64 o.kind, .int .i64 o.a, .int .i64 o.b, .string o.text, .int .i64 o.m.kind, .int .i64 o.m.fr, .int .i64 o.m.to, .int .i64 o.m.term, .int .i64 o.m.index, .int .i64 o.m.prev, .int .i64 o.m.commit, .bool o.m.good, .slice mad o.m.list.length mcap, .string o.m.snap] 36 (0, 0)) := by rw [hW]; exact heap_alloc_new w _
  have hP := h.on hb
  have hEW := hE.on hb
  have hfw : Fr w W S := Fr.ofBelow S hb
  have HW := Lib.hid hW
  have o0 : W.cell? ⟨w.heap.size, 0, none⟩ = some (.int .i64 o.kind) := cell_blk hblk 0
  have o1 : W.cell? ⟨w.heap.size, 1, none⟩ = some (.int .i64 o.a) := cell_blk hblk 1
  have o2 : W.cell? ⟨w.heap.size, 2, none⟩ = some (.int .i64 o.b) := cell_blk hblk 2
  have o3 : W.cell? ⟨w.heap.size, 3, none⟩ = some (.string o.text) := cell_blk hblk 3
  have o4 : W.cell? ⟨w.heap.size, 4, none⟩ = some (.int .i64 o.m.kind) := cell_blk hblk 4
  have o5 : W.cell? ⟨w.heap.size, 5, none⟩ = some (.int .i64 o.m.fr) := cell_blk hblk 5
  have o6 : W.cell? ⟨w.heap.size, 6, none⟩ = some (.int .i64 o.m.to) := cell_blk hblk 6
  have o7 : W.cell? ⟨w.heap.size, 7, none⟩ = some (.int .i64 o.m.term) := cell_blk hblk 7
  have o8 : W.cell? ⟨w.heap.size, 8, none⟩ = some (.int .i64 o.m.index) := cell_blk hblk 8
  have o9 : W.cell? ⟨w.heap.size, 9, none⟩ = some (.int .i64 o.m.prev) := cell_blk hblk 9
  have o10 : W.cell? ⟨w.heap.size, 10, none⟩ = some (.int .i64 o.m.commit) := cell_blk hblk 10
  have o11 : W.cell? ⟨w.heap.size, 11, none⟩ = some (.bool o.m.good) := cell_blk hblk 11
  have o12 : W.cell? ⟨w.heap.size, 12, none⟩ = some (.slice mad o.m.list.length mcap) := cell_blk hblk 12
  have o13 : W.cell? ⟨w.heap.size, 13, none⟩ = some (.string o.m.snap) := cell_blk hblk 13
  clear hW hblk
  have HKS : True := trivial
  by_cases k1 : o.kind = 1
  · have hk := k1
    clear k1
    have er : didR b o = (b.timeout.1, b.timeout.2, 0) := by unfold didR; rw [if_pos hk]
    rw [er]
    have HC : Hid (Calls Try.prog 25 #[.pointer (some ⟨A, 0, none⟩)] W fun e w' => ∃ ov, e = .returned ov ∧ Po w w' A S b.timeout.1 b.timeout.2 ov) := by
      refine (timeout_p hP ok (by omega) ht).mono ?_
      rintro e w' ⟨ov, rfl, q⟩
      exact ⟨ov, rfl, Po.step hfw q⟩
    rw [hk] at o0
    clear hP hEW hfw hE h ok hk er HKS
    go_enter Try.func13, Try.ntmps13
    go_upto_region 1 with fail
    rw [← HW.out]
    go_wp2_with fail
    refine HC.out.mono ?_
    rintro e' w' ⟨ov, rfl, q⟩
    obtain ⟨ad, cap, rfl⟩ := q.shape
    have HQ := Lib.hid q
    clear q HC
    go_wp2
    refine bodyPost_ret (v := .tuple #[.slice ad b.timeout.2.length cap, .int .i64 0]) (by simp [results, Try.results13, go_sem]) rfl ?_
    exact ⟨_, rfl, HQ.out⟩
  · by_cases k2 : o.kind = 2
    · have hk := k2
      have er : didR b o = (b.beat.1, b.beat.2, 0) := by unfold didR; rw [if_neg (by omega), if_pos hk]
      rw [er]
      have HC : Hid (Calls Try.prog 28 #[.pointer (some ⟨A, 0, none⟩)] W fun e w' => ∃ ov, e = .returned ov ∧ Po w w' A S b.beat.1 b.beat.2 ov) := by
        refine (beat_p hP ok).mono ?_
        rintro e w' ⟨ov, rfl, q⟩
        exact ⟨ov, rfl, Po.step hfw q⟩
      rw [hk] at o0
      clear k1 k2 hP hEW hfw hE h ok hk er HKS
      go_enter Try.func13, Try.ntmps13
      go_upto_region 1 with fail
      rw [← HW.out]
      go_wp2_with fail
      refine HC.out.mono ?_
      rintro e' w' ⟨ov, rfl, q⟩
      obtain ⟨ad, cap, rfl⟩ := q.shape
      have HQ := Lib.hid q
      clear q HC
      go_wp2
      refine bodyPost_ret (v := .tuple #[.slice ad b.beat.2.length cap, .int .i64 0]) (by simp [results, Try.results13, go_sem]) rfl ?_
      exact ⟨_, rfl, HQ.out⟩
    · by_cases k3 : o.kind = 3
      · have hk := k3
        have er : didR b o = ((b.propose o.a o.b o.text).2.1, (b.propose o.a o.b o.text).2.2, (b.propose o.a o.b o.text).1) := by unfold didR; rw [if_neg (by omega), if_neg (by omega), if_pos hk]
        rw [er]
        have HC : Hid (Calls Try.prog 29 #[.pointer (some ⟨A, 0, none⟩), .int .i64 o.a, .int .i64 o.b, .string o.text] W fun e w' => ∃ ov, e = .returned (.tuple #[.int .i64 (b.propose o.a o.b o.text).1, ov]) ∧ Po w w' A S (b.propose o.a o.b o.text).2.1 (b.propose o.a o.b o.text).2.2 ov) := by
          refine (propose_p hP ok (by omega) o.a o.b o.text).mono ?_
          rintro e w' ⟨ov, rfl, q⟩
          exact ⟨ov, rfl, Po.step hfw q⟩
        obtain ⟨R, hR⟩ : ∃ R, b.propose o.a o.b o.text = R := ⟨_, rfl⟩
        rw [hR] at HC ⊢
        rw [hk] at o0
        clear k1 k2 k3 hP hEW hfw hE h ok hk er hR HKS
        go_enter Try.func13, Try.ntmps13
        go_upto_region 1 with fail
        rw [← HW.out]
        go_wp2_with fail
        refine HC.out.mono ?_
        rintro e' w' ⟨ov, rfl, q⟩
        obtain ⟨ad, cap, rfl⟩ := q.shape
        have HQ := Lib.hid q
        clear q HC
        go_wp2
        refine bodyPost_ret (v := .tuple #[.slice ad R.2.2.length cap, .int .i64 R.1]) (by simp [results, Try.results13, go_sem]) rfl ?_
        exact ⟨_, rfl, HQ.out⟩
      · by_cases k4 : o.kind = 4
        · have hk := k4
          have er : didR b o = ((b.take o.m).1, (b.take o.m).2, 0) := by unfold didR; rw [if_neg (by omega), if_neg (by omega), if_neg (by omega), if_pos hk]
          rw [er]
          have hcp := copiedL_p hEW (fun k hk => Nat.lt_of_lt_of_le (hlt k hk) hb.size) (by omega)
          have HC : Hid (∀ V ad cap, Below W.heap.size W V → Es V S o.m.list (.slice ad o.m.list.length cap) → Calls Try.prog 26 #[.pointer (some ⟨A, 0, none⟩), msV o.m (.slice ad o.m.list.length cap)] V fun e w' => ∃ ov, e = .returned ov ∧ Po w w' A S (b.take o.m).1 (b.take o.m).2 ov) := by
            intro V ad cap q1 q2
            refine (take_p (hP.on q1) ok o.m q2 hz).mono ?_
            rintro e w' ⟨ov, rfl, q⟩
            exact ⟨ov, rfl, Po.step (hfw.below q1) q⟩
          rw [hk] at o0
          clear k1 k2 k3 k4 hP hEW hfw hE h ok hk er HKS
          go_enter Try.func13, Try.ntmps13
          go_upto_region 1 with fail
          rw [← HW.out]
          go_wp2_with fail
          refine hcp.mono ?_
          rintro e1 w1 ⟨ad1, cap1, rfl, hb1, hE1⟩
          have hcall := HC.out w1 ad1 cap1 hb1 hE1
          clear hcp hb1 hE1 HC
          go_wp2_with fail
          refine hcall.mono ?_
          rintro e' w' ⟨ov, rfl, q⟩
          obtain ⟨ad, cap, rfl⟩ := q.shape
          have HQ := Lib.hid q
          clear q hcall
          go_wp2
          refine bodyPost_ret (v := .tuple #[.slice ad (b.take o.m).2.length cap, .int .i64 0]) (by simp [results, Try.results13, go_sem]) rfl ?_
          exact ⟨_, rfl, HQ.out⟩
        · by_cases k5 : o.kind = 5
          · have hk := k5
            cases hcv : (b.cut o.a o.text).1 with
            | true =>
              have HC : Hid (Calls Try.prog 31 #[.pointer (some ⟨A, 0, none⟩), .int .i64 o.a, .string o.text] W fun e w' => e = .returned (.bool true) ∧ Po w w' A S (b.cut o.a o.text).2 [] (.slice none 0 0)) := by
                refine (cut_p hP ok.inv hl o.a o.text).mono ?_
                rintro e w' ⟨rfl, q⟩
                rw [hcv]
                exact ⟨rfl, Po.ofPt (Pt.step hfw q)⟩
              have er : didR b o = ((b.cut o.a o.text).2, [], 1) := by unfold didR; rw [if_neg (by omega), if_neg (by omega), if_neg (by omega), if_neg (by omega), if_pos hk, hcv]; rfl
              rw [er]
              rw [hk] at o0
              clear k1 k2 k3 k4 k5 hP hEW hfw hE h ok hk er hcv HKS
              go_enter Try.func13, Try.ntmps13
              go_upto_region 1 with fail
              rw [← HW.out]
              go_wp2_with fail
              refine HC.out.mono ?_
              rintro e' w' ⟨rfl, q⟩
              have HQ := Lib.hid q
              clear q HC
              go_wp2
              refine bodyPost_ret (v := .tuple #[.slice none 0 0, .int .i64 1]) (by simp [results, Try.results13, go_sem]) rfl ?_
              exact ⟨_, rfl, HQ.out⟩
            | false =>
              have HC : Hid (Calls Try.prog 31 #[.pointer (some ⟨A, 0, none⟩), .int .i64 o.a, .string o.text] W fun e w' => e = .returned (.bool false) ∧ Po w w' A S (b.cut o.a o.text).2 [] (.slice none 0 0)) := by
                refine (cut_p hP ok.inv hl o.a o.text).mono ?_
                rintro e w' ⟨rfl, q⟩
                rw [hcv]
                exact ⟨rfl, Po.ofPt (Pt.step hfw q)⟩
              have er : didR b o = ((b.cut o.a o.text).2, [], 0) := by unfold didR; rw [if_neg (by omega), if_neg (by omega), if_neg (by omega), if_neg (by omega), if_pos hk, hcv]; rfl
              rw [er]
              rw [hk] at o0
              clear k1 k2 k3 k4 k5 hP hEW hfw hE h ok hk er hcv HKS
              go_enter Try.func13, Try.ntmps13
              go_upto_region 1 with fail
              rw [← HW.out]
              go_wp2_with fail
              refine HC.out.mono ?_
              rintro e' w' ⟨rfl, q⟩
              have HQ := Lib.hid q
              clear q HC
              go_wp2
              refine bodyPost_ret (v := .tuple #[.slice none 0 0, .int .i64 0]) (by simp [results, Try.results13, go_sem]) rfl ?_
              exact ⟨_, rfl, HQ.out⟩
          · have er : didR b o = (b, [], 0) := by unfold didR; rw [if_neg k1, if_neg k2, if_neg k3, if_neg k4, if_neg k5]
            rw [er]
            have HQ : Hid (Po w W A S b [] (.slice none 0 0)) := Po.step hfw (Po.none hP)
            clear hP hEW hfw hE h ok er HKS
            go_enter Try.func13, Try.ntmps13
            go_upto_region 1 with fail
            rw [← HW.out]
            go_wp2
            refine bodyPost_ret (v := .tuple #[.slice none 0 0, .int .i64 0]) (by simp [results, Try.results13, go_sem]) rfl ?_
            exact ⟨_, rfl, HQ.out⟩
end
end Go.Proofs.Ytmiagjcihmenfaa
