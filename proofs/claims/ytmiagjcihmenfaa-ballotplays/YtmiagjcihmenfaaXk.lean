/- The walk of the program's Take, whole. -/
import Derived.Test.YtmiagjcihmenfaaXQw
import Derived.Test.YtmiagjcihmenfaaXQx
import Derived.Test.YtmiagjcihmenfaaXj
import Derived.Test.YtmiagjcihmenfaaXQj
import Derived.ProofKit
import Derived.SizedLaws
import Derived.OpenShut
import Derived.Deep.Slices
import Derived.Lib.SmallJoins
namespace Go.Proofs.Ytmiagjcihmenfaa
open Go.RowKit

section
variable {w w' : World} {A : Nat} {S T : Nat → Prop} {b : Bs} {lv : Value} {pf : Int}
set_option maxHeartbeats 40000000 in
set_option maxRecDepth 100000 in
theorem take_p (h : Pb w A S b) (ok : Ok b) (m : Ms) {mad : Option Addr} {mcap : Nat} (hE : Es w S m.list (.slice mad m.list.length mcap)) (hz : b.log.length + m.list.length + 1 ≤ 900000) : Calls Try.prog 26 #[.pointer (some ⟨A, 0, none⟩), msV m (.slice mad m.list.length mcap)] w fun e w' => ∃ ov, e = .returned ov ∧ Po w w' A S (b.take m).1 (b.take m).2 ov := by
  have hlt := h.lt
  obtain ⟨W, hB⟩ := Bx.mk' h m (.slice mad m.list.length mcap)
  have hA := hB.pb
  have HW := Lib.hid hB.eq
  have hfw : Fr w W S := Fr.ofBelow S hB.bel
  have hlb := letsBy_p hA m (.slice mad m.list.length mcap)
  have hmW := hB.blk
  have m0 : W.cell? ⟨w.heap.size, 0, none⟩ = some (.int .i64 m.kind) := cell_blk hB.blk 0
  have m1 : W.cell? ⟨w.heap.size, 1, none⟩ = some (.int .i64 m.fr) := cell_blk hB.blk 1
  have m2 : W.cell? ⟨w.heap.size, 2, none⟩ = some (.int .i64 m.tgt) := cell_blk hB.blk 2
  have m3 : W.cell? ⟨w.heap.size, 3, none⟩ = some (.int .i64 m.term) := cell_blk hB.blk 3
  have m4 : W.cell? ⟨w.heap.size, 4, none⟩ = some (.int .i64 m.index) := cell_blk hB.blk 4
  have m5 : W.cell? ⟨w.heap.size, 5, none⟩ = some (.int .i64 m.prev) := cell_blk hB.blk 5
  have m6 : W.cell? ⟨w.heap.size, 6, none⟩ = some (.int .i64 m.commit) := cell_blk hB.blk 6
  have m7 : W.cell? ⟨w.heap.size, 7, none⟩ = some (.bool m.good) := cell_blk hB.blk 7
  have m8 : W.cell? ⟨w.heap.size, 8, none⟩ = some (.slice mad m.list.length mcap) := cell_blk hB.blk 8
  have m9 : W.cell? ⟨w.heap.size, 9, none⟩ = some (.string m.snap) := cell_blk hB.blk 9
  by_cases hs : b.strange m
  · have etk : b.take m = (b, []) := if_pos hs
    rw [decide_eq_true hs] at hlb
    have HP : Hid (∀ V, Below W.heap.size W V → Po w V A S (b.take m).1 (b.take m).2 (.slice none 0 0)) := by
      intro V hV
      rw [etk]
      exact Po.step (hfw.below hV) (Po.none (hA.on hV))
    clear hB hA hfw etk h hs hE ok hmW
    go_enter Try.func26, Try.ntmps26
    go_upto_region 1 with fail
    rw [← HW.out]
    go_wp2_with fail
    refine hlb.mono ?_
    rintro e1 w1 ⟨rfl, hb1⟩
    have HQ := Lib.hid (HP.out w1 hb1)
    clear hlb hb1 HP
    go_wp2
    go_ret
    exact ⟨_, rfl, HQ.out⟩
  · by_cases ht : b.term < m.term
    · exact take_new h ok m hE hz hs ht
    · exact take_same h ok m hE hz hs ht
end
end Go.Proofs.Ytmiagjcihmenfaa
/- The walk of the law's did. -/
namespace Go.Proofs.Ytmiagjcihmenfaa
open Go.RowKit

/-- A call. -/
structure Op where
  kind : Int
  a : Int
  b : Int
  text : ByteArray
  m : Ms
abbrev opV (o : Op) (mv : Value) : Value := .agg #[.int .i64 o.kind, .int .i64 o.a, .int .i64 o.b, .string o.text, .int .i64 o.m.kind, .int .i64 o.m.fr, .int .i64 o.m.tgt, .int .i64 o.m.term, .int .i64 o.m.index, .int .i64 o.m.prev, .int .i64 o.m.commit, .bool o.m.good, mv, .string o.m.snap]
/-- What a call does: the ballot, the messages, the number. -/
def didR (b : Bs) (o : Op) : Bs × List Ms × Int :=
  if o.kind = 1 then (b.timeout.1, b.timeout.2, 0) else if o.kind = 2 then (b.beat.1, b.beat.2, 0)
  else if o.kind = 3 then ((b.propose o.a o.b o.text).2.1, (b.propose o.a o.b o.text).2.2, (b.propose o.a o.b o.text).1)
  else if o.kind = 4 then ((b.take o.m).1, (b.take o.m).2, 0) else if o.kind = 5 then ((b.cut o.a o.text).2, [], if (b.cut o.a o.text).1 then 1 else 0) else (b, [], 0)
theorem did_ok {b : Bs} (ok : Ok b) (o : Op) : Ok (didR b o).1 := by
  unfold didR
  split
  · exact timeout_ok ok
  · split
    · exact beat_ok ok
    · split
      · exact propose_ok ok _ _ _
      · split
        · exact take_ok ok _
        · split
          · exact cut_ok ok _ _
          · exact ok
section
variable {w w' : World} {A : Nat} {S T : Nat → Prop} {b : Bs} {lv : Value} {pf : Int}
theorem Po.ofPt {b' : Bs} (h : Pt w w' A S b') : Po w w' A S b' [] (.slice Option.none 0 0) := by
  obtain ⟨S', h1, h2, h3⟩ := h
  exact ⟨S', w'.heap.size, [], h1, h2, h3, h3.size, h1.lt, rfl, Ou.nil _ _⟩
theorem Po.shape {M : List Ms} {ov : Value} (h : Po w w' A S b M ov) : ∃ ad cap, ov = .slice ad M.length cap := by
  obtain ⟨S2, B, O, k1, k2, k3, k4, k5, k6, k7⟩ := h
  obtain ⟨ad, cap, e⟩ := own_shape k7.own
  refine ⟨ad, cap, ?_⟩
  rw [e, ← k6, List.length_map]
set_option maxHeartbeats 2000000 in
set_option maxRecDepth 100000 in
theorem did_p (h : Pb w A S b) (ok : Ok b) (o : Op) {mad : Option Addr} {mcap : Nat} (hE : Es w S o.m.list (.slice mad o.m.list.length mcap)) (hz : b.log.length + o.m.list.length + 1 ≤ 900000) (ht : b.term ≤ 4611686018427387904) (hl : b.last ≤ 4398046511104) :
    Calls Try.prog 13 #[.pointer (some ⟨A, 0, none⟩), opV o (.slice mad o.m.list.length mcap)] w fun e w' => ∃ ov, e = .returned (.tuple #[ov, .int .i64 (didR b o).2.2]) ∧ Po w w' A S (didR b o).1 (didR b o).2.1 ov := by
  have hlt := h.lt
  obtain ⟨W, hW⟩ : ∃ W, W = w.alloc (.cells #[.int .i64 o.kind, .int .i64 o.a, .int .i64 o.b, .string o.text, .int .i64 o.m.kind, .int .i64 o.m.fr, .int .i64 o.m.tgt, .int .i64 o.m.term, .int .i64 o.m.index, .int .i64 o.m.prev, .int .i64 o.m.commit, .bool o.m.good, .slice mad o.m.list.length mcap, .string o.m.snap] 36) := ⟨_, rfl⟩
  have hb : Below w.heap.size w W := by rw [hW]; exact (Below.refl _ w).alloc (Nat.le_refl _) _
  have hblk : W.heap[w.heap.size]? = some (.cells #[.int .i64 o.kind, .int .i64 o.a, .int .i64 o.b, .string o.text, .int .i64 o.m.kind, .int .i64 o.m.fr, .int .i64 o.m.tgt, .int .i64 o.m.term, .int .i64 o.m.index, .int .i64 o.m.prev, .int .i64 o.m.commit, .bool o.m.good, .slice mad o.m.list.length mcap, .string o.m.snap] 36 (0, 0)) := by rw [hW]; exact heap_alloc_new w _
  have hP := h.on hb
  have hEW := hE.on hb
  have hfw : Fr w W S := Fr.ofBelow S hb
  have HW := Lib.hid hW
  have o0 : W.cell? ⟨w.heap.size, 0, none⟩ = some (.int .i64 o.kind) := cell_blk hblk 0
  have o1 : W.cell? ⟨w.heap.size, 1, none⟩ = some (.int .i64 o.a) := cell_blk hblk 1
  have o2 : W.cell? ⟨w.heap.size, 2, none⟩ = some (.int .i64 o.b) := cell_blk hblk 2
  have o3 : W.cell? ⟨w.heap.size, 3, none⟩ = some (.string o.text) := cell_blk hblk 3
  have o4 : W.cell? ⟨w.heap.size, 4, none⟩ = some (.int .i64 o.m.kind) := cell_blk hblk 4
  have o5 : W.cell? ⟨w.heap.size, 5, none⟩ = some (.int .i64 o.m.fr) := cell_blk hblk 5
  have o6 : W.cell? ⟨w.heap.size, 6, none⟩ = some (.int .i64 o.m.tgt) := cell_blk hblk 6
  have o7 : W.cell? ⟨w.heap.size, 7, none⟩ = some (.int .i64 o.m.term) := cell_blk hblk 7
  have o8 : W.cell? ⟨w.heap.size, 8, none⟩ = some (.int .i64 o.m.index) := cell_blk hblk 8
  have o9 : W.cell? ⟨w.heap.size, 9, none⟩ = some (.int .i64 o.m.prev) := cell_blk hblk 9
  have o10 : W.cell? ⟨w.heap.size, 10, none⟩ = some (.int .i64 o.m.commit) := cell_blk hblk 10
  have o11 : W.cell? ⟨w.heap.size, 11, none⟩ = some (.bool o.m.good) := cell_blk hblk 11
  have o12 : W.cell? ⟨w.heap.size, 12, none⟩ = some (.slice mad o.m.list.length mcap) := cell_blk hblk 12
  have o13 : W.cell? ⟨w.heap.size, 13, none⟩ = some (.string o.m.snap) := cell_blk hblk 13
  clear hW hblk
  have HKS : True := trivial
  by_cases k1 : o.kind = 1
  · have hk := k1
    clear k1
    have er : didR b o = (b.timeout.1, b.timeout.2, 0) := by unfold didR; rw [if_pos hk]
    rw [er]
    have HC : Hid (Calls Try.prog 25 #[.pointer (some ⟨A, 0, none⟩)] W fun e w' => ∃ ov, e = .returned ov ∧ Po w w' A S b.timeout.1 b.timeout.2 ov) := by
      refine (timeout_p hP ok (by omega) ht).mono ?_
      rintro e w' ⟨ov, rfl, q⟩
      exact ⟨ov, rfl, Po.step hfw q⟩
    rw [hk] at o0
    clear hP hEW hfw hE h ok hk er HKS
    go_enter Try.func13, Try.ntmps13
    go_upto_region 1 with fail
    rw [← HW.out]
    go_wp2_with fail
    refine HC.out.mono ?_
    rintro e' w' ⟨ov, rfl, q⟩
    obtain ⟨ad, cap, rfl⟩ := q.shape
    have HQ := Lib.hid q
    clear q HC
    go_wp2
    refine bodyPost_ret (v := .tuple #[.slice ad b.timeout.2.length cap, .int .i64 0]) (by simp [results, Try.results13, go_sem]) rfl ?_
    exact ⟨_, rfl, HQ.out⟩
  · by_cases k2 : o.kind = 2
    · have hk := k2
      have er : didR b o = (b.beat.1, b.beat.2, 0) := by unfold didR; rw [if_neg (by omega), if_pos hk]
      rw [er]
      have HC : Hid (Calls Try.prog 28 #[.pointer (some ⟨A, 0, none⟩)] W fun e w' => ∃ ov, e = .returned ov ∧ Po w w' A S b.beat.1 b.beat.2 ov) := by
        refine (beat_p hP ok).mono ?_
        rintro e w' ⟨ov, rfl, q⟩
        exact ⟨ov, rfl, Po.step hfw q⟩
      rw [hk] at o0
      clear k1 k2 hP hEW hfw hE h ok hk er HKS
      go_enter Try.func13, Try.ntmps13
      go_upto_region 1 with fail
      rw [← HW.out]
      go_wp2_with fail
      refine HC.out.mono ?_
      rintro e' w' ⟨ov, rfl, q⟩
      obtain ⟨ad, cap, rfl⟩ := q.shape
      have HQ := Lib.hid q
      clear q HC
      go_wp2
      refine bodyPost_ret (v := .tuple #[.slice ad b.beat.2.length cap, .int .i64 0]) (by simp [results, Try.results13, go_sem]) rfl ?_
      exact ⟨_, rfl, HQ.out⟩
    · by_cases k3 : o.kind = 3
      · have hk := k3
        have er : didR b o = ((b.propose o.a o.b o.text).2.1, (b.propose o.a o.b o.text).2.2, (b.propose o.a o.b o.text).1) := by unfold didR; rw [if_neg (by omega), if_neg (by omega), if_pos hk]
        rw [er]
        have HC : Hid (Calls Try.prog 29 #[.pointer (some ⟨A, 0, none⟩), .int .i64 o.a, .int .i64 o.b, .string o.text] W fun e w' => ∃ ov, e = .returned (.tuple #[.int .i64 (b.propose o.a o.b o.text).1, ov]) ∧ Po w w' A S (b.propose o.a o.b o.text).2.1 (b.propose o.a o.b o.text).2.2 ov) := by
          refine (propose_p hP ok (by omega) o.a o.b o.text).mono ?_
          rintro e w' ⟨ov, rfl, q⟩
          exact ⟨ov, rfl, Po.step hfw q⟩
        obtain ⟨R, hR⟩ : ∃ R, b.propose o.a o.b o.text = R := ⟨_, rfl⟩
        rw [hR] at HC ⊢
        rw [hk] at o0
        clear k1 k2 k3 hP hEW hfw hE h ok hk er hR HKS
        go_enter Try.func13, Try.ntmps13
        go_upto_region 1 with fail
        rw [← HW.out]
        go_wp2_with fail
        refine HC.out.mono ?_
        rintro e' w' ⟨ov, rfl, q⟩
        obtain ⟨ad, cap, rfl⟩ := q.shape
        have HQ := Lib.hid q
        clear q HC
        go_wp2
        refine bodyPost_ret (v := .tuple #[.slice ad R.2.2.length cap, .int .i64 R.1]) (by simp [results, Try.results13, go_sem]) rfl ?_
        exact ⟨_, rfl, HQ.out⟩
      · by_cases k4 : o.kind = 4
        · have hk := k4
          have er : didR b o = ((b.take o.m).1, (b.take o.m).2, 0) := by unfold didR; rw [if_neg (by omega), if_neg (by omega), if_neg (by omega), if_pos hk]
          rw [er]
          have hcp := copiedL_p hEW (fun k hk => Nat.lt_of_lt_of_le (hlt k hk) hb.size) (by omega)
          have HC : Hid (∀ V ad cap, Below W.heap.size W V → Es V S o.m.list (.slice ad o.m.list.length cap) → Calls Try.prog 26 #[.pointer (some ⟨A, 0, none⟩), msV o.m (.slice ad o.m.list.length cap)] V fun e w' => ∃ ov, e = .returned ov ∧ Po w w' A S (b.take o.m).1 (b.take o.m).2 ov) := by
            intro V ad cap q1 q2
            refine (take_p (hP.on q1) ok o.m q2 hz).mono ?_
            rintro e w' ⟨ov, rfl, q⟩
            exact ⟨ov, rfl, Po.step (hfw.below q1) q⟩
          rw [hk] at o0
          clear k1 k2 k3 k4 hP hEW hfw hE h ok hk er HKS
          go_enter Try.func13, Try.ntmps13
          go_upto_region 1 with fail
          rw [← HW.out]
          go_wp2_with fail
          refine hcp.mono ?_
          rintro e1 w1 ⟨ad1, cap1, rfl, hb1, hE1⟩
          have hcall := HC.out w1 ad1 cap1 hb1 hE1
          clear hcp hb1 hE1 HC
          go_wp2_with fail
          refine hcall.mono ?_
          rintro e' w' ⟨ov, rfl, q⟩
          obtain ⟨ad, cap, rfl⟩ := q.shape
          have HQ := Lib.hid q
          clear q hcall
          go_wp2
          refine bodyPost_ret (v := .tuple #[.slice ad (b.take o.m).2.length cap, .int .i64 0]) (by simp [results, Try.results13, go_sem]) rfl ?_
          exact ⟨_, rfl, HQ.out⟩
        · by_cases k5 : o.kind = 5
          · have hk := k5
            cases hcv : (b.cut o.a o.text).1 with
            | true =>
              have HC : Hid (Calls Try.prog 31 #[.pointer (some ⟨A, 0, none⟩), .int .i64 o.a, .string o.text] W fun e w' => e = .returned (.bool true) ∧ Po w w' A S (b.cut o.a o.text).2 [] (.slice none 0 0)) := by
                refine (cut_p hP ok.inv hl o.a o.text).mono ?_
                rintro e w' ⟨rfl, q⟩
                rw [hcv]
                exact ⟨rfl, Po.ofPt (Pt.step hfw q)⟩
              have er : didR b o = ((b.cut o.a o.text).2, [], 1) := by unfold didR; rw [if_neg (by omega), if_neg (by omega), if_neg (by omega), if_neg (by omega), if_pos hk, hcv]; rfl
              rw [er]
              rw [hk] at o0
              clear k1 k2 k3 k4 k5 hP hEW hfw hE h ok hk er hcv HKS
              go_enter Try.func13, Try.ntmps13
              go_upto_region 1 with fail
              rw [← HW.out]
              go_wp2_with fail
              refine HC.out.mono ?_
              rintro e' w' ⟨rfl, q⟩
              have HQ := Lib.hid q
              clear q HC
              go_wp2
              refine bodyPost_ret (v := .tuple #[.slice none 0 0, .int .i64 1]) (by simp [results, Try.results13, go_sem]) rfl ?_
              exact ⟨_, rfl, HQ.out⟩
            | false =>
              have HC : Hid (Calls Try.prog 31 #[.pointer (some ⟨A, 0, none⟩), .int .i64 o.a, .string o.text] W fun e w' => e = .returned (.bool false) ∧ Po w w' A S (b.cut o.a o.text).2 [] (.slice none 0 0)) := by
                refine (cut_p hP ok.inv hl o.a o.text).mono ?_
                rintro e w' ⟨rfl, q⟩
                rw [hcv]
                exact ⟨rfl, Po.ofPt (Pt.step hfw q)⟩
              have er : didR b o = ((b.cut o.a o.text).2, [], 0) := by unfold didR; rw [if_neg (by omega), if_neg (by omega), if_neg (by omega), if_neg (by omega), if_pos hk, hcv]; rfl
              rw [er]
              rw [hk] at o0
              clear k1 k2 k3 k4 k5 hP hEW hfw hE h ok hk er hcv HKS
              go_enter Try.func13, Try.ntmps13
              go_upto_region 1 with fail
              rw [← HW.out]
              go_wp2_with fail
              refine HC.out.mono ?_
              rintro e' w' ⟨rfl, q⟩
              have HQ := Lib.hid q
              clear q HC
              go_wp2
              refine bodyPost_ret (v := .tuple #[.slice none 0 0, .int .i64 0]) (by simp [results, Try.results13, go_sem]) rfl ?_
              exact ⟨_, rfl, HQ.out⟩
          · have er : didR b o = (b, [], 0) := by unfold didR; rw [if_neg k1, if_neg k2, if_neg k3, if_neg k4, if_neg k5]
            rw [er]
            have HQ : Hid (Po w W A S b [] (.slice none 0 0)) := Po.step hfw (Po.none hP)
            clear hP hEW hfw hE h ok er HKS
            go_enter Try.func13, Try.ntmps13
            go_upto_region 1 with fail
            rw [← HW.out]
            go_wp2
            refine bodyPost_ret (v := .tuple #[.slice none 0 0, .int .i64 0]) (by simp [results, Try.results13, go_sem]) rfl ?_
            exact ⟨_, rfl, HQ.out⟩
end
end Go.Proofs.Ytmiagjcihmenfaa
/- A call as an argument, opened; how much it holds; an argument reads behind the call as before. -/
namespace Go.Proofs.Ytmiagjcihmenfaa
open Go.ChangeShapes Go.WideShapes Go.ChangeAt Go.WideMaps Go.WideElems Go.RowKit Go.Joins Go.Deep

theorem own : ownKnob Try.prog.godebug = none := by kernel_rfl
theorem laidOut : laidOutB Try.prog = true := by kernel_rfl
theorem cells3 : Try.prog.cellsOf 3 = 1 := by kernel_rfl
theorem cells4 : Try.prog.cellsOf 4 = 1 := by kernel_rfl
theorem cells9 : Try.prog.cellsOf 9 = 1 := by kernel_rfl
theorem cells32 : Try.prog.cellsOf 32 = 1 := by kernel_rfl
theorem cells34 : Try.prog.cellsOf 34 = 10 := by kernel_rfl
theorem cells36 : Try.prog.cellsOf 36 = 14 := by kernel_rfl
theorem cells49 : Try.prog.cellsOf 49 = 4 := by kernel_rfl
theorem bytes49 : Try.prog.bytesOf 49 = 40 := by kernel_rfl

theorem cell_lt {w : World} {a : Addr} {v : Value} (h : w.cell? a = some v) : a.block < w.heap.size := by
  rcases Nat.lt_or_ge a.block w.heap.size with h' | h'
  · exact h'
  · have e := Array.getElem?_eq_none h'
    simp [World.cell?, e] at h
/-- A number of the machine. -/
abbrev I64 (n : Int) : Prop := -9223372036854775808 ≤ n ∧ n ≤ 9223372036854775807
structure En.In (e : En) : Prop where
  term : I64 e.term
  at' : I64 e.at'
  born : I64 e.born
structure Ms.In (m : Ms) : Prop where
  kind : I64 m.kind
  fr : I64 m.fr
  tt : I64 m.tgt
  term : I64 m.term
  index : I64 m.index
  prev : I64 m.prev
  commit : I64 m.commit
  list : ∀ e ∈ m.list, e.In
structure Op.In (o : Op) : Prop where
  kind : I64 o.kind
  a : I64 o.a
  b : I64 o.b
  m : o.m.In

section
variable {H : Type} {enc : TypeId × Value → H} {W : World} {fuel : Nat} {cs : List Value} {x : DataW H × List MemPlace}
set_option maxRecDepth 100000 in
theorem en_trod (hl : cs.length = 4) (hf : DataW.trod enc Try.prog W 0 (fun _ => true) true fuel 49 cs = some x) :
    ∃ l : En, cs = [.int .i64 l.term, .int .i64 l.at', .int .i64 l.born, .string l.text] ∧ l.In := by
  obtain ⟨xs, k, hk, hxy, _, hxl, hfl⟩ := DataW.trod_struct Try.underlying49 hf
  match xs, hxl, cs, hl with
  | [y0, y1, y2, y3], _, [v0, v1, v2, v3], _ =>
    have g0 := hfl 0 _ rfl
    have g1 := hfl 1 _ rfl
    have g2 := hfl 2 _ rfl
    have g3 := hfl 3 _ rfl
    simp [cells3, cells9] at g0 g1 g2 g3
    obtain ⟨k0, f0, _, b0⟩ := DataW.trod_int Try.underlying3 g0
    obtain ⟨k1, f1, _, b1⟩ := DataW.trod_int Try.underlying3 g1
    obtain ⟨k2, f2, _, b2⟩ := DataW.trod_int Try.underlying3 g2
    obtain ⟨s, f3, _, _⟩ := DataW.trod_string Try.underlying9 g3
    simp at f0 f1 f2 f3
    subst f0 f1 f2 f3
    exact ⟨⟨k0, k1, k2, s⟩, rfl, bounds_i64 b0, bounds_i64 b1, bounds_i64 b2⟩
set_option maxRecDepth 100000 in
theorem list_trod (hf : DataW.trod enc Try.prog W 0 (fun _ => true) true fuel 32 cs = some x) :
    ∃ (L : List En) (ad : Option Addr) (cap : Nat), cs = [.slice ad L.length cap] ∧ Es W (fun _ => False) L (.slice ad L.length cap) ∧ (∀ e ∈ L, e.In) ∧ (L = [] ∨ ∃ elems spare, x.1 = .slice elems spare ∧ elems.length = L.length) := by
  rcases open_slice Try.underlying32 hf with ⟨hcs, _⟩ | ⟨a, len, cap, m, n, D, Pl, rfl, _, hl, hm, hmm, hx, hel⟩
  · subst hcs
    exact ⟨[], none, 0, rfl, Es.nil _ _, fun e he => by simp at he, .inl rfl⟩
  · simp only [if_true] at hmm
    subst hmm
    have each : ∀ i, i < len → ∃ q : En, W.cell? (a.add (i * 4)) = some (.int .i64 q.term) ∧ W.cell? (a.add (i * 4 + 1)) = some (.int .i64 q.at') ∧ W.cell? (a.add (i * 4 + 2)) = some (.int .i64 q.born) ∧ W.cell? (a.add (i * 4 + 3)) = some (.string q.text) ∧ q.In := by
      intro i hi
      obtain ⟨cs', h1, h2⟩ := hel i (by omega)
      rw [cells49] at h1
      obtain ⟨_, hlen, hcell⟩ := World.cells?_some h1
      obtain ⟨l, rfl, hin⟩ := en_trod hlen h2
      have e0 := hcell 0 (by omega)
      have e1 := hcell 1 (by omega)
      have e2 := hcell 2 (by omega)
      have e3 := hcell 3 (by omega)
      rw [add_add] at e0 e1 e2 e3
      exact ⟨l, e0, e1, e2, e3, hin⟩
    have hinh : Inhabited En := ⟨⟨0, 0, 0, noT⟩⟩
    obtain ⟨q, hq⟩ := choose_lt each
    have hlen : ((List.range len).map q).length = len := by simp
    refine ⟨(List.range len).map q, some a, m, by rw [hlen], ⟨some a, m, rfl, (fun h => by cases h), (by rw [hlen]; exact hl), hm, fun i hi => ?_⟩, fun v hv => ?_, .inr ⟨_, _, congrArg Prod.fst hx, by simp⟩⟩
    · rw [hlen] at hi
      obtain ⟨c0, c1, c2, c3, _⟩ := hq i hi
      obtain ⟨b, o, sp⟩ := a
      have hsp : sp = none := by
        have := World.cell?_spot (hq 0 (by omega)).1
        simpa [Addr.add] using this
      subst hsp
      rw [add_at] at c0 c1 c2 c3
      refine ⟨b, o, rfl, cell_lt c0, fun h => h, ?_, ?_, ?_, ?_⟩
      · simpa using c0
      · simpa [Nat.add_assoc] using c1
      · simpa [Nat.add_assoc] using c2
      · simpa [Nat.add_assoc] using c3
    · obtain ⟨i, hi, rfl⟩ := List.mem_map.1 hv
      exact (hq i (List.mem_range.1 hi)).2.2.2.2
/-- How much a list weighs. -/
def Wl (x : DataW H) (L : List En) : Prop := L = [] ∨ ∃ elems spare, x = .slice elems spare ∧ elems.length = L.length
set_option maxRecDepth 100000 in
theorem ms_trod (hl : cs.length = 10) (hf : DataW.trod enc Try.prog W 0 (fun _ => true) true fuel 34 cs = some x) :
    ∃ (m : Ms) (ad : Option Addr) (cap : Nat), cs = [.int .i64 m.kind, .int .i64 m.fr, .int .i64 m.tgt, .int .i64 m.term, .int .i64 m.index, .int .i64 m.prev, .int .i64 m.commit, .bool m.good, .slice ad m.list.length cap, .string m.snap] ∧
      Es W (fun _ => False) m.list (.slice ad m.list.length cap) ∧ m.In ∧ ∃ d0 d1 d2 d3 d4 d5 d6 d7 d8 d9, x.1 = .agg [d0, d1, d2, d3, d4, d5, d6, d7, d8, d9] ∧ Wl d8 m.list := by
  obtain ⟨xs, k, hk, hxy, _, hxl, hfl⟩ := DataW.trod_struct Try.underlying34 hf
  match xs, hxl, cs, hl with
  | [y0, y1, y2, y3, y4, y5, y6, y7, y8, y9], _, [v0, v1, v2, v3, v4, v5, v6, v7, v8, v9], _ =>
    have g0 := hfl 0 _ rfl
    have g1 := hfl 1 _ rfl
    have g2 := hfl 2 _ rfl
    have g3 := hfl 3 _ rfl
    have g4 := hfl 4 _ rfl
    have g5 := hfl 5 _ rfl
    have g6 := hfl 6 _ rfl
    have g7 := hfl 7 _ rfl
    have g8 := hfl 8 _ rfl
    have g9 := hfl 9 _ rfl
    simp [cells3, cells9, cells4, cells32] at g0 g1 g2 g3 g4 g5 g6 g7 g8 g9
    obtain ⟨k0, f0, _, b0⟩ := DataW.trod_int Try.underlying3 g0
    obtain ⟨k1, f1, _, b1⟩ := DataW.trod_int Try.underlying3 g1
    obtain ⟨k2, f2, _, b2⟩ := DataW.trod_int Try.underlying3 g2
    obtain ⟨k3, f3, _, b3⟩ := DataW.trod_int Try.underlying3 g3
    obtain ⟨k4, f4, _, b4⟩ := DataW.trod_int Try.underlying3 g4
    obtain ⟨k5, f5, _, b5⟩ := DataW.trod_int Try.underlying3 g5
    obtain ⟨k6, f6, _, b6⟩ := DataW.trod_int Try.underlying3 g6
    obtain ⟨k7, f7, _⟩ := DataW.trod_bool Try.underlying4 g7
    obtain ⟨L, ad, cap, f8, hE, hI, hw⟩ := list_trod g8
    obtain ⟨s, f9, _, _⟩ := DataW.trod_string Try.underlying9 g9
    simp at f0 f1 f2 f3 f4 f5 f6 f7 f8 f9
    subst f0 f1 f2 f3 f4 f5 f6 f7 f8 f9
    refine ⟨⟨k0, k1, k2, k3, k4, k5, k6, k7, L, s⟩, ad, cap, rfl, hE, ⟨bounds_i64 b0, bounds_i64 b1, bounds_i64 b2, bounds_i64 b3, bounds_i64 b4, bounds_i64 b5, bounds_i64 b6, hI⟩, y0.1, y1.1, y2.1, y3.1, y4.1, y5.1, y6.1, y7.1, y8.1, y9.1, ?_, hw⟩
    rw [hxy]
    rfl
set_option maxRecDepth 100000 in
theorem op_trod (hl : cs.length = 14) (hf : DataW.trod enc Try.prog W 0 (fun _ => true) true fuel 36 cs = some x) :
    ∃ (o : Op) (ad : Option Addr) (cap : Nat), cs = [.int .i64 o.kind, .int .i64 o.a, .int .i64 o.b, .string o.text, .int .i64 o.m.kind, .int .i64 o.m.fr, .int .i64 o.m.tgt, .int .i64 o.m.term, .int .i64 o.m.index, .int .i64 o.m.prev, .int .i64 o.m.commit, .bool o.m.good, .slice ad o.m.list.length cap, .string o.m.snap] ∧
      Es W (fun _ => False) o.m.list (.slice ad o.m.list.length cap) ∧ o.In ∧ ∃ e0 e1 e2 e3 d0 d1 d2 d3 d4 d5 d6 d7 d8 d9, x.1 = .agg [e0, e1, e2, e3, .agg [d0, d1, d2, d3, d4, d5, d6, d7, d8, d9]] ∧ Wl d8 o.m.list := by
  obtain ⟨xs, k, hk, hxy, _, hxl, hfl⟩ := DataW.trod_struct Try.underlying36 hf
  match xs, hxl, cs, hl with
  | [y0, y1, y2, y3, y4], _, [v0, v1, v2, v3, v4, v5, v6, v7, v8, v9, v10, v11, v12, v13], _ =>
    have g0 := hfl 0 _ rfl
    have g1 := hfl 1 _ rfl
    have g2 := hfl 2 _ rfl
    have g3 := hfl 3 _ rfl
    have g4 := hfl 4 _ rfl
    simp [cells3, cells9, cells34] at g0 g1 g2 g3 g4
    obtain ⟨k0, f0, _, b0⟩ := DataW.trod_int Try.underlying3 g0
    obtain ⟨k1, f1, _, b1⟩ := DataW.trod_int Try.underlying3 g1
    obtain ⟨k2, f2, _, b2⟩ := DataW.trod_int Try.underlying3 g2
    obtain ⟨s, f3, _, _⟩ := DataW.trod_string Try.underlying9 g3
    obtain ⟨m, ad, cap, f4, hE, hI, d0, d1, d2, d3, d4, d5, d6, d7, d8, d9, hd, hw⟩ := ms_trod rfl g4
    simp at f0 f1 f2 f3 f4
    obtain ⟨rfl, rfl, rfl, rfl, rfl, rfl, rfl, rfl, rfl, rfl⟩ := f4
    subst f0 f1 f2 f3
    refine ⟨⟨k0, k1, k2, s, m⟩, ad, cap, rfl, hE, ⟨bounds_i64 b0, bounds_i64 b1, bounds_i64 b2, hI⟩, y0.1, y1.1, y2.1, y3.1, d0, d1, d2, d3, d4, d5, d6, d7, d8, d9, ?_, hw⟩
    rw [hxy, ← hd]
    rfl
set_option maxRecDepth 100000 in
theorem wl_sized {e0 e1 e2 e3 d0 d1 d2 d3 d4 d5 d6 d7 d8 d9 : DataW H} {L : List En} (hw : Wl d8 L) (h : ∀ n ∈ DataW.weights Try.prog 36 (.agg [e0, e1, e2, e3, .agg [d0, d1, d2, d3, d4, d5, d6, d7, d8, d9]]), n ≤ reachBytes) : L.length * 40 ≤ reachBytes := by
  rcases hw with rfl | ⟨elems, spare, rfl, e⟩
  · exact Nat.zero_le _
  · have h1 : (elems.length + spare.length) * Try.prog.bytesOf 49 ≤ reachBytes := by
      apply h
      simp only [DataW.weights, Try.underlying36, Try.underlying34, Try.underlying32, DataW.weightsEach, List.map_cons, List.mem_append, List.mem_cons]
      simp
    rw [bytes49, e] at h1
    exact Nat.le_trans (Nat.mul_le_mul_right _ (Nat.le_add_right _ _)) h1
end
section
variable {H : Type} {enc : TypeId × Value → H}
set_option maxRecDepth 100000 in
theorem open_op {W : World} {base : Nat} {v : Value} {d : DataW H} {p : List MemPlace} (hv : Value.okWide Try.prog W .any base 36 v) (h : DataW.Trod enc Try.prog W 0 (fun _ => true) true 36 v d p) :
    ∃ (o : Op) (ad : Option Addr) (cap : Nat), v = opV o (.slice ad o.m.list.length cap) ∧ Es W (fun _ => False) o.m.list (.slice ad o.m.list.length cap) ∧ o.In ∧ ((∀ n ∈ DataW.weights Try.prog 36 d, n ≤ reachBytes) → o.m.list.length * 40 ≤ reachBytes) := by
  obtain ⟨cs, rfl, hsz⟩ := okWide_struct Try.underlying36 hv
  obtain ⟨fuel, hf⟩ := h
  obtain ⟨l⟩ := cs
  have hl : l.length = 14 := hsz.trans cells36
  obtain ⟨o, ad, cap, e, hE, hI, e0, e1, e2, e3, d0, d1, d2, d3, d4, d5, d6, d7, d8, d9, hd, hw⟩ := op_trod (cs := l) hl hf
  subst e
  have hd : d = _ := hd
  subst hd
  exact ⟨o, ad, cap, rfl, hE, hI, wl_sized hw⟩
set_option maxRecDepth 100000 in
theorem again_op {W W' : World} {v : Value} {d : DataW H} {p : List MemPlace} (h : DataW.Trod enc Try.prog W 0 (fun _ => true) true 36 v d p) (hb : Below W.heap.size W W') (hlt : ∀ x ∈ p, x.block < W.heap.size) : DataW.Trod enc Try.prog W' 0 (fun b => decide (b < W.heap.size)) true 36 v d p :=
  Below.trod laidOut (by kernel_rfl) (of_decide_eq_true (by kernel_rfl)) h hb hlt
theorem again_ops {W W' : World} {v : Value} {d : DataW H} {p : List MemPlace} (h : DataW.Trod enc Try.prog W 0 (fun _ => true) true 22 v d p) (hb : Below W.heap.size W W') (hlt : ∀ x ∈ p, x.block < W.heap.size) : DataW.Trod enc Try.prog W' 0 (fun b => decide (b < W.heap.size)) true 22 v d p :=
  Below.trod laidOut (by kernel_rfl) (of_decide_eq_true (by kernel_rfl)) h hb hlt
theorem again_int {W W' : World} {v : Value} {d : DataW H} {p : List MemPlace} (h : DataW.Trod enc Try.prog W 0 (fun _ => true) true 3 v d p) (hb : Below W.heap.size W W') (hlt : ∀ x ∈ p, x.block < W.heap.size) : DataW.Trod enc Try.prog W' 0 (fun b => decide (b < W.heap.size)) true 3 v d p :=
  Below.trod laidOut (by kernel_rfl) (of_decide_eq_true (by kernel_rfl)) h hb hlt
end
end Go.Proofs.Ytmiagjcihmenfaa
/- A list of calls as an argument, opened. -/
namespace Go.Proofs.Ytmiagjcihmenfaa
open Go.ChangeShapes Go.WideShapes Go.ChangeAt Go.WideMaps Go.WideElems Go.RowKit Go.Joins Go.Deep

/-- A call, and where its list lies. -/
abbrev Oq := Op × Option Addr × Nat
/-- What a call holds lies within a machine's reach. -/
structure Op.Sz (o : Op) : Prop where
  text : o.text.size ≤ 140737488355328
  list : o.m.list.length * 40 ≤ 140737488355328
  snap : o.m.snap.size ≤ 140737488355328
section
variable {H : Type} {enc : TypeId × Value → H} {W : World} {fuel : Nat} {cs : List Value} {x : DataW H × List MemPlace}
set_option maxRecDepth 100000 in
theorem ms_snap {v0 v1 v2 v3 v4 v5 v6 v7 v8 : Value} {s : ByteArray} (hf : DataW.trod enc Try.prog W 0 (fun _ => true) true fuel 34 [v0, v1, v2, v3, v4, v5, v6, v7, v8, .string s] = some x) (h : ∀ n ∈ DataW.weights Try.prog 34 x.1, n ≤ reachBytes) : s.size ≤ reachBytes := by
  obtain ⟨xs, k, hk, hxy, _, hxl, hfl⟩ := DataW.trod_struct Try.underlying34 hf
  match xs, hxl with
  | [y0, y1, y2, y3, y4, y5, y6, y7, y8, y9], _ =>
    have g9 := hfl 9 _ rfl
    simp [cells9] at g9
    obtain ⟨s', f9, e, _⟩ := DataW.trod_string Try.underlying9 g9
    simp at f9
    subst f9
    have e' : y9.1 = _ := congrArg Prod.fst e
    have hx : x.1 = .agg [y0.1, y1.1, y2.1, y3.1, y4.1, y5.1, y6.1, y7.1, y8.1, y9.1] := by rw [hxy]; rfl
    rw [hx] at h
    have h1 := h s.data.toList.length (by
      simp only [DataW.weights, Try.underlying34, DataW.weightsEach, List.map_cons, List.mem_append]
      rw [e']
      simp [DataW.weights])
    rw [Array.length_toList] at h1
    exact h1
set_option maxRecDepth 100000 in
theorem op_texts {v0 v1 v2 v4 v5 v6 v7 v8 v9 v10 v11 v12 : Value} {s u : ByteArray} (hf : DataW.trod enc Try.prog W 0 (fun _ => true) true fuel 36 [v0, v1, v2, .string s, v4, v5, v6, v7, v8, v9, v10, v11, v12, .string u] = some x) (h : ∀ n ∈ DataW.weights Try.prog 36 x.1, n ≤ reachBytes) : s.size ≤ reachBytes ∧ u.size ≤ reachBytes := by
  obtain ⟨xs, k, hk, hxy, _, hxl, hfl⟩ := DataW.trod_struct Try.underlying36 hf
  match xs, hxl with
  | [y0, y1, y2, y3, y4], _ =>
    have g3 := hfl 3 _ rfl
    have g4 := hfl 4 _ rfl
    simp [cells9, cells34] at g3 g4
    obtain ⟨s', f3, e, _⟩ := DataW.trod_string Try.underlying9 g3
    simp at f3
    subst f3
    have e' : y3.1 = _ := congrArg Prod.fst e
    have hx : x.1 = .agg [y0.1, y1.1, y2.1, y3.1, y4.1] := by rw [hxy]; rfl
    rw [hx] at h
    have h1 := h s.data.toList.length (by
      simp only [DataW.weights, Try.underlying36, DataW.weightsEach, List.map_cons, List.mem_append]
      rw [e']
      simp [DataW.weights])
    rw [Array.length_toList] at h1
    refine ⟨h1, ms_snap g4 (fun n hn => h n ?_)⟩
    simp only [DataW.weights, Try.underlying36, DataW.weightsEach, List.map_cons, List.mem_append]
    simp [hn]
theorem weights_all {P : Program} {e : TypeId} {n : Nat} {d : DataW H} : ∀ {l : List (DataW H)}, d ∈ l → n ∈ d.weights P e → n ∈ DataW.weightsAll P e l
  | [], h, _ => by cases h
  | a :: l, h, hn => by
    simp only [DataW.weightsAll, List.mem_append]
    rcases List.mem_cons.1 h with rfl | h
    · exact .inl hn
    · exact .inr (weights_all h hn)
end
/-- The calls L lie behind ad. -/
structure Lo (w : World) (L : List Oq) (ad : Option Addr) : Prop where
  at' : ∀ i (h : i < L.length), ∃ b o, ad = some ⟨b, o, none⟩ ∧ b < w.heap.size ∧ w.cell? ⟨b, o + i * 14, none⟩ = some (.int .i64 L[i].1.kind) ∧ w.cell? ⟨b, o + i * 14 + 1, none⟩ = some (.int .i64 L[i].1.a) ∧ w.cell? ⟨b, o + i * 14 + 2, none⟩ = some (.int .i64 L[i].1.b) ∧ w.cell? ⟨b, o + i * 14 + 3, none⟩ = some (.string L[i].1.text) ∧ w.cell? ⟨b, o + i * 14 + 4, none⟩ = some (.int .i64 L[i].1.m.kind) ∧ w.cell? ⟨b, o + i * 14 + 5, none⟩ = some (.int .i64 L[i].1.m.fr) ∧ w.cell? ⟨b, o + i * 14 + 6, none⟩ = some (.int .i64 L[i].1.m.tgt) ∧ w.cell? ⟨b, o + i * 14 + 7, none⟩ = some (.int .i64 L[i].1.m.term) ∧ w.cell? ⟨b, o + i * 14 + 8, none⟩ = some (.int .i64 L[i].1.m.index) ∧ w.cell? ⟨b, o + i * 14 + 9, none⟩ = some (.int .i64 L[i].1.m.prev) ∧ w.cell? ⟨b, o + i * 14 + 10, none⟩ = some (.int .i64 L[i].1.m.commit) ∧ w.cell? ⟨b, o + i * 14 + 11, none⟩ = some (.bool L[i].1.m.good) ∧ w.cell? ⟨b, o + i * 14 + 12, none⟩ = some (.slice L[i].2.1 L[i].1.m.list.length L[i].2.2) ∧ w.cell? ⟨b, o + i * 14 + 13, none⟩ = some (.string L[i].1.m.snap)
  es : ∀ p ∈ L, Es w (fun _ => False) p.1.m.list (.slice p.2.1 p.1.m.list.length p.2.2)
  ins : ∀ p ∈ L, p.1.In
  sz : ∀ p ∈ L, p.1.Sz
theorem Lo.on {w w' : World} {L : List Oq} {ad : Option Addr} (h : Lo w L ad) (hb : Below w.heap.size w w') : Lo w' L ad := by
  refine ⟨fun i hi => ?_, fun p hp => (h.es p hp).on hb, h.ins, h.sz⟩
  obtain ⟨b, o, ha, hl, c0, c1, c2, c3, c4, c5, c6, c7, c8, c9, c10, c11, c12, c13⟩ := h.at' i hi
  have hc : ∀ o, w'.cell? ⟨b, o, none⟩ = w.cell? ⟨b, o, none⟩ := fun o => World.cell?_of_block (hb.block b hl)
  exact ⟨b, o, ha, Nat.lt_of_lt_of_le hl hb.size, by rw [hc]; exact c0, by rw [hc]; exact c1, by rw [hc]; exact c2, by rw [hc]; exact c3, by rw [hc]; exact c4, by rw [hc]; exact c5, by rw [hc]; exact c6, by rw [hc]; exact c7, by rw [hc]; exact c8, by rw [hc]; exact c9, by rw [hc]; exact c10, by rw [hc]; exact c11, by rw [hc]; exact c12, by rw [hc]; exact c13⟩
section
variable {H : Type} {enc : TypeId × Value → H}
set_option maxRecDepth 100000 in
set_option maxHeartbeats 1000000 in
theorem open_ops {W : World} {base : Nat} {v : Value} {d : DataW H} {p : List MemPlace} (hv : Value.okWide Try.prog W .any base 22 v) (h : DataW.Trod enc Try.prog W 0 (fun _ => true) true 22 v d p) (hz : ∀ n ∈ DataW.weights Try.prog 22 d, n ≤ reachBytes) :
    ∃ (L : List Oq) (ad : Option Addr) (cap : Nat), v = .slice ad L.length cap ∧ Lo W L ad ∧ L.length ≤ cap ∧ cap ≤ maxLen := by
  obtain ⟨a0, len, cap, rfl⟩ := okWide_slice Try.underlying22 hv
  obtain ⟨fuel, hf⟩ := h
  rcases open_slice Try.underlying22 hf with ⟨hcs, hx⟩ | ⟨a, len', cap', m, n, D, Pl, hcs, _, hl, hm, hmm, hx, hel⟩
  · simp [Value.cells] at hcs
    obtain ⟨rfl, rfl, rfl⟩ := hcs
    exact ⟨[], none, 0, rfl, ⟨fun i hi => by simp at hi, fun p hp => by simp at hp, fun p hp => by simp at hp, fun p hp => by simp at hp⟩, Nat.le_refl _, Nat.zero_le _⟩
  · simp [Value.cells] at hcs
    obtain ⟨rfl, rfl, rfl⟩ := hcs
    simp only [if_true] at hmm
    subst hmm
    have hd : d = _ := congrArg Prod.fst hx
    have hwt : ∀ i, i < len → ∀ n ∈ DataW.weights Try.prog 36 (D i), n ≤ reachBytes := by
      intro i hi n hn
      apply hz
      rw [hd]
      simp only [DataW.weights, Try.underlying22, List.mem_cons, List.mem_append]
      exact .inr (.inl (weights_all (List.mem_map.2 ⟨i, List.mem_range.2 hi, rfl⟩) hn))
    have each : ∀ i, i < len → ∃ q : Oq, W.cell? (a.add (i * 14)) = some (.int .i64 q.1.kind) ∧ W.cell? (a.add (i * 14 + 1)) = some (.int .i64 q.1.a) ∧ W.cell? (a.add (i * 14 + 2)) = some (.int .i64 q.1.b) ∧ W.cell? (a.add (i * 14 + 3)) = some (.string q.1.text) ∧ W.cell? (a.add (i * 14 + 4)) = some (.int .i64 q.1.m.kind) ∧ W.cell? (a.add (i * 14 + 5)) = some (.int .i64 q.1.m.fr) ∧ W.cell? (a.add (i * 14 + 6)) = some (.int .i64 q.1.m.tgt) ∧ W.cell? (a.add (i * 14 + 7)) = some (.int .i64 q.1.m.term) ∧ W.cell? (a.add (i * 14 + 8)) = some (.int .i64 q.1.m.index) ∧ W.cell? (a.add (i * 14 + 9)) = some (.int .i64 q.1.m.prev) ∧ W.cell? (a.add (i * 14 + 10)) = some (.int .i64 q.1.m.commit) ∧ W.cell? (a.add (i * 14 + 11)) = some (.bool q.1.m.good) ∧ W.cell? (a.add (i * 14 + 12)) = some (.slice q.2.1 q.1.m.list.length q.2.2) ∧ W.cell? (a.add (i * 14 + 13)) = some (.string q.1.m.snap) ∧ Es W (fun _ => False) q.1.m.list (.slice q.2.1 q.1.m.list.length q.2.2) ∧ q.1.In ∧ q.1.Sz := by
      intro i hi
      obtain ⟨cs', h1, h2⟩ := hel i (by omega)
      rw [cells36] at h1
      obtain ⟨_, hlen, hcell⟩ := World.cells?_some h1
      obtain ⟨o, ad, cap, rfl, hE, hI, e0, e1, e2, e3, d0, d1, d2, d3, d4, d5, d6, d7, d8, d9, hd, hw⟩ := op_trod hlen h2
      have hwi := hwt i hi
      have hd : D i = _ := hd
      have ht := op_texts h2 hwi
      rw [hd] at hwi
      have hlw := wl_sized hw hwi
      have hR := reachBytes_lt
      have hSz : o.Sz := ⟨by omega, by omega, by omega⟩
      have z0 := hcell 0 (by omega)
      have z1 := hcell 1 (by omega)
      have z2 := hcell 2 (by omega)
      have z3 := hcell 3 (by omega)
      have z4 := hcell 4 (by omega)
      have z5 := hcell 5 (by omega)
      have z6 := hcell 6 (by omega)
      have z7 := hcell 7 (by omega)
      have z8 := hcell 8 (by omega)
      have z9 := hcell 9 (by omega)
      have z10 := hcell 10 (by omega)
      have z11 := hcell 11 (by omega)
      have z12 := hcell 12 (by omega)
      have z13 := hcell 13 (by omega)
      rw [add_add] at z0 z1 z2 z3 z4 z5 z6 z7 z8 z9 z10 z11 z12 z13
      exact ⟨(o, ad, cap), z0, z1, z2, z3, z4, z5, z6, z7, z8, z9, z10, z11, z12, z13, hE, hI, hSz⟩
    have hinh : Inhabited Oq := ⟨(⟨0, 0, 0, noT, ms0⟩, none, 0)⟩
    obtain ⟨q, hq⟩ := choose_lt each
    have hlen : ((List.range len).map q).length = len := by simp
    have hmem : ∀ v ∈ (List.range len).map q, ∃ i, i < len ∧ v = q i := by
      intro v hv
      obtain ⟨i, hi, rfl⟩ := List.mem_map.1 hv
      exact ⟨i, List.mem_range.1 hi, rfl⟩
    refine ⟨(List.range len).map q, some a, m, by rw [hlen], ⟨fun i hi => ?_, fun v hv => ?_, fun v hv => ?_, fun v hv => ?_⟩, by rw [hlen]; exact hl, hm⟩
    · rw [hlen] at hi
      obtain ⟨c0, c1, c2, c3, c4, c5, c6, c7, c8, c9, c10, c11, c12, c13, _⟩ := hq i hi
      obtain ⟨b, o, sp⟩ := a
      have hsp : sp = none := by
        have := World.cell?_spot (hq 0 (by omega)).1
        simpa [Addr.add] using this
      subst hsp
      rw [add_at] at c0 c1 c2 c3 c4 c5 c6 c7 c8 c9 c10 c11 c12 c13
      have e : ((List.range len).map q)[i]'(by rw [hlen]; exact hi) = q i := by simp
      rw [e]
      exact ⟨b, o, rfl, cell_lt c0, c0, (by rw [Nat.add_assoc]; exact c1), (by rw [Nat.add_assoc]; exact c2), (by rw [Nat.add_assoc]; exact c3), (by rw [Nat.add_assoc]; exact c4), (by rw [Nat.add_assoc]; exact c5), (by rw [Nat.add_assoc]; exact c6), (by rw [Nat.add_assoc]; exact c7), (by rw [Nat.add_assoc]; exact c8), (by rw [Nat.add_assoc]; exact c9), (by rw [Nat.add_assoc]; exact c10), (by rw [Nat.add_assoc]; exact c11), (by rw [Nat.add_assoc]; exact c12), (by rw [Nat.add_assoc]; exact c13)⟩
    · obtain ⟨i, hi, rfl⟩ := hmem v hv
      exact (hq i hi).2.2.2.2.2.2.2.2.2.2.2.2.2.2.1
    · obtain ⟨i, hi, rfl⟩ := hmem v hv
      exact (hq i hi).2.2.2.2.2.2.2.2.2.2.2.2.2.2.2.1
    · obtain ⟨i, hi, rfl⟩ := hmem v hv
      exact (hq i hi).2.2.2.2.2.2.2.2.2.2.2.2.2.2.2.2
end
end Go.Proofs.Ytmiagjcihmenfaa
/- A list of changes as an argument, opened. -/
namespace Go.Proofs.Ytmiagjcihmenfaa
open Go.ChangeShapes Go.WideShapes Go.ChangeAt Go.WideMaps Go.WideElems Go.RowKit Go.Joins Go.Deep

theorem cells44 : Try.prog.cellsOf 44 = 8 := by kernel_rfl
/-- A change, and where its list lies. -/
abbrev Dq := De × Option Addr × Nat
section
variable {H : Type} {enc : TypeId × Value → H} {W : World} {fuel : Nat} {cs : List Value} {x : DataW H × List MemPlace}
set_option maxRecDepth 100000 in
theorem de_trod (hl : cs.length = 8) (hf : DataW.trod enc Try.prog W 0 (fun _ => true) true fuel 44 cs = some x) :
    ∃ (o : De) (ad : Option Addr) (cap : Nat), cs = [.int .i64 o.term, .int .i64 o.vote, .bool o.whole, .int .i64 o.base, .int .i64 o.baseTerm, .string o.snap, .int .i64 o.fr, .slice ad o.list.length cap] ∧
      Es W (fun _ => False) o.list (.slice ad o.list.length cap) ∧ ((∀ n ∈ DataW.weights Try.prog 44 x.1, n ≤ reachBytes) → o.list.length * 40 ≤ reachBytes) := by
  obtain ⟨xs, k, hk, hxy, _, hxl, hfl⟩ := DataW.trod_struct Try.underlying44 hf
  match xs, hxl, cs, hl with
  | [y0, y1, y2, y3, y4, y5, y6, y7], _, [v0, v1, v2, v3, v4, v5, v6, v7], _ =>
    have g0 := hfl 0 _ rfl
    have g1 := hfl 1 _ rfl
    have g2 := hfl 2 _ rfl
    have g3 := hfl 3 _ rfl
    have g4 := hfl 4 _ rfl
    have g5 := hfl 5 _ rfl
    have g6 := hfl 6 _ rfl
    have g7 := hfl 7 _ rfl
    simp [cells3, cells9, cells4, cells32] at g0 g1 g2 g3 g4 g5 g6 g7
    obtain ⟨k0, f0, _, _⟩ := DataW.trod_int Try.underlying3 g0
    obtain ⟨k1, f1, _, _⟩ := DataW.trod_int Try.underlying3 g1
    obtain ⟨k2, f2, _⟩ := DataW.trod_bool Try.underlying4 g2
    obtain ⟨k3, f3, _, _⟩ := DataW.trod_int Try.underlying3 g3
    obtain ⟨k4, f4, _, _⟩ := DataW.trod_int Try.underlying3 g4
    obtain ⟨s, f5, _, _⟩ := DataW.trod_string Try.underlying9 g5
    obtain ⟨k6, f6, _, _⟩ := DataW.trod_int Try.underlying3 g6
    obtain ⟨L, ad, cap, f7, hE, _, hw⟩ := list_trod g7
    simp at f0 f1 f2 f3 f4 f5 f6 f7
    subst f0 f1 f2 f3 f4 f5 f6 f7
    refine ⟨⟨k0, k1, k2, k3, k4, s, k6, L⟩, ad, cap, rfl, hE, fun h => ?_⟩
    have hx : x.1 = .agg [y0.1, y1.1, y2.1, y3.1, y4.1, y5.1, y6.1, y7.1] := by rw [hxy]; rfl
    rw [hx] at h
    rcases hw with rfl | ⟨elems, spare, e7, e⟩
    · exact Nat.zero_le _
    · have h1 : (elems.length + spare.length) * Try.prog.bytesOf 49 ≤ reachBytes := by
        apply h
        simp only [DataW.weights, Try.underlying44, DataW.weightsEach, List.map_cons, List.mem_append]
        rw [e7]
        simp [DataW.weights, Try.underlying32]
      rw [bytes49, e] at h1
      exact Nat.le_trans (Nat.mul_le_mul_right _ (Nat.le_add_right _ _)) h1
end
/-- The changes L lie behind ad. -/
structure Lq (w : World) (L : List Dq) (ad : Option Addr) : Prop where
  at' : ∀ i (h : i < L.length), ∃ b o, ad = some ⟨b, o, none⟩ ∧ b < w.heap.size ∧ w.cell? ⟨b, o + i * 8, none⟩ = some (.int .i64 L[i].1.term) ∧ w.cell? ⟨b, o + i * 8 + 1, none⟩ = some (.int .i64 L[i].1.vote) ∧ w.cell? ⟨b, o + i * 8 + 2, none⟩ = some (.bool L[i].1.whole) ∧ w.cell? ⟨b, o + i * 8 + 3, none⟩ = some (.int .i64 L[i].1.base) ∧ w.cell? ⟨b, o + i * 8 + 4, none⟩ = some (.int .i64 L[i].1.baseTerm) ∧ w.cell? ⟨b, o + i * 8 + 5, none⟩ = some (.string L[i].1.snap) ∧ w.cell? ⟨b, o + i * 8 + 6, none⟩ = some (.int .i64 L[i].1.fr) ∧ w.cell? ⟨b, o + i * 8 + 7, none⟩ = some (.slice L[i].2.1 L[i].1.list.length L[i].2.2)
  es : ∀ p ∈ L, Es w (fun _ => False) p.1.list (.slice p.2.1 p.1.list.length p.2.2)
  sz : ∀ p ∈ L, p.1.list.length * 40 ≤ 140737488355328
theorem Lq.on {w w' : World} {L : List Dq} {ad : Option Addr} (h : Lq w L ad) (hb : Below w.heap.size w w') : Lq w' L ad := by
  refine ⟨fun i hi => ?_, fun p hp => (h.es p hp).on hb, h.sz⟩
  obtain ⟨b, o, ha, hl, c0, c1, c2, c3, c4, c5, c6, c7⟩ := h.at' i hi
  have hc : ∀ o, w'.cell? ⟨b, o, none⟩ = w.cell? ⟨b, o, none⟩ := fun o => World.cell?_of_block (hb.block b hl)
  exact ⟨b, o, ha, Nat.lt_of_lt_of_le hl hb.size, by rw [hc]; exact c0, by rw [hc]; exact c1, by rw [hc]; exact c2, by rw [hc]; exact c3, by rw [hc]; exact c4, by rw [hc]; exact c5, by rw [hc]; exact c6, by rw [hc]; exact c7⟩
section
variable {H : Type} {enc : TypeId × Value → H}
set_option maxRecDepth 100000 in
set_option maxHeartbeats 1000000 in
theorem open_changes {W : World} {base : Nat} {v : Value} {d : DataW H} {p : List MemPlace} (hv : Value.okWide Try.prog W .any base 51 v) (h : DataW.Trod enc Try.prog W 0 (fun _ => true) true 51 v d p) (hz : ∀ n ∈ DataW.weights Try.prog 51 d, n ≤ reachBytes) :
    ∃ (L : List Dq) (ad : Option Addr) (cap : Nat), v = .slice ad L.length cap ∧ Lq W L ad ∧ L.length ≤ cap ∧ cap ≤ maxLen ∧ (ad = none → cap = 0) := by
  obtain ⟨a0, len, cap, rfl⟩ := okWide_slice Try.underlying51 hv
  obtain ⟨fuel, hf⟩ := h
  rcases open_slice Try.underlying51 hf with ⟨hcs, hx⟩ | ⟨a, len', cap', m, n, D, Pl, hcs, _, hl, hm, hmm, hx, hel⟩
  · simp [Value.cells] at hcs
    obtain ⟨rfl, rfl, rfl⟩ := hcs
    exact ⟨[], none, 0, rfl, ⟨fun i hi => by simp at hi, fun p hp => by simp at hp, fun p hp => by simp at hp⟩, Nat.le_refl _, Nat.zero_le _, fun _ => rfl⟩
  · simp [Value.cells] at hcs
    obtain ⟨rfl, rfl, rfl⟩ := hcs
    simp only [if_true] at hmm
    subst hmm
    have hd : d = _ := congrArg Prod.fst hx
    have hwt : ∀ i, i < len → ∀ n ∈ DataW.weights Try.prog 44 (D i), n ≤ reachBytes := by
      intro i hi n hn
      apply hz
      rw [hd]
      simp only [DataW.weights, Try.underlying51, List.mem_cons, List.mem_append]
      exact .inr (.inl (weights_all (List.mem_map.2 ⟨i, List.mem_range.2 hi, rfl⟩) hn))
    have each : ∀ i, i < len → ∃ q : Dq, W.cell? (a.add (i * 8)) = some (.int .i64 q.1.term) ∧ W.cell? (a.add (i * 8 + 1)) = some (.int .i64 q.1.vote) ∧ W.cell? (a.add (i * 8 + 2)) = some (.bool q.1.whole) ∧ W.cell? (a.add (i * 8 + 3)) = some (.int .i64 q.1.base) ∧ W.cell? (a.add (i * 8 + 4)) = some (.int .i64 q.1.baseTerm) ∧ W.cell? (a.add (i * 8 + 5)) = some (.string q.1.snap) ∧ W.cell? (a.add (i * 8 + 6)) = some (.int .i64 q.1.fr) ∧ W.cell? (a.add (i * 8 + 7)) = some (.slice q.2.1 q.1.list.length q.2.2) ∧ Es W (fun _ => False) q.1.list (.slice q.2.1 q.1.list.length q.2.2) ∧ q.1.list.length * 40 ≤ 140737488355328 := by
      intro i hi
      obtain ⟨cs', h1, h2⟩ := hel i (by omega)
      rw [cells44] at h1
      obtain ⟨_, hlen, hcell⟩ := World.cells?_some h1
      obtain ⟨o, ad, cap, rfl, hE, hw⟩ := de_trod hlen h2
      have hlw := hw (hwt i hi)
      have hR := reachBytes_lt
      have hSz : o.list.length * 40 ≤ 140737488355328 := by omega
      have z0 := hcell 0 (by omega)
      have z1 := hcell 1 (by omega)
      have z2 := hcell 2 (by omega)
      have z3 := hcell 3 (by omega)
      have z4 := hcell 4 (by omega)
      have z5 := hcell 5 (by omega)
      have z6 := hcell 6 (by omega)
      have z7 := hcell 7 (by omega)
      rw [add_add] at z0 z1 z2 z3 z4 z5 z6 z7
      exact ⟨(o, ad, cap), z0, z1, z2, z3, z4, z5, z6, z7, hE, hSz⟩
    have hinh : Inhabited Dq := ⟨(⟨0, 0, false, 0, 0, noT, 0, []⟩, none, 0)⟩
    obtain ⟨q, hq⟩ := choose_lt each
    have hlen : ((List.range len).map q).length = len := by simp
    have hmem : ∀ v ∈ (List.range len).map q, ∃ i, i < len ∧ v = q i := by
      intro v hv
      obtain ⟨i, hi, rfl⟩ := List.mem_map.1 hv
      exact ⟨i, List.mem_range.1 hi, rfl⟩
    refine ⟨(List.range len).map q, some a, m, by rw [hlen], ⟨fun i hi => ?_, fun v hv => ?_, fun v hv => ?_⟩, by rw [hlen]; exact hl, hm, fun h => by cases h⟩
    · rw [hlen] at hi
      obtain ⟨c0, c1, c2, c3, c4, c5, c6, c7, _⟩ := hq i hi
      obtain ⟨b, o, sp⟩ := a
      have hsp : sp = none := by
        have := World.cell?_spot (hq 0 (by omega)).1
        simpa [Addr.add] using this
      subst hsp
      rw [add_at] at c0 c1 c2 c3 c4 c5 c6 c7
      have e : ((List.range len).map q)[i]'(by rw [hlen]; exact hi) = q i := by simp
      rw [e]
      exact ⟨b, o, rfl, cell_lt c0, c0, (by rw [Nat.add_assoc]; exact c1), (by rw [Nat.add_assoc]; exact c2), (by rw [Nat.add_assoc]; exact c3), (by rw [Nat.add_assoc]; exact c4), (by rw [Nat.add_assoc]; exact c5), (by rw [Nat.add_assoc]; exact c6), (by rw [Nat.add_assoc]; exact c7)⟩
    · obtain ⟨i, hi, rfl⟩ := hmem v hv
      exact (hq i hi).2.2.2.2.2.2.2.2.1
    · obtain ⟨i, hi, rfl⟩ := hmem v hv
      exact (hq i hi).2.2.2.2.2.2.2.2.2
set_option maxRecDepth 100000 in
theorem again_changes {W W' : World} {v : Value} {d : DataW H} {p : List MemPlace} (h : DataW.Trod enc Try.prog W 0 (fun _ => true) true 51 v d p) (hb : Below W.heap.size W W') (hlt : ∀ x ∈ p, x.block < W.heap.size) : DataW.Trod enc Try.prog W' 0 (fun b => decide (b < W.heap.size)) true 51 v d p :=
  Below.trod laidOut (by kernel_rfl) (of_decide_eq_true (by kernel_rfl)) h hb hlt
end
end Go.Proofs.Ytmiagjcihmenfaa
/- The walk of the program's Load. -/
namespace Go.Proofs.Ytmiagjcihmenfaa
open Go.RowKit

theorem like_may {b c : Bs} (h : Like b c) (d : De) : c.may d ↔ b.may d := by
  unfold Like at h
  rw [h]
  exact Iff.rfl
theorem like_over {b c e : Bs} (h : Like b c) {d : De} (k : Like (c.over d) e) : Like (b.over d) e := by
  unfold Like at *
  rw [k, h]
  unfold Bs.over
  cases hw : d.whole <;> simp
/-- How many entries changes hold. -/
def szD (L : List Dq) : Nat := (L.map fun p => p.1.list.length).sum
theorem szD_take (L : List Dq) (k : Nat) (h : k < L.length) : szD (L.take (k + 1)) = szD (L.take k) + L[k].1.list.length := by
  unfold szD
  rw [List.take_add_one, List.map_append, List.sum_append, List.getElem?_eq_getElem h]
  simp
theorem szD_le (L : List Dq) (k : Nat) : szD (L.take k) ≤ szD L := by
  have e : szD L = szD (L.take k) + szD (L.drop k) := by
    unfold szD
    rw [← List.sum_append, ← List.map_append, List.take_append_drop]
  omega
theorem over_len {b : Bs} {d : De} : (b.over d).log.length ≤ b.log.length + d.list.length := by
  unfold Bs.over
  split
  · show d.list.length ≤ _
    omega
  · show (b.log.take (d.fr - b.base - 1).toNat ++ d.list).length ≤ _
    rw [List.length_append, List.length_take]
    omega
theorem over_calm {b : Bs} {d : De} (h : b.touched = false ∧ b.whole = false) : (b.over d).touched = false ∧ (b.over d).whole = false := by
  unfold Bs.over
  split <;> exact h
/-- What the loop keeps. -/
def LJ (L : List Dq) (w wr : World) (b0 : Bs) (i : Value) : Prop := ∃ k b c S, k ≤ L.length ∧ i = .int .i64 ((k : Nat) : Int) ∧ Like b c ∧ (b.touched = false ∧ b.whole = false) ∧ b.log.length ≤ szD (L.take k) ∧ Pb wr w.heap.size S c ∧ (∀ j, S j → w.heap.size ≤ j) ∧ Below w.heap.size w wr ∧ b0.overAll (L.map Prod.fst) = b.overAll ((L.drop k).map Prod.fst)
/-- What Load answers. -/
def LoadAns (w : World) (o : Option Bs) (e : Ending) (w' : World) : Prop := Below w.heap.size w w' ∧ match o with
  | some b => e = .returned (.tuple #[.pointer (some ⟨w.heap.size, 0, none⟩), .int .i64 0]) ∧ ∃ S, Pb w' w.heap.size S b ∧ ∀ j, S j → w.heap.size ≤ j
  | none => e = .returned (.tuple #[.pointer none, .int .i64 100])
end Go.Proofs.Ytmiagjcihmenfaa
/- The walk of the program's Load; redo's contract is handed in. -/
namespace Go.Proofs.Ytmiagjcihmenfaa
open Go.RowKit

/-- redo's contract. -/
def RedoSpec : Prop := ∀ {w : World} {A : Nat} {S : Nat → Prop} {b : Bs} (_ : Pb w A S b) (d : De) {dad : Option Addr} {dcap : Nat} (_ : Es w S d.list (.slice dad d.list.length dcap)) (_ : b.may d) (_ : b.log.length + d.list.length ≤ 900000),
    Calls Try.prog 42 #[.pointer (some ⟨A, 0, none⟩), deV d (.slice dad d.list.length dcap)] w fun e w' => e = .returned (.tuple #[]) ∧ ∃ c, Like (b.over d) c ∧ Pt w w' A S c
section
variable {w : World} {L : List Dq} {ad : Option Addr} {cap : Nat}
set_option maxHeartbeats 8000000 in
set_option maxRecDepth 100000 in
theorem load_p (hredo : RedoSpec) (hL : Lq w L ad) (hc : L.length ≤ cap) (hm : cap ≤ maxLen) (hsz : szD L ≤ 800000) (id size : Nat) (h1 : 1 ≤ size) (h2 : size ≤ 5) (h3 : id < size) :
    Calls Try.prog 20 #[.int .i64 id, .int .i64 size, .slice ad L.length cap] w fun e w' => LoadAns w (Bs.load id size (L.map Prod.fst)) e w' := by
  have l1 : (L.length : Int) ≤ 9223372036854775807 := by unfold maxLen at hm; omega
  have hnew := new_yes w id size h1 h2 h3
  clear h1 h2 h3
  go_enter Try.func20, Try.ntmps20
  go_wp2_with fail
  refine hnew.mono ?_
  rintro e w1 ⟨rfl, hp1, hb1⟩
  clear hnew
  obtain ⟨A, hA⟩ : ∃ A, w.heap.size = A := ⟨_, rfl⟩
  have hJ0 : LJ L w w1 (Bs.new id size) (.int .i64 0) := ⟨0, Bs.new id size, Bs.new id size, _, Nat.zero_le _, rfl, rfl, ⟨rfl, rfl⟩, Nat.zero_le _, hp1, fun j q => Nat.le_of_eq (show w.heap.size = j from q.symm), hb1, by rw [List.drop_zero]⟩
  have HSZ := Lib.hid hsz
  have HA := Lib.hid hA
  clear hp1 hb1 hsz
  go_wp2
  clear hA
  go_loopw [23] (fun i wr => LJ L w wr (Bs.new id size) i) (fun i _ => L.length - (intOf i).toNat)
  case atStart => exact hJ0
  case round =>
    clear hJ0
    obtain ⟨k, b, c, S, hk, rfl, hlk, hcalm, hlog, hP, hlo, hbl, hall⟩ := hrel
    rw [HA.out] at hP hlo
    by_cases hlt : k < L.length
    · have k0 : (0 : Int) ≤ k := by omega
      have k1 : (k : Int) < L.length := by omega
      obtain ⟨bb, o, rfl, hbb, c0, c1, c2, c3, c4, c5, c6, c7⟩ := (hL.on hbl).at' k hlt
      have hE := hL.es _ (List.getElem_mem hlt)
      have hst := szD_take L k hlt
      have hsl := szD_le L (k + 1)
      have hdr : (L.drop k).map Prod.fst = L[k].1 :: (L.drop (k + 1)).map Prod.fst := by rw [List.drop_eq_getElem_cons hlt, List.map_cons]
      obtain ⟨⟨d, dad, dcap⟩, hx⟩ : ∃ x, L[k] = x := ⟨_, rfl⟩
      rw [hx] at c0 c1 c2 c3 c4 c5 c6 c7 hE hst hdr
      simp only at c0 c1 c2 c3 c4 c5 c6 c7 hE hst hdr
      rw [hdr] at hall
      have hclog : c.log = b.log := by unfold Like at hlk; rw [hlk]
      have hz0 := HSZ.out
      obtain ⟨W1, hW1⟩ : ∃ W1, W1 = wr.alloc (deO d (.slice dad d.list.length dcap)) := ⟨_, rfl⟩
      have bW1 : Below wr.heap.size wr W1 := by rw [hW1]; exact (Below.refl _ wr).alloc (Nat.le_refl _) _
      have jd1 : W1.heap[wr.heap.size]? = some (deB d (.slice dad d.list.length dcap)) := by rw [hW1]; exact heap_alloc_new wr _
      have hP1 := hP.on bW1
      have hfit := fits_p hP1 d (.slice dad d.list.length dcap)
      rw [decide_eq_decide.2 (like_may hlk d)] at hfit
      have e0 : W1.cell? ⟨wr.heap.size, 0, none⟩ = some (.int .i64 d.term) := cell_blk jd1 0
      have e1 : W1.cell? ⟨wr.heap.size, 1, none⟩ = some (.int .i64 d.vote) := cell_blk jd1 1
      have e2 : W1.cell? ⟨wr.heap.size, 2, none⟩ = some (.bool d.whole) := cell_blk jd1 2
      have e3 : W1.cell? ⟨wr.heap.size, 3, none⟩ = some (.int .i64 d.base) := cell_blk jd1 3
      have e4 : W1.cell? ⟨wr.heap.size, 4, none⟩ = some (.int .i64 d.baseTerm) := cell_blk jd1 4
      have e5 : W1.cell? ⟨wr.heap.size, 5, none⟩ = some (.string d.snap) := cell_blk jd1 5
      have e6 : W1.cell? ⟨wr.heap.size, 6, none⟩ = some (.int .i64 d.fr) := cell_blk jd1 6
      have e7 : W1.cell? ⟨wr.heap.size, 7, none⟩ = some (.slice dad d.list.length dcap) := cell_blk jd1 7
      have HW1 := Lib.hid hW1
      by_cases hmay : b.may d
      · rw [decide_eq_true hmay] at hfit
        have hall2 : (Bs.new id size).overAll (L.map Prod.fst) = (b.over d).overAll ((L.drop (k + 1)).map Prod.fst) := by
          rw [hall]
          show (if b.may d then (b.over d).overAll _ else none) = _
          rw [if_pos hmay]
        have HR : Hid (∀ V, Below W1.heap.size W1 V → Calls Try.prog 42 #[.pointer (some ⟨A, 0, none⟩), deV d (.slice dad d.list.length dcap)] V fun e w' => e = .returned (.tuple #[]) ∧ LJ L w w' (Bs.new id size) (.int .i64 ((k + 1 : Nat) : Int))) := by
          intro V hV
          have hbV := hbl.trans ((bW1.trans (hV.mono bW1.size)).mono hbl.size)
          have hPV := hP1.on hV
          have hEV : Es V S d.list (.slice dad d.list.length dcap) := hE.stays (S' := S) (Fr.ofBelow (fun _ => False) hbV) (fun j z => .inr ⟨by rw [HA.out]; exact hlo j z, hPV.lt j z⟩)
          refine (hredo hPV d hEV ((like_may hlk d).2 hmay) (by rw [hclog]; omega)).mono ?_
          rintro e w' ⟨rfl, c', hl', S', q1, q2, q3⟩
          refine ⟨rfl, k + 1, b.over d, c', S', hlt, rfl, like_over hlk hl', over_calm hcalm, ?_, by rw [HA.out]; exact q1, fun j z => ?_, ?_, hall2⟩
          · have := over_len (b := b) (d := d)
            omega
          · rcases q2 j z with z | z
            · rw [HA.out]; exact hlo j z
            · have := hbV.size
              omega
          · have f1 : Fr w w' (fun _ => False) := (Fr.ofBelow (fun _ => False) hbV).step q3 (fun j q => .inr (by rw [HA.out]; exact hlo j q))
            exact f1.fresh (fun _ q => q.elim)
        have HJ : Hid (∀ V, Below W1.heap.size W1 V → V.heap[wr.heap.size]? = some (deB d (.slice dad d.list.length dcap))) := fun V hV => (hV.block _ (blk_lt jd1)).trans jd1
        clear hx hst hsl hdr hall hall2 hclog hz0 hW1 bW1 jd1 hP1 hmay hE hP hlo hbl hlog hcalm hlk hk
        go_upto_region 7 with fail
        rw [← HW1.out]
        go_wp2_with fail
        refine hfit.mono ?_
        rintro e w2 ⟨rfl, hb2⟩
        have jd2 := HJ.out w2 hb2
        have hred := HR.out w2 hb2
        have f0 : w2.cell? ⟨wr.heap.size, 0, none⟩ = some (.int .i64 d.term) := cell_blk jd2 0
        have f1 : w2.cell? ⟨wr.heap.size, 1, none⟩ = some (.int .i64 d.vote) := cell_blk jd2 1
        have f2 : w2.cell? ⟨wr.heap.size, 2, none⟩ = some (.bool d.whole) := cell_blk jd2 2
        have f3 : w2.cell? ⟨wr.heap.size, 3, none⟩ = some (.int .i64 d.base) := cell_blk jd2 3
        have f4 : w2.cell? ⟨wr.heap.size, 4, none⟩ = some (.int .i64 d.baseTerm) := cell_blk jd2 4
        have f5 : w2.cell? ⟨wr.heap.size, 5, none⟩ = some (.string d.snap) := cell_blk jd2 5
        have f6 : w2.cell? ⟨wr.heap.size, 6, none⟩ = some (.int .i64 d.fr) := cell_blk jd2 6
        have f7 : w2.cell? ⟨wr.heap.size, 7, none⟩ = some (.slice dad d.list.length dcap) := cell_blk jd2 7
        clear hfit hb2 jd2 HR HJ e0 e1 e2 e3 e4 e5 e6 e7 c0 c1 c2 c3 c4 c5 c6 c7
        go_wp2_with fail
        refine hred.mono ?_
        rintro e w3 ⟨rfl, hJ⟩
        have HJ := Lib.hid hJ
        clear hJ hred
        go_wp2
        go_roundw
        case rel => exact HJ.out
        case measure => simp [intOf]; omega
      · rw [decide_eq_false hmay] at hfit
        have hans : Bs.load id size (L.map Prod.fst) = none := by
          unfold Bs.load
          rw [hall]
          show (if b.may d then (b.over d).overAll _ else none).map _ = none
          rw [if_neg hmay]
          rfl
        have HANS := Lib.hid hans
        have HBW := Lib.hid (hbl.trans (bW1.mono hbl.size))
        clear hx hst hsl hdr hall hans hclog hz0 hW1 bW1 jd1 hP1 hmay hE hP hlo hbl hlog hcalm hlk hk
        go_upto_region 7 with fail
        rw [← HW1.out]
        go_wp2_with fail
        refine hfit.mono ?_
        rintro e w2 ⟨rfl, hb2⟩
        clear hfit
        go_wp2
        refine bodyPost_ret (v := .tuple #[.pointer none, .int .i64 100]) (by simp [results, Try.results20, go_sem]) rfl ?_
        rw [HANS.out]
        exact ⟨HBW.out.trans (hb2.mono HBW.out.size), rfl⟩
    · have k1 : ¬ (k : Int) < L.length := by omega
      have hkl : k = L.length := by omega
      subst hkl
      have hcb : c.base = b.base := by unfold Like at hlk; rw [hlk]
      have hans : Bs.load id size (L.map Prod.fst) = some { b with commit := b.base, fr := b.last + 1 } := by
        unfold Bs.load
        rw [hall, List.drop_of_length_le (Nat.le_refl _)]
        rfl
      obtain ⟨lv, pf, hv⟩ := hP
      have c4 : wr.cell? ⟨A, 4, none⟩ = some (.int .i64 b.base) := by rw [hv.cell 4, ← hcb]; rfl
      have c6 : wr.cell? ⟨A, 6, none⟩ = some (.int .i64 c.commit) := hv.cell 6
      have c12 : wr.cell? ⟨A, 12, none⟩ = some (.bool c.touched) := hv.cell 12
      have c13 : wr.cell? ⟨A, 13, none⟩ = some (.bool c.whole) := hv.cell 13
      have c14 : wr.cell? ⟨A, 14, none⟩ = some (.int .i64 pf) := hv.cell 14
      have g6 : wr.frozen? ⟨A, 6, none⟩ = false := frozen_blk hv.ob 6
      have g12 : wr.frozen? ⟨A, 12, none⟩ = false := frozen_blk hv.ob 12
      have g13 : wr.frozen? ⟨A, 13, none⟩ = false := frozen_blk hv.ob 13
      have g14 : wr.frozen? ⟨A, 14, none⟩ = false := frozen_blk hv.ob 14
      have HANS := Lib.hid hans
      have HV := Lib.hid hv
      have HLK := Lib.hid hlk
      have HCB := Lib.hid hcb
      have HLO := Lib.hid hlo
      have HBL := Lib.hid hbl
      have HCM := Lib.hid hcalm
      clear hans hv hlk hcb hlo hbl hcalm hall hlog hk
      go_wp2
      refine bodyPost_ret (v := .tuple #[.pointer (some ⟨A, 0, none⟩), .int .i64 0]) (by simp [results, Try.results20, go_sem]) rfl ?_
      rw [HANS.out]
      have hv := HV.out
      obtain ⟨t1, t2⟩ := HCM.out
      have e := HLK.out
      unfold Like at e
      have x1 : c.log = b.log := by rw [e]
      have x3 : c.id = b.id := by rw [e]
      have x4 : c.size = b.size := by rw [e]
      have hob := set_blk (i := 14) (set_blk (i := 13) (set_blk (i := 12) (set_blk (i := 6) hv.ob (.int .i64 b.base)) (.bool false)) (.bool false)) (.int .i64 0)
      have hpc : ((((pC c lv pf).setIfInBounds 6 (.int .i64 b.base)).setIfInBounds 12 (.bool false)).setIfInBounds 13 (.bool false)).setIfInBounds 14 (.int .i64 0) = pC { b with commit := b.base, fr := b.last + 1 } lv 0 := by
        rw [e]
        unfold pC
        simp only
        rw [t1, t2]
        rfl
      rw [hpc] at hob
      have ho : ∀ k, k ≠ A → ((((wr.setCell ⟨A, 6, none⟩ (.int .i64 b.base)).setCell ⟨A, 12, none⟩ (.bool false)).setCell ⟨A, 13, none⟩ (.bool false)).setCell ⟨A, 14, none⟩ (.int .i64 0)).heap[k]? = wr.heap[k]? := by
        intro k hk
        rw [set_other _ hk, set_other _ hk, set_other _ hk, set_other _ hk]
      have hge : w.heap.size ≤ A := Nat.le_of_eq HA.out
      have hf : Fr w ((((wr.setCell ⟨A, 6, none⟩ (.int .i64 b.base)).setCell ⟨A, 12, none⟩ (.bool false)).setCell ⟨A, 13, none⟩ (.bool false)).setCell ⟨A, 14, none⟩ (.int .i64 0)) (fun _ => False) :=
        Fr.set (a := ⟨A, 14, none⟩) (Fr.set (a := ⟨A, 13, none⟩) (Fr.set (a := ⟨A, 12, none⟩) (Fr.set (a := ⟨A, 6, none⟩) (Fr.ofBelow (fun _ => False) HBL.out) (Or.inr hge) _) (Or.inr hge) _) (Or.inr hge) _) (Or.inr hge) _
      refine ⟨hf.fresh (fun _ q => q.elim), by rw [HA.out], S, ?_, by rw [HA.out]; exact HLO.out⟩
      rw [HA.out]
      refine ⟨lv, 0, ⟨hob, ?_, hv.covA, hv.cov, fun k hk => ?_, by rw [← x1]; exact hv.len, by rw [← HCB.out]; exact hv.b0, by rw [← HCB.out]; exact hv.b1, .inr (.inl ⟨rfl, rfl⟩), by rw [← x3, ← x4]; exact hv.idl, by rw [← x4]; exact hv.sz⟩⟩
      · show Lg _ b.log lv
        rw [← x1]
        exact hv.log.like (fun k hk => ho k (hv.neA k hk))
      · simpa [World.setCell] using hv.lt k hk
end
end Go.Proofs.Ytmiagjcihmenfaa
/- The program's Load with a wrong number or size. -/
namespace Go.Proofs.Ytmiagjcihmenfaa
open Go.RowKit

theorem load_no (w : World) (id size : Int) (v : Value) (h : ¬ (1 ≤ size ∧ size ≤ 5 ∧ 0 ≤ id ∧ id < size)) : Calls Try.prog 20 #[.int .i64 id, .int .i64 size, v] w fun e w' => e = .returned (.tuple #[.pointer none, .int .i64 1]) ∧ w' = w := by
  have hnew := new_no w id size h
  clear h
  go_enter Try.func20, Try.ntmps20
  go_wp2_with fail
  refine hnew.mono ?_
  rintro e w1 ⟨rfl, rfl⟩
  clear hnew
  go_wp2
  refine bodyPost_ret (v := .tuple #[.pointer none, .int .i64 1]) (by simp [results, Try.results20, go_sem]) rfl ?_
  exact ⟨rfl, rfl⟩
end Go.Proofs.Ytmiagjcihmenfaa
