/- The walks of the program's small functions. -/
import Derived.Test.YtmiagjcihmenfaaPb
namespace Go.Proofs.Ytmiagjcihmenfaa
open Go.RowKit

section
variable {w w' : World} {A : Nat} {S T : Nat → Prop} {b : Bs} {lv : Value} {pf : Int}
set_option maxHeartbeats 2000000 in
set_option maxRecDepth 100000 in
theorem termOf_any (h : Pb w A S b) (i : Int) (h1 : b.base ≤ i) (h2 : i ≤ b.last) : Calls Try.prog 53 #[.pointer (some ⟨A, 0, none⟩), .int .i64 i] w fun e w' => e = .returned (.int .i64 (b.termAt i)) ∧ ∃ n, w' = w.drewN n := by
  obtain ⟨lv, pf, h⟩ := h
  have c4 : w.cell? ⟨A, 4, none⟩ = some (.int .i64 b.base) := h.cell 4
  have c9 : w.cell? ⟨A, 9, none⟩ = some (.int .i64 b.baseTerm) := h.cell 9
  have c11 : w.cell? ⟨A, 11, none⟩ = some (lv) := h.cell 11
  have b0 := h.b0
  have b1 := h.b1
  have l1 := h.len
  by_cases hb : i = b.base
  · have e : b.termAt i = b.baseTerm := by rw [hb]; exact Bs.termAt_base b
    rw [e]
    clear e h
    go_enter Try.func53, Try.ntmps53
    go_wp2
    go_ret
    exact ⟨rfl, 0, rfl⟩
  · obtain ⟨k, hk⟩ : ∃ k : Nat, i = b.base + 1 + k := ⟨(i - b.base - 1).toNat, by omega⟩
    have hkl : k < b.log.length := by unfold Bs.last at h2; omega
    have e : b.termAt i = b.log[k].term := by
      unfold Bs.termAt Bs.at?
      rw [if_neg hb, if_pos (by omega), show (i - b.base - 1).toNat = k by omega, List.getElem?_eq_getElem hkl]
    rw [e]
    obtain ⟨g, o, cap, rfl, x0, x1, x2, x3⟩ := h.log.get hkl
    obtain ⟨y, hy⟩ : ∃ y, b.log[k].term = y := ⟨_, rfl⟩
    rw [hy] at x0 ⊢
    have w1 : i - b.base - 1 = (k : Int) := by omega
    have w2 : (0 : Int) ≤ k := by omega
    have w3 : (k : Int) < b.log.length := by omega
    have w5 : i ≤ 4398047511105 := by unfold Bs.last at h2; omega
    clear hk hy e h
    go_enter Try.func53, Try.ntmps53
    go_wp2
    go_quiet (fail)
    go_wp2
    go_ret
    exact ⟨rfl, _, rfl⟩
set_option maxHeartbeats 2000000 in
set_option maxRecDepth 100000 in
theorem has_any (h : Pb w A S b) (i t : Int) : Calls Try.prog 83 #[.pointer (some ⟨A, 0, none⟩), .int .i64 i, .int .i64 t] w fun e w' => e = .returned (.bool (decide (b.base ≤ i ∧ i ≤ b.last ∧ b.termAt i = t))) ∧ ∃ n, w' = w.drewN n := by
  by_cases h1 : b.base ≤ i
  · by_cases h2 : i ≤ b.last
    · have ht := termOf_any h i h1 h2
      obtain ⟨lv, pf, h⟩ := h
      have c4 : w.cell? ⟨A, 4, none⟩ = some (.int .i64 b.base) := h.cell 4
      have c5 : w.cell? ⟨A, 5, none⟩ = some (.int .i64 b.last) := h.cell 5
      obtain ⟨y, hy⟩ : ∃ y, b.termAt i = y := ⟨_, rfl⟩
      rw [hy] at ht ⊢
      clear h hy
      go_enter Try.func83, Try.ntmps83
      go_wp2_with fail
      refine ht.mono ?_
      rintro e w' ⟨rfl, n, rfl⟩
      clear ht
      go_wp2
      go_ret
      refine ⟨?_, n, rfl⟩
      by_cases q : y = t
      · rw [decide_eq_true ⟨h1, h2, q⟩]
        simp [q]
      · rw [decide_eq_false (fun z => q z.2.2)]
        simp [q]
    · obtain ⟨lv, pf, h⟩ := h
      have c4 : w.cell? ⟨A, 4, none⟩ = some (.int .i64 b.base) := h.cell 4
      have c5 : w.cell? ⟨A, 5, none⟩ = some (.int .i64 b.last) := h.cell 5
      clear h
      go_enter Try.func83, Try.ntmps83
      go_wp2
      go_ret
      exact ⟨by rw [decide_eq_false (by omega)]; rfl, 0, rfl⟩
  · obtain ⟨lv, pf, h⟩ := h
    have c4 : w.cell? ⟨A, 4, none⟩ = some (.int .i64 b.base) := h.cell 4
    have c5 : w.cell? ⟨A, 5, none⟩ = some (.int .i64 b.last) := h.cell 5
    clear h
    go_enter Try.func83, Try.ntmps83
    go_wp2
    go_ret
    exact ⟨by rw [decide_eq_false (by omega)]; rfl, 0, rfl⟩
theorem enter_any (h : Pb w A S b) (t v r : Int) : Calls Try.prog 43 #[.pointer (some ⟨A, 0, none⟩), .int .i64 t, .int .i64 v, .int .i64 r] w fun e w' => e = .returned (.tuple #[]) ∧ Pb w' A S { b with term := t, vote := v, role := r, lead := -1, touched := true } ∧ Fr w w' S := by
  obtain ⟨a1, f1⟩ := h.setf (i := 0) (v := .int .i64 t) (b' := { b with term := t }) (fun _ _ => rfl) rfl rfl (fun _ q => q) rfl rfl
  obtain ⟨a2, f2⟩ := a1.setf (i := 1) (v := .int .i64 v) (b' := { b with term := t, vote := v }) (fun _ _ => rfl) rfl rfl (fun _ q => q) rfl rfl
  obtain ⟨a3, f3⟩ := a2.setf (i := 2) (v := .int .i64 r) (b' := { b with term := t, vote := v, role := r }) (fun _ _ => rfl) rfl rfl (fun _ q => q) rfl rfl
  obtain ⟨a4, f4⟩ := a3.setf (i := 3) (v := .int .i64 (-1)) (b' := { b with term := t, vote := v, role := r, lead := -1 }) (fun _ _ => rfl) rfl rfl (fun _ q => q) rfl rfl
  obtain ⟨a5, f5⟩ := a4.setf (i := 12) (v := .bool true) (b' := { b with term := t, vote := v, role := r, lead := -1, touched := true }) (fun _ _ => rfl) rfl rfl (fun _ q => q) rfl rfl
  have hfin := f1.trans (f2.trans (f3.trans (f4.trans f5)))
  obtain ⟨lv, pf, h⟩ := h
  have c0 : w.cell? ⟨A, 0, none⟩ = some (.int .i64 b.term) := h.cell 0
  have c1 : w.cell? ⟨A, 1, none⟩ = some (.int .i64 b.vote) := h.cell 1
  have c2 : w.cell? ⟨A, 2, none⟩ = some (.int .i64 b.role) := h.cell 2
  have c3 : w.cell? ⟨A, 3, none⟩ = some (.int .i64 b.lead) := h.cell 3
  have c12 : w.cell? ⟨A, 12, none⟩ = some (.bool b.touched) := h.cell 12
  have g0 : w.frozen? ⟨A, 0, none⟩ = false := frozen_blk h.ob 0
  have g1 : w.frozen? ⟨A, 1, none⟩ = false := frozen_blk h.ob 1
  have g2 : w.frozen? ⟨A, 2, none⟩ = false := frozen_blk h.ob 2
  have g3 : w.frozen? ⟨A, 3, none⟩ = false := frozen_blk h.ob 3
  have g12 : w.frozen? ⟨A, 12, none⟩ = false := frozen_blk h.ob 12
  have HA := Lib.hid a5
  have HF := Lib.hid hfin
  clear a1 a2 a3 a4 a5 f1 f2 f3 f4 f5 hfin h
  go_enter Try.func43, Try.ntmps43
  go_wp2
  go_end0
  exact ⟨rfl, HA.out, HF.out⟩
theorem follow_any (h : Pb w A S b) (l : Int) : Calls Try.prog 82 #[.pointer (some ⟨A, 0, none⟩), .int .i64 l] w fun e w' => e = .returned (.tuple #[]) ∧ Pb w' A S { b with role := 0, lead := l } ∧ Fr w w' S := by
  obtain ⟨a3, f3⟩ := h.setf (i := 2) (v := .int .i64 0) (b' := { b with role := 0 }) (fun _ _ => rfl) rfl rfl (fun _ q => q) rfl rfl
  obtain ⟨a4, f4⟩ := a3.setf (i := 3) (v := .int .i64 l) (b' := { b with role := 0, lead := l }) (fun _ _ => rfl) rfl rfl (fun _ q => q) rfl rfl
  have hfin := f3.trans f4
  obtain ⟨lv, pf, h⟩ := h
  have c2 : w.cell? ⟨A, 2, none⟩ = some (.int .i64 b.role) := h.cell 2
  have c3 : w.cell? ⟨A, 3, none⟩ = some (.int .i64 b.lead) := h.cell 3
  have g2 : w.frozen? ⟨A, 2, none⟩ = false := frozen_blk h.ob 2
  have g3 : w.frozen? ⟨A, 3, none⟩ = false := frozen_blk h.ob 3
  have HA := Lib.hid a4
  have HF := Lib.hid hfin
  clear a3 a4 f3 f4 hfin h
  go_enter Try.func82, Try.ntmps82
  go_wp2
  go_end0
  exact ⟨rfl, HA.out, HF.out⟩
theorem own_msg {w1 : World} (hb : Below w.heap.size w w1) (m : Ms) (o : Obj) : ((w1.alloc o).alloc (msO m (.slice none 0 0))).ownsRow w.heap.size 34 10 (.slice (some ⟨w1.heap.size + 1, 0, none⟩) 1 1) 1 (msC [(m, .slice none 0 0)]) := by
  refine ⟨rfl, .inr ⟨w1.heap.size + 1, 1, #[.int .i64 m.kind, .int .i64 m.fr, .int .i64 m.to, .int .i64 m.term, .int .i64 m.index, .int .i64 m.prev, .int .i64 m.commit, .bool m.good, .slice none 0 0, .string m.snap], rfl, Nat.le_trans hb.size (Nat.le_succ _), ?_, Nat.le_refl _, (by unfold maxLen; omega), ?_, ?_⟩⟩
  · have := heap_alloc_new (w1.alloc o) (msO m (.slice none 0 0))
    rwa [show (w1.alloc o).heap.size = w1.heap.size + 1 by simp] at this
  · rfl
  · simp [msC]
theorem voted_any (h : Pb w A S b) (to : Int) (good : Bool) : Calls Try.prog 72 #[.pointer (some ⟨A, 0, none⟩), .int .i64 to, .bool good] w fun e w' => ∃ ov, e = .returned ov ∧ Below w.heap.size w w' ∧ w'.ownsRow w.heap.size 34 10 ov 1 (msC [({ ms0 with kind := 2, fr := b.id, to := to, term := b.term, good := good }, .slice none 0 0)]) := by
  have hm := message_any h 2 to
  clear h
  go_enter Try.func72, Try.ntmps72
  go_wp2_with fail
  refine hm.mono ?_
  rintro e w1 ⟨rfl, hb1⟩
  clear hm
  go_wp2
  go_ret
  exact ⟨_, rfl, (hb1.alloc hb1.size _).alloc (Nat.le_trans hb1.size (by simp)) _, own_msg hb1 _ _⟩
theorem fed_any (h : Pb w A S b) (to : Int) (good : Bool) (i : Int) : Calls Try.prog 73 #[.pointer (some ⟨A, 0, none⟩), .int .i64 to, .bool good, .int .i64 i] w fun e w' => ∃ ov, e = .returned ov ∧ Below w.heap.size w w' ∧ w'.ownsRow w.heap.size 34 10 ov 1 (msC [({ ms0 with kind := 4, fr := b.id, to := to, term := b.term, index := i, good := good }, .slice none 0 0)]) := by
  have hm := message_any h 4 to
  clear h
  go_enter Try.func73, Try.ntmps73
  go_wp2_with fail
  refine hm.mono ?_
  rintro e w1 ⟨rfl, hb1⟩
  clear hm
  go_wp2
  go_ret
  exact ⟨_, rfl, (hb1.alloc hb1.size _).alloc (Nat.le_trans hb1.size (by simp)) _, own_msg hb1 _ _⟩
end
end Go.Proofs.Ytmiagjcihmenfaa
