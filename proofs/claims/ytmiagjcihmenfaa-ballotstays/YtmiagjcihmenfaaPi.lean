/- The walks of the program's ask and feed. -/
import Derived.Test.YtmiagjcihmenfaaPd
import Derived.Deep.DeepCutAuto
namespace Go.Proofs.Ytmiagjcihmenfaa
open Go.RowKit

/-- A message of a ballot's. -/
abbrev mk (b : Bs) (m : Ms) : Ms := { m with fr := b.id, term := b.term }
def askM (b : Bs) (k : Nat) : Ms := { ms0 with kind := 1, «to» := k, index := b.last, prev := b.termAt b.last }
abbrev Z34 : Obj := .cells #[.int .i64 0, .int .i64 0, .int .i64 0, .int .i64 0, .int .i64 0, .int .i64 0, .int .i64 0, .bool false, .slice none 0 0, .string ⟨#[]⟩] 34
/-- A message is written into a result's variable. -/
abbrev setMs (W : World) (R : Nat) (m : Ms) (lv : Value) : World := ((((((((((W.setCell ⟨R, 0, none⟩ (.int .i64 m.kind)).setCell ⟨R, 1, none⟩ (.int .i64 m.fr)).setCell ⟨R, 2, none⟩ (.int .i64 m.to)).setCell ⟨R, 3, none⟩ (.int .i64 m.term)).setCell ⟨R, 4, none⟩ (.int .i64 m.index)).setCell ⟨R, 5, none⟩ (.int .i64 m.prev)).setCell ⟨R, 6, none⟩ (.int .i64 m.commit)).setCell ⟨R, 7, none⟩ (.bool m.good)).setCell ⟨R, 8, none⟩ (lv)).setCell ⟨R, 9, none⟩ (.string m.snap))
theorem setMs_blk {W : World} {R : Nat} (m : Ms) (lv : Value) (h : W.heap[R]? = some Z34) : (setMs W R m lv).heap[R]? = some (msO m lv) ∧ Fr W (setMs W R m lv) (fun k => k = R) := by
  have e := set_blk (i := 9) (set_blk (i := 8) (set_blk (i := 7) (set_blk (i := 6) (set_blk (i := 5) (set_blk (i := 4) (set_blk (i := 3) (set_blk (i := 2) (set_blk (i := 1) (set_blk (i := 0) (h) (.int .i64 m.kind)) (.int .i64 m.fr)) (.int .i64 m.to)) (.int .i64 m.term)) (.int .i64 m.index)) (.int .i64 m.prev)) (.int .i64 m.commit)) (.bool m.good)) (lv)) (.string m.snap)
  exact ⟨e.trans (by simp), Fr.set (a := ⟨R, 9, none⟩) (Fr.set (a := ⟨R, 8, none⟩) (Fr.set (a := ⟨R, 7, none⟩) (Fr.set (a := ⟨R, 6, none⟩) (Fr.set (a := ⟨R, 5, none⟩) (Fr.set (a := ⟨R, 4, none⟩) (Fr.set (a := ⟨R, 3, none⟩) (Fr.set (a := ⟨R, 2, none⟩) (Fr.set (a := ⟨R, 1, none⟩) (Fr.set (a := ⟨R, 0, none⟩) (Fr.refl W (fun k => k = R)) (Or.inl rfl) _) (Or.inl rfl) _) (Or.inl rfl) _) (Or.inl rfl) _) (Or.inl rfl) _) (Or.inl rfl) _) (Or.inl rfl) _) (Or.inl rfl) _) (Or.inl rfl) _) (Or.inl rfl) _⟩
theorem info34 : (Try.prog.info? 34).map (·.size) = some 10 := by kernel_rfl
/-- The result is read. -/
theorem ret_ms {fn : Func} {p : Tmp} (h : fn.results = #[.cell p 34]) (tmps : Array Value) {W : World} {R : Nat} {m : Ms} {lv : Value} (hp : tmps.getD p undef = .pointer (some ⟨R, 0, none⟩)) (hg : W.heap[R]? = some (msO m lv)) : (results fn tmps).run Try.prog W = .ok (msV m lv) W :=
  results_cell_row h tmps W R 34 _ (0, 0) _ hp hg Try.underlying34 rfl info34
theorem new2 (w : World) (cs : Array Value) (t : TypeId) (n i j : Nat) (x y : Value) : Below w.heap.size w ((((w.alloc (.cells cs t)).drewN n).setCell ⟨w.heap.size, i, none⟩ x).setCell ⟨w.heap.size, j, none⟩ y) ∧ ((((w.alloc (.cells cs t)).drewN n).setCell ⟨w.heap.size, i, none⟩ x).setCell ⟨w.heap.size, j, none⟩ y).heap[w.heap.size]? = some (.cells ((cs.setIfInBounds i x).setIfInBounds j y) t (0, 0)) := by
  have h0 : ((w.alloc (.cells cs t)).drewN n).heap[w.heap.size]? = some (.cells cs t (0, 0)) := heap_alloc_new w _
  have hf : Fr w ((w.alloc (.cells cs t)).drewN n) (fun _ => False) := (((Fr.refl w (fun _ => False)).alloc _)).drewN n
  exact ⟨(Fr.set (a := ⟨w.heap.size, j, none⟩) (Fr.set (a := ⟨w.heap.size, i, none⟩) hf (Or.inr (Nat.le_refl _)) x) (Or.inr (Nat.le_refl _)) y).fresh (fun _ q => q.elim), set_blk (set_blk h0 x) y⟩
theorem new3 (w : World) (cs : Array Value) (t : TypeId) (n i j k : Nat) (x y z : Value) : Below w.heap.size w (((((w.alloc (.cells cs t)).drewN n).setCell ⟨w.heap.size, i, none⟩ x).setCell ⟨w.heap.size, j, none⟩ y).setCell ⟨w.heap.size, k, none⟩ z) ∧ (((((w.alloc (.cells cs t)).drewN n).setCell ⟨w.heap.size, i, none⟩ x).setCell ⟨w.heap.size, j, none⟩ y).setCell ⟨w.heap.size, k, none⟩ z).heap[w.heap.size]? = some (.cells (((cs.setIfInBounds i x).setIfInBounds j y).setIfInBounds k z) t (0, 0)) := by
  have h0 : ((w.alloc (.cells cs t)).drewN n).heap[w.heap.size]? = some (.cells cs t (0, 0)) := heap_alloc_new w _
  have hf : Fr w ((w.alloc (.cells cs t)).drewN n) (fun _ => False) := (((Fr.refl w (fun _ => False)).alloc _)).drewN n
  exact ⟨(Fr.set (a := ⟨w.heap.size, k, none⟩) (Fr.set (a := ⟨w.heap.size, j, none⟩) (Fr.set (a := ⟨w.heap.size, i, none⟩) hf (Or.inr (Nat.le_refl _)) x) (Or.inr (Nat.le_refl _)) y) (Or.inr (Nat.le_refl _)) z).fresh (fun _ q => q.elim), set_blk (set_blk (set_blk h0 x) y) z⟩
section
variable {w w' : World} {A : Nat} {S T : Nat → Prop} {b : Bs} {lv : Value} {pf : Int}
set_option maxHeartbeats 1000000 in
set_option maxRecDepth 100000 in
theorem ask_p (h : Pb w A S b) (k : Nat) (hbl : b.base ≤ b.last) : Calls Try.prog 46 #[.pointer (some ⟨A, 0, none⟩), .int .i64 k] w fun e w' => ∃ lv, e = .returned (msV (mk b (askM b k)) lv) ∧ Below w.heap.size w w' ∧ w'.ownsRow w.heap.size 49 4 lv (askM b k).list.length (enC (askM b k).list) := by
  have hb0 : Below w.heap.size w (w.alloc Z34) := (Below.refl _ w).alloc (Nat.le_refl _) _
  have h0 := h.on hb0
  have hm := message_any h0 1 k
  have hA := h.lt A (by obtain ⟨_, _, q⟩ := h; exact q.covA)
  have HH := Lib.hid h0
  have HB := Lib.hid hb0
  clear h h0 hb0
  go_enter Try.func46, Try.ntmps46
  go_wp2_with fail
  refine hm.mono ?_
  rintro e w1 ⟨rfl, hb1⟩
  clear hm
  have h1 := HH.out.on hb1
  have hb1' := HB.out.trans (hb1.mono HB.out.size)
  obtain ⟨lv, pf, h1v⟩ := h1
  have h2v := h1v.alloc (msO { ms0 with kind := 1, fr := b.id, «to» := k, term := b.term } (.slice none 0 0))
  have c5 : (w1.alloc (.cells #[.int .i64 1, .int .i64 b.id, .int .i64 k, .int .i64 b.term, .int .i64 0, .int .i64 0, .int .i64 0, .bool false, .slice none 0 0, .string noT] 34)).cell? ⟨A, 5, none⟩ = some (.int .i64 b.last) := h2v.cell 5
  have ht : ∀ V, Below w1.heap.size w1 V → Calls Try.prog 53 #[.pointer (some ⟨A, 0, none⟩), .int .i64 b.last] V fun e w' => e = .returned (.int .i64 (b.termAt b.last)) ∧ ∃ n, w' = V.drewN n := fun V hV => termOf_any (Pb.on ⟨lv, pf, h1v⟩ hV) b.last hbl (Int.le_refl _)
  have H2 := Lib.hid hb1'
  have r4 : w1.heap[w.heap.size]? = some Z34 := (hb1.block w.heap.size (by simp)).trans (heap_alloc_new w _)
  have HR := Lib.hid r4
  obtain ⟨tm, htm⟩ : ∃ tm, b.termAt b.last = tm := ⟨_, rfl⟩
  rw [htm] at ht
  have HT := Lib.hid htm
  clear hb1 hb1' h1v h2v r4 htm
  go_wp2
  go_cut [] (fun wx => Below w1.heap.size w1 wx ∧ wx.heap[w1.heap.size]? = some (msO { ms0 with kind := 1, fr := b.id, «to» := k, term := b.term, index := b.last, prev := tm } (.slice none 0 0)))
  case first =>
    go_region_with (go_at_call 53; refine (ht _ (by first | exact (Below.refl _ w1).alloc (Nat.le_refl _) _ | exact ((Below.refl _ w1).alloc (Nat.le_refl _) _).drew)).mono ?_; rintro e1 w2 ⟨rfl, n2, rfl⟩)
    all_goals
      go_wp2_with fail
      go_meet
      exact new2 w1 _ _ _ _ _ _ _
  case rest =>
    obtain ⟨hbc, hmc⟩ := hcut
    have hr := (hbc.block w.heap.size (blk_lt HR.out)).trans HR.out
    have hne : w.heap.size ≠ w1.heap.size := by have := blk_lt HR.out; omega
    have m0 : wc.cell? ⟨w1.heap.size, 0, none⟩ = some (.int .i64 1) := cell_blk hmc 0
    have m1 : wc.cell? ⟨w1.heap.size, 1, none⟩ = some (.int .i64 b.id) := cell_blk hmc 1
    have m2 : wc.cell? ⟨w1.heap.size, 2, none⟩ = some (.int .i64 k) := cell_blk hmc 2
    have m3 : wc.cell? ⟨w1.heap.size, 3, none⟩ = some (.int .i64 b.term) := cell_blk hmc 3
    have m4 : wc.cell? ⟨w1.heap.size, 4, none⟩ = some (.int .i64 b.last) := cell_blk hmc 4
    have m5 : wc.cell? ⟨w1.heap.size, 5, none⟩ = some (.int .i64 tm) := cell_blk hmc 5
    have m6 : wc.cell? ⟨w1.heap.size, 6, none⟩ = some (.int .i64 0) := cell_blk hmc 6
    have m7 : wc.cell? ⟨w1.heap.size, 7, none⟩ = some (.bool false) := cell_blk hmc 7
    have m8 : wc.cell? ⟨w1.heap.size, 8, none⟩ = some (.slice none 0 0) := cell_blk hmc 8
    have m9 : wc.cell? ⟨w1.heap.size, 9, none⟩ = some (.string ⟨#[]⟩) := cell_blk hmc 9
    have r0 : wc.cell? ⟨w.heap.size, 0, none⟩ = some (.int .i64 0) := cell_blk hr 0
    have q0 : wc.frozen? ⟨w.heap.size, 0, none⟩ = false := frozen_blk hr 0
    have r1 : wc.cell? ⟨w.heap.size, 1, none⟩ = some (.int .i64 0) := cell_blk hr 1
    have q1 : wc.frozen? ⟨w.heap.size, 1, none⟩ = false := frozen_blk hr 1
    have r2 : wc.cell? ⟨w.heap.size, 2, none⟩ = some (.int .i64 0) := cell_blk hr 2
    have q2 : wc.frozen? ⟨w.heap.size, 2, none⟩ = false := frozen_blk hr 2
    have r3 : wc.cell? ⟨w.heap.size, 3, none⟩ = some (.int .i64 0) := cell_blk hr 3
    have q3 : wc.frozen? ⟨w.heap.size, 3, none⟩ = false := frozen_blk hr 3
    have r4 : wc.cell? ⟨w.heap.size, 4, none⟩ = some (.int .i64 0) := cell_blk hr 4
    have q4 : wc.frozen? ⟨w.heap.size, 4, none⟩ = false := frozen_blk hr 4
    have r5 : wc.cell? ⟨w.heap.size, 5, none⟩ = some (.int .i64 0) := cell_blk hr 5
    have q5 : wc.frozen? ⟨w.heap.size, 5, none⟩ = false := frozen_blk hr 5
    have r6 : wc.cell? ⟨w.heap.size, 6, none⟩ = some (.int .i64 0) := cell_blk hr 6
    have q6 : wc.frozen? ⟨w.heap.size, 6, none⟩ = false := frozen_blk hr 6
    have r7 : wc.cell? ⟨w.heap.size, 7, none⟩ = some (.bool false) := cell_blk hr 7
    have q7 : wc.frozen? ⟨w.heap.size, 7, none⟩ = false := frozen_blk hr 7
    have r8 : wc.cell? ⟨w.heap.size, 8, none⟩ = some (.slice none 0 0) := cell_blk hr 8
    have q8 : wc.frozen? ⟨w.heap.size, 8, none⟩ = false := frozen_blk hr 8
    have r9 : wc.cell? ⟨w.heap.size, 9, none⟩ = some (.string ⟨#[]⟩) := cell_blk hr 9
    have q9 : wc.frozen? ⟨w.heap.size, 9, none⟩ = false := frozen_blk hr 9
    have HBC := Lib.hid hbc
    have HRR := Lib.hid hr
    clear hbc hmc hr
    go_wp2
    obtain ⟨e1, e2⟩ := setMs_blk { ms0 with kind := 1, fr := b.id, «to» := k, term := b.term, index := b.last, prev := tm } (.slice none 0 0) HRR.out
    refine bodyPost_ret (ret_ms rfl _ rfl e1) rfl ⟨.slice none 0 0, ?_, ?_, World.ownsRow_nil _ _ _ _⟩
    · unfold askM
      rw [HT.out]
    · exact (H2.out.trans (HBC.out.mono H2.out.size)).trans (e2.toBelow (fun j hj q => by have q' : j = w.heap.size := q; omega) (by have := blk_lt HRR.out; omega))
end
end Go.Proofs.Ytmiagjcihmenfaa
