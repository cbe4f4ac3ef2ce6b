/- The walk of the program's Delta of a ballot that was touched. -/
import Derived.Test.YtmiagjcihmenfaaXj
import Derived.Test.YtmiagjcihmenfaaXPk
import Derived.Deep.DeepCutAuto
namespace Go.Proofs.Ytmiagjcihmenfaa
open Go.RowKit

section
variable {w w' : World} {A : Nat} {S T : Nat → Prop} {b : Bs} {lv : Value} {pf : Int}
/-- What is kept since is nothing. -/
theorem since_clear (h : Pb w A S b) : Pb (((w.setCell ⟨A, 12, none⟩ (.bool false)).setCell ⟨A, 13, none⟩ (.bool false)).setCell ⟨A, 14, none⟩ (.int .i64 0)) A S { b with touched := false, whole := false, fr := b.last + 1 } ∧ Fr w (((w.setCell ⟨A, 12, none⟩ (.bool false)).setCell ⟨A, 13, none⟩ (.bool false)).setCell ⟨A, 14, none⟩ (.int .i64 0)) S := by
  obtain ⟨lv, pf, h⟩ := h
  have hf : Fr w (((w.setCell ⟨A, 12, none⟩ (.bool false)).setCell ⟨A, 13, none⟩ (.bool false)).setCell ⟨A, 14, none⟩ (.int .i64 0)) S := Fr.set (a := ⟨A, 14, none⟩) (Fr.set (a := ⟨A, 13, none⟩) (Fr.set (a := ⟨A, 12, none⟩) (Fr.refl w S) (Or.inl h.covA) _) (Or.inl h.covA) _) (Or.inl h.covA) _
  refine ⟨⟨lv, 0, ⟨?_, ?_, h.covA, h.cov, fun k hk => Nat.lt_of_lt_of_le (h.lt k hk) hf.size, h.len, h.b0, h.b1, .inr (.inl ⟨rfl, rfl⟩), h.idl, h.sz⟩⟩, hf⟩
  · rw [set_blk (i := 14) (set_blk (i := 13) (set_blk (i := 12) h.ob _) _) _]
    rfl
  · exact h.log.like (fun k hk => by rw [set_other _ (h.neA k hk), set_other _ (h.neA k hk), set_other _ (h.neA k hk)])
theorem drew_heap (w : World) : w.drew.heap = w.heap := rfl
def setDe (W : World) (R : Nat) (d : De) (v : Value) : World := (((((((W.setCell ⟨R, 0, none⟩ (.int .i64 d.term)).setCell ⟨R, 1, none⟩ (.int .i64 d.vote)).setCell ⟨R, 2, none⟩ (.bool d.whole)).setCell ⟨R, 3, none⟩ (.int .i64 d.base)).setCell ⟨R, 4, none⟩ (.int .i64 d.baseTerm)).setCell ⟨R, 5, none⟩ (.string d.snap)).setCell ⟨R, 6, none⟩ (.int .i64 d.fr)).setCell ⟨R, 7, none⟩ v
theorem setDe_blk {W : World} {R : Nat} (d : De) (v : Value) (h : W.heap[R]? = some (.cells #[.int .i64 0, .int .i64 0, .bool false, .int .i64 0, .int .i64 0, .string ⟨#[]⟩, .int .i64 0, .slice none 0 0] 44 (0, 0))) : (setDe W R d v).heap[R]? = some (deB d v) ∧ Fr W (setDe W R d v) (fun k => k = R) := by
  have e := set_blk (i := 7) (set_blk (i := 6) (set_blk (i := 5) (set_blk (i := 4) (set_blk (i := 3) (set_blk (i := 2) (set_blk (i := 1) (set_blk (i := 0) h (.int .i64 d.term)) (.int .i64 d.vote)) (.bool d.whole)) (.int .i64 d.base)) (.int .i64 d.baseTerm)) (.string d.snap)) (.int .i64 d.fr)) v
  exact ⟨e.trans (by simp), Fr.set (a := ⟨R, 7, none⟩) (Fr.set (a := ⟨R, 6, none⟩) (Fr.set (a := ⟨R, 5, none⟩) (Fr.set (a := ⟨R, 4, none⟩) (Fr.set (a := ⟨R, 3, none⟩) (Fr.set (a := ⟨R, 2, none⟩) (Fr.set (a := ⟨R, 1, none⟩) (Fr.set (a := ⟨R, 0, none⟩) (Fr.refl W (fun k => k = R)) (Or.inl rfl) _) (Or.inl rfl) _) (Or.inl rfl) _) (Or.inl rfl) _) (Or.inl rfl) _) (Or.inl rfl) _) (Or.inl rfl) _) (Or.inl rfl) _⟩
/-- What Delta answers. -/
def DelAns (w : World) (A : Nat) (S : Nat → Prop) (b : Bs) (d : De) (e : Ending) (w' : World) : Prop := ∃ ad cap, e = .returned (.tuple #[deV d (.slice ad d.list.length cap), .bool true]) ∧ w'.ownsRow w.heap.size 49 4 (.slice ad d.list.length cap) d.list.length (enC d.list) ∧ Pb w' A S { b with touched := false, whole := false, fr := b.last + 1 } ∧ Fr w w' S
/-- The end of it: all is put together. -/
theorem del_fin {W0 WD w2 : World} {R X : Nat} {d : De} {ad : Option Addr} {cap : Nat} (hlt : ∀ k, S k → k < w.heap.size) (hR : w.heap.size = R) (hX : w.heap.size ≤ X) (hXR : X ≠ R) (fD : Fr w WD (fun _ => False)) (hP : Pb WD A S b) (jX : WD.heap[X]? = some (deB { d with list := [] } (.slice none 0 0))) (jR : WD.heap[R]? = some (.cells #[.int .i64 0, .int .i64 0, .bool false, .int .i64 0, .int .i64 0, .string ⟨#[]⟩, .int .i64 0, .slice none 0 0] 44 (0, 0)))
    (B8 : Below WD.heap.size WD w2) (O8 : w2.ownsRow WD.heap.size 49 4 (.slice ad d.list.length cap) d.list.length (enC d.list)) (hW0 : W0 = w2.setCell ⟨X, 7, none⟩ (.slice ad d.list.length cap)) :
    W0.heap[X]? = some (deB d (.slice ad d.list.length cap)) ∧ W0.heap[R]? = some (.cells #[.int .i64 0, .int .i64 0, .bool false, .int .i64 0, .int .i64 0, .string ⟨#[]⟩, .int .i64 0, .slice none 0 0] 44 (0, 0)) ∧ Pb W0 A S b ∧
      (∀ W1, W1 = ((W0.setCell ⟨A, 12, none⟩ (.bool false)).setCell ⟨A, 13, none⟩ (.bool false)).setCell ⟨A, 14, none⟩ (.int .i64 0) → W1.heap[X]? = some (deB d (.slice ad d.list.length cap)) ∧ W1.heap[R]? = some (.cells #[.int .i64 0, .int .i64 0, .bool false, .int .i64 0, .int .i64 0, .string ⟨#[]⟩, .int .i64 0, .slice none 0 0] 44 (0, 0)) ∧ (setDe W1 R d (.slice ad d.list.length cap)).heap[R]? = some (deB d (.slice ad d.list.length cap)) ∧ (setDe W1 R d (.slice ad d.list.length cap)).ownsRow w.heap.size 49 4 (.slice ad d.list.length cap) d.list.length (enC d.list) ∧ Pb (setDe W1 R d (.slice ad d.list.length cap)) A S { b with touched := false, whole := false, fr := b.last + 1 } ∧ Fr w (setDe W1 R d (.slice ad d.list.length cap)) S) := by
  have hXw := blk_lt jX
  have hRw := blk_lt jR
  have jX2 := (B8.block X hXw).trans jX
  have jR2 := (B8.block R hRw).trans jR
  have hnS : ∀ k, S k → k ≠ X ∧ k ≠ R := fun k q => by have := hlt k q; omega
  have a0 : W0.heap[X]? = some (deB d (.slice ad d.list.length cap)) := by rw [hW0]; exact set_blk (i := 7) jX2 _
  have a1 : W0.heap[R]? = some (.cells #[.int .i64 0, .int .i64 0, .bool false, .int .i64 0, .int .i64 0, .string ⟨#[]⟩, .int .i64 0, .slice none 0 0] 44 (0, 0)) := by rw [hW0, set_other _ hXR.symm]; exact jR2
  have f0 : Fr w2 W0 (fun k => k = X) := by rw [hW0]; exact Fr.set (a := ⟨X, 7, none⟩) (Fr.refl w2 (fun k => k = X)) (Or.inl rfl) _
  have a2 : Pb W0 A S b := by
    obtain ⟨lv, pf, q⟩ := hP.on B8
    exact ⟨lv, pf, q.stays f0 (fun k hk e => (hnS k hk).1 e)⟩
  have hsz : w.heap.size ≤ WD.heap.size := fD.size
  have a3 : W0.ownsRow WD.heap.size 49 4 (.slice ad d.list.length cap) d.list.length (enC d.list) := row_keep O8 f0 (fun k hk e => by have := (O8.lt k hk).1; have e' : k = X := e; omega)
  have fw0 : Fr w W0 S := ((fD.below B8).step f0 (fun j e => .inr (by have e' : j = X := e; omega))).mono (fun _ q => q.elim)
  refine ⟨a0, a1, a2, ?_⟩
  intro W1 hW1
  obtain ⟨p1, f1⟩ := since_clear a2
  rw [← hW1] at p1 f1
  have hX1 : W1.heap[X]? = some (deB d (.slice ad d.list.length cap)) := (f1.block X (blk_lt a0) (fun q => (hnS X q).1 rfl)).trans a0
  have hR1 : W1.heap[R]? = some (.cells #[.int .i64 0, .int .i64 0, .bool false, .int .i64 0, .int .i64 0, .string ⟨#[]⟩, .int .i64 0, .slice none 0 0] 44 (0, 0)) := (f1.block R (blk_lt a1) (fun q => (hnS R q).2 rfl)).trans a1
  obtain ⟨e1, e2⟩ := setDe_blk d (.slice ad d.list.length cap) hR1
  have a4 : W1.ownsRow WD.heap.size 49 4 (.slice ad d.list.length cap) d.list.length (enC d.list) := row_keep a3 f1 (fun k hk q => by have := (a3.lt k hk).1; have := hlt k q; omega)
  have a5 := row_keep a4 e2 (fun k hk e => by have := (a4.lt k hk).1; have e' : k = R := e; omega)
  have a6 : Pb (setDe W1 R d (.slice ad d.list.length cap)) A S { b with touched := false, whole := false, fr := b.last + 1 } := by
    obtain ⟨lv, pf, q⟩ := p1
    exact ⟨lv, pf, q.stays e2 (fun k hk e => (hnS k hk).2 e)⟩
  exact ⟨hX1, hR1, e1, own_mono a5 hsz, a6, (fw0.trans f1).step e2 (fun j e => .inr (by have e' : j = R := e; omega))⟩

set_option maxHeartbeats 4000000 in
set_option maxRecDepth 100000 in
theorem delta_whole (h : Pv w A S b lv pf) (ht : b.touched = true) (hwh : b.whole = true) : Calls Try.prog 17 #[.pointer (some ⟨A, 0, none⟩)] w fun e w' => DelAns w A S b ⟨b.term, b.vote, true, b.base, b.baseTerm, b.snap, b.base + 1, b.log⟩ e w' := by
  have hlt := h.lt
  have l1 := h.len
  have b0 := h.b0
  have b1 := h.b1
  obtain ⟨La, hLa⟩ : ∃ La, b.last = La := ⟨_, rfl⟩
  have hLa2 : La = b.base + b.log.length := hLa.symm
  have l2 : La ≤ 4398047511105 := by omega
  have l3 : 0 ≤ La := by omega
  obtain ⟨LL, hLL⟩ : ∃ LL, b.log = LL := ⟨_, rfl⟩
  rw [hLL]
  obtain ⟨B1, hB1⟩ : ∃ B1, b.base + 1 = B1 := ⟨_, rfl⟩
  have i1 : IntKind.i64.wrap (b.base + 1) = B1 := by rw [IntKind.wrap_i64]; omega
  rw [hB1]
  have hcopy : ∀ V, Pb V A S b → Calls Try.prog 39 #[.pointer (some ⟨A, 0, none⟩), .int .i64 B1, .int .i64 La] V fun e w' => ∃ v, e = .returned v ∧ Below V.heap.size V w' ∧ w'.ownsRow V.heap.size 49 4 v LL.length (enC LL) := by
    intro V hV
    refine (copied_any hV B1 La (by omega) (by omega) (by omega)).mono ?_
    rintro e w' ⟨v, rfl, q1, q2⟩
    have el : (b.log.drop (B1 - b.base - 1).toNat).take (La + 1 - B1).toNat = LL := by
      rw [List.take_of_length_le (by rw [List.length_drop]; omega), ← hLL]
      rw [show (B1 - b.base - 1).toNat = 0 by omega]; rfl
    rw [el] at q2
    exact ⟨v, rfl, q1, q2⟩
  obtain ⟨W, hW⟩ : ∃ W, W = w.alloc (.cells #[.int .i64 0, .int .i64 0, .bool false, .int .i64 0, .int .i64 0, .string ⟨#[]⟩, .int .i64 0, .slice none 0 0] 44) := ⟨_, rfl⟩
  obtain ⟨R, hR⟩ : ∃ R, w.heap.size = R := ⟨_, rfl⟩
  have hb : Below w.heap.size w W := by rw [hW]; exact (Below.refl _ w).alloc (Nat.le_refl _) _
  have jR : W.heap[R]? = some (.cells #[.int .i64 0, .int .i64 0, .bool false, .int .i64 0, .int .i64 0, .string ⟨#[]⟩, .int .i64 0, .slice none 0 0] 44 (0, 0)) := by rw [hW, ← hR]; exact heap_alloc_new w _
  have hv := h.on hb
  have c0 : W.cell? ⟨A, 0, none⟩ = some (.int .i64 b.term) := hv.cell 0
  have c1 : W.cell? ⟨A, 1, none⟩ = some (.int .i64 b.vote) := hv.cell 1
  have c12 : W.cell? ⟨A, 12, none⟩ = some (.bool true) := by rw [← ht]; exact hv.cell 12
  have HB := Lib.hid hb
  have HV := Lib.hid hv
  have HJR := Lib.hid jR
  have HRR := Lib.hid hR
  have HW := Lib.hid hW
  have HCP := Lib.hid hcopy
  have HLA := Lib.hid hLa
  clear hB1 h hb hv hW jR hR hcopy ht hLL hLa hLa2
  go_enter Try.func17, Try.ntmps17
  go_upto_region 1 with fail
  rw [← HW.out, HRR.out]
  go_upto_region 3 with fail
  go_cut [4] (fun v wx => v = .pointer (some ⟨W.heap.size, 0, none⟩) ∧ ∃ n, wx = (W.drewN n).alloc (.cells #[.int .i64 b.term, .int .i64 b.vote, .bool false, .int .i64 0, .int .i64 0, .string ⟨#[]⟩, .int .i64 0, .slice none 0 0] 44))
  case first =>
    go_region_held3 (fun V => V.cell? ⟨A, 0, none⟩ = some (.int .i64 b.term) ∧ V.cell? ⟨A, 1, none⟩ = some (.int .i64 b.vote)) (go_keep) (fail)
    all_goals
      go_wp2_with fail
      go_meet
      exact ⟨rfl, _, rfl⟩
  case rest =>
    obtain ⟨rfl, n, hwc⟩ := hcut
    obtain ⟨V3, rfl⟩ : ∃ V3, V3 = wc := ⟨_, rfl⟩
    obtain ⟨X, hX⟩ : ∃ X, W.heap.size = X := ⟨_, rfl⟩
    have bc : Below W.heap.size W V3 := by rw [hwc]; exact (below_draw (Below.refl W.heap.size W) n).alloc (Nat.le_refl _) _
    have jX : V3.heap[X]? = some (.cells #[.int .i64 b.term, .int .i64 b.vote, .bool false, .int .i64 0, .int .i64 0, .string ⟨#[]⟩, .int .i64 0, .slice none 0 0] 44 (0, 0)) := by rw [hwc, ← hX]; exact heap_alloc_new (W.drewN n) _
    have jRc := (bc.block R (blk_lt HJR.out)).trans HJR.out
    have hvc := HV.out.on bc
    have hbc := HB.out.trans (bc.mono HB.out.size)
    have hXA : X ≠ A := by have := HV.out.lt A HV.out.covA; omega
    have hAX : A ≠ X := hXA.symm
    have hXR : X ≠ R := by have := blk_lt HJR.out; omega
    have hXw : w.heap.size ≤ X := by have := HB.out.size; omega
    have hRA : R ≠ A := by have := hlt A HV.out.covA; have := HRR.out; omega
    have HJX := Lib.hid jX
    have HJRc := Lib.hid jRc
    have HBC := Lib.hid hbc
    have HVC := Lib.hid hvc
    rw [hX]
    clear hwc bc hX c0 c1 c12
    have a4 : V3.cell? ⟨A, 4, none⟩ = some (.int .i64 b.base) := hvc.cell 4
    have a5 : V3.cell? ⟨A, 5, none⟩ = some (.int .i64 La) := by rw [← HLA.out]; exact hvc.cell 5
    have a9 : V3.cell? ⟨A, 9, none⟩ = some (.int .i64 b.baseTerm) := hvc.cell 9
    have a10 : V3.cell? ⟨A, 10, none⟩ = some (.string b.snap) := hvc.cell 10
    have a13 : V3.cell? ⟨A, 13, none⟩ = some (.bool b.whole) := hvc.cell 13
    have a14 : V3.cell? ⟨A, 14, none⟩ = some (.int .i64 pf) := hvc.cell 14
    have x2 : V3.cell? ⟨X, 2, none⟩ = some (.bool false) := cell_blk jX 2
    have x3 : V3.cell? ⟨X, 3, none⟩ = some (.int .i64 0) := cell_blk jX 3
    have x4 : V3.cell? ⟨X, 4, none⟩ = some (.int .i64 0) := cell_blk jX 4
    have x5 : V3.cell? ⟨X, 5, none⟩ = some (.string ⟨#[]⟩) := cell_blk jX 5
    have x6 : V3.cell? ⟨X, 6, none⟩ = some (.int .i64 0) := cell_blk jX 6
    have z2 : V3.frozen? ⟨X, 2, none⟩ = false := frozen_blk jX 2
    have z3 : V3.frozen? ⟨X, 3, none⟩ = false := frozen_blk jX 3
    have z4 : V3.frozen? ⟨X, 4, none⟩ = false := frozen_blk jX 4
    have z5 : V3.frozen? ⟨X, 5, none⟩ = false := frozen_blk jX 5
    have z6 : V3.frozen? ⟨X, 6, none⟩ = false := frozen_blk jX 6
    clear hvc jX jRc hbc
    rw [hwh] at a13
    obtain ⟨WD, hWD⟩ : ∃ WD, WD = ((((((V3).setCell ⟨X, 2, none⟩ (.bool true)).setCell ⟨X, 3, none⟩ (.int .i64 b.base)).setCell ⟨X, 4, none⟩ (.int .i64 b.baseTerm)).setCell ⟨X, 5, none⟩ (.string b.snap)).setCell ⟨X, 6, none⟩ (.int .i64 B1)).drew := ⟨_, rfl⟩
    have HFX : Hid (Fr V3 WD (fun k => k = X)) := by
      rw [hWD]
      exact (Fr.set (a := ⟨X, 6, none⟩) (Fr.set (a := ⟨X, 5, none⟩) (Fr.set (a := ⟨X, 4, none⟩) (Fr.set (a := ⟨X, 3, none⟩) (Fr.set (a := ⟨X, 2, none⟩) (Fr.refl V3 (fun k => k = X)) (Or.inl rfl) _) (Or.inl rfl) _) (Or.inl rfl) _) (Or.inl rfl) _) (Or.inl rfl) _).drewN 1
    have HJE : Hid (WD.heap[X]? = some (.cells #[.int .i64 b.term, .int .i64 b.vote, .bool true, .int .i64 b.base, .int .i64 b.baseTerm, .string b.snap, .int .i64 B1, .slice none 0 0] 44 (0, 0))) := by
      have e := set_blk (i := 6) (set_blk (i := 5) (set_blk (i := 4) (set_blk (i := 3) (set_blk (i := 2) HJX.out (.bool true)) (.int .i64 b.base)) (.int .i64 b.baseTerm)) (.string b.snap)) (.int .i64 B1)
      rw [hWD, drew_heap]
      exact e.trans (by simp)
    have HJXD : Hid (WD.heap[X]? = some (deB { (⟨b.term, b.vote, true, b.base, b.baseTerm, b.snap, B1, LL⟩ : De) with list := [] } (.slice none 0 0))) := HJE.out
    have HWD := Lib.hid hWD
    have HWH := Lib.hid hwh
    clear hWD hwh
    go_upto_region 6 with fail
    go_region_held3 (fun V => V.cell? ⟨A, 4, none⟩ = some (.int .i64 b.base) ∧ V.cell? ⟨A, 9, none⟩ = some (.int .i64 b.baseTerm) ∧ V.cell? ⟨A, 10, none⟩ = some (.string b.snap)) (go_keep) (fail)
    have hPD : Pb WD A S b := by
      have fX : Fr V3 WD (fun k => k = X) := HFX.out
      exact ⟨_, _, HVC.out.stays fX (fun k hk e => by have := hlt k hk; have e' : k = X := e; omega)⟩
    have hjX := HJXD.out
    have hjR : WD.heap[R]? = some (.cells #[.int .i64 0, .int .i64 0, .bool false, .int .i64 0, .int .i64 0, .string ⟨#[]⟩, .int .i64 0, .slice none 0 0] 44 (0, 0)) := (HFX.out.block R (blk_lt HJRc.out) (fun e => hXR (show R = X from e).symm)).trans HJRc.out
    have fD : Fr w WD (fun _ => False) := (Fr.ofBelow (fun _ => False) HBC.out).step HFX.out (fun j e => .inr (by have e' : j = X := e; omega))
    have y6 : WD.cell? ⟨X, 6, none⟩ = some (.int .i64 B1) := cell_blk HJE.out 6
    have y7 : WD.cell? ⟨X, 7, none⟩ = some (.slice none 0 0) := cell_blk HJE.out 7
    have fz7 : WD.frozen? ⟨X, 7, none⟩ = false := frozen_blk HJE.out 7
    have hXl : X < WD.heap.size := blk_lt hjX
    have hcp : ∀ n, Calls Try.prog 39 #[.pointer (some ⟨A, 0, none⟩), .int .i64 B1, .int .i64 La] (WD.drewN n) fun e w' => ∃ ad8 cap8, e = .returned (.slice ad8 LL.length cap8) ∧ w'.cell? ⟨X, 7, none⟩ = some (.slice none 0 0) ∧ w'.frozen? ⟨X, 7, none⟩ = false ∧ Hid (Below WD.heap.size WD w' ∧ w'.ownsRow WD.heap.size 49 4 (.slice ad8 LL.length cap8) LL.length (enC LL)) := by
      intro n
      refine (HCP.out (WD.drewN n) (hPD.on (below_draw (Below.refl _ _) n))).mono ?_
      rintro e w' ⟨v, rfl, q1, q2⟩
      obtain ⟨ad8, cap8, rfl⟩ := own_shape q2
      have q3 : Below WD.heap.size WD w' := ⟨q1.os, q1.tape, q1.output, q1.size, q1.block⟩
      have q4 := (q3.block X hXl).trans HJE.out
      exact ⟨ad8, cap8, rfl, cell_blk q4 7, frozen_blk q4 7, ⟨q3, q2⟩⟩
    have HPD := Lib.hid hPD
    have HXD := Lib.hid hjX
    have HRD := Lib.hid hjR
    have HFD := Lib.hid fD
    obtain ⟨lv5, pf5, hv5⟩ := hPD
    have d5 : WD.cell? ⟨A, 5, none⟩ = some (.int .i64 La) := by rw [← HLA.out]; exact hv5.cell 5
    clear hv5 hjX hjR fD
    go_upto_region 9 with fail
    rw [← HWD.out]
    go_cut [] (fun wx => ∃ ad8 cap8 w2, wx = w2.setCell ⟨X, 7, none⟩ (.slice ad8 LL.length cap8) ∧ Below WD.heap.size WD w2 ∧ w2.ownsRow WD.heap.size 49 4 (.slice ad8 LL.length cap8) LL.length (enC LL))
    case first =>
      go_region_with (go_at_call 39; refine (hcp _).mono ?_; rintro e1 w2 ⟨ad8, cap8, rfl, z8, zf, hx8⟩)
      all_goals
        go_wp2_with fail
        go_meet
        exact ⟨ad8, cap8, w2, rfl, hx8.out.1, hx8.out.2⟩
    case rest =>
      obtain ⟨ad8, cap8, w2, hwe, B8, O8⟩ := hcut
      obtain ⟨k0, k1, k2, k3⟩ := del_fin (d := (⟨b.term, b.vote, true, b.base, b.baseTerm, b.snap, B1, LL⟩ : De)) hlt HRR.out hXw hXR HFD.out HPD.out HXD.out HRD.out B8 O8 hwe
      obtain ⟨WE, hWE⟩ : ∃ WE, WE = ((wc.setCell ⟨A, 12, none⟩ (.bool false)).setCell ⟨A, 13, none⟩ (.bool false)).setCell ⟨A, 14, none⟩ (.int .i64 0) := ⟨_, rfl⟩
      obtain ⟨m0, m1, m2, m3, m4, m5⟩ := k3 _ hWE
      have v0 : WE.cell? ⟨X, 0, none⟩ = some (.int .i64 b.term) := cell_blk m0 0
      have v1 : WE.cell? ⟨X, 1, none⟩ = some (.int .i64 b.vote) := cell_blk m0 1
      have v2 : WE.cell? ⟨X, 2, none⟩ = some (.bool true) := cell_blk m0 2
      have v3 : WE.cell? ⟨X, 3, none⟩ = some (.int .i64 b.base) := cell_blk m0 3
      have v4 : WE.cell? ⟨X, 4, none⟩ = some (.int .i64 b.baseTerm) := cell_blk m0 4
      have v5 : WE.cell? ⟨X, 5, none⟩ = some (.string b.snap) := cell_blk m0 5
      have v6 : WE.cell? ⟨X, 6, none⟩ = some (.int .i64 B1) := cell_blk m0 6
      have v7 : WE.cell? ⟨X, 7, none⟩ = some (.slice ad8 LL.length cap8) := cell_blk m0 7
      have r0 : WE.cell? ⟨R, 0, none⟩ = some (.int .i64 0) := cell_blk m1 0
      have q0 : WE.frozen? ⟨R, 0, none⟩ = false := frozen_blk m1 0
      have r1 : WE.cell? ⟨R, 1, none⟩ = some (.int .i64 0) := cell_blk m1 1
      have q1 : WE.frozen? ⟨R, 1, none⟩ = false := frozen_blk m1 1
      have r2 : WE.cell? ⟨R, 2, none⟩ = some (.bool false) := cell_blk m1 2
      have q2 : WE.frozen? ⟨R, 2, none⟩ = false := frozen_blk m1 2
      have r3 : WE.cell? ⟨R, 3, none⟩ = some (.int .i64 0) := cell_blk m1 3
      have q3 : WE.frozen? ⟨R, 3, none⟩ = false := frozen_blk m1 3
      have r4 : WE.cell? ⟨R, 4, none⟩ = some (.int .i64 0) := cell_blk m1 4
      have q4 : WE.frozen? ⟨R, 4, none⟩ = false := frozen_blk m1 4
      have r5 : WE.cell? ⟨R, 5, none⟩ = some (.string ⟨#[]⟩) := cell_blk m1 5
      have q5 : WE.frozen? ⟨R, 5, none⟩ = false := frozen_blk m1 5
      have r6 : WE.cell? ⟨R, 6, none⟩ = some (.int .i64 0) := cell_blk m1 6
      have q6 : WE.frozen? ⟨R, 6, none⟩ = false := frozen_blk m1 6
      have r7 : WE.cell? ⟨R, 7, none⟩ = some (.slice none 0 0) := cell_blk m1 7
      have q7 : WE.frozen? ⟨R, 7, none⟩ = false := frozen_blk m1 7
      obtain ⟨lv6, pf6, hv6⟩ := k2
      have t12 : wc.cell? ⟨A, 12, none⟩ = some (.bool b.touched) := hv6.cell 12
      have t13 : wc.cell? ⟨A, 13, none⟩ = some (.bool b.whole) := hv6.cell 13
      have t14 : wc.cell? ⟨A, 14, none⟩ = some (.int .i64 pf6) := hv6.cell 14
      have s12 : wc.frozen? ⟨A, 12, none⟩ = false := frozen_blk hv6.ob 12
      have s13 : wc.frozen? ⟨A, 13, none⟩ = false := frozen_blk hv6.ob 13
      have s14 : wc.frozen? ⟨A, 14, none⟩ = false := frozen_blk hv6.ob 14
      have HM2 := Lib.hid m2
      have HM3 := Lib.hid m3
      have HM4 := Lib.hid m4
      have HM5 := Lib.hid m5
      have HWE := Lib.hid hWE
      clear hv6 k0 k1 k3 m0 m1 m2 m3 m4 m5 hWE B8 O8 hwe hcp d5 y6 y7 fz7
      go_upto_region 11 with fail
      rw [← HWE.out]
      go_wp2
      refine bodyPost_ret (v := .tuple #[deV (⟨b.term, b.vote, true, b.base, b.baseTerm, b.snap, B1, LL⟩ : De) (.slice ad8 LL.length cap8), .bool true]) (by simp [results, Try.results17, go_sem, *]) rfl ⟨ad8, cap8, rfl, HM3.out, HM4.out, HM5.out⟩


set_option maxHeartbeats 4000000 in
set_option maxRecDepth 100000 in
theorem delta_some (h : Pv w A S b lv pf) (ht : b.touched = true) (hwh : b.whole = false) (hf1 : b.base < b.fr) (hf2 : b.fr ≤ b.last + 1) (hpf : 0 < pf) (hpe : pf = b.fr) : Calls Try.prog 17 #[.pointer (some ⟨A, 0, none⟩)] w fun e w' => DelAns w A S b ⟨b.term, b.vote, false, 0, 0, noT, b.fr, b.log.drop (b.fr - b.base - 1).toNat⟩ e w' := by
  have hlt := h.lt
  have l1 := h.len
  have b0 := h.b0
  have b1 := h.b1
  obtain ⟨La, hLa⟩ : ∃ La, b.last = La := ⟨_, rfl⟩
  have hLa2 : La = b.base + b.log.length := hLa.symm
  have l2 : La ≤ 4398047511105 := by omega
  have l3 : 0 ≤ La := by omega
  obtain ⟨LL, hLL⟩ : ∃ LL, b.log.drop (b.fr - b.base - 1).toNat = LL := ⟨_, rfl⟩
  rw [hLL]
  rw [hLa] at hf2
  rw [← hpe]
  have hcopy : ∀ V, Pb V A S b → Calls Try.prog 39 #[.pointer (some ⟨A, 0, none⟩), .int .i64 pf, .int .i64 La] V fun e w' => ∃ v, e = .returned v ∧ Below V.heap.size V w' ∧ w'.ownsRow V.heap.size 49 4 v LL.length (enC LL) := by
    intro V hV
    refine (copied_any hV pf La (by omega) (by omega) (by omega)).mono ?_
    rintro e w' ⟨v, rfl, q1, q2⟩
    have el : (b.log.drop (pf - b.base - 1).toNat).take (La + 1 - pf).toNat = LL := by
      rw [List.take_of_length_le (by rw [List.length_drop]; omega), ← hLL]
      rw [show pf = b.fr by omega]
    rw [el] at q2
    exact ⟨v, rfl, q1, q2⟩
  obtain ⟨W, hW⟩ : ∃ W, W = w.alloc (.cells #[.int .i64 0, .int .i64 0, .bool false, .int .i64 0, .int .i64 0, .string ⟨#[]⟩, .int .i64 0, .slice none 0 0] 44) := ⟨_, rfl⟩
  obtain ⟨R, hR⟩ : ∃ R, w.heap.size = R := ⟨_, rfl⟩
  have hb : Below w.heap.size w W := by rw [hW]; exact (Below.refl _ w).alloc (Nat.le_refl _) _
  have jR : W.heap[R]? = some (.cells #[.int .i64 0, .int .i64 0, .bool false, .int .i64 0, .int .i64 0, .string ⟨#[]⟩, .int .i64 0, .slice none 0 0] 44 (0, 0)) := by rw [hW, ← hR]; exact heap_alloc_new w _
  have hv := h.on hb
  have c0 : W.cell? ⟨A, 0, none⟩ = some (.int .i64 b.term) := hv.cell 0
  have c1 : W.cell? ⟨A, 1, none⟩ = some (.int .i64 b.vote) := hv.cell 1
  have c12 : W.cell? ⟨A, 12, none⟩ = some (.bool true) := by rw [← ht]; exact hv.cell 12
  have HB := Lib.hid hb
  have HV := Lib.hid hv
  have HJR := Lib.hid jR
  have HRR := Lib.hid hR
  have HW := Lib.hid hW
  have HCP := Lib.hid hcopy
  have HLA := Lib.hid hLa
  clear h hb hv hW jR hR hcopy ht hLL hLa hLa2
  go_enter Try.func17, Try.ntmps17
  go_upto_region 1 with fail
  rw [← HW.out, HRR.out]
  go_upto_region 3 with fail
  go_cut [4] (fun v wx => v = .pointer (some ⟨W.heap.size, 0, none⟩) ∧ ∃ n, wx = (W.drewN n).alloc (.cells #[.int .i64 b.term, .int .i64 b.vote, .bool false, .int .i64 0, .int .i64 0, .string ⟨#[]⟩, .int .i64 0, .slice none 0 0] 44))
  case first =>
    go_region_held3 (fun V => V.cell? ⟨A, 0, none⟩ = some (.int .i64 b.term) ∧ V.cell? ⟨A, 1, none⟩ = some (.int .i64 b.vote)) (go_keep) (fail)
    all_goals
      go_wp2_with fail
      go_meet
      exact ⟨rfl, _, rfl⟩
  case rest =>
    obtain ⟨rfl, n, hwc⟩ := hcut
    obtain ⟨V3, rfl⟩ : ∃ V3, V3 = wc := ⟨_, rfl⟩
    obtain ⟨X, hX⟩ : ∃ X, W.heap.size = X := ⟨_, rfl⟩
    have bc : Below W.heap.size W V3 := by rw [hwc]; exact (below_draw (Below.refl W.heap.size W) n).alloc (Nat.le_refl _) _
    have jX : V3.heap[X]? = some (.cells #[.int .i64 b.term, .int .i64 b.vote, .bool false, .int .i64 0, .int .i64 0, .string ⟨#[]⟩, .int .i64 0, .slice none 0 0] 44 (0, 0)) := by rw [hwc, ← hX]; exact heap_alloc_new (W.drewN n) _
    have jRc := (bc.block R (blk_lt HJR.out)).trans HJR.out
    have hvc := HV.out.on bc
    have hbc := HB.out.trans (bc.mono HB.out.size)
    have hXA : X ≠ A := by have := HV.out.lt A HV.out.covA; omega
    have hAX : A ≠ X := hXA.symm
    have hXR : X ≠ R := by have := blk_lt HJR.out; omega
    have hXw : w.heap.size ≤ X := by have := HB.out.size; omega
    have hRA : R ≠ A := by have := hlt A HV.out.covA; have := HRR.out; omega
    have HJX := Lib.hid jX
    have HJRc := Lib.hid jRc
    have HBC := Lib.hid hbc
    have HVC := Lib.hid hvc
    rw [hX]
    clear hwc bc hX c0 c1 c12
    have a4 : V3.cell? ⟨A, 4, none⟩ = some (.int .i64 b.base) := hvc.cell 4
    have a5 : V3.cell? ⟨A, 5, none⟩ = some (.int .i64 La) := by rw [← HLA.out]; exact hvc.cell 5
    have a9 : V3.cell? ⟨A, 9, none⟩ = some (.int .i64 b.baseTerm) := hvc.cell 9
    have a10 : V3.cell? ⟨A, 10, none⟩ = some (.string b.snap) := hvc.cell 10
    have a13 : V3.cell? ⟨A, 13, none⟩ = some (.bool b.whole) := hvc.cell 13
    have a14 : V3.cell? ⟨A, 14, none⟩ = some (.int .i64 pf) := hvc.cell 14
    have x2 : V3.cell? ⟨X, 2, none⟩ = some (.bool false) := cell_blk jX 2
    have x3 : V3.cell? ⟨X, 3, none⟩ = some (.int .i64 0) := cell_blk jX 3
    have x4 : V3.cell? ⟨X, 4, none⟩ = some (.int .i64 0) := cell_blk jX 4
    have x5 : V3.cell? ⟨X, 5, none⟩ = some (.string ⟨#[]⟩) := cell_blk jX 5
    have x6 : V3.cell? ⟨X, 6, none⟩ = some (.int .i64 0) := cell_blk jX 6
    have z2 : V3.frozen? ⟨X, 2, none⟩ = false := frozen_blk jX 2
    have z3 : V3.frozen? ⟨X, 3, none⟩ = false := frozen_blk jX 3
    have z4 : V3.frozen? ⟨X, 4, none⟩ = false := frozen_blk jX 4
    have z5 : V3.frozen? ⟨X, 5, none⟩ = false := frozen_blk jX 5
    have z6 : V3.frozen? ⟨X, 6, none⟩ = false := frozen_blk jX 6
    clear hvc jX jRc hbc
    rw [hwh] at a13
    obtain ⟨WD, hWD⟩ : ∃ WD, WD = V3.setCell ⟨X, 6, none⟩ (.int .i64 pf) := ⟨_, rfl⟩
    have HFX : Hid (Fr V3 WD (fun k => k = X)) := by rw [hWD]; exact Fr.set (a := ⟨X, 6, none⟩) (Fr.refl V3 (fun k => k = X)) (Or.inl rfl) _
    have HJE : Hid (WD.heap[X]? = some (.cells #[.int .i64 b.term, .int .i64 b.vote, .bool false, .int .i64 0, .int .i64 0, .string ⟨#[]⟩, .int .i64 pf, .slice none 0 0] 44 (0, 0))) := by
      have e := set_blk (i := 6) HJX.out (.int .i64 pf)
      rw [hWD]
      exact e.trans (by simp)
    have HJXD : Hid (WD.heap[X]? = some (deB { (⟨b.term, b.vote, false, 0, 0, noT, pf, LL⟩ : De) with list := [] } (.slice none 0 0))) := HJE.out
    have HWD := Lib.hid hWD
    have HPE := Lib.hid hpe
    clear hWD hpe
    have hPD : Pb WD A S b := by
      have fX : Fr V3 WD (fun k => k = X) := HFX.out
      exact ⟨_, _, HVC.out.stays fX (fun k hk e => by have := hlt k hk; have e' : k = X := e; omega)⟩
    have hjX := HJXD.out
    have hjR : WD.heap[R]? = some (.cells #[.int .i64 0, .int .i64 0, .bool false, .int .i64 0, .int .i64 0, .string ⟨#[]⟩, .int .i64 0, .slice none 0 0] 44 (0, 0)) := (HFX.out.block R (blk_lt HJRc.out) (fun e => hXR (show R = X from e).symm)).trans HJRc.out
    have fD : Fr w WD (fun _ => False) := (Fr.ofBelow (fun _ => False) HBC.out).step HFX.out (fun j e => .inr (by have e' : j = X := e; omega))
    have y6 : WD.cell? ⟨X, 6, none⟩ = some (.int .i64 pf) := cell_blk HJE.out 6
    have y7 : WD.cell? ⟨X, 7, none⟩ = some (.slice none 0 0) := cell_blk HJE.out 7
    have fz7 : WD.frozen? ⟨X, 7, none⟩ = false := frozen_blk HJE.out 7
    have hXl : X < WD.heap.size := blk_lt hjX
    have hcp : ∀ n, Calls Try.prog 39 #[.pointer (some ⟨A, 0, none⟩), .int .i64 pf, .int .i64 La] (WD.drewN n) fun e w' => ∃ ad8 cap8, e = .returned (.slice ad8 LL.length cap8) ∧ w'.cell? ⟨X, 7, none⟩ = some (.slice none 0 0) ∧ w'.frozen? ⟨X, 7, none⟩ = false ∧ Hid (Below WD.heap.size WD w' ∧ w'.ownsRow WD.heap.size 49 4 (.slice ad8 LL.length cap8) LL.length (enC LL)) := by
      intro n
      refine (HCP.out (WD.drewN n) (hPD.on (below_draw (Below.refl _ _) n))).mono ?_
      rintro e w' ⟨v, rfl, q1, q2⟩
      obtain ⟨ad8, cap8, rfl⟩ := own_shape q2
      have q3 : Below WD.heap.size WD w' := ⟨q1.os, q1.tape, q1.output, q1.size, q1.block⟩
      have q4 := (q3.block X hXl).trans HJE.out
      exact ⟨ad8, cap8, rfl, cell_blk q4 7, frozen_blk q4 7, ⟨q3, q2⟩⟩
    have HPD := Lib.hid hPD
    have HXD := Lib.hid hjX
    have HRD := Lib.hid hjR
    have HFD := Lib.hid fD
    obtain ⟨lv5, pf5, hv5⟩ := hPD
    have d5 : WD.cell? ⟨A, 5, none⟩ = some (.int .i64 La) := by rw [← HLA.out]; exact hv5.cell 5
    clear hv5 hjX hjR fD
    go_upto_region 9 with fail
    rw [← HWD.out]
    go_cut [] (fun wx => ∃ ad8 cap8 w2, wx = w2.setCell ⟨X, 7, none⟩ (.slice ad8 LL.length cap8) ∧ Below WD.heap.size WD w2 ∧ w2.ownsRow WD.heap.size 49 4 (.slice ad8 LL.length cap8) LL.length (enC LL))
    case first =>
      go_region_with (go_at_call 39; refine (hcp _).mono ?_; rintro e1 w2 ⟨ad8, cap8, rfl, z8, zf, hx8⟩)
      all_goals
        go_wp2_with fail
        go_meet
        exact ⟨ad8, cap8, w2, rfl, hx8.out.1, hx8.out.2⟩
    case rest =>
      obtain ⟨ad8, cap8, w2, hwe, B8, O8⟩ := hcut
      obtain ⟨k0, k1, k2, k3⟩ := del_fin (d := (⟨b.term, b.vote, false, 0, 0, noT, pf, LL⟩ : De)) hlt HRR.out hXw hXR HFD.out HPD.out HXD.out HRD.out B8 O8 hwe
      obtain ⟨WE, hWE⟩ : ∃ WE, WE = ((wc.setCell ⟨A, 12, none⟩ (.bool false)).setCell ⟨A, 13, none⟩ (.bool false)).setCell ⟨A, 14, none⟩ (.int .i64 0) := ⟨_, rfl⟩
      obtain ⟨m0, m1, m2, m3, m4, m5⟩ := k3 _ hWE
      have v0 : WE.cell? ⟨X, 0, none⟩ = some (.int .i64 b.term) := cell_blk m0 0
      have v1 : WE.cell? ⟨X, 1, none⟩ = some (.int .i64 b.vote) := cell_blk m0 1
      have v2 : WE.cell? ⟨X, 2, none⟩ = some (.bool false) := cell_blk m0 2
      have v3 : WE.cell? ⟨X, 3, none⟩ = some (.int .i64 0) := cell_blk m0 3
      have v4 : WE.cell? ⟨X, 4, none⟩ = some (.int .i64 0) := cell_blk m0 4
      have v5 : WE.cell? ⟨X, 5, none⟩ = some (.string ⟨#[]⟩) := cell_blk m0 5
      have v6 : WE.cell? ⟨X, 6, none⟩ = some (.int .i64 pf) := cell_blk m0 6
      have v7 : WE.cell? ⟨X, 7, none⟩ = some (.slice ad8 LL.length cap8) := cell_blk m0 7
      have r0 : WE.cell? ⟨R, 0, none⟩ = some (.int .i64 0) := cell_blk m1 0
      have q0 : WE.frozen? ⟨R, 0, none⟩ = false := frozen_blk m1 0
      have r1 : WE.cell? ⟨R, 1, none⟩ = some (.int .i64 0) := cell_blk m1 1
      have q1 : WE.frozen? ⟨R, 1, none⟩ = false := frozen_blk m1 1
      have r2 : WE.cell? ⟨R, 2, none⟩ = some (.bool false) := cell_blk m1 2
      have q2 : WE.frozen? ⟨R, 2, none⟩ = false := frozen_blk m1 2
      have r3 : WE.cell? ⟨R, 3, none⟩ = some (.int .i64 0) := cell_blk m1 3
      have q3 : WE.frozen? ⟨R, 3, none⟩ = false := frozen_blk m1 3
      have r4 : WE.cell? ⟨R, 4, none⟩ = some (.int .i64 0) := cell_blk m1 4
      have q4 : WE.frozen? ⟨R, 4, none⟩ = false := frozen_blk m1 4
      have r5 : WE.cell? ⟨R, 5, none⟩ = some (.string ⟨#[]⟩) := cell_blk m1 5
      have q5 : WE.frozen? ⟨R, 5, none⟩ = false := frozen_blk m1 5
      have r6 : WE.cell? ⟨R, 6, none⟩ = some (.int .i64 0) := cell_blk m1 6
      have q6 : WE.frozen? ⟨R, 6, none⟩ = false := frozen_blk m1 6
      have r7 : WE.cell? ⟨R, 7, none⟩ = some (.slice none 0 0) := cell_blk m1 7
      have q7 : WE.frozen? ⟨R, 7, none⟩ = false := frozen_blk m1 7
      obtain ⟨lv6, pf6, hv6⟩ := k2
      have t12 : wc.cell? ⟨A, 12, none⟩ = some (.bool b.touched) := hv6.cell 12
      have t13 : wc.cell? ⟨A, 13, none⟩ = some (.bool b.whole) := hv6.cell 13
      have t14 : wc.cell? ⟨A, 14, none⟩ = some (.int .i64 pf6) := hv6.cell 14
      have s12 : wc.frozen? ⟨A, 12, none⟩ = false := frozen_blk hv6.ob 12
      have s13 : wc.frozen? ⟨A, 13, none⟩ = false := frozen_blk hv6.ob 13
      have s14 : wc.frozen? ⟨A, 14, none⟩ = false := frozen_blk hv6.ob 14
      have HM2 := Lib.hid m2
      have HM3 := Lib.hid m3
      have HM4 := Lib.hid m4
      have HM5 := Lib.hid m5
      have HWE := Lib.hid hWE
      clear hv6 k0 k1 k3 m0 m1 m2 m3 m4 m5 hWE B8 O8 hwe hcp d5 y6 y7 fz7
      go_upto_region 11 with fail
      rw [← HWE.out]
      go_wp2
      refine bodyPost_ret (v := .tuple #[deV (⟨b.term, b.vote, false, 0, 0, noT, pf, LL⟩ : De) (.slice ad8 LL.length cap8), .bool true]) (by simp [results, Try.results17, go_sem, *]) rfl ⟨ad8, cap8, rfl, HM3.out, HM4.out, HM5.out⟩


set_option maxHeartbeats 4000000 in
set_option maxRecDepth 100000 in
theorem delta_none (h : Pv w A S b lv pf) (ht : b.touched = true) (hwh : b.whole = false) (hf1 : b.base < b.fr) (hpf : pf = 0) (hpe : b.fr = b.last + 1) : Calls Try.prog 17 #[.pointer (some ⟨A, 0, none⟩)] w fun e w' => DelAns w A S b ⟨b.term, b.vote, false, 0, 0, noT, b.fr, b.log.drop (b.fr - b.base - 1).toNat⟩ e w' := by
  have hlt := h.lt
  have l1 := h.len
  have b0 := h.b0
  have b1 := h.b1
  obtain ⟨La, hLa⟩ : ∃ La, b.last = La := ⟨_, rfl⟩
  have hLa2 : La = b.base + b.log.length := hLa.symm
  have l2 : La ≤ 4398047511105 := by omega
  have l3 : 0 ≤ La := by omega
  obtain ⟨LL, hLL⟩ : ∃ LL, b.log.drop (b.fr - b.base - 1).toNat = LL := ⟨_, rfl⟩
  rw [hLL]
  rw [hLa] at hpe
  have hpz : ¬ 0 < pf := by omega
  obtain ⟨L1, hL1⟩ : ∃ L1, La + 1 = L1 := ⟨_, rfl⟩
  have i1 : IntKind.i64.wrap (La + 1) = L1 := by rw [IntKind.wrap_i64]; omega
  rw [hpe, hL1]
  have hcopy : ∀ V, Pb V A S b → Calls Try.prog 39 #[.pointer (some ⟨A, 0, none⟩), .int .i64 L1, .int .i64 La] V fun e w' => ∃ v, e = .returned v ∧ Below V.heap.size V w' ∧ w'.ownsRow V.heap.size 49 4 v LL.length (enC LL) := by
    intro V hV
    refine (copied_any hV L1 La (by omega) (by omega) (by omega)).mono ?_
    rintro e w' ⟨v, rfl, q1, q2⟩
    have el : (b.log.drop (L1 - b.base - 1).toNat).take (La + 1 - L1).toNat = LL := by
      rw [List.take_of_length_le (by rw [List.length_drop]; omega), ← hLL]
      rw [show L1 = b.fr by omega]
    rw [el] at q2
    exact ⟨v, rfl, q1, q2⟩
  obtain ⟨W, hW⟩ : ∃ W, W = w.alloc (.cells #[.int .i64 0, .int .i64 0, .bool false, .int .i64 0, .int .i64 0, .string ⟨#[]⟩, .int .i64 0, .slice none 0 0] 44) := ⟨_, rfl⟩
  obtain ⟨R, hR⟩ : ∃ R, w.heap.size = R := ⟨_, rfl⟩
  have hb : Below w.heap.size w W := by rw [hW]; exact (Below.refl _ w).alloc (Nat.le_refl _) _
  have jR : W.heap[R]? = some (.cells #[.int .i64 0, .int .i64 0, .bool false, .int .i64 0, .int .i64 0, .string ⟨#[]⟩, .int .i64 0, .slice none 0 0] 44 (0, 0)) := by rw [hW, ← hR]; exact heap_alloc_new w _
  have hv := h.on hb
  have c0 : W.cell? ⟨A, 0, none⟩ = some (.int .i64 b.term) := hv.cell 0
  have c1 : W.cell? ⟨A, 1, none⟩ = some (.int .i64 b.vote) := hv.cell 1
  have c12 : W.cell? ⟨A, 12, none⟩ = some (.bool true) := by rw [← ht]; exact hv.cell 12
  have HB := Lib.hid hb
  have HV := Lib.hid hv
  have HJR := Lib.hid jR
  have HRR := Lib.hid hR
  have HW := Lib.hid hW
  have HCP := Lib.hid hcopy
  have HLA := Lib.hid hLa
  clear h hb hv hW jR hR hcopy ht hLL hLa hLa2
  go_enter Try.func17, Try.ntmps17
  go_upto_region 1 with fail
  rw [← HW.out, HRR.out]
  go_upto_region 3 with fail
  go_cut [4] (fun v wx => v = .pointer (some ⟨W.heap.size, 0, none⟩) ∧ ∃ n, wx = (W.drewN n).alloc (.cells #[.int .i64 b.term, .int .i64 b.vote, .bool false, .int .i64 0, .int .i64 0, .string ⟨#[]⟩, .int .i64 0, .slice none 0 0] 44))
  case first =>
    go_region_held3 (fun V => V.cell? ⟨A, 0, none⟩ = some (.int .i64 b.term) ∧ V.cell? ⟨A, 1, none⟩ = some (.int .i64 b.vote)) (go_keep) (fail)
    all_goals
      go_wp2_with fail
      go_meet
      exact ⟨rfl, _, rfl⟩
  case rest =>
    obtain ⟨rfl, n, hwc⟩ := hcut
    obtain ⟨V3, rfl⟩ : ∃ V3, V3 = wc := ⟨_, rfl⟩
    obtain ⟨X, hX⟩ : ∃ X, W.heap.size = X := ⟨_, rfl⟩
    have bc : Below W.heap.size W V3 := by rw [hwc]; exact (below_draw (Below.refl W.heap.size W) n).alloc (Nat.le_refl _) _
    have jX : V3.heap[X]? = some (.cells #[.int .i64 b.term, .int .i64 b.vote, .bool false, .int .i64 0, .int .i64 0, .string ⟨#[]⟩, .int .i64 0, .slice none 0 0] 44 (0, 0)) := by rw [hwc, ← hX]; exact heap_alloc_new (W.drewN n) _
    have jRc := (bc.block R (blk_lt HJR.out)).trans HJR.out
    have hvc := HV.out.on bc
    have hbc := HB.out.trans (bc.mono HB.out.size)
    have hXA : X ≠ A := by have := HV.out.lt A HV.out.covA; omega
    have hAX : A ≠ X := hXA.symm
    have hXR : X ≠ R := by have := blk_lt HJR.out; omega
    have hXw : w.heap.size ≤ X := by have := HB.out.size; omega
    have hRA : R ≠ A := by have := hlt A HV.out.covA; have := HRR.out; omega
    have HJX := Lib.hid jX
    have HJRc := Lib.hid jRc
    have HBC := Lib.hid hbc
    have HVC := Lib.hid hvc
    rw [hX]
    clear hwc bc hX c0 c1 c12
    have a4 : V3.cell? ⟨A, 4, none⟩ = some (.int .i64 b.base) := hvc.cell 4
    have a5 : V3.cell? ⟨A, 5, none⟩ = some (.int .i64 La) := by rw [← HLA.out]; exact hvc.cell 5
    have a9 : V3.cell? ⟨A, 9, none⟩ = some (.int .i64 b.baseTerm) := hvc.cell 9
    have a10 : V3.cell? ⟨A, 10, none⟩ = some (.string b.snap) := hvc.cell 10
    have a13 : V3.cell? ⟨A, 13, none⟩ = some (.bool b.whole) := hvc.cell 13
    have a14 : V3.cell? ⟨A, 14, none⟩ = some (.int .i64 pf) := hvc.cell 14
    have x2 : V3.cell? ⟨X, 2, none⟩ = some (.bool false) := cell_blk jX 2
    have x3 : V3.cell? ⟨X, 3, none⟩ = some (.int .i64 0) := cell_blk jX 3
    have x4 : V3.cell? ⟨X, 4, none⟩ = some (.int .i64 0) := cell_blk jX 4
    have x5 : V3.cell? ⟨X, 5, none⟩ = some (.string ⟨#[]⟩) := cell_blk jX 5
    have x6 : V3.cell? ⟨X, 6, none⟩ = some (.int .i64 0) := cell_blk jX 6
    have z2 : V3.frozen? ⟨X, 2, none⟩ = false := frozen_blk jX 2
    have z3 : V3.frozen? ⟨X, 3, none⟩ = false := frozen_blk jX 3
    have z4 : V3.frozen? ⟨X, 4, none⟩ = false := frozen_blk jX 4
    have z5 : V3.frozen? ⟨X, 5, none⟩ = false := frozen_blk jX 5
    have z6 : V3.frozen? ⟨X, 6, none⟩ = false := frozen_blk jX 6
    clear hvc jX jRc hbc
    rw [hwh] at a13
    obtain ⟨WD, hWD⟩ : ∃ WD, WD = V3.setCell ⟨X, 6, none⟩ (.int .i64 L1) := ⟨_, rfl⟩
    have HFX : Hid (Fr V3 WD (fun k => k = X)) := by rw [hWD]; exact Fr.set (a := ⟨X, 6, none⟩) (Fr.refl V3 (fun k => k = X)) (Or.inl rfl) _
    have HJE : Hid (WD.heap[X]? = some (.cells #[.int .i64 b.term, .int .i64 b.vote, .bool false, .int .i64 0, .int .i64 0, .string ⟨#[]⟩, .int .i64 L1, .slice none 0 0] 44 (0, 0))) := by
      have e := set_blk (i := 6) HJX.out (.int .i64 L1)
      rw [hWD]
      exact e.trans (by simp)
    have HJXD : Hid (WD.heap[X]? = some (deB { (⟨b.term, b.vote, false, 0, 0, noT, L1, LL⟩ : De) with list := [] } (.slice none 0 0))) := HJE.out
    have HWD := Lib.hid hWD
    have HPE := Lib.hid hpe
    clear hWD hpe
    have hPD : Pb WD A S b := by
      have fX : Fr V3 WD (fun k => k = X) := HFX.out
      exact ⟨_, _, HVC.out.stays fX (fun k hk e => by have := hlt k hk; have e' : k = X := e; omega)⟩
    have hjX := HJXD.out
    have hjR : WD.heap[R]? = some (.cells #[.int .i64 0, .int .i64 0, .bool false, .int .i64 0, .int .i64 0, .string ⟨#[]⟩, .int .i64 0, .slice none 0 0] 44 (0, 0)) := (HFX.out.block R (blk_lt HJRc.out) (fun e => hXR (show R = X from e).symm)).trans HJRc.out
    have fD : Fr w WD (fun _ => False) := (Fr.ofBelow (fun _ => False) HBC.out).step HFX.out (fun j e => .inr (by have e' : j = X := e; omega))
    have y6 : WD.cell? ⟨X, 6, none⟩ = some (.int .i64 L1) := cell_blk HJE.out 6
    have y7 : WD.cell? ⟨X, 7, none⟩ = some (.slice none 0 0) := cell_blk HJE.out 7
    have fz7 : WD.frozen? ⟨X, 7, none⟩ = false := frozen_blk HJE.out 7
    have hXl : X < WD.heap.size := blk_lt hjX
    have hcp : ∀ n, Calls Try.prog 39 #[.pointer (some ⟨A, 0, none⟩), .int .i64 L1, .int .i64 La] (WD.drewN n) fun e w' => ∃ ad8 cap8, e = .returned (.slice ad8 LL.length cap8) ∧ w'.cell? ⟨X, 7, none⟩ = some (.slice none 0 0) ∧ w'.frozen? ⟨X, 7, none⟩ = false ∧ Hid (Below WD.heap.size WD w' ∧ w'.ownsRow WD.heap.size 49 4 (.slice ad8 LL.length cap8) LL.length (enC LL)) := by
      intro n
      refine (HCP.out (WD.drewN n) (hPD.on (below_draw (Below.refl _ _) n))).mono ?_
      rintro e w' ⟨v, rfl, q1, q2⟩
      obtain ⟨ad8, cap8, rfl⟩ := own_shape q2
      have q3 : Below WD.heap.size WD w' := ⟨q1.os, q1.tape, q1.output, q1.size, q1.block⟩
      have q4 := (q3.block X hXl).trans HJE.out
      exact ⟨ad8, cap8, rfl, cell_blk q4 7, frozen_blk q4 7, ⟨q3, q2⟩⟩
    have HPD := Lib.hid hPD
    have HXD := Lib.hid hjX
    have HRD := Lib.hid hjR
    have HFD := Lib.hid fD
    obtain ⟨lv5, pf5, hv5⟩ := hPD
    have d5 : WD.cell? ⟨A, 5, none⟩ = some (.int .i64 La) := by rw [← HLA.out]; exact hv5.cell 5
    clear hv5 hjX hjR fD
    go_upto_region 9 with fail
    rw [← HWD.out]
    go_cut [] (fun wx => ∃ ad8 cap8 w2, wx = w2.setCell ⟨X, 7, none⟩ (.slice ad8 LL.length cap8) ∧ Below WD.heap.size WD w2 ∧ w2.ownsRow WD.heap.size 49 4 (.slice ad8 LL.length cap8) LL.length (enC LL))
    case first =>
      go_region_with (go_at_call 39; refine (hcp _).mono ?_; rintro e1 w2 ⟨ad8, cap8, rfl, z8, zf, hx8⟩)
      all_goals
        go_wp2_with fail
        go_meet
        exact ⟨ad8, cap8, w2, rfl, hx8.out.1, hx8.out.2⟩
    case rest =>
      obtain ⟨ad8, cap8, w2, hwe, B8, O8⟩ := hcut
      obtain ⟨k0, k1, k2, k3⟩ := del_fin (d := (⟨b.term, b.vote, false, 0, 0, noT, L1, LL⟩ : De)) hlt HRR.out hXw hXR HFD.out HPD.out HXD.out HRD.out B8 O8 hwe
      obtain ⟨WE, hWE⟩ : ∃ WE, WE = ((wc.setCell ⟨A, 12, none⟩ (.bool false)).setCell ⟨A, 13, none⟩ (.bool false)).setCell ⟨A, 14, none⟩ (.int .i64 0) := ⟨_, rfl⟩
      obtain ⟨m0, m1, m2, m3, m4, m5⟩ := k3 _ hWE
      have v0 : WE.cell? ⟨X, 0, none⟩ = some (.int .i64 b.term) := cell_blk m0 0
      have v1 : WE.cell? ⟨X, 1, none⟩ = some (.int .i64 b.vote) := cell_blk m0 1
      have v2 : WE.cell? ⟨X, 2, none⟩ = some (.bool false) := cell_blk m0 2
      have v3 : WE.cell? ⟨X, 3, none⟩ = some (.int .i64 0) := cell_blk m0 3
      have v4 : WE.cell? ⟨X, 4, none⟩ = some (.int .i64 0) := cell_blk m0 4
      have v5 : WE.cell? ⟨X, 5, none⟩ = some (.string ⟨#[]⟩) := cell_blk m0 5
      have v6 : WE.cell? ⟨X, 6, none⟩ = some (.int .i64 L1) := cell_blk m0 6
      have v7 : WE.cell? ⟨X, 7, none⟩ = some (.slice ad8 LL.length cap8) := cell_blk m0 7
      have r0 : WE.cell? ⟨R, 0, none⟩ = some (.int .i64 0) := cell_blk m1 0
      have q0 : WE.frozen? ⟨R, 0, none⟩ = false := frozen_blk m1 0
      have r1 : WE.cell? ⟨R, 1, none⟩ = some (.int .i64 0) := cell_blk m1 1
      have q1 : WE.frozen? ⟨R, 1, none⟩ = false := frozen_blk m1 1
      have r2 : WE.cell? ⟨R, 2, none⟩ = some (.bool false) := cell_blk m1 2
      have q2 : WE.frozen? ⟨R, 2, none⟩ = false := frozen_blk m1 2
      have r3 : WE.cell? ⟨R, 3, none⟩ = some (.int .i64 0) := cell_blk m1 3
      have q3 : WE.frozen? ⟨R, 3, none⟩ = false := frozen_blk m1 3
      have r4 : WE.cell? ⟨R, 4, none⟩ = some (.int .i64 0) := cell_blk m1 4
      have q4 : WE.frozen? ⟨R, 4, none⟩ = false := frozen_blk m1 4
      have r5 : WE.cell? ⟨R, 5, none⟩ = some (.string ⟨#[]⟩) := cell_blk m1 5
      have q5 : WE.frozen? ⟨R, 5, none⟩ = false := frozen_blk m1 5
      have r6 : WE.cell? ⟨R, 6, none⟩ = some (.int .i64 0) := cell_blk m1 6
      have q6 : WE.frozen? ⟨R, 6, none⟩ = false := frozen_blk m1 6
      have r7 : WE.cell? ⟨R, 7, none⟩ = some (.slice none 0 0) := cell_blk m1 7
      have q7 : WE.frozen? ⟨R, 7, none⟩ = false := frozen_blk m1 7
      obtain ⟨lv6, pf6, hv6⟩ := k2
      have t12 : wc.cell? ⟨A, 12, none⟩ = some (.bool b.touched) := hv6.cell 12
      have t13 : wc.cell? ⟨A, 13, none⟩ = some (.bool b.whole) := hv6.cell 13
      have t14 : wc.cell? ⟨A, 14, none⟩ = some (.int .i64 pf6) := hv6.cell 14
      have s12 : wc.frozen? ⟨A, 12, none⟩ = false := frozen_blk hv6.ob 12
      have s13 : wc.frozen? ⟨A, 13, none⟩ = false := frozen_blk hv6.ob 13
      have s14 : wc.frozen? ⟨A, 14, none⟩ = false := frozen_blk hv6.ob 14
      have HM2 := Lib.hid m2
      have HM3 := Lib.hid m3
      have HM4 := Lib.hid m4
      have HM5 := Lib.hid m5
      have HWE := Lib.hid hWE
      clear hv6 k0 k1 k3 m0 m1 m2 m3 m4 m5 hWE B8 O8 hwe hcp d5 y6 y7 fz7
      go_upto_region 11 with fail
      rw [← HWE.out]
      go_wp2
      refine bodyPost_ret (v := .tuple #[deV (⟨b.term, b.vote, false, 0, 0, noT, L1, LL⟩ : De) (.slice ad8 LL.length cap8), .bool true]) (by simp [results, Try.results17, go_sem, *]) rfl ⟨ad8, cap8, rfl, HM3.out, HM4.out, HM5.out⟩


theorem delta_yes (h : Pb w A S b) (ht : b.touched = true) (hfr : b.whole = false → b.base < b.fr ∧ b.fr ≤ b.last + 1) : Calls Try.prog 17 #[.pointer (some ⟨A, 0, none⟩)] w fun e w' => DelAns w A S b b.change e w' := by
  obtain ⟨lv, pf, hv⟩ := h
  cases hwh : b.whole with
  | true =>
    have e : b.change = ⟨b.term, b.vote, true, b.base, b.baseTerm, b.snap, b.base + 1, b.log⟩ := by unfold Bs.change; rw [if_pos hwh]
    rw [e]
    exact delta_whole hv ht hwh
  | false =>
    have e : b.change = ⟨b.term, b.vote, false, 0, 0, noT, b.fr, b.log.drop (b.fr - b.base - 1).toNat⟩ := by unfold Bs.change; rw [if_neg (by rw [hwh]; decide)]
    rw [e]
    obtain ⟨f1, f2⟩ := hfr hwh
    rcases hv.fm with q | ⟨q1, q2⟩ | ⟨q1, q2⟩
    · rw [hwh] at q; cases q
    · exact delta_none hv ht hwh f1 q1 q2
    · exact delta_some hv ht hwh f1 f2 q1 q2
end
end Go.Proofs.Ytmiagjcihmenfaa
