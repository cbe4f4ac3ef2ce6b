/- The walk of the document's Delta of a ballot that was touched. -/
import Derived.Test.YtmiagjcihmenfaaWo
import Derived.Test.YtmiagjcihmenfaaWj
import Derived.Test.YtmiagjcihmenfaaXVf
import Derived.Test.YtmiagjcihmenfaaWr
namespace Go.Proofs.Ytmiagjcihmenfaa
open Go.RowKit

section
variable {ρ : Operand → Value} {X : World} {d : Option Tmp} {ty : TypeId} {ps : String} {af : Array Edge} {g : Option (Nat × Bool)}
theorem op_store32 {x y : Operand} {B i : Nat} {a : Option Addr} {n m : Nat} {u : Value} (e : ρ x = .pointer (some ⟨B, i, none⟩)) (e2 : ρ y = .slice a n m) (c : X.cell? ⟨B, i, none⟩ = some u) (z : X.frozen? ⟨B, i, none⟩ = false) : (execOp ρ ⟨d, .store 32 x y, ty, ps, af, g⟩).run Try.prog X = .ok .skip (X.setCell ⟨B, i, none⟩ (.slice a n m)) := by
  simp only [execOp, e, e2]
  go_simp
end
section
variable {w w' W V : World} {A : Nat} {S T Q Q' : Nat → Prop} {b c : Bs} {lv ov : Value} {O : List (Ms × Value)}
theorem Es.mono {L : List En} {v : Value} (h : Es w S L v) (hs : ∀ k, T k → S k) : Es w T L v := h.stays (Fr.refl _ _) (fun k q => .inl (hs k q))
/-- append(none, log[p:]...): the new row lies behind all that there was. -/
theorem ens_tail {L : List En} {ad : Option Addr} {cap p : Nat} (hL : Es V S L (.slice ad L.length cap)) (hp : p ≤ L.length) (hz : L.length ≤ 900000) : ∃ ad' cap', (∀ X : World, (Instr.sliceAt 32 (.slice ad L.length cap) (some (.int .i64 (p : Int))) none none).run Try.prog X = .ok (.slice ad' (L.drop p).length cap') X) ∧
    ∀ X : World, Below V.heap.size V X → ∃ ad2 cap2 X', (Builtin.append_ #[32, 32] 32 #[.slice none 0 0, .slice ad' (L.drop p).length cap']).run Try.prog X = .ok (.slice ad2 (L.drop p).length cap2) X' ∧ Below X.heap.size X X' ∧ Es X' (fun k => k < V.heap.size) (L.drop p) (.slice ad2 (L.drop p).length cap2) := by
  obtain ⟨ad', cap', h1, h2⟩ := drop_slice hL hp
  refine ⟨ad', cap', h1, fun X hX => ?_⟩
  obtain ⟨ad0, cap0, h3, h4⟩ := drop_slice (hL.on hX) hp
  have e1 := (h1 X).symm.trans (h3 X)
  simp only [Result.ok.injEq, Value.slice.injEq, and_true, true_and] at e1
  obtain ⟨rfl, rfl⟩ := e1
  obtain ⟨v', w', hrun, ho, hg, hat⟩ := ens_run (w := X) (v := .slice none 0 0) (base := X.heap.size) (n := 0) (xs := []) (ad := ad') (m := (L.drop p).length) (c := cap') (news := enC (L.drop p)) (World.ownsRow_nil _ _ _ _) (Nat.le_refl _) h4 (enC_one _) (by simp; omega)
  rw [Nat.zero_add, List.nil_append] at ho
  obtain ⟨ad2, cap2, rfl⟩ := own_shape ho
  have hb : Below X.heap.size X w' := ⟨hg.os, hg.tape, hg.output, hg.size, fun k hk => hg.block k hk (by simp [Value.ownBlock])⟩
  exact ⟨ad2, cap2, w', hrun, hb, Es.own ho (fun k hk q => by have := (ho.lt k hk).1; have q' : k < V.heap.size := q; have := hX.size; omega)⟩
/-- The log keeps off what is new, too. -/
theorem Rb.avoid (h : Rb w A S b) (hb : Below w.heap.size w w') : Rb w' A S (b.wav (fun k => b.av k ∨ (w.heap.size ≤ k ∧ k < w'.heap.size))) := by
  obtain ⟨lv, ov, O, h⟩ := h
  have hv := h.stays (Fr.ofBelow (fun _ => False) hb) (fun _ _ q => q) (h.log.on hb) (fun p hp => (h.ls p hp).on hb)
  refine ⟨lv, ov, O, ⟨hv.ob, ?_, hv.eo, hv.out, hv.ls, hv.covA, hv.cov, hv.lt, hv.few, hv.len, hv.b0, hv.b1, fun k q => ?_⟩⟩
  · refine h.log.stays (Fr.ofBelow _ hb) (fun k q => ?_)
    rcases q with q | q | q
    · exact .inl (.inl q)
    · exact .inl (.inr q)
    · exact .inr q
  · rcases q with q | q
    · exact hv.avl k q
    · exact q.2
/-- The log keeps off less. -/
theorem Rb.fewer (h : Rb w A S (b.wav Q)) (hq : ∀ k, Q' k → Q k) : Rb w A S (b.wav Q') := by
  obtain ⟨lv, ov, O, h⟩ := h
  refine ⟨lv, ov, O, ⟨h.ob, h.log.mono (fun k q => ?_), h.eo, h.out, h.ls, h.covA, h.cov, h.lt, h.few, h.len, h.b0, h.b1, fun k q => h.avl k (hq k q)⟩⟩
  rcases q with q | q
  · exact .inl q
  · exact .inr (hq k q)
/-- What the log keeps off may be written. -/
theorem Rb.aside (h : Rb w A S b) (ho : b.out = []) (hf : Fr w w' Q) (hQ : ∀ k, Q k → b.av k ∨ w.heap.size ≤ k) (hd : ∀ k, S k → ¬ Q k) : Rb w' A S b := by
  obtain ⟨lv, ov, O, h⟩ := h
  have eO : O = [] := by
    have := h.eo
    rw [ho] at this
    exact List.map_eq_nil_iff.1 this
  subst eO
  have hf2 : Fr w w' (fun k => Q k ∧ k < w.heap.size) := ⟨hf.os, hf.tape, hf.output, hf.size, fun k hk q => hf.block k hk (fun z => q ⟨z, hk⟩)⟩
  refine ⟨lv, ov, [], h.stays hf hd (h.log.stays (hf2.mono (fun k q => ?_)) (fun _ q => .inl q)) (fun p hp => by cases hp)⟩
  rcases hQ k q.1 with z | z
  · exact .inr z
  · have := q.2
    omega
/-- What the document's Delta answers. -/
def RelAns (w : World) (A : Nat) (S : Nat → Prop) (b : Bs) (d : De) (e : Ending) (w' : World) : Prop := ∃ ad cap, e = .returned (.tuple #[deV d (.slice ad d.list.length cap), .bool true]) ∧ Es w' S d.list (.slice ad d.list.length cap) ∧ Rb w' A S { b with touched := false, whole := false, fr := b.last + 1 } ∧ Fr w w' S
/-- The end of it: all is put together. -/
theorem rel_fin {W0 : World} {R X N : Nat} {d : De} {v : Value} (h : Rb w A S b) (ho : b.out = []) (hR : w.heap.size ≤ R) (hX : w.heap.size ≤ X) (hRN : R < N) (hb : Below w.heap.size w W0) (jX : W0.heap[X]? = some (deB d v)) (jR : W0.heap[R]? = some (.cells #[.int .i64 0, .int .i64 0, .bool false, .int .i64 0, .int .i64 0, .string ⟨#[]⟩, .int .i64 0, .slice none 0 0] 44 (0, 0))) (hE : Es W0 (fun k => k < N) d.list v) :
    ∀ W1, W1 = (W0.setCell ⟨A, 26, none⟩ (.bool false)).setCell ⟨A, 27, none⟩ (.bool false) → Rb W1 A S { b with touched := false, whole := false } ∧ W1.heap[X]? = some (deB d v) ∧ W1.heap[R]? = some (.cells #[.int .i64 0, .int .i64 0, .bool false, .int .i64 0, .int .i64 0, .string ⟨#[]⟩, .int .i64 0, .slice none 0 0] 44 (0, 0)) ∧
      ∀ n W2, W2 = (W1.drewN n).setCell ⟨A, 28, none⟩ (.int .i64 (b.last + 1)) → W2.heap[X]? = some (deB d v) ∧ W2.heap[R]? = some (.cells #[.int .i64 0, .int .i64 0, .bool false, .int .i64 0, .int .i64 0, .string ⟨#[]⟩, .int .i64 0, .slice none 0 0] 44 (0, 0)) ∧ (setDe W2 R d v).heap[R]? = some (deB d v) ∧ Es (setDe W2 R d v) S d.list v ∧ Rb (setDe W2 R d v) A S { b with touched := false, whole := false, fr := b.last + 1 } ∧ Fr w (setDe W2 R d v) S := by
  have hlt := h.lt
  have hnS : ∀ k, S k → k ≠ X ∧ k ≠ R ∧ k < N := fun k q => by have := hlt k q; omega
  have h0 := h.avoid hb
  obtain ⟨Q0, hQ0⟩ : ∃ Q0 : Nat → Prop, Q0 = fun k => b.av k ∨ (w.heap.size ≤ k ∧ k < W0.heap.size) := ⟨_, rfl⟩
  rw [← hQ0] at h0
  have hRs := blk_lt jR
  intro W1 hW1
  obtain ⟨a1, f1⟩ := h0.setf (i := 26) (v := .bool false) (b' := { b.wav Q0 with touched := false }) (fun _ _ => rfl) rfl rfl rfl
  obtain ⟨a2, f2⟩ := a1.setf (i := 27) (v := .bool false) (b' := { b.wav Q0 with touched := false, whole := false }) (fun _ _ => rfl) rfl rfl rfl
  have f12 := f1.trans f2
  rw [← hW1] at a2 f12
  have jX1 := (f12.block X (blk_lt jX) (fun q => (hnS X q).1 rfl)).trans jX
  have jR1 := (f12.block R hRs (fun q => (hnS R q).2.1 rfl)).trans jR
  refine ⟨Rb.fewer (b := { b with touched := false, whole := false }) (Q := Q0) (Q' := b.av) a2 (fun k q => by rw [hQ0]; exact .inl q), jX1, jR1, ?_⟩
  intro n W2 hW2
  obtain ⟨a3, f3⟩ := (a2.drewN n).setf (i := 28) (v := .int .i64 (b.last + 1)) (b' := { b.wav Q0 with touched := false, whole := false, fr := b.last + 1 }) (fun _ _ => rfl) rfl rfl rfl
  have f3' : Fr W1 ((W1.drewN n).setCell ⟨A, 28, none⟩ (.int .i64 (b.last + 1))) S := ((Fr.refl W1 S).drewN n).trans f3
  rw [← hW2] at a3 f3'
  have jX2 := (f3'.block X (blk_lt jX1) (fun q => (hnS X q).1 rfl)).trans jX1
  have jR2 := (f3'.block R (blk_lt jR1) (fun q => (hnS R q).2.1 rfl)).trans jR1
  obtain ⟨e1, e2⟩ := setDe_blk d v jR2
  have hF : Fr w (setDe W2 R d v) S := (((Fr.ofBelow S hb).trans f12).trans f3').step e2 (fun j e => .inr (by have e' : j = R := e; omega))
  have hE1 : Es (setDe W2 R d v) (fun k => k < N) d.list v := by
    refine hE.stays (((f12.trans f3').mono (fun k q => (hnS k q).2.2)).trans (e2.mono (fun k e => ?_))) (fun k q => .inl q)
    have e' : k = R := e
    rw [e']
    exact hRN
  have hRb := a3.aside (Q := fun k => k = R) (show b.out = [] from ho) e2 (fun k e => .inl ?_) (fun k q e => (hnS k q).2.1 e)
  · exact ⟨jX2, jR2, e1, hE1.mono (fun k q => (hnS k q).2.2), Rb.fewer (b := { b with touched := false, whole := false, fr := b.last + 1 }) (Q := Q0) (Q' := b.av) hRb (fun k q => by rw [hQ0]; exact .inl q), hF⟩
  · have e' : k = R := e
    show Q0 k
    rw [hQ0, e']
    exact .inr ⟨hR, hRs⟩
set_option maxHeartbeats 4000000 in
set_option maxRecDepth 100000 in
theorem refdelta_whole (h : Rb w A S b) (ho : b.out = []) (ht : b.touched = true) (hwh : b.whole = true) : Calls Try.prog 18 #[.pointer (some ⟨A, 0, none⟩)] w fun e w' => RelAns w A S b ⟨b.term, b.vote, true, b.base, b.baseTerm, b.snap, b.base + 1, b.log⟩ e w' := by
  have hlt := h.lt
  obtain ⟨l1, b0, b1⟩ := h.len
  obtain ⟨p, D, FR, hpl, hpD, hFR, hD⟩ : ∃ (p : Nat) (D : List En) (FR : Int), p ≤ b.log.length ∧ b.log.drop p = D ∧ FR = b.base + 1 + p ∧ ⟨b.term, b.vote, true, b.base, b.baseTerm, b.snap, b.base + 1, b.log⟩ = (⟨b.term, b.vote, true, b.base, b.baseTerm, b.snap, FR, D⟩ : De) := by
    exact ⟨0, b.log, b.base + 1, Nat.zero_le _, rfl, by omega, rfl⟩
  rw [hD]
  have hFr : b.base + 1 = FR := by
    have := congrArg De.fr hD
    exact this
  have HFr := Lib.hid hFr
  clear hFr
  obtain ⟨La, hLa⟩ : ∃ La, b.last = La := ⟨_, rfl⟩
  have hLa2 : La = b.base + b.log.length := hLa.symm
  have l2 : La ≤ 4398047511105 := by omega
  have l3 : 0 ≤ La := by omega
  have i0 : IntKind.i64.wrap (b.base + 1) = b.base + 1 := by rw [IntKind.wrap_i64]; omega
  have i1 : IntKind.i64.wrap (FR - b.base) = (p : Int) + 1 := by rw [IntKind.wrap_i64]; omega
  have i2 : IntKind.i64.wrap ((p : Int) + 1 - 1) = (p : Int) := by rw [IntKind.wrap_i64]; omega
  have i3 : IntKind.i64.wrap (La + 1) = La + 1 := by rw [IntKind.wrap_i64]; omega
  obtain ⟨W, hW⟩ : ∃ W, W = w.alloc (.cells #[.int .i64 0, .int .i64 0, .bool false, .int .i64 0, .int .i64 0, .string ⟨#[]⟩, .int .i64 0, .slice none 0 0] 44) := ⟨_, rfl⟩
  obtain ⟨R, hR⟩ : ∃ R, w.heap.size = R := ⟨_, rfl⟩
  have hb : Below w.heap.size w W := by rw [hW]; exact (Below.refl _ w).alloc (Nat.le_refl _) _
  have jR : W.heap[R]? = some (.cells #[.int .i64 0, .int .i64 0, .bool false, .int .i64 0, .int .i64 0, .string ⟨#[]⟩, .int .i64 0, .slice none 0 0] 44 (0, 0)) := by rw [hW, ← hR]; exact heap_alloc_new w _
  have HH := Lib.hid h
  obtain ⟨lv, ov, O, hv0⟩ := h.on hb
  have hA := hv0.lt A hv0.covA
  have c2 : W.cell? ⟨A, 2, none⟩ = some (.int .i64 b.term) := hv0.cell 2
  have c3 : W.cell? ⟨A, 3, none⟩ = some (.int .i64 b.vote) := hv0.cell 3
  have c28 : W.cell? ⟨A, 28, none⟩ = some (.int .i64 b.fr) := hv0.cell 28
  have c26 : W.cell? ⟨A, 26, none⟩ = some (.bool true) := by rw [← ht]; exact hv0.cell 26
  have hAw := hlt A hv0.covA
  have hcA := hv0.covA
  have HB := Lib.hid hb
  have HJR := Lib.hid jR
  have HRR := Lib.hid hR
  have HW := Lib.hid hW
  have HLA := Lib.hid hLa
  have HPD := Lib.hid hpD
  have HHO := Lib.hid ho
  clear h hb hv0 hW jR hR ht hLa hLa2 hpD hD ho hFR
  go_enter Try.func18, Try.ntmps18
  go_upto_region 1 with fail
  rw [← HW.out, HRR.out]
  go_upto_region 3 with fail
  go_cut [4] (fun v wx => v = .pointer (some ⟨W.heap.size, 0, none⟩) ∧ ∃ n, wx = (W.drewN n).alloc (.cells #[.int .i64 b.term, .int .i64 b.vote, .bool false, .int .i64 0, .int .i64 0, .string ⟨#[]⟩, .int .i64 b.fr, .slice none 0 0] 44))
  case first =>
    go_region_held3 (fun V => V.cell? ⟨A, 2, none⟩ = some (.int .i64 b.term) ∧ V.cell? ⟨A, 3, none⟩ = some (.int .i64 b.vote) ∧ V.cell? ⟨A, 28, none⟩ = some (.int .i64 b.fr)) (go_keep) (fail)
    all_goals
      go_wp2_with fail
      go_meet
      exact ⟨rfl, _, rfl⟩
  case rest =>
    obtain ⟨rfl, n, hwc⟩ := hcut
    obtain ⟨V3, rfl⟩ : ∃ V3, V3 = wc := ⟨_, rfl⟩
    obtain ⟨X, hX⟩ : ∃ X, W.heap.size = X := ⟨_, rfl⟩
    have bc : Below W.heap.size W V3 := by rw [hwc]; exact (below_draw (Below.refl W.heap.size W) n).alloc (Nat.le_refl _) _
    have jX : V3.heap[X]? = some (.cells #[.int .i64 b.term, .int .i64 b.vote, .bool false, .int .i64 0, .int .i64 0, .string ⟨#[]⟩, .int .i64 b.fr, .slice none 0 0] 44 (0, 0)) := by rw [hwc, ← hX]; exact heap_alloc_new (W.drewN n) _
    have jRc := (bc.block R (blk_lt HJR.out)).trans HJR.out
    have hbc := HB.out.trans (bc.mono HB.out.size)
    have hXA : X ≠ A := by omega
    have hAX : A ≠ X := hXA.symm
    have hXR : X ≠ R := by have := blk_lt HJR.out; omega
    have hXw : w.heap.size ≤ X := by have := HB.out.size; omega
    have hRw : w.heap.size ≤ R := by have := HRR.out; omega
    have hRA : R ≠ A := by omega
    have HJX := Lib.hid jX
    have HJRc := Lib.hid jRc
    have HBC := Lib.hid hbc
    rw [hX]
    clear bc hX c2 c3 c28 c26
    obtain ⟨lv3, ov3, O3, hv3⟩ := HH.out.on hbc
    have a27 : V3.cell? ⟨A, 27, none⟩ = some (.bool b.whole) := hv3.cell 27
    have a6 : V3.cell? ⟨A, 6, none⟩ = some (.int .i64 b.base) := hv3.cell 6
    have a7 : V3.cell? ⟨A, 7, none⟩ = some (.int .i64 b.baseTerm) := hv3.cell 7
    have a8 : V3.cell? ⟨A, 8, none⟩ = some (.string b.snap) := hv3.cell 8
    have x2 : V3.cell? ⟨X, 2, none⟩ = some (.bool false) := cell_blk jX 2
    have x3 : V3.cell? ⟨X, 3, none⟩ = some (.int .i64 0) := cell_blk jX 3
    have x4 : V3.cell? ⟨X, 4, none⟩ = some (.int .i64 0) := cell_blk jX 4
    have x5 : V3.cell? ⟨X, 5, none⟩ = some (.string ⟨#[]⟩) := cell_blk jX 5
    have x6 : V3.cell? ⟨X, 6, none⟩ = some (.int .i64 b.fr) := cell_blk jX 6
    have z2 : V3.frozen? ⟨X, 2, none⟩ = false := frozen_blk jX 2
    have z3 : V3.frozen? ⟨X, 3, none⟩ = false := frozen_blk jX 3
    have z4 : V3.frozen? ⟨X, 4, none⟩ = false := frozen_blk jX 4
    have z5 : V3.frozen? ⟨X, 5, none⟩ = false := frozen_blk jX 5
    have z6 : V3.frozen? ⟨X, 6, none⟩ = false := frozen_blk jX 6
    clear hv3 jX jRc hbc hwc
    rw [hwh] at a27
    obtain ⟨WD, hWD⟩ : ∃ WD, WD = (((((V3).setCell ⟨X, 2, none⟩ (.bool true)).setCell ⟨X, 3, none⟩ (.int .i64 b.base)).setCell ⟨X, 4, none⟩ (.int .i64 b.baseTerm)).setCell ⟨X, 5, none⟩ (.string b.snap)).setCell ⟨X, 6, none⟩ (.int .i64 (b.base + 1)) := ⟨_, rfl⟩
    have hFX : Fr V3 WD (fun k => k = X) := by
      rw [hWD]
      exact Fr.set (a := ⟨X, 6, none⟩) (Fr.set (a := ⟨X, 5, none⟩) (Fr.set (a := ⟨X, 4, none⟩) (Fr.set (a := ⟨X, 3, none⟩) (Fr.set (a := ⟨X, 2, none⟩) (Fr.refl V3 (fun k => k = X)) (Or.inl rfl) _) (Or.inl rfl) _) (Or.inl rfl) _) (Or.inl rfl) _) (Or.inl rfl) _
    have hJE : WD.heap[X]? = some (.cells #[.int .i64 b.term, .int .i64 b.vote, .bool true, .int .i64 b.base, .int .i64 b.baseTerm, .string b.snap, .int .i64 FR, .slice none 0 0] 44 (0, 0)) := by
      have e := set_blk (i := 6) (set_blk (i := 5) (set_blk (i := 4) (set_blk (i := 3) (set_blk (i := 2) HJX.out (.bool true)) (.int .i64 b.base)) (.int .i64 b.baseTerm)) (.string b.snap)) (.int .i64 (b.base + 1))
      rw [hWD, ← HFr.out]
      exact e.trans (by simp)
    have hbD : Below w.heap.size w WD := HBC.out.trans (hFX.toBelow (fun k hk e => by have e' : k = X := e; omega) HBC.out.size)
    have hJR : WD.heap[R]? = some (.cells #[.int .i64 0, .int .i64 0, .bool false, .int .i64 0, .int .i64 0, .string ⟨#[]⟩, .int .i64 0, .slice none 0 0] 44 (0, 0)) := (hFX.block R (blk_lt HJRc.out) (fun e => hXR (show R = X from e).symm)).trans HJRc.out
    obtain ⟨lv5, ov5, O5, hv5⟩ := HH.out.on hbD
    obtain ⟨lad, lcap, rfl, _, _⟩ := hv5.log.shape
    obtain ⟨ad', cap', hsl, happ⟩ := ens_tail (V := WD) hv5.log hpl l1
    rw [HPD.out] at hsl happ
    have r9 : WD.cell? ⟨A, 9, none⟩ = some (.slice lad b.log.length lcap) := hv5.cell 9
    have r6 : WD.cell? ⟨A, 6, none⟩ = some (.int .i64 b.base) := hv5.cell 6
    have y6 : WD.cell? ⟨X, 6, none⟩ = some (.int .i64 FR) := cell_blk hJE 6
    have y7 : WD.cell? ⟨X, 7, none⟩ = some (.slice none 0 0) := cell_blk hJE 7
    have HAP := Lib.hid happ
    have HJE := Lib.hid hJE
    have HBD := Lib.hid hbD
    have HJRD := Lib.hid hJR
    have HWD := Lib.hid hWD
    clear hv5 hJE hbD hJR hWD happ HFr hFX hwh
    go_upto_region 10 with fail
    rw [← HWD.out]
    go_cut [] (fun wx => ∃ ad8 cap8 w2, wx = w2.setCell ⟨X, 7, none⟩ (.slice ad8 D.length cap8) ∧ Below WD.heap.size WD w2 ∧ Es w2 (fun k => k < WD.heap.size) D (.slice ad8 D.length cap8))
    case first =>
      refine wp_region_last (fun X9 => Below WD.heap.size WD X9) (fun X9 X' => Below X9.heap.size X9 X') [
        fun v _ => v = .pointer (some ⟨X, 7, none⟩),
        fun v _ => v = .slice none 0 0,
        fun v _ => v = .pointer (some ⟨A, 0, none⟩),
        fun v _ => v = .pointer (some ⟨A, 0, none⟩),
        fun v _ => v = .pointer (some ⟨A, 9, none⟩),
        fun v _ => v = .slice lad b.log.length lcap,
        fun v _ => v = .pointer (some ⟨X, 6, none⟩),
        fun v _ => v = .int .i64 FR,
        fun v _ => v = .pointer (some ⟨A, 0, none⟩),
        fun v _ => v = .pointer (some ⟨A, 0, none⟩),
        fun v _ => v = .pointer (some ⟨A, 6, none⟩),
        fun v _ => v = .int .i64 b.base,
        fun v _ => v = .int .i64 ((p : Int) + 1),
        fun v _ => v = .int .i64 (p : Int),
        fun v _ => v = .slice ad' D.length cap',
        fun v X9 => (∃ ad2 cap2, v = .slice ad2 D.length cap2) ∧ Es X9 (fun k => k < WD.heap.size) D v,
        fun v _ => v = .pointer (some ⟨X, 7, none⟩)]
        (fun _ X9 => ∃ ad8 cap8 w2, X9 = w2.setCell ⟨X, 7, none⟩ (.slice ad8 D.length cap8) ∧ Below WD.heap.size WD w2 ∧ Es w2 (fun k => k < WD.heap.size) D (.slice ad8 D.length cap8)) rfl (by kernel_rfl) (by kernel_rfl) (by kernel_rfl) (by kernel_rfl) ?st ?g0 ?os ?la ?en
      case st => exact ⟨fun _ _ _ _ h => h, fun _ _ _ _ h => h, fun _ _ _ _ h => h, fun _ _ _ _ h => h, fun _ _ _ _ h => h, fun _ _ _ _ h => h, fun _ _ _ _ h => h, fun _ _ _ _ h => h, fun _ _ _ _ h => h, fun _ _ _ _ h => h, fun _ _ _ _ h => h, fun _ _ _ _ h => h, fun _ _ _ _ h => h, fun _ _ _ _ h => h, fun _ _ _ _ h => h, fun _ _ _ hs ⟨e, q⟩ => ⟨e, q.on hs⟩, fun _ _ _ _ h => h, trivial⟩
      case g0 => exact ⟨rfl, rfl, rfl, Nat.le_refl _, fun _ _ => rfl⟩
      case os =>
          refine ⟨?_, ?_, ?_, ?_, ?_, ?_, ?_, ?_, ?_, ?_, ?_, ?_, ?_, ?_, ?_, ?_, ?_, trivial⟩
          · exact ⟨rfl, fun ρ X9 hg ho hc hf hr => Runs.val _ (op_f44 (.inr rfl) (show ρ (.tmp 4) = .pointer (some ⟨X, 0, none⟩) from ho 4 rfl)) ⟨hg, Below.refl _ _, rfl⟩⟩
          · exact ⟨rfl, fun ρ X9 hg ho hc hf hr => Runs.val _ (op_load32 (show ρ (.tmp 50) = .pointer (some ⟨X, 7, none⟩) from hr 0 50 rfl rfl) (cell_on hg y7)) ⟨hg, Below.refl _ _, rfl⟩⟩
          · exact ⟨rfl, fun ρ X9 hg ho hc hf hr => Runs.val _ (op_move (show ρ (.tmp 0) = .pointer (some ⟨A, 0, none⟩) from ho 0 rfl)) ⟨hg, Below.refl _ _, rfl⟩⟩
          · exact ⟨rfl, fun ρ X9 hg ho hc hf hr => Runs.val _ (op_nil (show ρ (.tmp 52) = .pointer (some ⟨A, 0, none⟩) from hr 2 52 rfl rfl)) ⟨hg, Below.refl _ _, rfl⟩⟩
          · exact ⟨rfl, fun ρ X9 hg ho hc hf hr => Runs.val _ (op_f81_9 (show ρ (.tmp 53) = .pointer (some ⟨A, 0, none⟩) from hr 3 53 rfl rfl)) ⟨hg, Below.refl _ _, rfl⟩⟩
          · exact ⟨rfl, fun ρ X9 hg ho hc hf hr => Runs.val _ (op_load32 (show ρ (.tmp 54) = .pointer (some ⟨A, 9, none⟩) from hr 4 54 rfl rfl) (cell_on hg r9)) ⟨hg, Below.refl _ _, rfl⟩⟩
          · exact ⟨rfl, fun ρ X9 hg ho hc hf hr => Runs.val _ (op_f44 (.inl rfl) (show ρ (.tmp 4) = .pointer (some ⟨X, 0, none⟩) from ho 4 rfl)) ⟨hg, Below.refl _ _, rfl⟩⟩
          · exact ⟨rfl, fun ρ X9 hg ho hc hf hr => Runs.val _ (op_load3 (show ρ (.tmp 56) = .pointer (some ⟨X, 6, none⟩) from hr 6 56 rfl rfl) (cell_on hg y6)) ⟨hg, Below.refl _ _, rfl⟩⟩
          · exact ⟨rfl, fun ρ X9 hg ho hc hf hr => Runs.val _ (op_move (show ρ (.tmp 0) = .pointer (some ⟨A, 0, none⟩) from ho 0 rfl)) ⟨hg, Below.refl _ _, rfl⟩⟩
          · exact ⟨rfl, fun ρ X9 hg ho hc hf hr => Runs.val _ (op_nil (show ρ (.tmp 58) = .pointer (some ⟨A, 0, none⟩) from hr 8 58 rfl rfl)) ⟨hg, Below.refl _ _, rfl⟩⟩
          · exact ⟨rfl, fun ρ X9 hg ho hc hf hr => Runs.val _ (op_f81_6 (show ρ (.tmp 59) = .pointer (some ⟨A, 0, none⟩) from hr 9 59 rfl rfl)) ⟨hg, Below.refl _ _, rfl⟩⟩
          · exact ⟨rfl, fun ρ X9 hg ho hc hf hr => Runs.val _ (op_load3 (show ρ (.tmp 60) = .pointer (some ⟨A, 6, none⟩) from hr 10 60 rfl rfl) (cell_on hg r6)) ⟨hg, Below.refl _ _, rfl⟩⟩
          · exact ⟨rfl, fun ρ X9 hg ho hc hf hr => Runs.val _ (op_sub (show ρ (.tmp 57) = .int .i64 FR from hr 7 57 rfl rfl) (show ρ (.tmp 61) = .int .i64 b.base from hr 11 61 rfl rfl) i1) ⟨hg, Below.refl _ _, rfl⟩⟩
          · exact ⟨rfl, fun ρ X9 hg ho hc hf hr => Runs.val _ (op_sub (show ρ (.tmp 62) = .int .i64 ((p : Int) + 1) from hr 12 62 rfl rfl) (hc _) i2) ⟨hg, Below.refl _ _, rfl⟩⟩
          · exact ⟨rfl, fun ρ X9 hg ho hc hf hr => Runs.val _ (op_slice' (show ρ (.tmp 55) = .slice lad b.log.length lcap from hr 5 55 rfl rfl) (show ρ (.tmp 63) = .int .i64 (p : Int) from hr 13 63 rfl rfl) hsl) ⟨hg, Below.refl _ _, rfl⟩⟩
          · refine ⟨rfl, fun ρ X9 hg ho hc hf hr => ?_⟩
            obtain ⟨ad2, cap2, X', hrun, hb, hE⟩ := HAP.out X9 hg
            exact Runs.val _ (op_append (show ρ (.tmp 51) = .slice none 0 0 from hr 1 51 rfl rfl) (show ρ (.tmp 64) = .slice ad' D.length cap' from hr 14 64 rfl rfl) hrun) ⟨hg.trans (hb.mono hg.size), hb, ⟨_, _, rfl⟩, hE⟩
          · exact ⟨rfl, fun ρ X9 hg ho hc hf hr => Runs.val _ (op_f44 (.inr rfl) (show ρ (.tmp 4) = .pointer (some ⟨X, 0, none⟩) from ho 4 rfl)) ⟨hg, Below.refl _ _, rfl⟩⟩
      case la =>
        refine ⟨rfl, fun ρ X9 hg ho hc hf hr => ?_⟩
        obtain ⟨⟨ad2, cap2, e⟩, hE⟩ : (∃ ad2 cap2, ρ (.tmp 65) = .slice ad2 D.length cap2) ∧ Es X9 (fun k => k < WD.heap.size) D (ρ (.tmp 65)) := hr 15 65 (by decide) rfl
        rw [e] at hE
        have jX9 := (hg.block X (blk_lt HJE.out)).trans HJE.out
        exact Runs.skips (op_store32 (show ρ (.tmp 66) = .pointer (some ⟨X, 7, none⟩) from hr 16 66 (by decide) rfl) e (cell_blk jX9 7) (frozen_blk jX9 7)) ⟨ad2, cap2, X9, rfl, hg, hE⟩
      case en =>
        intro a X9 Xb v hF hs hd ho hv hr
        obtain ⟨x, hx, hxt⟩ := act_put hs hd ho
        change a = putAll _ x [50, 51, 52, 53, 54, 55, 56, 57, 58, 59, 60, 61, 62, 63, 64, 65, 66] at hx
        simp only [putAll, Act.put, List.setIfInBounds_toArray, List.set_cons_zero, List.set_cons_succ] at hx
        have HG := Lib.hid hF
        clear hF hs hd ho hr hv hxt
        subst hx
        go_wp2_with fail
        go_meet
        exact HG.out
    case rest =>
      obtain ⟨ad8, cap8, w2, hwe, B8, E8⟩ := hcut
      have jX8 := (B8.block X (blk_lt HJE.out)).trans HJE.out
      have jR8 := (B8.block R (blk_lt HJRD.out)).trans HJRD.out
      have fX8 : Fr w2 wc (fun k => k = X) := by rw [hwe]; exact Fr.set (a := ⟨X, 7, none⟩) (Fr.refl w2 (fun k => k = X)) (Or.inl rfl) _
      have jX9 : wc.heap[X]? = some (deB (⟨b.term, b.vote, true, b.base, b.baseTerm, b.snap, FR, D⟩ : De) (.slice ad8 D.length cap8)) := by rw [hwe]; exact set_blk (i := 7) jX8 _
      have jR9 : wc.heap[R]? = some (.cells #[.int .i64 0, .int .i64 0, .bool false, .int .i64 0, .int .i64 0, .string ⟨#[]⟩, .int .i64 0, .slice none 0 0] 44 (0, 0)) := (fX8.block R (blk_lt jR8) (fun e => hXR (show R = X from e).symm)).trans jR8
      have b9 : Below w.heap.size w wc := (HBD.out.trans (B8.mono HBD.out.size)).trans (fX8.toBelow (fun k hk e => by have e' : k = X := e; omega) (by have := HBD.out.size; have := B8.size; omega))
      have E9 : Es wc (fun k => k < WD.heap.size) D (.slice ad8 D.length cap8) := E8.stays (fX8.mono (fun k e => by have e' : k = X := e; rw [e']; exact blk_lt HJE.out)) (fun _ q => .inl q)
      have hfin := rel_fin (d := (⟨b.term, b.vote, true, b.base, b.baseTerm, b.snap, FR, D⟩ : De)) HH.out HHO.out hRw hXw (blk_lt HJRD.out) b9 jX9 jR9 E9
      obtain ⟨W1, hW1⟩ : ∃ W1, W1 = (wc.setCell ⟨A, 26, none⟩ (.bool false)).setCell ⟨A, 27, none⟩ (.bool false) := ⟨_, rfl⟩
      obtain ⟨m0, m1, m2, m3⟩ := hfin _ hW1
      have hlast := last_any m0
      rw [show ({ b with touched := false, whole := false } : Bs).last = La from HLA.out] at hlast
      rw [HLA.out] at m3
      obtain ⟨lv6, ov6, O6, hv6⟩ := HH.out.on b9
      have t26 : wc.cell? ⟨A, 26, none⟩ = some (.bool b.touched) := hv6.cell 26
      have t27 : wc.cell? ⟨A, 27, none⟩ = some (.bool b.whole) := hv6.cell 27
      have s26 : wc.frozen? ⟨A, 26, none⟩ = false := frozen_blk hv6.ob 26
      have s27 : wc.frozen? ⟨A, 27, none⟩ = false := frozen_blk hv6.ob 27
      obtain ⟨lv7, ov7, O7, hv7⟩ := m0
      have t28 : W1.cell? ⟨A, 28, none⟩ = some (.int .i64 b.fr) := hv7.cell 28
      have s28 : W1.frozen? ⟨A, 28, none⟩ = false := frozen_blk hv7.ob 28
      have HM3 := Lib.hid m3
      have HW1 := Lib.hid hW1
      clear hv6 hv7 m1 m2 m3 hW1 hfin E9 b9 jR9 jX9 fX8 jR8 jX8 E8 B8 hwe r9 r6 y6 y7 hsl a27 a6 a7 a8 x2 x3 x4 x5 x6 z2 z3 z4 z5 z6
      go_upto_region 13 with fail
      rw [← HW1.out]
      clear t26 t27 s26 s27
      go_wp2_with fail
      refine hlast.mono ?_
      rintro e7 w7 ⟨rfl, n7, rfl⟩
      obtain ⟨W2, hW2⟩ : ∃ W2, W2 = (W1.drewN n7).setCell ⟨A, 28, none⟩ (.int .i64 (La + 1)) := ⟨_, rfl⟩
      obtain ⟨q0, q1, q2, q3, q4, q5⟩ := HM3.out n7 _ hW2
      have v0 : W2.cell? ⟨X, 0, none⟩ = some (.int .i64 b.term) := cell_blk q0 0
      have v1 : W2.cell? ⟨X, 1, none⟩ = some (.int .i64 b.vote) := cell_blk q0 1
      have v2 : W2.cell? ⟨X, 2, none⟩ = some (.bool true) := cell_blk q0 2
      have v3 : W2.cell? ⟨X, 3, none⟩ = some (.int .i64 b.base) := cell_blk q0 3
      have v4 : W2.cell? ⟨X, 4, none⟩ = some (.int .i64 b.baseTerm) := cell_blk q0 4
      have v5 : W2.cell? ⟨X, 5, none⟩ = some (.string b.snap) := cell_blk q0 5
      have v6 : W2.cell? ⟨X, 6, none⟩ = some (.int .i64 FR) := cell_blk q0 6
      have v7 : W2.cell? ⟨X, 7, none⟩ = some (.slice ad8 D.length cap8) := cell_blk q0 7
      have y0 : W2.cell? ⟨R, 0, none⟩ = some (.int .i64 0) := cell_blk q1 0
      have f0 : W2.frozen? ⟨R, 0, none⟩ = false := frozen_blk q1 0
      have y1 : W2.cell? ⟨R, 1, none⟩ = some (.int .i64 0) := cell_blk q1 1
      have f1 : W2.frozen? ⟨R, 1, none⟩ = false := frozen_blk q1 1
      have y2 : W2.cell? ⟨R, 2, none⟩ = some (.bool false) := cell_blk q1 2
      have f2 : W2.frozen? ⟨R, 2, none⟩ = false := frozen_blk q1 2
      have y3 : W2.cell? ⟨R, 3, none⟩ = some (.int .i64 0) := cell_blk q1 3
      have f3 : W2.frozen? ⟨R, 3, none⟩ = false := frozen_blk q1 3
      have y4 : W2.cell? ⟨R, 4, none⟩ = some (.int .i64 0) := cell_blk q1 4
      have f4 : W2.frozen? ⟨R, 4, none⟩ = false := frozen_blk q1 4
      have y5 : W2.cell? ⟨R, 5, none⟩ = some (.string ⟨#[]⟩) := cell_blk q1 5
      have f5 : W2.frozen? ⟨R, 5, none⟩ = false := frozen_blk q1 5
      have y6 : W2.cell? ⟨R, 6, none⟩ = some (.int .i64 0) := cell_blk q1 6
      have f6 : W2.frozen? ⟨R, 6, none⟩ = false := frozen_blk q1 6
      have y7 : W2.cell? ⟨R, 7, none⟩ = some (.slice none 0 0) := cell_blk q1 7
      have f7 : W2.frozen? ⟨R, 7, none⟩ = false := frozen_blk q1 7
      have HQ2 := Lib.hid q2
      have HQ3 := Lib.hid q3
      have HQ4 := Lib.hid q4
      have HQ5 := Lib.hid q5
      have HW2 := Lib.hid hW2
      clear q0 q1 q2 q3 q4 q5 hW2 hlast
      go_upto_region 14 with fail
      rw [← HW2.out]
      clear i0 i1 i2 i3 t28 s28 hlt hpl l1 l2 l3 b0 b1 hAw hcA hA hXA hAX hXR hXw hRw hRA HM3 HW1 HJE HBD HJRD HWD HJX HJRc HBC HB HJR HRR HW HPD HHO HAP
      go_wp2
      refine bodyPost_ret (v := .tuple #[deV (⟨b.term, b.vote, true, b.base, b.baseTerm, b.snap, FR, D⟩ : De) (.slice ad8 D.length cap8), .bool true]) (by simp [results, Try.results18, go_sem, *]) rfl ⟨ad8, cap8, rfl, HQ3.out, ?_, HQ5.out⟩
      rw [HLA.out]
      exact HQ4.out
set_option maxHeartbeats 4000000 in
set_option maxRecDepth 100000 in
theorem refdelta_some (h : Rb w A S b) (ho : b.out = []) (ht : b.touched = true) (hwh : b.whole = false) (hf1 : b.base < b.fr) (hf2 : b.fr ≤ b.last + 1) : Calls Try.prog 18 #[.pointer (some ⟨A, 0, none⟩)] w fun e w' => RelAns w A S b ⟨b.term, b.vote, false, 0, 0, noT, b.fr, b.log.drop (b.fr - b.base - 1).toNat⟩ e w' := by
  have hlt := h.lt
  obtain ⟨l1, b0, b1⟩ := h.len
  obtain ⟨p, D, FR, hpl, hpD, hFR, hD⟩ : ∃ (p : Nat) (D : List En) (FR : Int), p ≤ b.log.length ∧ b.log.drop p = D ∧ FR = b.base + 1 + p ∧ ⟨b.term, b.vote, false, 0, 0, noT, b.fr, b.log.drop (b.fr - b.base - 1).toNat⟩ = (⟨b.term, b.vote, false, 0, 0, noT, FR, D⟩ : De) := by
    refine ⟨(b.fr - b.base - 1).toNat, _, b.fr, ?_, rfl, by omega, rfl⟩
    unfold Bs.last at hf2
    omega
  rw [hD]
  have hFr : b.fr = FR := by
    have := congrArg De.fr hD
    exact this
  have HFr := Lib.hid hFr
  clear hFr
  obtain ⟨La, hLa⟩ : ∃ La, b.last = La := ⟨_, rfl⟩
  have hLa2 : La = b.base + b.log.length := hLa.symm
  have l2 : La ≤ 4398047511105 := by omega
  have l3 : 0 ≤ La := by omega
  have i0 : IntKind.i64.wrap (b.base + 1) = b.base + 1 := by rw [IntKind.wrap_i64]; omega
  have i1 : IntKind.i64.wrap (FR - b.base) = (p : Int) + 1 := by rw [IntKind.wrap_i64]; omega
  have i2 : IntKind.i64.wrap ((p : Int) + 1 - 1) = (p : Int) := by rw [IntKind.wrap_i64]; omega
  have i3 : IntKind.i64.wrap (La + 1) = La + 1 := by rw [IntKind.wrap_i64]; omega
  obtain ⟨W, hW⟩ : ∃ W, W = w.alloc (.cells #[.int .i64 0, .int .i64 0, .bool false, .int .i64 0, .int .i64 0, .string ⟨#[]⟩, .int .i64 0, .slice none 0 0] 44) := ⟨_, rfl⟩
  obtain ⟨R, hR⟩ : ∃ R, w.heap.size = R := ⟨_, rfl⟩
  have hb : Below w.heap.size w W := by rw [hW]; exact (Below.refl _ w).alloc (Nat.le_refl _) _
  have jR : W.heap[R]? = some (.cells #[.int .i64 0, .int .i64 0, .bool false, .int .i64 0, .int .i64 0, .string ⟨#[]⟩, .int .i64 0, .slice none 0 0] 44 (0, 0)) := by rw [hW, ← hR]; exact heap_alloc_new w _
  have HH := Lib.hid h
  obtain ⟨lv, ov, O, hv0⟩ := h.on hb
  have hA := hv0.lt A hv0.covA
  have c2 : W.cell? ⟨A, 2, none⟩ = some (.int .i64 b.term) := hv0.cell 2
  have c3 : W.cell? ⟨A, 3, none⟩ = some (.int .i64 b.vote) := hv0.cell 3
  have c28 : W.cell? ⟨A, 28, none⟩ = some (.int .i64 b.fr) := hv0.cell 28
  have c26 : W.cell? ⟨A, 26, none⟩ = some (.bool true) := by rw [← ht]; exact hv0.cell 26
  have hAw := hlt A hv0.covA
  have hcA := hv0.covA
  have HB := Lib.hid hb
  have HJR := Lib.hid jR
  have HRR := Lib.hid hR
  have HW := Lib.hid hW
  have HLA := Lib.hid hLa
  have HPD := Lib.hid hpD
  have HHO := Lib.hid ho
  clear h hb hv0 hW jR hR ht hLa hLa2 hpD hD ho hFR
  go_enter Try.func18, Try.ntmps18
  go_upto_region 1 with fail
  rw [← HW.out, HRR.out]
  go_upto_region 3 with fail
  go_cut [4] (fun v wx => v = .pointer (some ⟨W.heap.size, 0, none⟩) ∧ ∃ n, wx = (W.drewN n).alloc (.cells #[.int .i64 b.term, .int .i64 b.vote, .bool false, .int .i64 0, .int .i64 0, .string ⟨#[]⟩, .int .i64 b.fr, .slice none 0 0] 44))
  case first =>
    go_region_held3 (fun V => V.cell? ⟨A, 2, none⟩ = some (.int .i64 b.term) ∧ V.cell? ⟨A, 3, none⟩ = some (.int .i64 b.vote) ∧ V.cell? ⟨A, 28, none⟩ = some (.int .i64 b.fr)) (go_keep) (fail)
    all_goals
      go_wp2_with fail
      go_meet
      exact ⟨rfl, _, rfl⟩
  case rest =>
    obtain ⟨rfl, n, hwc⟩ := hcut
    obtain ⟨V3, rfl⟩ : ∃ V3, V3 = wc := ⟨_, rfl⟩
    obtain ⟨X, hX⟩ : ∃ X, W.heap.size = X := ⟨_, rfl⟩
    have bc : Below W.heap.size W V3 := by rw [hwc]; exact (below_draw (Below.refl W.heap.size W) n).alloc (Nat.le_refl _) _
    have jX : V3.heap[X]? = some (.cells #[.int .i64 b.term, .int .i64 b.vote, .bool false, .int .i64 0, .int .i64 0, .string ⟨#[]⟩, .int .i64 b.fr, .slice none 0 0] 44 (0, 0)) := by rw [hwc, ← hX]; exact heap_alloc_new (W.drewN n) _
    have jRc := (bc.block R (blk_lt HJR.out)).trans HJR.out
    have hbc := HB.out.trans (bc.mono HB.out.size)
    have hXA : X ≠ A := by omega
    have hAX : A ≠ X := hXA.symm
    have hXR : X ≠ R := by have := blk_lt HJR.out; omega
    have hXw : w.heap.size ≤ X := by have := HB.out.size; omega
    have hRw : w.heap.size ≤ R := by have := HRR.out; omega
    have hRA : R ≠ A := by omega
    have HJX := Lib.hid jX
    have HJRc := Lib.hid jRc
    have HBC := Lib.hid hbc
    rw [hX]
    clear bc hX c2 c3 c28 c26
    obtain ⟨lv3, ov3, O3, hv3⟩ := HH.out.on hbc
    have a27 : V3.cell? ⟨A, 27, none⟩ = some (.bool b.whole) := hv3.cell 27
    have a6 : V3.cell? ⟨A, 6, none⟩ = some (.int .i64 b.base) := hv3.cell 6
    have a7 : V3.cell? ⟨A, 7, none⟩ = some (.int .i64 b.baseTerm) := hv3.cell 7
    have a8 : V3.cell? ⟨A, 8, none⟩ = some (.string b.snap) := hv3.cell 8
    have x2 : V3.cell? ⟨X, 2, none⟩ = some (.bool false) := cell_blk jX 2
    have x3 : V3.cell? ⟨X, 3, none⟩ = some (.int .i64 0) := cell_blk jX 3
    have x4 : V3.cell? ⟨X, 4, none⟩ = some (.int .i64 0) := cell_blk jX 4
    have x5 : V3.cell? ⟨X, 5, none⟩ = some (.string ⟨#[]⟩) := cell_blk jX 5
    have x6 : V3.cell? ⟨X, 6, none⟩ = some (.int .i64 b.fr) := cell_blk jX 6
    have z2 : V3.frozen? ⟨X, 2, none⟩ = false := frozen_blk jX 2
    have z3 : V3.frozen? ⟨X, 3, none⟩ = false := frozen_blk jX 3
    have z4 : V3.frozen? ⟨X, 4, none⟩ = false := frozen_blk jX 4
    have z5 : V3.frozen? ⟨X, 5, none⟩ = false := frozen_blk jX 5
    have z6 : V3.frozen? ⟨X, 6, none⟩ = false := frozen_blk jX 6
    clear hv3 jX jRc hbc hwc
    rw [hwh] at a27
    obtain ⟨WD, hWD⟩ : ∃ WD, WD = V3 := ⟨_, rfl⟩
    have hJE : WD.heap[X]? = some (.cells #[.int .i64 b.term, .int .i64 b.vote, .bool false, .int .i64 0, .int .i64 0, .string ⟨#[]⟩, .int .i64 FR, .slice none 0 0] 44 (0, 0)) := by rw [hWD, ← HFr.out]; exact HJX.out
    have hbD : Below w.heap.size w WD := by rw [hWD]; exact HBC.out
    have hJR : WD.heap[R]? = some (.cells #[.int .i64 0, .int .i64 0, .bool false, .int .i64 0, .int .i64 0, .string ⟨#[]⟩, .int .i64 0, .slice none 0 0] 44 (0, 0)) := by rw [hWD]; exact HJRc.out
    obtain ⟨lv5, ov5, O5, hv5⟩ := HH.out.on hbD
    obtain ⟨lad, lcap, rfl, _, _⟩ := hv5.log.shape
    obtain ⟨ad', cap', hsl, happ⟩ := ens_tail (V := WD) hv5.log hpl l1
    rw [HPD.out] at hsl happ
    have r9 : WD.cell? ⟨A, 9, none⟩ = some (.slice lad b.log.length lcap) := hv5.cell 9
    have r6 : WD.cell? ⟨A, 6, none⟩ = some (.int .i64 b.base) := hv5.cell 6
    have y6 : WD.cell? ⟨X, 6, none⟩ = some (.int .i64 FR) := cell_blk hJE 6
    have y7 : WD.cell? ⟨X, 7, none⟩ = some (.slice none 0 0) := cell_blk hJE 7
    have HAP := Lib.hid happ
    have HJE := Lib.hid hJE
    have HBD := Lib.hid hbD
    have HJRD := Lib.hid hJR
    have HWD := Lib.hid hWD
    clear hv5 hJE hbD hJR hWD happ HFr hwh hf1 hf2
    go_upto_region 10 with fail
    rw [← HWD.out]
    go_cut [] (fun wx => ∃ ad8 cap8 w2, wx = w2.setCell ⟨X, 7, none⟩ (.slice ad8 D.length cap8) ∧ Below WD.heap.size WD w2 ∧ Es w2 (fun k => k < WD.heap.size) D (.slice ad8 D.length cap8))
    case first =>
      refine wp_region_last (fun X9 => Below WD.heap.size WD X9) (fun X9 X' => Below X9.heap.size X9 X') [
        fun v _ => v = .pointer (some ⟨X, 7, none⟩),
        fun v _ => v = .slice none 0 0,
        fun v _ => v = .pointer (some ⟨A, 0, none⟩),
        fun v _ => v = .pointer (some ⟨A, 0, none⟩),
        fun v _ => v = .pointer (some ⟨A, 9, none⟩),
        fun v _ => v = .slice lad b.log.length lcap,
        fun v _ => v = .pointer (some ⟨X, 6, none⟩),
        fun v _ => v = .int .i64 FR,
        fun v _ => v = .pointer (some ⟨A, 0, none⟩),
        fun v _ => v = .pointer (some ⟨A, 0, none⟩),
        fun v _ => v = .pointer (some ⟨A, 6, none⟩),
        fun v _ => v = .int .i64 b.base,
        fun v _ => v = .int .i64 ((p : Int) + 1),
        fun v _ => v = .int .i64 (p : Int),
        fun v _ => v = .slice ad' D.length cap',
        fun v X9 => (∃ ad2 cap2, v = .slice ad2 D.length cap2) ∧ Es X9 (fun k => k < WD.heap.size) D v,
        fun v _ => v = .pointer (some ⟨X, 7, none⟩)]
        (fun _ X9 => ∃ ad8 cap8 w2, X9 = w2.setCell ⟨X, 7, none⟩ (.slice ad8 D.length cap8) ∧ Below WD.heap.size WD w2 ∧ Es w2 (fun k => k < WD.heap.size) D (.slice ad8 D.length cap8)) rfl (by kernel_rfl) (by kernel_rfl) (by kernel_rfl) (by kernel_rfl) ?st ?g0 ?os ?la ?en
      case st => exact ⟨fun _ _ _ _ h => h, fun _ _ _ _ h => h, fun _ _ _ _ h => h, fun _ _ _ _ h => h, fun _ _ _ _ h => h, fun _ _ _ _ h => h, fun _ _ _ _ h => h, fun _ _ _ _ h => h, fun _ _ _ _ h => h, fun _ _ _ _ h => h, fun _ _ _ _ h => h, fun _ _ _ _ h => h, fun _ _ _ _ h => h, fun _ _ _ _ h => h, fun _ _ _ _ h => h, fun _ _ _ hs ⟨e, q⟩ => ⟨e, q.on hs⟩, fun _ _ _ _ h => h, trivial⟩
      case g0 => exact ⟨rfl, rfl, rfl, Nat.le_refl _, fun _ _ => rfl⟩
      case os =>
          refine ⟨?_, ?_, ?_, ?_, ?_, ?_, ?_, ?_, ?_, ?_, ?_, ?_, ?_, ?_, ?_, ?_, ?_, trivial⟩
          · exact ⟨rfl, fun ρ X9 hg ho hc hf hr => Runs.val _ (op_f44 (.inr rfl) (show ρ (.tmp 4) = .pointer (some ⟨X, 0, none⟩) from ho 4 rfl)) ⟨hg, Below.refl _ _, rfl⟩⟩
          · exact ⟨rfl, fun ρ X9 hg ho hc hf hr => Runs.val _ (op_load32 (show ρ (.tmp 50) = .pointer (some ⟨X, 7, none⟩) from hr 0 50 rfl rfl) (cell_on hg y7)) ⟨hg, Below.refl _ _, rfl⟩⟩
          · exact ⟨rfl, fun ρ X9 hg ho hc hf hr => Runs.val _ (op_move (show ρ (.tmp 0) = .pointer (some ⟨A, 0, none⟩) from ho 0 rfl)) ⟨hg, Below.refl _ _, rfl⟩⟩
          · exact ⟨rfl, fun ρ X9 hg ho hc hf hr => Runs.val _ (op_nil (show ρ (.tmp 52) = .pointer (some ⟨A, 0, none⟩) from hr 2 52 rfl rfl)) ⟨hg, Below.refl _ _, rfl⟩⟩
          · exact ⟨rfl, fun ρ X9 hg ho hc hf hr => Runs.val _ (op_f81_9 (show ρ (.tmp 53) = .pointer (some ⟨A, 0, none⟩) from hr 3 53 rfl rfl)) ⟨hg, Below.refl _ _, rfl⟩⟩
          · exact ⟨rfl, fun ρ X9 hg ho hc hf hr => Runs.val _ (op_load32 (show ρ (.tmp 54) = .pointer (some ⟨A, 9, none⟩) from hr 4 54 rfl rfl) (cell_on hg r9)) ⟨hg, Below.refl _ _, rfl⟩⟩
          · exact ⟨rfl, fun ρ X9 hg ho hc hf hr => Runs.val _ (op_f44 (.inl rfl) (show ρ (.tmp 4) = .pointer (some ⟨X, 0, none⟩) from ho 4 rfl)) ⟨hg, Below.refl _ _, rfl⟩⟩
          · exact ⟨rfl, fun ρ X9 hg ho hc hf hr => Runs.val _ (op_load3 (show ρ (.tmp 56) = .pointer (some ⟨X, 6, none⟩) from hr 6 56 rfl rfl) (cell_on hg y6)) ⟨hg, Below.refl _ _, rfl⟩⟩
          · exact ⟨rfl, fun ρ X9 hg ho hc hf hr => Runs.val _ (op_move (show ρ (.tmp 0) = .pointer (some ⟨A, 0, none⟩) from ho 0 rfl)) ⟨hg, Below.refl _ _, rfl⟩⟩
          · exact ⟨rfl, fun ρ X9 hg ho hc hf hr => Runs.val _ (op_nil (show ρ (.tmp 58) = .pointer (some ⟨A, 0, none⟩) from hr 8 58 rfl rfl)) ⟨hg, Below.refl _ _, rfl⟩⟩
          · exact ⟨rfl, fun ρ X9 hg ho hc hf hr => Runs.val _ (op_f81_6 (show ρ (.tmp 59) = .pointer (some ⟨A, 0, none⟩) from hr 9 59 rfl rfl)) ⟨hg, Below.refl _ _, rfl⟩⟩
          · exact ⟨rfl, fun ρ X9 hg ho hc hf hr => Runs.val _ (op_load3 (show ρ (.tmp 60) = .pointer (some ⟨A, 6, none⟩) from hr 10 60 rfl rfl) (cell_on hg r6)) ⟨hg, Below.refl _ _, rfl⟩⟩
          · exact ⟨rfl, fun ρ X9 hg ho hc hf hr => Runs.val _ (op_sub (show ρ (.tmp 57) = .int .i64 FR from hr 7 57 rfl rfl) (show ρ (.tmp 61) = .int .i64 b.base from hr 11 61 rfl rfl) i1) ⟨hg, Below.refl _ _, rfl⟩⟩
          · exact ⟨rfl, fun ρ X9 hg ho hc hf hr => Runs.val _ (op_sub (show ρ (.tmp 62) = .int .i64 ((p : Int) + 1) from hr 12 62 rfl rfl) (hc _) i2) ⟨hg, Below.refl _ _, rfl⟩⟩
          · exact ⟨rfl, fun ρ X9 hg ho hc hf hr => Runs.val _ (op_slice' (show ρ (.tmp 55) = .slice lad b.log.length lcap from hr 5 55 rfl rfl) (show ρ (.tmp 63) = .int .i64 (p : Int) from hr 13 63 rfl rfl) hsl) ⟨hg, Below.refl _ _, rfl⟩⟩
          · refine ⟨rfl, fun ρ X9 hg ho hc hf hr => ?_⟩
            obtain ⟨ad2, cap2, X', hrun, hb, hE⟩ := HAP.out X9 hg
            exact Runs.val _ (op_append (show ρ (.tmp 51) = .slice none 0 0 from hr 1 51 rfl rfl) (show ρ (.tmp 64) = .slice ad' D.length cap' from hr 14 64 rfl rfl) hrun) ⟨hg.trans (hb.mono hg.size), hb, ⟨_, _, rfl⟩, hE⟩
          · exact ⟨rfl, fun ρ X9 hg ho hc hf hr => Runs.val _ (op_f44 (.inr rfl) (show ρ (.tmp 4) = .pointer (some ⟨X, 0, none⟩) from ho 4 rfl)) ⟨hg, Below.refl _ _, rfl⟩⟩
      case la =>
        refine ⟨rfl, fun ρ X9 hg ho hc hf hr => ?_⟩
        obtain ⟨⟨ad2, cap2, e⟩, hE⟩ : (∃ ad2 cap2, ρ (.tmp 65) = .slice ad2 D.length cap2) ∧ Es X9 (fun k => k < WD.heap.size) D (ρ (.tmp 65)) := hr 15 65 (by decide) rfl
        rw [e] at hE
        have jX9 := (hg.block X (blk_lt HJE.out)).trans HJE.out
        exact Runs.skips (op_store32 (show ρ (.tmp 66) = .pointer (some ⟨X, 7, none⟩) from hr 16 66 (by decide) rfl) e (cell_blk jX9 7) (frozen_blk jX9 7)) ⟨ad2, cap2, X9, rfl, hg, hE⟩
      case en =>
        intro a X9 Xb v hF hs hd ho hv hr
        obtain ⟨x, hx, hxt⟩ := act_put hs hd ho
        change a = putAll _ x [50, 51, 52, 53, 54, 55, 56, 57, 58, 59, 60, 61, 62, 63, 64, 65, 66] at hx
        simp only [putAll, Act.put, List.setIfInBounds_toArray, List.set_cons_zero, List.set_cons_succ] at hx
        have HG := Lib.hid hF
        clear hF hs hd ho hr hv hxt
        subst hx
        go_wp2_with fail
        go_meet
        exact HG.out
    case rest =>
      obtain ⟨ad8, cap8, w2, hwe, B8, E8⟩ := hcut
      have jX8 := (B8.block X (blk_lt HJE.out)).trans HJE.out
      have jR8 := (B8.block R (blk_lt HJRD.out)).trans HJRD.out
      have fX8 : Fr w2 wc (fun k => k = X) := by rw [hwe]; exact Fr.set (a := ⟨X, 7, none⟩) (Fr.refl w2 (fun k => k = X)) (Or.inl rfl) _
      have jX9 : wc.heap[X]? = some (deB (⟨b.term, b.vote, false, 0, 0, noT, FR, D⟩ : De) (.slice ad8 D.length cap8)) := by rw [hwe]; exact set_blk (i := 7) jX8 _
      have jR9 : wc.heap[R]? = some (.cells #[.int .i64 0, .int .i64 0, .bool false, .int .i64 0, .int .i64 0, .string ⟨#[]⟩, .int .i64 0, .slice none 0 0] 44 (0, 0)) := (fX8.block R (blk_lt jR8) (fun e => hXR (show R = X from e).symm)).trans jR8
      have b9 : Below w.heap.size w wc := (HBD.out.trans (B8.mono HBD.out.size)).trans (fX8.toBelow (fun k hk e => by have e' : k = X := e; omega) (by have := HBD.out.size; have := B8.size; omega))
      have E9 : Es wc (fun k => k < WD.heap.size) D (.slice ad8 D.length cap8) := E8.stays (fX8.mono (fun k e => by have e' : k = X := e; rw [e']; exact blk_lt HJE.out)) (fun _ q => .inl q)
      have hfin := rel_fin (d := (⟨b.term, b.vote, false, 0, 0, noT, FR, D⟩ : De)) HH.out HHO.out hRw hXw (blk_lt HJRD.out) b9 jX9 jR9 E9
      obtain ⟨W1, hW1⟩ : ∃ W1, W1 = (wc.setCell ⟨A, 26, none⟩ (.bool false)).setCell ⟨A, 27, none⟩ (.bool false) := ⟨_, rfl⟩
      obtain ⟨m0, m1, m2, m3⟩ := hfin _ hW1
      have hlast := last_any m0
      rw [show ({ b with touched := false, whole := false } : Bs).last = La from HLA.out] at hlast
      rw [HLA.out] at m3
      obtain ⟨lv6, ov6, O6, hv6⟩ := HH.out.on b9
      have t26 : wc.cell? ⟨A, 26, none⟩ = some (.bool b.touched) := hv6.cell 26
      have t27 : wc.cell? ⟨A, 27, none⟩ = some (.bool b.whole) := hv6.cell 27
      have s26 : wc.frozen? ⟨A, 26, none⟩ = false := frozen_blk hv6.ob 26
      have s27 : wc.frozen? ⟨A, 27, none⟩ = false := frozen_blk hv6.ob 27
      obtain ⟨lv7, ov7, O7, hv7⟩ := m0
      have t28 : W1.cell? ⟨A, 28, none⟩ = some (.int .i64 b.fr) := hv7.cell 28
      have s28 : W1.frozen? ⟨A, 28, none⟩ = false := frozen_blk hv7.ob 28
      have HM3 := Lib.hid m3
      have HW1 := Lib.hid hW1
      clear hv6 hv7 m1 m2 m3 hW1 hfin E9 b9 jR9 jX9 fX8 jR8 jX8 E8 B8 hwe r9 r6 y6 y7 hsl a27 a6 a7 a8 x2 x3 x4 x5 x6 z2 z3 z4 z5 z6
      go_upto_region 13 with fail
      rw [← HW1.out]
      clear t26 t27 s26 s27
      go_wp2_with fail
      refine hlast.mono ?_
      rintro e7 w7 ⟨rfl, n7, rfl⟩
      obtain ⟨W2, hW2⟩ : ∃ W2, W2 = (W1.drewN n7).setCell ⟨A, 28, none⟩ (.int .i64 (La + 1)) := ⟨_, rfl⟩
      obtain ⟨q0, q1, q2, q3, q4, q5⟩ := HM3.out n7 _ hW2
      have v0 : W2.cell? ⟨X, 0, none⟩ = some (.int .i64 b.term) := cell_blk q0 0
      have v1 : W2.cell? ⟨X, 1, none⟩ = some (.int .i64 b.vote) := cell_blk q0 1
      have v2 : W2.cell? ⟨X, 2, none⟩ = some (.bool false) := cell_blk q0 2
      have v3 : W2.cell? ⟨X, 3, none⟩ = some (.int .i64 0) := cell_blk q0 3
      have v4 : W2.cell? ⟨X, 4, none⟩ = some (.int .i64 0) := cell_blk q0 4
      have v5 : W2.cell? ⟨X, 5, none⟩ = some (.string noT) := cell_blk q0 5
      have v6 : W2.cell? ⟨X, 6, none⟩ = some (.int .i64 FR) := cell_blk q0 6
      have v7 : W2.cell? ⟨X, 7, none⟩ = some (.slice ad8 D.length cap8) := cell_blk q0 7
      have y0 : W2.cell? ⟨R, 0, none⟩ = some (.int .i64 0) := cell_blk q1 0
      have f0 : W2.frozen? ⟨R, 0, none⟩ = false := frozen_blk q1 0
      have y1 : W2.cell? ⟨R, 1, none⟩ = some (.int .i64 0) := cell_blk q1 1
      have f1 : W2.frozen? ⟨R, 1, none⟩ = false := frozen_blk q1 1
      have y2 : W2.cell? ⟨R, 2, none⟩ = some (.bool false) := cell_blk q1 2
      have f2 : W2.frozen? ⟨R, 2, none⟩ = false := frozen_blk q1 2
      have y3 : W2.cell? ⟨R, 3, none⟩ = some (.int .i64 0) := cell_blk q1 3
      have f3 : W2.frozen? ⟨R, 3, none⟩ = false := frozen_blk q1 3
      have y4 : W2.cell? ⟨R, 4, none⟩ = some (.int .i64 0) := cell_blk q1 4
      have f4 : W2.frozen? ⟨R, 4, none⟩ = false := frozen_blk q1 4
      have y5 : W2.cell? ⟨R, 5, none⟩ = some (.string ⟨#[]⟩) := cell_blk q1 5
      have f5 : W2.frozen? ⟨R, 5, none⟩ = false := frozen_blk q1 5
      have y6 : W2.cell? ⟨R, 6, none⟩ = some (.int .i64 0) := cell_blk q1 6
      have f6 : W2.frozen? ⟨R, 6, none⟩ = false := frozen_blk q1 6
      have y7 : W2.cell? ⟨R, 7, none⟩ = some (.slice none 0 0) := cell_blk q1 7
      have f7 : W2.frozen? ⟨R, 7, none⟩ = false := frozen_blk q1 7
      have HQ2 := Lib.hid q2
      have HQ3 := Lib.hid q3
      have HQ4 := Lib.hid q4
      have HQ5 := Lib.hid q5
      have HW2 := Lib.hid hW2
      clear q0 q1 q2 q3 q4 q5 hW2 hlast
      go_upto_region 14 with fail
      rw [← HW2.out]
      clear i0 i1 i2 i3 t28 s28 hlt hpl l1 l2 l3 b0 b1 hAw hcA hA hXA hAX hXR hXw hRw hRA HM3 HW1 HJE HBD HJRD HWD HJX HJRc HBC HB HJR HRR HW HPD HHO HAP
      go_wp2
      refine bodyPost_ret (v := .tuple #[deV (⟨b.term, b.vote, false, 0, 0, noT, FR, D⟩ : De) (.slice ad8 D.length cap8), .bool true]) (by simp [results, Try.results18, go_sem, *]) rfl ⟨ad8, cap8, rfl, HQ3.out, ?_, HQ5.out⟩
      rw [HLA.out]
      exact HQ4.out
theorem refdelta_yes (h : Rb w A S b) (ho : b.out = []) (ht : b.touched = true) (hfr : b.whole = false → b.base < b.fr ∧ b.fr ≤ b.last + 1) : Calls Try.prog 18 #[.pointer (some ⟨A, 0, none⟩)] w fun e w' => RelAns w A S b b.change e w' := by
  cases hwh : b.whole with
  | true =>
    have e : b.change = ⟨b.term, b.vote, true, b.base, b.baseTerm, b.snap, b.base + 1, b.log⟩ := by unfold Bs.change; rw [if_pos hwh]
    rw [e]
    exact refdelta_whole h ho ht hwh
  | false =>
    have e : b.change = ⟨b.term, b.vote, false, 0, 0, noT, b.fr, b.log.drop (b.fr - b.base - 1).toNat⟩ := by unfold Bs.change; rw [if_neg (by rw [hwh]; decide)]
    rw [e]
    obtain ⟨f1, f2⟩ := hfr hwh
    exact refdelta_some h ho ht hwh f1 f2
end
end Go.Proofs.Ytmiagjcihmenfaa
