/- A call opened. -/
import Derived.Test.YtfokgalgdlajlaaDc
import Derived.Carry
import Derived.ProofKit
import Derived.SizedLaws
import Derived.OpenShut
import Derived.Deep.Slices
import Derived.Lib.SmallJoins
namespace Go.Proofs.Ytfokgalgdlajlaa
open Go.ChangeShapes Go.WideShapes Go.ChangeAt Go.WideMaps Go.WideElems Go.RowKit Go.Joins Go.Deep
theorem own : ownKnob Try.prog.godebug = none := by kernel_rfl
theorem laidOut : laidOutB Try.prog = true := by kernel_rfl
theorem cells3 : Try.prog.cellsOf 3 = 1 := by kernel_rfl
theorem cells4 : Try.prog.cellsOf 4 = 1 := by kernel_rfl
theorem cells31 : Try.prog.cellsOf 31 = 1 := by kernel_rfl
theorem cells37 : Try.prog.cellsOf 37 = 3 := by kernel_rfl
theorem cells48 : Try.prog.cellsOf 48 = 9 := by kernel_rfl
theorem cells50 : Try.prog.cellsOf 50 = 13 := by kernel_rfl
section
variable {H : Type} {enc : TypeId × Value → H} {W : World} {fuel : Nat} {cs : List Value} {x : DataW H × List MemPlace}
def I64 (n : Int) : Prop := -9223372036854775808 ≤ n ∧ n ≤ 9223372036854775807
set_option maxRecDepth 100000 in
theorem td_trod (hl : cs.length = 3) (hf : DataW.trod enc Try.prog W 0 (fun _ => true) true fuel 37 cs = some x) : ∃ a b c : Int, cs = [.int .i64 a, .int .i64 b, .int .i64 c] ∧ I64 a ∧ I64 b ∧ I64 c := by
  obtain ⟨xs, k, hk, hxy, _, hxl, hfl⟩ := DataW.trod_struct Try.underlying37 hf
  match xs, hxl, cs, hl with
  | [y0, y1, y2], _, [v0, v1, v2], _ =>
    have g0 := hfl 0 _ rfl
    have g1 := hfl 1 _ rfl
    have g2 := hfl 2 _ rfl
    simp [cells3] at g0 g1 g2
    obtain ⟨k0, f0, _, b0⟩ := DataW.trod_int Try.underlying3 g0
    obtain ⟨k1, f1, _, b1⟩ := DataW.trod_int Try.underlying3 g1
    obtain ⟨k2, f2, _, b2⟩ := DataW.trod_int Try.underlying3 g2
    simp at f0 f1 f2
    subst f0 f1 f2
    exact ⟨k0, k1, k2, rfl, bounds_i64 b0, bounds_i64 b1, bounds_i64 b2⟩
set_option maxRecDepth 100000 in
theorem rz_trod (hl : cs.length = 9) (hf : DataW.trod enc Try.prog W 0 (fun _ => true) true fuel 48 cs = some x) : ∃ r : Rz, cs = (rzA r).toList := by
  obtain ⟨xs, k, hk, hxy, _, hxl, hfl⟩ := DataW.trod_struct Try.underlying48 hf
  match xs, hxl, cs, hl with
  | [y0, y1, y2, y3, y4, y5, y6], _, [v0, v1, v2, v3, v4, v5, v6, v7, v8], _ =>
    have g0 := hfl 0 _ rfl
    have g1 := hfl 1 _ rfl
    have g2 := hfl 2 _ rfl
    have g3 := hfl 3 _ rfl
    have g4 := hfl 4 _ rfl
    have g5 := hfl 5 _ rfl
    have g6 := hfl 6 _ rfl
    simp [cells3, cells4, cells31, cells37] at g0 g1 g2 g3 g4 g5 g6
    obtain ⟨k0, f0, _, _⟩ := DataW.trod_int Try.underlying31 g0
    obtain ⟨k1, f1, _, _⟩ := DataW.trod_int Try.underlying3 g1
    obtain ⟨a, b, c, f2, _⟩ := td_trod rfl g2
    obtain ⟨k3, f3, _, _⟩ := DataW.trod_int Try.underlying3 g3
    obtain ⟨k4, f4, _, _⟩ := DataW.trod_int Try.underlying3 g4
    obtain ⟨k5, f5, _, _⟩ := DataW.trod_int Try.underlying3 g5
    obtain ⟨k6, f6, _⟩ := DataW.trod_bool Try.underlying4 g6
    simp at f0 f1 f2 f3 f4 f5 f6
    obtain ⟨f2, f2b, f2c⟩ := f2
    subst f0 f1 f2 f2b f2c f3 f4 f5 f6
    exact ⟨⟨k0, k1, a, b, c, k3, k4, k5, k6⟩, rfl⟩
set_option maxRecDepth 100000 in
theorem op_trod (hl : cs.length = 13) (hf : DataW.trod enc Try.prog W 0 (fun _ => true) true fuel 50 cs = some x) : ∃ (o s k n : Int) (r : Rz), cs = (opA o s k n r).toList := by
  obtain ⟨xs, k, hk, hxy, _, hxl, hfl⟩ := DataW.trod_struct Try.underlying50 hf
  match xs, hxl with
  | [y0, y1, y2, y3, y4], _ =>
    have g0 : DataW.trod enc Try.prog W 0 (fun _ => true) true k 3 ((cs.drop 0).take (Try.prog.cellsOf 3)) = some y0 := hfl 0 _ rfl
    have g1 : DataW.trod enc Try.prog W 0 (fun _ => true) true k 3 ((cs.drop 1).take (Try.prog.cellsOf 3)) = some y1 := hfl 1 _ rfl
    have g2 : DataW.trod enc Try.prog W 0 (fun _ => true) true k 3 ((cs.drop 2).take (Try.prog.cellsOf 3)) = some y2 := hfl 2 _ rfl
    have g3 : DataW.trod enc Try.prog W 0 (fun _ => true) true k 3 ((cs.drop 3).take (Try.prog.cellsOf 3)) = some y3 := hfl 3 _ rfl
    have g4 : DataW.trod enc Try.prog W 0 (fun _ => true) true k 48 ((cs.drop 4).take (Try.prog.cellsOf 48)) = some y4 := hfl 4 _ rfl
    rw [cells3] at g0 g1 g2 g3
    rw [cells48] at g4
    obtain ⟨r, hr⟩ := rz_trod (by simp [hl]) g4
    obtain ⟨k0, f0, _, _⟩ := DataW.trod_int Try.underlying3 g0
    obtain ⟨k1, f1, _, _⟩ := DataW.trod_int Try.underlying3 g1
    obtain ⟨k2, f2, _, _⟩ := DataW.trod_int Try.underlying3 g2
    obtain ⟨k3, f3, _, _⟩ := DataW.trod_int Try.underlying3 g3
    refine ⟨k0, k1, k2, k3, r, ?_⟩
    match cs, hl, f0, f1, f2, f3, hr with
    | v0 :: v1 :: v2 :: v3 :: l, hl, f0, f1, f2, f3, hr =>
      simp at f0 f1 f2 f3
      subst f0 f1 f2 f3
      have hl9 : l.length = 9 := by simpa using hl
      have e : l = (rzA r).toList := by
        have h9 : l.take 9 = (rzA r).toList := hr
        rwa [List.take_of_length_le (by omega)] at h9
      rw [e]
end
section
variable {H : Type} {enc : TypeId × Value → H} {W : World}
set_option maxRecDepth 100000 in
theorem open_op {base : Nat} {v : Value} {d : DataW H} {p : List MemPlace} (hv : Value.okWide Try.prog W .any base 50 v) (h : DataW.Trod enc Try.prog W 0 (fun _ => true) true 50 v d p) : ∃ (o s k n : Int) (r : Rz), v = .agg (opA o s k n r) := by
  obtain ⟨cs, rfl, hsz⟩ := okWide_struct Try.underlying50 hv
  obtain ⟨fuel, hf⟩ := h
  obtain ⟨l⟩ := cs
  have hl : l.length = 13 := hsz.trans cells50
  obtain ⟨o, s, k, n, r, e⟩ := op_trod (cs := l) hl hf
  exact ⟨o, s, k, n, r, by rw [e]⟩
set_option maxRecDepth 100000 in
theorem againT_op {W' : World} {v : Value} {d : DataW H} {p : List MemPlace} (h : DataW.Trod enc Try.prog W 0 (fun _ => true) true 50 v d p) (hb : Below W.heap.size W W') (hlt : ∀ x ∈ p, x.block < W.heap.size) : DataW.Trod enc Try.prog W' 0 (fun b => decide (b < W.heap.size)) true 50 v d p :=
  Below.trod laidOut (by kernel_rfl) (of_decide_eq_true (by kernel_rfl)) h hb hlt
end
end Go.Proofs.Ytfokgalgdlajlaa
