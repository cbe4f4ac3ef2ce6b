/- Arguments opened: a transaction, a script of calls. -/
import Derived.Test.YtfokgalgdlajlaaRk
import Derived.Carry
import Derived.ProofKit
import Derived.SizedLaws
import Derived.OpenShut
import Derived.Deep.Slices
import Derived.Lib.SmallJoins
namespace Go.Proofs.Ytfokgalgdlajlaa
open Go.ChangeShapes Go.WideShapes Go.ChangeAt Go.WideMaps Go.WideElems Go.RowKit Go.Joins Go.Deep
theorem cell_lt {w : World} {a : Addr} {v : Value} (h : w.cell? a = some v) : a.block < w.heap.size := by
  rcases Nat.lt_or_ge a.block w.heap.size with h' | h'
  · exact h'
  · have e := Array.getElem?_eq_none h'
    simp [World.cell?, e] at h
theorem own : ownKnob Try.prog.godebug = none := by kernel_rfl
theorem laidOut : laidOutB Try.prog = true := by kernel_rfl
theorem cells3 : Try.prog.cellsOf 3 = 1 := by kernel_rfl
theorem cells4 : Try.prog.cellsOf 4 = 1 := by kernel_rfl
theorem cells31 : Try.prog.cellsOf 31 = 1 := by kernel_rfl
theorem cells37 : Try.prog.cellsOf 37 = 3 := by kernel_rfl
theorem cells48 : Try.prog.cellsOf 48 = 9 := by kernel_rfl
theorem cells50 : Try.prog.cellsOf 50 = 13 := by kernel_rfl
section
variable {H : Type} {enc : TypeId × Value → H} {W : World} {fuel : Nat} {cs : List Value} {x : DataW H × List MemPlace}
set_option maxRecDepth 100000 in
theorem td_trod (hl : cs.length = 3) (hf : DataW.trod enc Try.prog W 0 (fun _ => true) true fuel 37 cs = some x) : ∃ a b c : Int, cs = [.int .i64 a, .int .i64 b, .int .i64 c] ∧ I64 a ∧ I64 b ∧ I64 c := by
  obtain ⟨xs, k, hk, hxy, _, hxl, hfl⟩ := DataW.trod_struct Try.underlying37 hf
  match xs, hxl, cs, hl with
  | [y0, y1, y2], _, [v0, v1, v2], _ =>
    have g0 := hfl 0 _ rfl
    have g1 := hfl 1 _ rfl
    have g2 := hfl 2 _ rfl
    simp [cells3] at g0 g1 g2
    obtain ⟨k0, f0, _, b0⟩ := DataW.trod_int Try.underlying3 g0
    obtain ⟨k1, f1, _, b1⟩ := DataW.trod_int Try.underlying3 g1
    obtain ⟨k2, f2, _, b2⟩ := DataW.trod_int Try.underlying3 g2
    simp at f0 f1 f2
    subst f0 f1 f2
    exact ⟨k0, k1, k2, rfl, bounds_i64 b0, bounds_i64 b1, bounds_i64 b2⟩
set_option maxRecDepth 100000 in
theorem rz_trod (hl : cs.length = 9) (hf : DataW.trod enc Try.prog W 0 (fun _ => true) true fuel 48 cs = some x) : ∃ r : Rz, cs = (rzA r).toList := by
  obtain ⟨xs, k, hk, hxy, _, hxl, hfl⟩ := DataW.trod_struct Try.underlying48 hf
  match xs, hxl, cs, hl with
  | [y0, y1, y2, y3, y4, y5, y6], _, [v0, v1, v2, v3, v4, v5, v6, v7, v8], _ =>
    have g0 := hfl 0 _ rfl
    have g1 := hfl 1 _ rfl
    have g2 := hfl 2 _ rfl
    have g3 := hfl 3 _ rfl
    have g4 := hfl 4 _ rfl
    have g5 := hfl 5 _ rfl
    have g6 := hfl 6 _ rfl
    simp [cells3, cells4, cells31, cells37] at g0 g1 g2 g3 g4 g5 g6
    obtain ⟨k0, f0, _, _⟩ := DataW.trod_int Try.underlying31 g0
    obtain ⟨k1, f1, _, _⟩ := DataW.trod_int Try.underlying3 g1
    obtain ⟨a, b, c, f2, _⟩ := td_trod rfl g2
    obtain ⟨k3, f3, _, _⟩ := DataW.trod_int Try.underlying3 g3
    obtain ⟨k4, f4, _, _⟩ := DataW.trod_int Try.underlying3 g4
    obtain ⟨k5, f5, _, _⟩ := DataW.trod_int Try.underlying3 g5
    obtain ⟨k6, f6, _⟩ := DataW.trod_bool Try.underlying4 g6
    simp at f0 f1 f2 f3 f4 f5 f6
    obtain ⟨f2, f2b, f2c⟩ := f2
    subst f0 f1 f2 f2b f2c f3 f4 f5 f6
    exact ⟨⟨k0, k1, a, b, c, k3, k4, k5, k6⟩, rfl⟩
set_option maxRecDepth 100000 in
theorem op_trod (hl : cs.length = 13) (hf : DataW.trod enc Try.prog W 0 (fun _ => true) true fuel 50 cs = some x) : ∃ (o s k n : Int) (r : Rz), cs = (opA o s k n r).toList := by
  obtain ⟨xs, k, hk, hxy, _, hxl, hfl⟩ := DataW.trod_struct Try.underlying50 hf
  match xs, hxl with
  | [y0, y1, y2, y3, y4], _ =>
    have g0 : DataW.trod enc Try.prog W 0 (fun _ => true) true k 3 ((cs.drop 0).take (Try.prog.cellsOf 3)) = some y0 := hfl 0 _ rfl
    have g1 : DataW.trod enc Try.prog W 0 (fun _ => true) true k 3 ((cs.drop 1).take (Try.prog.cellsOf 3)) = some y1 := hfl 1 _ rfl
    have g2 : DataW.trod enc Try.prog W 0 (fun _ => true) true k 3 ((cs.drop 2).take (Try.prog.cellsOf 3)) = some y2 := hfl 2 _ rfl
    have g3 : DataW.trod enc Try.prog W 0 (fun _ => true) true k 3 ((cs.drop 3).take (Try.prog.cellsOf 3)) = some y3 := hfl 3 _ rfl
    have g4 : DataW.trod enc Try.prog W 0 (fun _ => true) true k 48 ((cs.drop 4).take (Try.prog.cellsOf 48)) = some y4 := hfl 4 _ rfl
    rw [cells3] at g0 g1 g2 g3
    rw [cells48] at g4
    obtain ⟨r, hr⟩ := rz_trod (by simp [hl]) g4
    obtain ⟨k0, f0, _, _⟩ := DataW.trod_int Try.underlying3 g0
    obtain ⟨k1, f1, _, _⟩ := DataW.trod_int Try.underlying3 g1
    obtain ⟨k2, f2, _, _⟩ := DataW.trod_int Try.underlying3 g2
    obtain ⟨k3, f3, _, _⟩ := DataW.trod_int Try.underlying3 g3
    refine ⟨k0, k1, k2, k3, r, ?_⟩
    match cs, hl, f0, f1, f2, f3, hr with
    | v0 :: v1 :: v2 :: v3 :: l, hl, f0, f1, f2, f3, hr =>
      simp at f0 f1 f2 f3
      subst f0 f1 f2 f3
      have hl9 : l.length = 9 := by simpa using hl
      have e : l = (rzA r).toList := by
        have h9 : l.take 9 = (rzA r).toList := hr
        rwa [List.take_of_length_le (by omega)] at h9
      rw [e]
end
section
variable {H : Type} {enc : TypeId × Value → H} {W : World}
set_option maxRecDepth 100000 in
theorem open_op {base : Nat} {v : Value} {d : DataW H} {p : List MemPlace} (hv : Value.okWide Try.prog W .any base 50 v) (h : DataW.Trod enc Try.prog W 0 (fun _ => true) true 50 v d p) : ∃ (o s k n : Int) (r : Rz), v = .agg (opA o s k n r) := by
  obtain ⟨cs, rfl, hsz⟩ := okWide_struct Try.underlying50 hv
  obtain ⟨fuel, hf⟩ := h
  obtain ⟨l⟩ := cs
  have hl : l.length = 13 := hsz.trans cells50
  obtain ⟨o, s, k, n, r, e⟩ := op_trod (cs := l) hl hf
  exact ⟨o, s, k, n, r, by rw [e]⟩
set_option maxRecDepth 100000 in
theorem againT_op {W' : World} {v : Value} {d : DataW H} {p : List MemPlace} (h : DataW.Trod enc Try.prog W 0 (fun _ => true) true 50 v d p) (hb : Below W.heap.size W W') (hlt : ∀ x ∈ p, x.block < W.heap.size) : DataW.Trod enc Try.prog W' 0 (fun b => decide (b < W.heap.size)) true 50 v d p :=
  Below.trod laidOut (by kernel_rfl) (of_decide_eq_true (by kernel_rfl)) h hb hlt
end
section
variable {H : Type} {enc : TypeId × Value → H} {W : World} {fuel : Nat} {cs : List Value} {x : DataW H × List MemPlace}
set_option maxRecDepth 100000 in
set_option maxHeartbeats 1000000 in
theorem ops_trod (hf : DataW.trod enc Try.prog W 0 (fun _ => true) true fuel 29 cs = some x) : ∃ (l : List Od) (v : Value), cs = [v] ∧ Lr (fun _ x cs => cs = odL x) 13 W l v := by
  rcases open_slice Try.underlying29 hf with ⟨hcs, hx⟩ | ⟨a, len, cap, m, n, D, Pl, hcs, _, hl, hm, hmm, hx, hel⟩
  · exact ⟨[], .slice none 0 0, hcs, ⟨none, 0, rfl, fun _ => rfl, Nat.le_refl _, Nat.zero_le _, fun i hi => by simp at hi⟩⟩
  · simp only [if_true] at hmm
    subst hmm
    have each : ∀ i, i < len → ∃ q : Od, ∃ cs', cs' = odL q ∧ cs'.length = 13 ∧ ∀ j u, cs'[j]? = some u → W.cell? (a.add (i * 13 + j)) = some u := by
      intro i hi
      obtain ⟨cs', h1, h2⟩ := hel i (by omega)
      rw [cells50] at h1
      obtain ⟨_, hlen, hcell⟩ := World.cells?_some h1
      obtain ⟨o, s, k, n, r, e⟩ := op_trod hlen h2
      refine ⟨⟨o, s, k, n, r⟩, cs', e, hlen, fun j u hu => ?_⟩
      have hj : j < cs'.length := by
        rw [List.getElem?_eq_some_iff] at hu
        exact hu.1
      have z := hcell j (by omega)
      rw [add_add] at z
      rw [z]
      exact hu
    have hinh : Inhabited Od := ⟨⟨0, 0, 0, 0, ⟨0, 0, 0, 0, 0, 0, 0, 0, false⟩⟩⟩
    obtain ⟨q, hq⟩ := choose_lt each
    have hlen : ((List.range len).map q).length = len := by simp
    refine ⟨(List.range len).map q, _, hcs, ⟨some a, m, by rw [hlen], fun z => (by cases z), by rw [hlen]; exact hl, hm, fun i hi => ?_⟩⟩
    rw [hlen] at hi
    obtain ⟨cs', e1, e2, e3⟩ := hq i hi
    obtain ⟨b, o, sp⟩ := a
    have hw0 : ∃ u, W.cell? ((⟨b, o, sp⟩ : Addr).add (i * 13 + 0)) = some u := ⟨_, e3 0 _ (List.getElem?_eq_getElem (by omega))⟩
    have hsp : sp = none := by
      obtain ⟨cs0, _, l0, c0⟩ := hq 0 (by omega)
      have := World.cell?_spot (c0 0 _ (List.getElem?_eq_getElem (by omega)))
      simpa [Addr.add] using this
    subst hsp
    have e : ((List.range len).map q)[i]'(by rw [hlen]; exact hi) = q i := by simp
    rw [e]
    have hbl : b < W.heap.size := by
      obtain ⟨u, z⟩ := hw0
      rw [add_at] at z
      exact cell_lt z
    exact ⟨b, o, cs', rfl, hbl, e1, e2, fun j u hu => by
      have z := e3 j u hu
      rw [add_at] at z
      rw [Nat.add_assoc]
      exact z⟩
end
section
variable {H : Type} {enc : TypeId × Value → H} {W : World}
set_option maxRecDepth 100000 in
theorem open_ops {base : Nat} {v : Value} {d : DataW H} {p : List MemPlace} (hv : Value.okWide Try.prog W .any base 29 v) (h : DataW.Trod enc Try.prog W 0 (fun _ => true) true 29 v d p) : ∃ Os : List Od, Lr (fun _ x cs => cs = odL x) 13 W Os v := by
  obtain ⟨a, n, c, rfl⟩ := okWide_slice Try.underlying29 hv
  obtain ⟨fuel, hf⟩ := h
  obtain ⟨l, v, e, hl⟩ := ops_trod hf
  have e' : Value.slice a n c = v := by simpa [Value.cells] using e
  rw [e']
  exact ⟨l, hl⟩
set_option maxRecDepth 100000 in
theorem open_td {base : Nat} {v : Value} {d : DataW H} {p : List MemPlace} (hv : Value.okWide Try.prog W .any base 37 v) (h : DataW.Trod enc Try.prog W 0 (fun _ => true) true 37 v d p) : ∃ a b c : Int, v = .agg #[.int .i64 a, .int .i64 b, .int .i64 c] ∧ I64 a ∧ I64 b ∧ I64 c := by
  obtain ⟨cs, rfl, hsz⟩ := okWide_struct Try.underlying37 hv
  obtain ⟨fuel, hf⟩ := h
  obtain ⟨l⟩ := cs
  have hl : l.length = 3 := hsz.trans cells37
  obtain ⟨a, b, c, e, h1, h2, h3⟩ := td_trod (cs := l) hl hf
  exact ⟨a, b, c, by rw [e], h1, h2, h3⟩
set_option maxRecDepth 100000 in
theorem againT_ops {W' : World} {v : Value} {d : DataW H} {p : List MemPlace} (h : DataW.Trod enc Try.prog W 0 (fun _ => true) true 29 v d p) (hb : Below W.heap.size W W') (hlt : ∀ x ∈ p, x.block < W.heap.size) : DataW.Trod enc Try.prog W' 0 (fun b => decide (b < W.heap.size)) true 29 v d p :=
  Below.trod laidOut (by kernel_rfl) (of_decide_eq_true (by kernel_rfl)) h hb hlt
set_option maxRecDepth 100000 in
theorem againT_td {W' : World} {v : Value} {d : DataW H} {p : List MemPlace} (h : DataW.Trod enc Try.prog W 0 (fun _ => true) true 37 v d p) (hb : Below W.heap.size W W') (hlt : ∀ x ∈ p, x.block < W.heap.size) : DataW.Trod enc Try.prog W' 0 (fun b => decide (b < W.heap.size)) true 37 v d p :=
  Below.trod laidOut (by kernel_rfl) (of_decide_eq_true (by kernel_rfl)) h hb hlt
set_option maxRecDepth 100000 in
theorem againT_int {W' : World} {v : Value} {d : DataW H} {p : List MemPlace} (h : DataW.Trod enc Try.prog W 0 (fun _ => true) true 3 v d p) (hb : Below W.heap.size W W') (hlt : ∀ x ∈ p, x.block < W.heap.size) : DataW.Trod enc Try.prog W' 0 (fun b => decide (b < W.heap.size)) true 3 v d p :=
  Below.trod laidOut (by kernel_rfl) (of_decide_eq_true (by kernel_rfl)) h hb hlt
end
end Go.Proofs.Ytfokgalgdlajlaa
