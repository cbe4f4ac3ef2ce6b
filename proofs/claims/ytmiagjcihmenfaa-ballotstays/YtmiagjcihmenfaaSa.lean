/- A call as an argument, opened; how much it holds; an argument reads behind the call as before. -/
import Derived.Test.YtmiagjcihmenfaaRe
import Derived.ProofKit
import Derived.SizedLaws
import Derived.OpenShut
import Derived.Deep.Slices
import Derived.Lib.SmallJoins
namespace Go.Proofs.Ytmiagjcihmenfaa
open Go.ChangeShapes Go.WideShapes Go.ChangeAt Go.WideMaps Go.WideElems Go.RowKit Go.Joins Go.Deep

theorem own : ownKnob Try.prog.godebug = none := by kernel_rfl
theorem laidOut : laidOutB Try.prog = true := by kernel_rfl
theorem cells3 : Try.prog.cellsOf 3 = 1 := by kernel_rfl
theorem cells4 : Try.prog.cellsOf 4 = 1 := by kernel_rfl
theorem cells9 : Try.prog.cellsOf 9 = 1 := by kernel_rfl
theorem cells32 : Try.prog.cellsOf 32 = 1 := by kernel_rfl
theorem cells34 : Try.prog.cellsOf 34 = 10 := by kernel_rfl
theorem cells36 : Try.prog.cellsOf 36 = 14 := by kernel_rfl
theorem cells49 : Try.prog.cellsOf 49 = 4 := by kernel_rfl
theorem bytes49 : Try.prog.bytesOf 49 = 40 := by kernel_rfl

theorem cell_lt {w : World} {a : Addr} {v : Value} (h : w.cell? a = some v) : a.block < w.heap.size := by
  rcases Nat.lt_or_ge a.block w.heap.size with h' | h'
  · exact h'
  · have e := Array.getElem?_eq_none h'
    simp [World.cell?, e] at h
/-- A number of the machine. -/
abbrev I64 (n : Int) : Prop := -9223372036854775808 ≤ n ∧ n ≤ 9223372036854775807
structure En.In (e : En) : Prop where
  term : I64 e.term
  at' : I64 e.at'
  born : I64 e.born
structure Ms.In (m : Ms) : Prop where
  kind : I64 m.kind
  fr : I64 m.fr
  tt : I64 m.to
  term : I64 m.term
  index : I64 m.index
  prev : I64 m.prev
  commit : I64 m.commit
  list : ∀ e ∈ m.list, e.In
structure Op.In (o : Op) : Prop where
  kind : I64 o.kind
  a : I64 o.a
  b : I64 o.b
  m : o.m.In

section
variable {H : Type} {enc : TypeId × Value → H} {W : World} {fuel : Nat} {cs : List Value} {x : DataW H × List MemPlace}
set_option maxRecDepth 100000 in
theorem en_trod (hl : cs.length = 4) (hf : DataW.trod enc Try.prog W 0 (fun _ => true) true fuel 49 cs = some x) :
    ∃ l : En, cs = [.int .i64 l.term, .int .i64 l.at', .int .i64 l.born, .string l.text] ∧ l.In := by
  obtain ⟨xs, k, hk, hxy, _, hxl, hfl⟩ := DataW.trod_struct Try.underlying49 hf
  match xs, hxl, cs, hl with
  | [y0, y1, y2, y3], _, [v0, v1, v2, v3], _ =>
    have g0 := hfl 0 _ rfl
    have g1 := hfl 1 _ rfl
    have g2 := hfl 2 _ rfl
    have g3 := hfl 3 _ rfl
    simp [cells3, cells9] at g0 g1 g2 g3
    obtain ⟨k0, f0, _, b0⟩ := DataW.trod_int Try.underlying3 g0
    obtain ⟨k1, f1, _, b1⟩ := DataW.trod_int Try.underlying3 g1
    obtain ⟨k2, f2, _, b2⟩ := DataW.trod_int Try.underlying3 g2
    obtain ⟨s, f3, _, _⟩ := DataW.trod_string Try.underlying9 g3
    simp at f0 f1 f2 f3
    subst f0 f1 f2 f3
    exact ⟨⟨k0, k1, k2, s⟩, rfl, bounds_i64 b0, bounds_i64 b1, bounds_i64 b2⟩
set_option maxRecDepth 100000 in
theorem list_trod (hf : DataW.trod enc Try.prog W 0 (fun _ => true) true fuel 32 cs = some x) :
    ∃ (L : List En) (ad : Option Addr) (cap : Nat), cs = [.slice ad L.length cap] ∧ Es W (fun _ => False) L (.slice ad L.length cap) ∧ (∀ e ∈ L, e.In) ∧ (L = [] ∨ ∃ elems spare, x.1 = .slice elems spare ∧ elems.length = L.length) := by
  rcases open_slice Try.underlying32 hf with ⟨hcs, _⟩ | ⟨a, len, cap, m, n, D, Pl, rfl, _, hl, hm, hmm, hx, hel⟩
  · subst hcs
    exact ⟨[], none, 0, rfl, Es.nil _ _, fun e he => by simp at he, .inl rfl⟩
  · simp only [if_true] at hmm
    subst hmm
    have each : ∀ i, i < len → ∃ q : En, W.cell? (a.add (i * 4)) = some (.int .i64 q.term) ∧ W.cell? (a.add (i * 4 + 1)) = some (.int .i64 q.at') ∧ W.cell? (a.add (i * 4 + 2)) = some (.int .i64 q.born) ∧ W.cell? (a.add (i * 4 + 3)) = some (.string q.text) ∧ q.In := by
      intro i hi
      obtain ⟨cs', h1, h2⟩ := hel i (by omega)
      rw [cells49] at h1
      obtain ⟨_, hlen, hcell⟩ := World.cells?_some h1
      obtain ⟨l, rfl, hin⟩ := en_trod hlen h2
      have e0 := hcell 0 (by omega)
      have e1 := hcell 1 (by omega)
      have e2 := hcell 2 (by omega)
      have e3 := hcell 3 (by omega)
      rw [add_add] at e0 e1 e2 e3
      exact ⟨l, e0, e1, e2, e3, hin⟩
    have hinh : Inhabited En := ⟨⟨0, 0, 0, noT⟩⟩
    obtain ⟨q, hq⟩ := choose_lt each
    have hlen : ((List.range len).map q).length = len := by simp
    refine ⟨(List.range len).map q, some a, m, by rw [hlen], ⟨some a, m, rfl, (fun h => by cases h), (by rw [hlen]; exact hl), hm, fun i hi => ?_⟩, fun v hv => ?_, .inr ⟨_, _, congrArg Prod.fst hx, by simp⟩⟩
    · rw [hlen] at hi
      obtain ⟨c0, c1, c2, c3, _⟩ := hq i hi
      obtain ⟨b, o, sp⟩ := a
      have hsp : sp = none := by
        have := World.cell?_spot (hq 0 (by omega)).1
        simpa [Addr.add] using this
      subst hsp
      rw [add_at] at c0 c1 c2 c3
      refine ⟨b, o, rfl, cell_lt c0, fun h => h, ?_, ?_, ?_, ?_⟩
      · simpa using c0
      · simpa [Nat.add_assoc] using c1
      · simpa [Nat.add_assoc] using c2
      · simpa [Nat.add_assoc] using c3
    · obtain ⟨i, hi, rfl⟩ := List.mem_map.1 hv
      exact (hq i (List.mem_range.1 hi)).2.2.2.2
/-- How much a list weighs. -/
def Wl (x : DataW H) (L : List En) : Prop := L = [] ∨ ∃ elems spare, x = .slice elems spare ∧ elems.length = L.length
set_option maxRecDepth 100000 in
theorem ms_trod (hl : cs.length = 10) (hf : DataW.trod enc Try.prog W 0 (fun _ => true) true fuel 34 cs = some x) :
    ∃ (m : Ms) (ad : Option Addr) (cap : Nat), cs = [.int .i64 m.kind, .int .i64 m.fr, .int .i64 m.to, .int .i64 m.term, .int .i64 m.index, .int .i64 m.prev, .int .i64 m.commit, .bool m.good, .slice ad m.list.length cap, .string m.snap] ∧
      Es W (fun _ => False) m.list (.slice ad m.list.length cap) ∧ m.In ∧ ∃ d0 d1 d2 d3 d4 d5 d6 d7 d8 d9, x.1 = .agg [d0, d1, d2, d3, d4, d5, d6, d7, d8, d9] ∧ Wl d8 m.list := by
  obtain ⟨xs, k, hk, hxy, _, hxl, hfl⟩ := DataW.trod_struct Try.underlying34 hf
  match xs, hxl, cs, hl with
  | [y0, y1, y2, y3, y4, y5, y6, y7, y8, y9], _, [v0, v1, v2, v3, v4, v5, v6, v7, v8, v9], _ =>
    have g0 := hfl 0 _ rfl
    have g1 := hfl 1 _ rfl
    have g2 := hfl 2 _ rfl
    have g3 := hfl 3 _ rfl
    have g4 := hfl 4 _ rfl
    have g5 := hfl 5 _ rfl
    have g6 := hfl 6 _ rfl
    have g7 := hfl 7 _ rfl
    have g8 := hfl 8 _ rfl
    have g9 := hfl 9 _ rfl
    simp [cells3, cells9, cells4, cells32] at g0 g1 g2 g3 g4 g5 g6 g7 g8 g9
    obtain ⟨k0, f0, _, b0⟩ := DataW.trod_int Try.underlying3 g0
    obtain ⟨k1, f1, _, b1⟩ := DataW.trod_int Try.underlying3 g1
    obtain ⟨k2, f2, _, b2⟩ := DataW.trod_int Try.underlying3 g2
    obtain ⟨k3, f3, _, b3⟩ := DataW.trod_int Try.underlying3 g3
    obtain ⟨k4, f4, _, b4⟩ := DataW.trod_int Try.underlying3 g4
    obtain ⟨k5, f5, _, b5⟩ := DataW.trod_int Try.underlying3 g5
    obtain ⟨k6, f6, _, b6⟩ := DataW.trod_int Try.underlying3 g6
    obtain ⟨k7, f7, _⟩ := DataW.trod_bool Try.underlying4 g7
    obtain ⟨L, ad, cap, f8, hE, hI, hw⟩ := list_trod g8
    obtain ⟨s, f9, _, _⟩ := DataW.trod_string Try.underlying9 g9
    simp at f0 f1 f2 f3 f4 f5 f6 f7 f8 f9
    subst f0 f1 f2 f3 f4 f5 f6 f7 f8 f9
    refine ⟨⟨k0, k1, k2, k3, k4, k5, k6, k7, L, s⟩, ad, cap, rfl, hE, ⟨bounds_i64 b0, bounds_i64 b1, bounds_i64 b2, bounds_i64 b3, bounds_i64 b4, bounds_i64 b5, bounds_i64 b6, hI⟩, y0.1, y1.1, y2.1, y3.1, y4.1, y5.1, y6.1, y7.1, y8.1, y9.1, ?_, hw⟩
    rw [hxy]
    rfl
set_option maxRecDepth 100000 in
theorem op_trod (hl : cs.length = 14) (hf : DataW.trod enc Try.prog W 0 (fun _ => true) true fuel 36 cs = some x) :
    ∃ (o : Op) (ad : Option Addr) (cap : Nat), cs = [.int .i64 o.kind, .int .i64 o.a, .int .i64 o.b, .string o.text, .int .i64 o.m.kind, .int .i64 o.m.fr, .int .i64 o.m.to, .int .i64 o.m.term, .int .i64 o.m.index, .int .i64 o.m.prev, .int .i64 o.m.commit, .bool o.m.good, .slice ad o.m.list.length cap, .string o.m.snap] ∧
      Es W (fun _ => False) o.m.list (.slice ad o.m.list.length cap) ∧ o.In ∧ ∃ e0 e1 e2 e3 d0 d1 d2 d3 d4 d5 d6 d7 d8 d9, x.1 = .agg [e0, e1, e2, e3, .agg [d0, d1, d2, d3, d4, d5, d6, d7, d8, d9]] ∧ Wl d8 o.m.list := by
  obtain ⟨xs, k, hk, hxy, _, hxl, hfl⟩ := DataW.trod_struct Try.underlying36 hf
  match xs, hxl, cs, hl with
  | [y0, y1, y2, y3, y4], _, [v0, v1, v2, v3, v4, v5, v6, v7, v8, v9, v10, v11, v12, v13], _ =>
    have g0 := hfl 0 _ rfl
    have g1 := hfl 1 _ rfl
    have g2 := hfl 2 _ rfl
    have g3 := hfl 3 _ rfl
    have g4 := hfl 4 _ rfl
    simp [cells3, cells9, cells34] at g0 g1 g2 g3 g4
    obtain ⟨k0, f0, _, b0⟩ := DataW.trod_int Try.underlying3 g0
    obtain ⟨k1, f1, _, b1⟩ := DataW.trod_int Try.underlying3 g1
    obtain ⟨k2, f2, _, b2⟩ := DataW.trod_int Try.underlying3 g2
    obtain ⟨s, f3, _, _⟩ := DataW.trod_string Try.underlying9 g3
    obtain ⟨m, ad, cap, f4, hE, hI, d0, d1, d2, d3, d4, d5, d6, d7, d8, d9, hd, hw⟩ := ms_trod rfl g4
    simp at f0 f1 f2 f3 f4
    obtain ⟨rfl, rfl, rfl, rfl, rfl, rfl, rfl, rfl, rfl, rfl⟩ := f4
    subst f0 f1 f2 f3
    refine ⟨⟨k0, k1, k2, s, m⟩, ad, cap, rfl, hE, ⟨bounds_i64 b0, bounds_i64 b1, bounds_i64 b2, hI⟩, y0.1, y1.1, y2.1, y3.1, d0, d1, d2, d3, d4, d5, d6, d7, d8, d9, ?_, hw⟩
    rw [hxy, ← hd]
    rfl
set_option maxRecDepth 100000 in
theorem wl_sized {e0 e1 e2 e3 d0 d1 d2 d3 d4 d5 d6 d7 d8 d9 : DataW H} {L : List En} (hw : Wl d8 L) (h : ∀ n ∈ DataW.weights Try.prog 36 (.agg [e0, e1, e2, e3, .agg [d0, d1, d2, d3, d4, d5, d6, d7, d8, d9]]), n ≤ reachBytes) : L.length * 40 ≤ reachBytes := by
  rcases hw with rfl | ⟨elems, spare, rfl, e⟩
  · exact Nat.zero_le _
  · have h1 : (elems.length + spare.length) * Try.prog.bytesOf 49 ≤ reachBytes := by
      apply h
      simp only [DataW.weights, Try.underlying36, Try.underlying34, Try.underlying32, DataW.weightsEach, List.map_cons, List.mem_append, List.mem_cons]
      simp
    rw [bytes49, e] at h1
    exact Nat.le_trans (Nat.mul_le_mul_right _ (Nat.le_add_right _ _)) h1
end
section
variable {H : Type} {enc : TypeId × Value → H}
set_option maxRecDepth 100000 in
theorem open_op {W : World} {base : Nat} {v : Value} {d : DataW H} {p : List MemPlace} (hv : Value.okWide Try.prog W .any base 36 v) (h : DataW.Trod enc Try.prog W 0 (fun _ => true) true 36 v d p) :
    ∃ (o : Op) (ad : Option Addr) (cap : Nat), v = opV o (.slice ad o.m.list.length cap) ∧ Es W (fun _ => False) o.m.list (.slice ad o.m.list.length cap) ∧ o.In ∧ ((∀ n ∈ DataW.weights Try.prog 36 d, n ≤ reachBytes) → o.m.list.length * 40 ≤ reachBytes) := by
  obtain ⟨cs, rfl, hsz⟩ := okWide_struct Try.underlying36 hv
  obtain ⟨fuel, hf⟩ := h
  obtain ⟨l⟩ := cs
  have hl : l.length = 14 := hsz.trans cells36
  obtain ⟨o, ad, cap, e, hE, hI, e0, e1, e2, e3, d0, d1, d2, d3, d4, d5, d6, d7, d8, d9, hd, hw⟩ := op_trod (cs := l) hl hf
  subst e
  have hd : d = _ := hd
  subst hd
  exact ⟨o, ad, cap, rfl, hE, hI, wl_sized hw⟩
set_option maxRecDepth 100000 in
theorem again_op {W W' : World} {v : Value} {d : DataW H} {p : List MemPlace} (h : DataW.Trod enc Try.prog W 0 (fun _ => true) true 36 v d p) (hb : Below W.heap.size W W') (hlt : ∀ x ∈ p, x.block < W.heap.size) : DataW.Trod enc Try.prog W' 0 (fun b => decide (b < W.heap.size)) true 36 v d p :=
  Below.trod laidOut (by kernel_rfl) (of_decide_eq_true (by kernel_rfl)) h hb hlt
theorem again_ops {W W' : World} {v : Value} {d : DataW H} {p : List MemPlace} (h : DataW.Trod enc Try.prog W 0 (fun _ => true) true 22 v d p) (hb : Below W.heap.size W W') (hlt : ∀ x ∈ p, x.block < W.heap.size) : DataW.Trod enc Try.prog W' 0 (fun b => decide (b < W.heap.size)) true 22 v d p :=
  Below.trod laidOut (by kernel_rfl) (of_decide_eq_true (by kernel_rfl)) h hb hlt
theorem again_int {W W' : World} {v : Value} {d : DataW H} {p : List MemPlace} (h : DataW.Trod enc Try.prog W 0 (fun _ => true) true 3 v d p) (hb : Below W.heap.size W W') (hlt : ∀ x ∈ p, x.block < W.heap.size) : DataW.Trod enc Try.prog W' 0 (fun b => decide (b < W.heap.size)) true 3 v d p :=
  Below.trod laidOut (by kernel_rfl) (of_decide_eq_true (by kernel_rfl)) h hb hlt
end
end Go.Proofs.Ytmiagjcihmenfaa
