/- Arguments opened: a call, a list of calls, a span; each reads behind the call as before. -/
import Derived.Test.YtcoaahlakkghhaaVp
namespace Go.Proofs.Ytcoaahlakkghhaa
open Go.ChangeShapes Go.WideShapes Go.ChangeAt Go.WideMaps Go.WideElems Go.RowKit Go.Joins Go.Deep
open Go.ChangeMaps (open_string)

theorem own : ownKnob Try.prog.godebug = none := by kernel_rfl
theorem laidOut : laidOutB Try.prog = true := by kernel_rfl
theorem cells3 : Try.prog.cellsOf 3 = 1 := by kernel_rfl
theorem cells4 : Try.prog.cellsOf 4 = 1 := by kernel_rfl
theorem cells9 : Try.prog.cellsOf 9 = 1 := by kernel_rfl
theorem cells125 : Try.prog.cellsOf 125 = 3 := by kernel_rfl
theorem cells57 : Try.prog.cellsOf 57 = 2 := by kernel_rfl
theorem cell_lt {w : World} {a : Addr} {v : Value} (h : w.cell? a = some v) : a.block < w.heap.size := by
  rcases Nat.lt_or_ge a.block w.heap.size with h' | h'
  · exact h'
  · have e := Array.getElem?_eq_none h'
    simp [World.cell?, e] at h
/-- A number of the machine. -/
abbrev I64 (n : Int) : Prop := -9223372036854775808 ≤ n ∧ n ≤ 9223372036854775807
section
variable {H : Type} {enc : TypeId × Value → H} {W : World} {fuel : Nat} {cs : List Value} {x : DataW H × List MemPlace}
theorem reach_max {n : Nat} (h : n ≤ reachBytes) : n ≤ maxLen := by
  have hR := reachBytes_lt
  unfold maxLen
  omega
set_option maxRecDepth 100000 in
theorem ve_trod (hl : cs.length = 3) (hf : DataW.trod enc Try.prog W 0 (fun _ => true) true fuel 125 cs = some x) : ∃ v : Ve, cs = [.int .i64 v.ts, .string v.val, .bool v.dead] := by
  obtain ⟨xs, k, hk, hxy, _, hxl, hfl⟩ := DataW.trod_struct Try.underlying125 hf
  match xs, hxl, cs, hl with
  | [y0, y1, y2], _, [v0, v1, v2], _ =>
    have g0 := hfl 0 _ rfl
    have g1 := hfl 1 _ rfl
    have g2 := hfl 2 _ rfl
    simp [cells3, cells9, cells4] at g0 g1 g2
    obtain ⟨k0, f0, _, b0⟩ := DataW.trod_int Try.underlying3 g0
    obtain ⟨s, f1, _, _⟩ := DataW.trod_string Try.underlying9 g1
    obtain ⟨k2, f2, _⟩ := DataW.trod_bool Try.underlying4 g2
    simp at f0 f1 f2
    subst f0 f1 f2
    exact ⟨⟨k0, s, k2⟩, rfl⟩
set_option maxRecDepth 100000 in
theorem span_trod (hl : cs.length = 2) (hf : DataW.trod enc Try.prog W 0 (fun _ => true) true fuel 57 cs = some x) : ∃ s u : ByteArray, cs = [.string s, .string u] ∧ ((∀ n ∈ DataW.weights Try.prog 57 x.1, n ≤ reachBytes) → s.size ≤ maxLen ∧ u.size ≤ maxLen) := by
  obtain ⟨xs, k, hk, hxy, _, hxl, hfl⟩ := DataW.trod_struct Try.underlying57 hf
  match xs, hxl, cs, hl with
  | [y0, y1], _, [v0, v1], _ =>
    have g0 := hfl 0 _ rfl
    have g1 := hfl 1 _ rfl
    simp [cells9] at g0 g1
    obtain ⟨s, f0, e0, _⟩ := DataW.trod_string Try.underlying9 g0
    obtain ⟨u, f1, e1, _⟩ := DataW.trod_string Try.underlying9 g1
    simp at f0 f1
    subst f0 f1
    refine ⟨s, u, rfl, fun h => ?_⟩
    have e0' : y0.1 = _ := congrArg Prod.fst e0
    have e1' : y1.1 = _ := congrArg Prod.fst e1
    have hx : x.1 = .agg [y0.1, y1.1] := by rw [hxy]; rfl
    rw [hx] at h
    have h1 := h s.data.toList.length (by
      simp only [DataW.weights, Try.underlying57, DataW.weightsEach, List.map_cons, List.mem_append]
      rw [e0']
      simp [DataW.weights])
    have h2 := h u.data.toList.length (by
      simp only [DataW.weights, Try.underlying57, DataW.weightsEach, List.map_cons, List.mem_append]
      rw [e1']
      simp [DataW.weights])
    rw [Array.length_toList] at h1 h2
    exact ⟨reach_max h1, reach_max h2⟩
theorem weights_all {P : Program} {e : TypeId} {n : Nat} {d : DataW H} : ∀ {l : List (DataW H)}, d ∈ l → n ∈ d.weights P e → n ∈ DataW.weightsAll P e l
  | [], h, _ => by cases h
  | a :: l, h, hn => by
    simp only [DataW.weightsAll, List.mem_append]
    rcases List.mem_cons.1 h with rfl | h
    · exact .inl hn
    · exact .inr (weights_all h hn)
end
section
variable {H : Type} {enc : TypeId × Value → H}
set_option maxRecDepth 100000 in
theorem open_span {W : World} {base : Nat} {v : Value} {d : DataW H} {p : List MemPlace} (hv : Value.okWide Try.prog W .any base 57 v) (h : DataW.Trod enc Try.prog W 0 (fun _ => true) true 57 v d p) :
    ∃ s u : ByteArray, v = .agg #[.string s, .string u] ∧ ((∀ n ∈ DataW.weights Try.prog 57 d, n ≤ reachBytes) → s.size ≤ maxLen ∧ u.size ≤ maxLen) := by
  obtain ⟨cs, rfl, hsz⟩ := okWide_struct Try.underlying57 hv
  obtain ⟨fuel, hf⟩ := h
  obtain ⟨l⟩ := cs
  have hl : l.length = 2 := hsz.trans cells57
  obtain ⟨s, u, e, hz⟩ := span_trod (cs := l) hl hf
  subst e
  exact ⟨s, u, rfl, hz⟩
end
section
variable {H : Type} {enc : TypeId × Value → H}
theorem again_span {W W' : World} {v : Value} {d : DataW H} {p : List MemPlace} (h : DataW.Trod enc Try.prog W 0 (fun _ => true) true 57 v d p) (hb : Below W.heap.size W W') (hlt : ∀ x ∈ p, x.block < W.heap.size) : DataW.Trod enc Try.prog W' 0 (fun b => decide (b < W.heap.size)) true 57 v d p :=
  Below.trod laidOut (by kernel_rfl) (of_decide_eq_true (by kernel_rfl)) h hb hlt
theorem again_int {W W' : World} {v : Value} {d : DataW H} {p : List MemPlace} (h : DataW.Trod enc Try.prog W 0 (fun _ => true) true 3 v d p) (hb : Below W.heap.size W W') (hlt : ∀ x ∈ p, x.block < W.heap.size) : DataW.Trod enc Try.prog W' 0 (fun b => decide (b < W.heap.size)) true 3 v d p :=
  Below.trod laidOut (by kernel_rfl) (of_decide_eq_true (by kernel_rfl)) h hb hlt
theorem again_string {W W' : World} {v : Value} {d : DataW H} {p : List MemPlace} (h : DataW.Trod enc Try.prog W 0 (fun _ => true) true 9 v d p) (hb : Below W.heap.size W W') (hlt : ∀ x ∈ p, x.block < W.heap.size) : DataW.Trod enc Try.prog W' 0 (fun b => decide (b < W.heap.size)) true 9 v d p :=
  Below.trod laidOut (by kernel_rfl) (of_decide_eq_true (by kernel_rfl)) h hb hlt
end
end Go.Proofs.Ytcoaahlakkghhaa
