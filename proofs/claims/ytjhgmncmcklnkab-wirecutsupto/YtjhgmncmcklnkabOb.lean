/- Messages and changes as arguments, opened. -/
import Derived.Test.YtjhgmncmcklnkabOa
import Derived.Test.YtjhgmncmcklnkabMm
namespace Go.Proofs.Ytjhgmncmcklnkab
open Go.ChangeShapes Go.WideShapes Go.ChangeAt Go.WideMaps Go.WideElems Go.RowKit Go.Joins Go.Deep

theorem cells140 : Try.prog.cellsOf 51 = 4 := by kernel_rfl
theorem cells22 : Try.prog.cellsOf 22 = 1 := by kernel_rfl
theorem cells24 : Try.prog.cellsOf 24 = 10 := by kernel_rfl
section
variable {H : Type} {enc : TypeId × Value → H} {W : World} {fuel : Nat} {cs : List Value} {x : DataW H × List MemPlace}
set_option maxHeartbeats 2000000 in
set_option maxRecDepth 100000 in
theorem entry_ok (hl : cs.length = 4) (hf : DataW.trod enc Try.prog W 0 (fun _ => true) true fuel 51 cs = some x) : FOk W entryT cs (Rows.uptoBulk x.1) := by
  obtain ⟨xs, k, hk, hxy, _, hxl, hfl⟩ := DataW.trod_struct Try.underlying51 hf
  match xs, hxl, cs, hl with
  | [y0, y1, y2, y3], _, [v0, v1, v2, v3], _ =>
    have g0 := hfl 0 _ rfl
    have g1 := hfl 1 _ rfl
    have g2 := hfl 2 _ rfl
    have g3 := hfl 3 _ rfl
    simp [cells3, cells9] at g0 g1 g2 g3
    obtain ⟨k0, f0, o0⟩ := num_ok Try.underlying3 g0
    obtain ⟨k1, f1, o1⟩ := num_ok Try.underlying3 g1
    obtain ⟨k2, f2, o2⟩ := num_ok Try.underlying3 g2
    obtain ⟨k3, f3, o3⟩ := text_ok g3
    simp at f0 f1 f2 f3
    subst f0 f1 f2 f3
    refine agg_ok (l := [y0.1, y1.1, y2.1, y3.1]) ?_ (by rw [hxy]; rfl)
    simp only [Rows.uptoBulkAll]
    exact o0.join (o1.join (o2.join (o3.join (FOk.nil _))))
set_option maxHeartbeats 2000000 in
set_option maxRecDepth 100000 in
theorem msg_ok (hl : cs.length = 10) (hf : DataW.trod enc Try.prog W 0 (fun _ => true) true fuel 24 cs = some x) : FOk W msgT cs (Rows.uptoBulk x.1) := by
  obtain ⟨xs, k, hk, hxy, _, hxl, hfl⟩ := DataW.trod_struct Try.underlying24 hf
  match xs, hxl, cs, hl with
  | [y0, y1, y2, y3, y4, y5, y6, y7, y8, y9], _, [v0, v1, v2, v3, v4, v5, v6, v7, v8, v9], _ =>
    have g0 := hfl 0 _ rfl
    have g1 := hfl 1 _ rfl
    have g2 := hfl 2 _ rfl
    have g3 := hfl 3 _ rfl
    have g4 := hfl 4 _ rfl
    have g5 := hfl 5 _ rfl
    have g6 := hfl 6 _ rfl
    have g7 := hfl 7 _ rfl
    have g8 := hfl 8 _ rfl
    have g9 := hfl 9 _ rfl
    simp [cells22, cells3, cells4, cells9] at g0 g1 g2 g3 g4 g5 g6 g7 g8 g9
    obtain ⟨k0, f0, o0⟩ := num_ok Try.underlying3 g0
    obtain ⟨k1, f1, o1⟩ := num_ok Try.underlying3 g1
    obtain ⟨k2, f2, o2⟩ := num_ok Try.underlying3 g2
    obtain ⟨k3, f3, o3⟩ := num_ok Try.underlying3 g3
    obtain ⟨k4, f4, o4⟩ := num_ok Try.underlying3 g4
    obtain ⟨k5, f5, o5⟩ := num_ok Try.underlying3 g5
    obtain ⟨k6, f6, o6⟩ := num_ok Try.underlying3 g6
    obtain ⟨k7, f7, o7⟩ := yes_ok' g7
    obtain ⟨a8, k8, c8, f8, o8⟩ := list_ok (t := entryT) Try.underlying22 cells140 (by decide) (fun h1 h2 => entry_ok h1 h2) g8
    obtain ⟨k9, f9, o9⟩ := text_ok g9
    simp at f0 f1 f2 f3 f4 f5 f6 f7 f8 f9
    subst f0 f1 f2 f3 f4 f5 f6 f7 f8 f9
    refine agg_ok (l := [y0.1, y1.1, y2.1, y3.1, y4.1, y5.1, y6.1, y7.1, y8.1, y9.1]) ?_ (by rw [hxy]; rfl)
    simp only [Rows.uptoBulkAll]
    exact o0.join (o1.join (o2.join (o3.join (o4.join (o5.join (o6.join (o7.join (o8.join (o9.join (FOk.nil _))))))))))
end
section
variable {H : Type} {enc : TypeId × Value → H}
set_option maxRecDepth 100000 in
theorem open_msg {W : World} {base : Nat} {v : Value} {d : DataW H} {p : List MemPlace} (hv : Value.okWide Try.prog W .any base 24 v) (h : DataW.Trod enc Try.prog W 0 (fun _ => true) true 24 v d p) :
    ∃ (x : List At) (vs : List Value), v = .agg vs.toArray ∧ hasS msgT x ∧ valsS W NoS x vs ∧ (encS x).length ≤ 10 * Rows.uptoBulk d := by
  obtain ⟨cs, rfl, hsz⟩ := okWide_struct Try.underlying24 hv
  obtain ⟨fuel, hf⟩ := h
  obtain ⟨l⟩ := cs
  have hl : l.length = 10 := hsz.trans cells24
  obtain ⟨x, h1, h2, h3⟩ := msg_ok (cs := l) hl hf
  exact ⟨x, l, rfl, h1, h2, h3⟩
set_option maxRecDepth 100000 in
theorem again_msg {W W' : World} {v : Value} {d : DataW H} {p : List MemPlace} (h : DataW.Trod enc Try.prog W 0 (fun _ => true) true 24 v d p) (hb : Below W.heap.size W W') (hlt : ∀ x ∈ p, x.block < W.heap.size) : DataW.Trod enc Try.prog W' 0 (fun b => decide (b < W.heap.size)) true 24 v d p :=
  Below.trod laidOut (by kernel_rfl) (of_decide_eq_true (by kernel_rfl)) h hb hlt
theorem open_text {W : World} {base : Nat} {v : Value} {d : DataW H} {p : List MemPlace} (hv : Value.okWide Try.prog W .any base 9 v) (h : DataW.Trod enc Try.prog W 0 (fun _ => true) true 9 v d p) : ∃ t : ByteArray, v = .string t ∧ t.size ≤ Rows.uptoBulk d := by
  obtain ⟨t, e, e2, _, ht⟩ := Go.ChangeMaps.open_string Try.underlying9 hv h
  refine ⟨t, e, ?_⟩
  rw [e2]
  have : t.data.toList.length = t.size := by rw [Array.length_toList]; rfl
  simp only [Rows.uptoBulk]
  omega
theorem open_num {W : World} {base : Nat} {v : Value} {d : DataW H} {p : List MemPlace} (hv : Value.okWide Try.prog W .any base 3 v) (h : DataW.Trod enc Try.prog W 0 (fun _ => true) true 3 v d p) : ∃ n : Int, v = .int .i64 n := by
  obtain ⟨n, e, _⟩ := open_int Try.underlying3 hv h
  exact ⟨n, e⟩
set_option maxRecDepth 100000 in
theorem again_int {W W' : World} {v : Value} {d : DataW H} {p : List MemPlace} (h : DataW.Trod enc Try.prog W 0 (fun _ => true) true 3 v d p) (hb : Below W.heap.size W W') (hlt : ∀ x ∈ p, x.block < W.heap.size) : DataW.Trod enc Try.prog W' 0 (fun b => decide (b < W.heap.size)) true 3 v d p :=
  Below.trod laidOut (by kernel_rfl) (of_decide_eq_true (by kernel_rfl)) h hb hlt
set_option maxRecDepth 100000 in
theorem again_str {W W' : World} {v : Value} {d : DataW H} {p : List MemPlace} (h : DataW.Trod enc Try.prog W 0 (fun _ => true) true 9 v d p) (hb : Below W.heap.size W W') (hlt : ∀ x ∈ p, x.block < W.heap.size) : DataW.Trod enc Try.prog W' 0 (fun b => decide (b < W.heap.size)) true 9 v d p :=
  Below.trod laidOut (by kernel_rfl) (of_decide_eq_true (by kernel_rfl)) h hb hlt
end
end Go.Proofs.Ytjhgmncmcklnkab
