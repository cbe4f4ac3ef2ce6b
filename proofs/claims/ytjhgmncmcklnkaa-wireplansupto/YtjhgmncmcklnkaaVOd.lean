/- Commands as arguments, opened. -/
import Derived.Test.YtjhgmncmcklnkaaVOc
import Derived.Test.YtjhgmncmcklnkaaVMh
namespace Go.Proofs.Ytjhgmncmcklnkaa
open Go.ChangeShapes Go.WideShapes Go.ChangeAt Go.WideMaps Go.WideElems Go.RowKit Go.Joins Go.Deep

theorem cells166 : Try.prog.cellsOf 166 = 2 := by kernel_rfl
theorem cells50 : Try.prog.cellsOf 50 = 1 := by kernel_rfl
theorem cells52 : Try.prog.cellsOf 52 = 3 := by kernel_rfl
theorem cells42 : Try.prog.cellsOf 42 = 3 := by kernel_rfl
theorem cells219 : Try.prog.cellsOf 219 = 7 := by kernel_rfl
theorem cells43 : Try.prog.cellsOf 43 = 1 := by kernel_rfl
theorem cells45 : Try.prog.cellsOf 45 = 11 := by kernel_rfl
theorem cells39 : Try.prog.cellsOf 39 = 1 := by kernel_rfl
theorem cells47 : Try.prog.cellsOf 47 = 30 := by kernel_rfl
section
variable {H : Type} {enc : TypeId × Value → H} {W : World} {fuel : Nat} {cs : List Value} {x : DataW H × List MemPlace}
set_option maxHeartbeats 2000000 in
set_option maxRecDepth 100000 in
theorem stamp_ok (hl : cs.length = 2) (hf : DataW.trod enc Try.prog W 0 (fun _ => true) true fuel 166 cs = some x) : FOk W stampT cs (Rows.uptoBulk x.1) := by
  obtain ⟨xs, k, hk, hxy, _, hxl, hfl⟩ := DataW.trod_struct Try.underlying166 hf
  match xs, hxl, cs, hl with
  | [y0, y1], _, [v0, v1], _ =>
    have g0 := hfl 0 _ rfl
    have g1 := hfl 1 _ rfl
    simp [cells3, cells9] at g0 g1
    obtain ⟨k0, f0, o0⟩ := text_ok g0
    obtain ⟨k1, f1, o1⟩ := num_ok Try.underlying3 g1
    simp at f0 f1
    subst f0 f1
    refine agg_ok (l := [y0.1, y1.1]) ?_ (by rw [hxy]; rfl)
    simp only [Rows.uptoBulkAll]
    exact o0.join (o1.join (FOk.nil _))
set_option maxHeartbeats 2000000 in
set_option maxRecDepth 100000 in
theorem read_ok (hl : cs.length = 3) (hf : DataW.trod enc Try.prog W 0 (fun _ => true) true fuel 52 cs = some x) : FOk W readT cs (Rows.uptoBulk x.1) := by
  obtain ⟨xs, k, hk, hxy, _, hxl, hfl⟩ := DataW.trod_struct Try.underlying52 hf
  match xs, hxl, cs, hl with
  | [y0, y1], _, [v0, v1, v2], _ =>
    have g0 := hfl 0 _ rfl
    have g1 := hfl 1 _ rfl
    simp [cells49, cells50] at g0 g1
    have o0 := span_ok rfl g0
    obtain ⟨a1, k1, c1, f1, o1⟩ := list_ok (t := stampT) Try.underlying50 cells166 (by decide) (fun h1 h2 => stamp_ok h1 h2) g1
    simp at f1
    subst f1
    refine agg_ok (l := [y0.1, y1.1]) ?_ (by rw [hxy]; rfl)
    simp only [Rows.uptoBulkAll]
    exact o0.join (o1.join (FOk.nil _))
set_option maxHeartbeats 2000000 in
set_option maxRecDepth 100000 in
theorem value_ok (hl : cs.length = 3) (hf : DataW.trod enc Try.prog W 0 (fun _ => true) true fuel 42 cs = some x) : FOk W valueT cs (Rows.uptoBulk x.1) := by
  obtain ⟨xs, k, hk, hxy, _, hxl, hfl⟩ := DataW.trod_struct Try.underlying42 hf
  match xs, hxl, cs, hl with
  | [y0, y1, y2], _, [v0, v1, v2], _ =>
    have g0 := hfl 0 _ rfl
    have g1 := hfl 1 _ rfl
    have g2 := hfl 2 _ rfl
    simp [cells2, cells3, cells9] at g0 g1 g2
    obtain ⟨k0, f0, o0⟩ := num_ok Try.underlying3 g0
    obtain ⟨k1, f1, o1⟩ := num_ok Try.underlying2 g1
    obtain ⟨k2, f2, o2⟩ := text_ok g2
    simp at f0 f1 f2
    subst f0 f1 f2
    refine agg_ok (l := [y0.1, y1.1, y2.1]) ?_ (by rw [hxy]; rfl)
    simp only [Rows.uptoBulkAll]
    exact o0.join (o1.join (o2.join (FOk.nil _)))
set_option maxHeartbeats 2000000 in
set_option maxRecDepth 100000 in
theorem column_ok (hl : cs.length = 7) (hf : DataW.trod enc Try.prog W 0 (fun _ => true) true fuel 219 cs = some x) : FOk W columnT cs (Rows.uptoBulk x.1) := by
  obtain ⟨xs, k, hk, hxy, _, hxl, hfl⟩ := DataW.trod_struct Try.underlying219 hf
  match xs, hxl, cs, hl with
  | [y0, y1, y2, y3, y4], _, [v0, v1, v2, v3, v4, v5, v6], _ =>
    have g0 := hfl 0 _ rfl
    have g1 := hfl 1 _ rfl
    have g2 := hfl 2 _ rfl
    have g3 := hfl 3 _ rfl
    have g4 := hfl 4 _ rfl
    simp [cells3, cells42, cells9] at g0 g1 g2 g3 g4
    obtain ⟨k0, f0, o0⟩ := num_ok Try.underlying3 g0
    obtain ⟨k1, f1, o1⟩ := text_ok g1
    obtain ⟨k2, f2, o2⟩ := num_ok Try.underlying3 g2
    obtain ⟨k3, f3, o3⟩ := num_ok Try.underlying3 g3
    have o4 := value_ok rfl g4
    simp at f0 f1 f2 f3
    subst f0 f1 f2 f3
    refine agg_ok (l := [y0.1, y1.1, y2.1, y3.1, y4.1]) ?_ (by rw [hxy]; rfl)
    simp only [Rows.uptoBulkAll]
    exact o0.join (o1.join (o2.join (o3.join (o4.join (FOk.nil _)))))
set_option maxHeartbeats 2000000 in
set_option maxRecDepth 100000 in
theorem ddl_ok (hl : cs.length = 11) (hf : DataW.trod enc Try.prog W 0 (fun _ => true) true fuel 45 cs = some x) : FOk W ddlT cs (Rows.uptoBulk x.1) := by
  obtain ⟨xs, k, hk, hxy, _, hxl, hfl⟩ := DataW.trod_struct Try.underlying45 hf
  match xs, hxl, cs, hl with
  | [y0, y1, y2, y3, y4, y5, y6, y7, y8], _, [v0, v1, v2, v3, v4, v5, v6, v7, v8, v9, v10], _ =>
    have g0 := hfl 0 _ rfl
    have g1 := hfl 1 _ rfl
    have g2 := hfl 2 _ rfl
    have g3 := hfl 3 _ rfl
    have g4 := hfl 4 _ rfl
    have g5 := hfl 5 _ rfl
    have g6 := hfl 6 _ rfl
    have g7 := hfl 7 _ rfl
    have g8 := hfl 8 _ rfl
    simp [cells3, cells4, cells42, cells43, cells9] at g0 g1 g2 g3 g4 g5 g6 g7 g8
    obtain ⟨k0, f0, o0⟩ := num_ok Try.underlying3 g0
    obtain ⟨k1, f1, o1⟩ := text_ok g1
    obtain ⟨k2, f2, o2⟩ := text_ok g2
    obtain ⟨k3, f3, o3⟩ := text_ok g3
    obtain ⟨k4, f4, o4⟩ := text_ok g4
    obtain ⟨k5, f5, o5⟩ := yes_ok' g5
    obtain ⟨k6, f6, o6⟩ := num_ok Try.underlying3 g6
    have o7 := value_ok rfl g7
    obtain ⟨a8, k8, c8, f8, o8⟩ := list_ok (t := columnT) Try.underlying43 cells219 (by decide) (fun h1 h2 => column_ok h1 h2) g8
    simp at f0 f1 f2 f3 f4 f5 f6 f8
    subst f0 f1 f2 f3 f4 f5 f6 f8
    refine agg_ok (l := [y0.1, y1.1, y2.1, y3.1, y4.1, y5.1, y6.1, y7.1, y8.1]) ?_ (by rw [hxy]; rfl)
    simp only [Rows.uptoBulkAll]
    exact o0.join (o1.join (o2.join (o3.join (o4.join (o5.join (o6.join (o7.join (o8.join (FOk.nil _)))))))))
set_option maxHeartbeats 2000000 in
set_option maxRecDepth 100000 in
theorem command_ok (hl : cs.length = 30) (hf : DataW.trod enc Try.prog W 0 (fun _ => true) true fuel 47 cs = some x) : FOk W commandT cs (Rows.uptoBulk x.1) := by
  obtain ⟨xs, k, hk, hxy, _, hxl, hfl⟩ := DataW.trod_struct Try.underlying47 hf
  match xs, hxl, cs, hl with
  | [y0, y1, y2, y3, y4, y5, y6, y7, y8, y9, y10, y11, y12, y13, y14, y15], _, [v0, v1, v2, v3, v4, v5, v6, v7, v8, v9, v10, v11, v12, v13, v14, v15, v16, v17, v18, v19, v20, v21, v22, v23, v24, v25, v26, v27, v28, v29], _ =>
    have g0 := hfl 0 _ rfl
    have g1 := hfl 1 _ rfl
    have g2 := hfl 2 _ rfl
    have g3 := hfl 3 _ rfl
    have g4 := hfl 4 _ rfl
    have g5 := hfl 5 _ rfl
    have g6 := hfl 6 _ rfl
    have g7 := hfl 7 _ rfl
    have g8 := hfl 8 _ rfl
    have g9 := hfl 9 _ rfl
    have g10 := hfl 10 _ rfl
    have g11 := hfl 11 _ rfl
    have g12 := hfl 12 _ rfl
    have g13 := hfl 13 _ rfl
    have g14 := hfl 14 _ rfl
    have g15 := hfl 15 _ rfl
    simp [cells27, cells3, cells38, cells39, cells40, cells45, cells9] at g0 g1 g2 g3 g4 g5 g6 g7 g8 g9 g10 g11 g12 g13 g14 g15
    obtain ⟨k0, f0, o0⟩ := num_ok Try.underlying3 g0
    have o1 := tid_ok rfl g1
    have o2 := tid_ok rfl g2
    obtain ⟨k3, f3, o3⟩ := num_ok Try.underlying3 g3
    obtain ⟨a4, k4, c4, f4, o4⟩ := list_ok (t := readT) Try.underlying39 cells52 (by decide) (fun h1 h2 => read_ok h1 h2) g4
    obtain ⟨a5, k5, c5, f5, o5⟩ := list_ok (t := writeT) Try.underlying40 cells156 (by decide) (fun h1 h2 => write_ok h1 h2) g5
    obtain ⟨k6, f6, o6⟩ := num_ok Try.underlying3 g6
    obtain ⟨k7, f7, o7⟩ := num_ok Try.underlying3 g7
    obtain ⟨k8, f8, o8⟩ := num_ok Try.underlying3 g8
    obtain ⟨k9, f9, o9⟩ := num_ok Try.underlying3 g9
    obtain ⟨k10, f10, o10⟩ := num_ok Try.underlying3 g10
    have o11 := ddl_ok rfl g11
    obtain ⟨k12, f12, o12⟩ := num_ok Try.underlying3 g12
    obtain ⟨k13, f13, o13⟩ := num_ok Try.underlying3 g13
    obtain ⟨k14, f14, o14⟩ := text_ok g14
    obtain ⟨k15, f15, o15⟩ := num_ok Try.underlying27 g15
    simp at f0 f3 f4 f5 f6 f7 f8 f9 f10 f12 f13 f14 f15
    subst f0 f3 f4 f5 f6 f7 f8 f9 f10 f12 f13 f14 f15
    refine agg_ok (l := [y0.1, y1.1, y2.1, y3.1, y4.1, y5.1, y6.1, y7.1, y8.1, y9.1, y10.1, y11.1, y12.1, y13.1, y14.1, y15.1]) ?_ (by rw [hxy]; rfl)
    simp only [Rows.uptoBulkAll]
    exact o0.join (o1.join (o2.join (o3.join (o4.join (o5.join (o6.join (o7.join (o8.join (o9.join (o10.join (o11.join (o12.join (o13.join (o14.join (o15.join (FOk.nil _))))))))))))))))
end
section
variable {H : Type} {enc : TypeId × Value → H}
set_option maxRecDepth 100000 in
theorem open_command {W : World} {base : Nat} {v : Value} {d : DataW H} {p : List MemPlace} (hv : Value.okWide Try.prog W .any base 47 v) (h : DataW.Trod enc Try.prog W 0 (fun _ => true) true 47 v d p) :
    ∃ (x : List At) (vs : List Value), v = .agg vs.toArray ∧ hasS commandT x ∧ valsS W NoS x vs ∧ (encS x).length ≤ 10 * Rows.uptoBulk d := by
  obtain ⟨cs, rfl, hsz⟩ := okWide_struct Try.underlying47 hv
  obtain ⟨fuel, hf⟩ := h
  obtain ⟨l⟩ := cs
  have hl : l.length = 30 := hsz.trans cells47
  obtain ⟨x, h1, h2, h3⟩ := command_ok (cs := l) hl hf
  exact ⟨x, l, rfl, h1, h2, h3⟩
set_option maxRecDepth 100000 in
theorem again_command {W W' : World} {v : Value} {d : DataW H} {p : List MemPlace} (h : DataW.Trod enc Try.prog W 0 (fun _ => true) true 47 v d p) (hb : Below W.heap.size W W') (hlt : ∀ x ∈ p, x.block < W.heap.size) : DataW.Trod enc Try.prog W' 0 (fun b => decide (b < W.heap.size)) true 47 v d p :=
  Below.trod laidOut (by kernel_rfl) (of_decide_eq_true (by kernel_rfl)) h hb hlt
end
end Go.Proofs.Ytjhgmncmcklnkaa
