/- Plans as arguments, opened. -/
import Derived.Test.YtjhgmncmcklnkaaVOd
import Derived.Test.YtjhgmncmcklnkaaVMl
namespace Go.Proofs.Ytjhgmncmcklnkaa
open Go.ChangeShapes Go.WideShapes Go.ChangeAt Go.WideMaps Go.WideElems Go.RowKit Go.Joins Go.Deep

theorem cells199 : Try.prog.cellsOf 199 = 5 := by kernel_rfl
theorem cells201 : Try.prog.cellsOf 201 = 5 := by kernel_rfl
theorem cells80 : Try.prog.cellsOf 80 = 1 := by kernel_rfl
theorem cells81 : Try.prog.cellsOf 81 = 1 := by kernel_rfl
theorem cells83 : Try.prog.cellsOf 83 = 5 := by kernel_rfl
theorem cells73 : Try.prog.cellsOf 73 = 1 := by kernel_rfl
theorem cells75 : Try.prog.cellsOf 75 = 3 := by kernel_rfl
theorem cells129 : Try.prog.cellsOf 129 = 3 := by kernel_rfl
theorem cells85 : Try.prog.cellsOf 85 = 22 := by kernel_rfl
theorem cells76 : Try.prog.cellsOf 76 = 1 := by kernel_rfl
theorem cells77 : Try.prog.cellsOf 77 = 1 := by kernel_rfl
theorem cells79 : Try.prog.cellsOf 79 = 5 := by kernel_rfl
section
variable {H : Type} {enc : TypeId × Value → H} {W : World} {fuel : Nat} {cs : List Value} {x : DataW H × List MemPlace}
set_option maxHeartbeats 2000000 in
set_option maxRecDepth 100000 in
theorem index_ok (hl : cs.length = 5) (hf : DataW.trod enc Try.prog W 0 (fun _ => true) true fuel 199 cs = some x) : FOk W indexT cs (Rows.uptoBulk x.1) := by
  obtain ⟨xs, k, hk, hxy, _, hxl, hfl⟩ := DataW.trod_struct Try.underlying199 hf
  match xs, hxl, cs, hl with
  | [y0, y1, y2, y3, y4], _, [v0, v1, v2, v3, v4], _ =>
    have g0 := hfl 0 _ rfl
    have g1 := hfl 1 _ rfl
    have g2 := hfl 2 _ rfl
    have g3 := hfl 3 _ rfl
    have g4 := hfl 4 _ rfl
    simp [cells3, cells4, cells9] at g0 g1 g2 g3 g4
    obtain ⟨k0, f0, o0⟩ := num_ok Try.underlying3 g0
    obtain ⟨k1, f1, o1⟩ := text_ok g1
    obtain ⟨k2, f2, o2⟩ := num_ok Try.underlying3 g2
    obtain ⟨k3, f3, o3⟩ := yes_ok' g3
    obtain ⟨k4, f4, o4⟩ := num_ok Try.underlying3 g4
    simp at f0 f1 f2 f3 f4
    subst f0 f1 f2 f3 f4
    refine agg_ok (l := [y0.1, y1.1, y2.1, y3.1, y4.1]) ?_ (by rw [hxy]; rfl)
    simp only [Rows.uptoBulkAll]
    exact o0.join (o1.join (o2.join (o3.join (o4.join (FOk.nil _)))))
set_option maxHeartbeats 2000000 in
set_option maxRecDepth 100000 in
theorem foreign_ok (hl : cs.length = 5) (hf : DataW.trod enc Try.prog W 0 (fun _ => true) true fuel 201 cs = some x) : FOk W foreignT cs (Rows.uptoBulk x.1) := by
  obtain ⟨xs, k, hk, hxy, _, hxl, hfl⟩ := DataW.trod_struct Try.underlying201 hf
  match xs, hxl, cs, hl with
  | [y0, y1, y2, y3, y4], _, [v0, v1, v2, v3, v4], _ =>
    have g0 := hfl 0 _ rfl
    have g1 := hfl 1 _ rfl
    have g2 := hfl 2 _ rfl
    have g3 := hfl 3 _ rfl
    have g4 := hfl 4 _ rfl
    simp [cells3, cells9] at g0 g1 g2 g3 g4
    obtain ⟨k0, f0, o0⟩ := num_ok Try.underlying3 g0
    obtain ⟨k1, f1, o1⟩ := text_ok g1
    obtain ⟨k2, f2, o2⟩ := num_ok Try.underlying3 g2
    obtain ⟨k3, f3, o3⟩ := num_ok Try.underlying3 g3
    obtain ⟨k4, f4, o4⟩ := num_ok Try.underlying3 g4
    simp at f0 f1 f2 f3 f4
    subst f0 f1 f2 f3 f4
    refine agg_ok (l := [y0.1, y1.1, y2.1, y3.1, y4.1]) ?_ (by rw [hxy]; rfl)
    simp only [Rows.uptoBulkAll]
    exact o0.join (o1.join (o2.join (o3.join (o4.join (FOk.nil _)))))
set_option maxHeartbeats 2000000 in
set_option maxRecDepth 100000 in
theorem table_ok (hl : cs.length = 5) (hf : DataW.trod enc Try.prog W 0 (fun _ => true) true fuel 83 cs = some x) : FOk W tableT cs (Rows.uptoBulk x.1) := by
  obtain ⟨xs, k, hk, hxy, _, hxl, hfl⟩ := DataW.trod_struct Try.underlying83 hf
  match xs, hxl, cs, hl with
  | [y0, y1, y2, y3, y4], _, [v0, v1, v2, v3, v4], _ =>
    have g0 := hfl 0 _ rfl
    have g1 := hfl 1 _ rfl
    have g2 := hfl 2 _ rfl
    have g3 := hfl 3 _ rfl
    have g4 := hfl 4 _ rfl
    simp [cells3, cells43, cells80, cells81, cells9] at g0 g1 g2 g3 g4
    obtain ⟨k0, f0, o0⟩ := num_ok Try.underlying3 g0
    obtain ⟨k1, f1, o1⟩ := text_ok g1
    obtain ⟨a2, k2, c2, f2, o2⟩ := list_ok (t := columnT) Try.underlying43 cells219 (by decide) (fun h1 h2 => column_ok h1 h2) g2
    obtain ⟨a3, k3, c3, f3, o3⟩ := list_ok (t := indexT) Try.underlying80 cells199 (by decide) (fun h1 h2 => index_ok h1 h2) g3
    obtain ⟨a4, k4, c4, f4, o4⟩ := list_ok (t := foreignT) Try.underlying81 cells201 (by decide) (fun h1 h2 => foreign_ok h1 h2) g4
    simp at f0 f1 f2 f3 f4
    subst f0 f1 f2 f3 f4
    refine agg_ok (l := [y0.1, y1.1, y2.1, y3.1, y4.1]) ?_ (by rw [hxy]; rfl)
    simp only [Rows.uptoBulkAll]
    exact o0.join (o1.join (o2.join (o3.join (o4.join (FOk.nil _)))))
set_option maxHeartbeats 2000000 in
set_option maxRecDepth 100000 in
theorem schema_ok (hl : cs.length = 3) (hf : DataW.trod enc Try.prog W 0 (fun _ => true) true fuel 75 cs = some x) : FOk W schemaT cs (Rows.uptoBulk x.1) := by
  obtain ⟨xs, k, hk, hxy, _, hxl, hfl⟩ := DataW.trod_struct Try.underlying75 hf
  match xs, hxl, cs, hl with
  | [y0, y1, y2], _, [v0, v1, v2], _ =>
    have g0 := hfl 0 _ rfl
    have g1 := hfl 1 _ rfl
    have g2 := hfl 2 _ rfl
    simp [cells3, cells73] at g0 g1 g2
    obtain ⟨k0, f0, o0⟩ := num_ok Try.underlying3 g0
    obtain ⟨k1, f1, o1⟩ := num_ok Try.underlying3 g1
    obtain ⟨a2, k2, c2, f2, o2⟩ := list_ok (t := tableT) Try.underlying73 cells83 (by decide) (fun h1 h2 => table_ok h1 h2) g2
    simp at f0 f1 f2
    subst f0 f1 f2
    refine agg_ok (l := [y0.1, y1.1, y2.1]) ?_ (by rw [hxy]; rfl)
    simp only [Rows.uptoBulkAll]
    exact o0.join (o1.join (o2.join (FOk.nil _)))
set_option maxHeartbeats 2000000 in
set_option maxRecDepth 100000 in
theorem lease_ok (hl : cs.length = 3) (hf : DataW.trod enc Try.prog W 0 (fun _ => true) true fuel 129 cs = some x) : FOk W leaseT cs (Rows.uptoBulk x.1) := by
  obtain ⟨xs, k, hk, hxy, _, hxl, hfl⟩ := DataW.trod_struct Try.underlying129 hf
  match xs, hxl, cs, hl with
  | [y0, y1, y2], _, [v0, v1, v2], _ =>
    have g0 := hfl 0 _ rfl
    have g1 := hfl 1 _ rfl
    have g2 := hfl 2 _ rfl
    simp [cells3] at g0 g1 g2
    obtain ⟨k0, f0, o0⟩ := num_ok Try.underlying3 g0
    obtain ⟨k1, f1, o1⟩ := num_ok Try.underlying3 g1
    obtain ⟨k2, f2, o2⟩ := num_ok Try.underlying3 g2
    simp at f0 f1 f2
    subst f0 f1 f2
    refine agg_ok (l := [y0.1, y1.1, y2.1]) ?_ (by rw [hxy]; rfl)
    simp only [Rows.uptoBulkAll]
    exact o0.join (o1.join (o2.join (FOk.nil _)))
set_option maxHeartbeats 2000000 in
set_option maxRecDepth 100000 in
theorem job_ok (hl : cs.length = 22) (hf : DataW.trod enc Try.prog W 0 (fun _ => true) true fuel 85 cs = some x) : FOk W jobT cs (Rows.uptoBulk x.1) := by
  obtain ⟨xs, k, hk, hxy, _, hxl, hfl⟩ := DataW.trod_struct Try.underlying85 hf
  match xs, hxl, cs, hl with
  | [y0, y1, y2, y3, y4, y5, y6, y7, y8, y9], _, [v0, v1, v2, v3, v4, v5, v6, v7, v8, v9, v10, v11, v12, v13, v14, v15, v16, v17, v18, v19, v20, v21], _ =>
    have g0 := hfl 0 _ rfl
    have g1 := hfl 1 _ rfl
    have g2 := hfl 2 _ rfl
    have g3 := hfl 3 _ rfl
    have g4 := hfl 4 _ rfl
    have g5 := hfl 5 _ rfl
    have g6 := hfl 6 _ rfl
    have g7 := hfl 7 _ rfl
    have g8 := hfl 8 _ rfl
    have g9 := hfl 9 _ rfl
    simp [cells27, cells3, cells38, cells4, cells45, cells9] at g0 g1 g2 g3 g4 g5 g6 g7 g8 g9
    obtain ⟨k0, f0, o0⟩ := num_ok Try.underlying3 g0
    obtain ⟨k1, f1, o1⟩ := num_ok Try.underlying3 g1
    have o2 := tid_ok rfl g2
    have o3 := ddl_ok rfl g3
    obtain ⟨k4, f4, o4⟩ := num_ok Try.underlying3 g4
    obtain ⟨k5, f5, o5⟩ := yes_ok' g5
    obtain ⟨k6, f6, o6⟩ := yes_ok' g6
    obtain ⟨k7, f7, o7⟩ := text_ok g7
    obtain ⟨k8, f8, o8⟩ := num_ok Try.underlying3 g8
    obtain ⟨k9, f9, o9⟩ := num_ok Try.underlying27 g9
    simp at f0 f1 f4 f5 f6 f7 f8 f9
    subst f0 f1 f4 f5 f6 f7 f8 f9
    refine agg_ok (l := [y0.1, y1.1, y2.1, y3.1, y4.1, y5.1, y6.1, y7.1, y8.1, y9.1]) ?_ (by rw [hxy]; rfl)
    simp only [Rows.uptoBulkAll]
    exact o0.join (o1.join (o2.join (o3.join (o4.join (o5.join (o6.join (o7.join (o8.join (o9.join (FOk.nil _))))))))))
set_option maxHeartbeats 2000000 in
set_option maxRecDepth 100000 in
theorem plan_ok (hl : cs.length = 5) (hf : DataW.trod enc Try.prog W 0 (fun _ => true) true fuel 79 cs = some x) : FOk W planT cs (Rows.uptoBulk x.1) := by
  obtain ⟨xs, k, hk, hxy, _, hxl, hfl⟩ := DataW.trod_struct Try.underlying79 hf
  match xs, hxl, cs, hl with
  | [y0, y1, y2], _, [v0, v1, v2, v3, v4], _ =>
    have g0 := hfl 0 _ rfl
    have g1 := hfl 1 _ rfl
    have g2 := hfl 2 _ rfl
    simp [cells75, cells76, cells77] at g0 g1 g2
    have o0 := schema_ok rfl g0
    obtain ⟨a1, k1, c1, f1, o1⟩ := list_ok (t := leaseT) Try.underlying76 cells129 (by decide) (fun h1 h2 => lease_ok h1 h2) g1
    obtain ⟨a2, k2, c2, f2, o2⟩ := list_ok (t := jobT) Try.underlying77 cells85 (by decide) (fun h1 h2 => job_ok h1 h2) g2
    simp at f1 f2
    subst f1 f2
    refine agg_ok (l := [y0.1, y1.1, y2.1]) ?_ (by rw [hxy]; rfl)
    simp only [Rows.uptoBulkAll]
    exact o0.join (o1.join (o2.join (FOk.nil _)))
end
section
variable {H : Type} {enc : TypeId × Value → H}
set_option maxRecDepth 100000 in
theorem open_plan {W : World} {base : Nat} {v : Value} {d : DataW H} {p : List MemPlace} (hv : Value.okWide Try.prog W .any base 79 v) (h : DataW.Trod enc Try.prog W 0 (fun _ => true) true 79 v d p) :
    ∃ (x : List At) (vs : List Value), v = .agg vs.toArray ∧ hasS planT x ∧ valsS W NoS x vs ∧ (encS x).length ≤ 10 * Rows.uptoBulk d := by
  obtain ⟨cs, rfl, hsz⟩ := okWide_struct Try.underlying79 hv
  obtain ⟨fuel, hf⟩ := h
  obtain ⟨l⟩ := cs
  have hl : l.length = 5 := hsz.trans cells79
  obtain ⟨x, h1, h2, h3⟩ := plan_ok (cs := l) hl hf
  exact ⟨x, l, rfl, h1, h2, h3⟩
set_option maxRecDepth 100000 in
theorem again_plan {W W' : World} {v : Value} {d : DataW H} {p : List MemPlace} (h : DataW.Trod enc Try.prog W 0 (fun _ => true) true 79 v d p) (hb : Below W.heap.size W W') (hlt : ∀ x ∈ p, x.block < W.heap.size) : DataW.Trod enc Try.prog W' 0 (fun b => decide (b < W.heap.size)) true 79 v d p :=
  Below.trod laidOut (by kernel_rfl) (of_decide_eq_true (by kernel_rfl)) h hb hlt
end
end Go.Proofs.Ytjhgmncmcklnkaa
