/- Ranges as arguments, opened. -/
import Derived.Test.YtjhgmncmcklnkaaVOa
import Derived.Test.YtjhgmncmcklnkaaVMk
namespace Go.Proofs.Ytjhgmncmcklnkaa
open Go.ChangeShapes Go.WideShapes Go.ChangeAt Go.WideMaps Go.WideElems Go.RowKit Go.Joins Go.Deep

theorem cells186 : Try.prog.cellsOf 186 = 3 := by kernel_rfl
theorem cells63 : Try.prog.cellsOf 63 = 1 := by kernel_rfl
theorem cells65 : Try.prog.cellsOf 65 = 2 := by kernel_rfl
theorem cells49 : Try.prog.cellsOf 49 = 2 := by kernel_rfl
theorem cells156 : Try.prog.cellsOf 156 = 3 := by kernel_rfl
theorem cells38 : Try.prog.cellsOf 38 = 3 := by kernel_rfl
theorem cells66 : Try.prog.cellsOf 66 = 1 := by kernel_rfl
theorem cells40 : Try.prog.cellsOf 40 = 1 := by kernel_rfl
theorem cells68 : Try.prog.cellsOf 68 = 7 := by kernel_rfl
theorem cells122 : Try.prog.cellsOf 122 = 4 := by kernel_rfl
theorem cells57 : Try.prog.cellsOf 57 = 1 := by kernel_rfl
theorem cells58 : Try.prog.cellsOf 58 = 1 := by kernel_rfl
theorem cells59 : Try.prog.cellsOf 59 = 1 := by kernel_rfl
theorem cells60 : Try.prog.cellsOf 60 = 1 := by kernel_rfl
theorem cells62 : Try.prog.cellsOf 62 = 5 := by kernel_rfl
section
variable {H : Type} {enc : TypeId × Value → H} {W : World} {fuel : Nat} {cs : List Value} {x : DataW H × List MemPlace}
set_option maxHeartbeats 2000000 in
set_option maxRecDepth 100000 in
theorem version_ok (hl : cs.length = 3) (hf : DataW.trod enc Try.prog W 0 (fun _ => true) true fuel 186 cs = some x) : FOk W versionT cs (Rows.uptoBulk x.1) := by
  obtain ⟨xs, k, hk, hxy, _, hxl, hfl⟩ := DataW.trod_struct Try.underlying186 hf
  match xs, hxl, cs, hl with
  | [y0, y1, y2], _, [v0, v1, v2], _ =>
    have g0 := hfl 0 _ rfl
    have g1 := hfl 1 _ rfl
    have g2 := hfl 2 _ rfl
    simp [cells3, cells4, cells9] at g0 g1 g2
    obtain ⟨k0, f0, o0⟩ := num_ok Try.underlying3 g0
    obtain ⟨k1, f1, o1⟩ := text_ok g1
    obtain ⟨k2, f2, o2⟩ := yes_ok' g2
    simp at f0 f1 f2
    subst f0 f1 f2
    refine agg_ok (l := [y0.1, y1.1, y2.1]) ?_ (by rw [hxy]; rfl)
    simp only [Rows.uptoBulkAll]
    exact o0.join (o1.join (o2.join (FOk.nil _)))
set_option maxHeartbeats 2000000 in
set_option maxRecDepth 100000 in
theorem row_ok (hl : cs.length = 2) (hf : DataW.trod enc Try.prog W 0 (fun _ => true) true fuel 65 cs = some x) : FOk W rowT cs (Rows.uptoBulk x.1) := by
  obtain ⟨xs, k, hk, hxy, _, hxl, hfl⟩ := DataW.trod_struct Try.underlying65 hf
  match xs, hxl, cs, hl with
  | [y0, y1], _, [v0, v1], _ =>
    have g0 := hfl 0 _ rfl
    have g1 := hfl 1 _ rfl
    simp [cells63, cells9] at g0 g1
    obtain ⟨k0, f0, o0⟩ := text_ok g0
    obtain ⟨a1, k1, c1, f1, o1⟩ := list_ok (t := versionT) Try.underlying63 cells186 (by decide) (fun h1 h2 => version_ok h1 h2) g1
    simp at f0 f1
    subst f0 f1
    refine agg_ok (l := [y0.1, y1.1]) ?_ (by rw [hxy]; rfl)
    simp only [Rows.uptoBulkAll]
    exact o0.join (o1.join (FOk.nil _))
set_option maxHeartbeats 2000000 in
set_option maxRecDepth 100000 in
theorem span_ok (hl : cs.length = 2) (hf : DataW.trod enc Try.prog W 0 (fun _ => true) true fuel 49 cs = some x) : FOk W spanT cs (Rows.uptoBulk x.1) := by
  obtain ⟨xs, k, hk, hxy, _, hxl, hfl⟩ := DataW.trod_struct Try.underlying49 hf
  match xs, hxl, cs, hl with
  | [y0, y1], _, [v0, v1], _ =>
    have g0 := hfl 0 _ rfl
    have g1 := hfl 1 _ rfl
    simp [cells9] at g0 g1
    obtain ⟨k0, f0, o0⟩ := text_ok g0
    obtain ⟨k1, f1, o1⟩ := text_ok g1
    simp at f0 f1
    subst f0 f1
    refine agg_ok (l := [y0.1, y1.1]) ?_ (by rw [hxy]; rfl)
    simp only [Rows.uptoBulkAll]
    exact o0.join (o1.join (FOk.nil _))
set_option maxHeartbeats 2000000 in
set_option maxRecDepth 100000 in
theorem write_ok (hl : cs.length = 3) (hf : DataW.trod enc Try.prog W 0 (fun _ => true) true fuel 156 cs = some x) : FOk W writeT cs (Rows.uptoBulk x.1) := by
  obtain ⟨xs, k, hk, hxy, _, hxl, hfl⟩ := DataW.trod_struct Try.underlying156 hf
  match xs, hxl, cs, hl with
  | [y0, y1, y2], _, [v0, v1, v2], _ =>
    have g0 := hfl 0 _ rfl
    have g1 := hfl 1 _ rfl
    have g2 := hfl 2 _ rfl
    simp [cells4, cells9] at g0 g1 g2
    obtain ⟨k0, f0, o0⟩ := text_ok g0
    obtain ⟨k1, f1, o1⟩ := text_ok g1
    obtain ⟨k2, f2, o2⟩ := yes_ok' g2
    simp at f0 f1 f2
    subst f0 f1 f2
    refine agg_ok (l := [y0.1, y1.1, y2.1]) ?_ (by rw [hxy]; rfl)
    simp only [Rows.uptoBulkAll]
    exact o0.join (o1.join (o2.join (FOk.nil _)))
set_option maxHeartbeats 2000000 in
set_option maxRecDepth 100000 in
theorem tid_ok (hl : cs.length = 3) (hf : DataW.trod enc Try.prog W 0 (fun _ => true) true fuel 38 cs = some x) : FOk W tidT cs (Rows.uptoBulk x.1) := by
  obtain ⟨xs, k, hk, hxy, _, hxl, hfl⟩ := DataW.trod_struct Try.underlying38 hf
  match xs, hxl, cs, hl with
  | [y0, y1, y2], _, [v0, v1, v2], _ =>
    have g0 := hfl 0 _ rfl
    have g1 := hfl 1 _ rfl
    have g2 := hfl 2 _ rfl
    simp [cells3] at g0 g1 g2
    obtain ⟨k0, f0, o0⟩ := num_ok Try.underlying3 g0
    obtain ⟨k1, f1, o1⟩ := num_ok Try.underlying3 g1
    obtain ⟨k2, f2, o2⟩ := num_ok Try.underlying3 g2
    simp at f0 f1 f2
    subst f0 f1 f2
    refine agg_ok (l := [y0.1, y1.1, y2.1]) ?_ (by rw [hxy]; rfl)
    simp only [Rows.uptoBulkAll]
    exact o0.join (o1.join (o2.join (FOk.nil _)))
set_option maxHeartbeats 2000000 in
set_option maxRecDepth 100000 in
theorem lock_ok (hl : cs.length = 7) (hf : DataW.trod enc Try.prog W 0 (fun _ => true) true fuel 68 cs = some x) : FOk W lockT cs (Rows.uptoBulk x.1) := by
  obtain ⟨xs, k, hk, hxy, _, hxl, hfl⟩ := DataW.trod_struct Try.underlying68 hf
  match xs, hxl, cs, hl with
  | [y0, y1, y2, y3, y4], _, [v0, v1, v2, v3, v4, v5, v6], _ =>
    have g0 := hfl 0 _ rfl
    have g1 := hfl 1 _ rfl
    have g2 := hfl 2 _ rfl
    have g3 := hfl 3 _ rfl
    have g4 := hfl 4 _ rfl
    simp [cells3, cells38, cells40, cells66] at g0 g1 g2 g3 g4
    have o0 := tid_ok rfl g0
    obtain ⟨k1, f1, o1⟩ := num_ok Try.underlying3 g1
    obtain ⟨k2, f2, o2⟩ := num_ok Try.underlying3 g2
    obtain ⟨a3, k3, c3, f3, o3⟩ := list_ok (t := spanT) Try.underlying66 cells49 (by decide) (fun h1 h2 => span_ok h1 h2) g3
    obtain ⟨a4, k4, c4, f4, o4⟩ := list_ok (t := writeT) Try.underlying40 cells156 (by decide) (fun h1 h2 => write_ok h1 h2) g4
    simp at f1 f2 f3 f4
    subst f1 f2 f3 f4
    refine agg_ok (l := [y0.1, y1.1, y2.1, y3.1, y4.1]) ?_ (by rw [hxy]; rfl)
    simp only [Rows.uptoBulkAll]
    exact o0.join (o1.join (o2.join (o3.join (o4.join (FOk.nil _)))))
set_option maxHeartbeats 2000000 in
set_option maxRecDepth 100000 in
theorem record_ok (hl : cs.length = 4) (hf : DataW.trod enc Try.prog W 0 (fun _ => true) true fuel 122 cs = some x) : FOk W recordT cs (Rows.uptoBulk x.1) := by
  obtain ⟨xs, k, hk, hxy, _, hxl, hfl⟩ := DataW.trod_struct Try.underlying122 hf
  match xs, hxl, cs, hl with
  | [y0, y1], _, [v0, v1, v2, v3], _ =>
    have g0 := hfl 0 _ rfl
    have g1 := hfl 1 _ rfl
    simp [cells3, cells38] at g0 g1
    have o0 := tid_ok rfl g0
    obtain ⟨k1, f1, o1⟩ := num_ok Try.underlying3 g1
    simp at f1
    subst f1
    refine agg_ok (l := [y0.1, y1.1]) ?_ (by rw [hxy]; rfl)
    simp only [Rows.uptoBulkAll]
    exact o0.join (o1.join (FOk.nil _))
set_option maxHeartbeats 2000000 in
set_option maxRecDepth 100000 in
theorem shard_ok (hl : cs.length = 5) (hf : DataW.trod enc Try.prog W 0 (fun _ => true) true fuel 62 cs = some x) : FOk W shardT cs (Rows.uptoBulk x.1) := by
  obtain ⟨xs, k, hk, hxy, _, hxl, hfl⟩ := DataW.trod_struct Try.underlying62 hf
  match xs, hxl, cs, hl with
  | [y0, y1, y2, y3, y4], _, [v0, v1, v2, v3, v4], _ =>
    have g0 := hfl 0 _ rfl
    have g1 := hfl 1 _ rfl
    have g2 := hfl 2 _ rfl
    have g3 := hfl 3 _ rfl
    have g4 := hfl 4 _ rfl
    simp [cells3, cells57, cells58, cells59, cells60] at g0 g1 g2 g3 g4
    obtain ⟨a0, k0, c0, f0, o0⟩ := list_ok (t := rowT) Try.underlying57 cells65 (by decide) (fun h1 h2 => row_ok h1 h2) g0
    obtain ⟨a1, k1, c1, f1, o1⟩ := list_ok (t := lockT) Try.underlying58 cells68 (by decide) (fun h1 h2 => lock_ok h1 h2) g1
    obtain ⟨a2, k2, c2, f2, o2⟩ := list_ok (t := recordT) Try.underlying59 cells122 (by decide) (fun h1 h2 => record_ok h1 h2) g2
    obtain ⟨a3, k3, c3, f3, o3⟩ := list_ok (t := tidT) Try.underlying60 cells38 (by decide) (fun h1 h2 => tid_ok h1 h2) g3
    obtain ⟨k4, f4, o4⟩ := num_ok Try.underlying3 g4
    simp at f0 f1 f2 f3 f4
    subst f0 f1 f2 f3 f4
    refine agg_ok (l := [y0.1, y1.1, y2.1, y3.1, y4.1]) ?_ (by rw [hxy]; rfl)
    simp only [Rows.uptoBulkAll]
    exact o0.join (o1.join (o2.join (o3.join (o4.join (FOk.nil _)))))
end
section
variable {H : Type} {enc : TypeId × Value → H}
set_option maxRecDepth 100000 in
theorem open_shard {W : World} {base : Nat} {v : Value} {d : DataW H} {p : List MemPlace} (hv : Value.okWide Try.prog W .any base 62 v) (h : DataW.Trod enc Try.prog W 0 (fun _ => true) true 62 v d p) :
    ∃ (x : List At) (vs : List Value), v = .agg vs.toArray ∧ hasS shardT x ∧ valsS W NoS x vs ∧ (encS x).length ≤ 10 * Rows.uptoBulk d := by
  obtain ⟨cs, rfl, hsz⟩ := okWide_struct Try.underlying62 hv
  obtain ⟨fuel, hf⟩ := h
  obtain ⟨l⟩ := cs
  have hl : l.length = 5 := hsz.trans cells62
  obtain ⟨x, h1, h2, h3⟩ := shard_ok (cs := l) hl hf
  exact ⟨x, l, rfl, h1, h2, h3⟩
set_option maxRecDepth 100000 in
theorem again_shard {W W' : World} {v : Value} {d : DataW H} {p : List MemPlace} (h : DataW.Trod enc Try.prog W 0 (fun _ => true) true 62 v d p) (hb : Below W.heap.size W W') (hlt : ∀ x ∈ p, x.block < W.heap.size) : DataW.Trod enc Try.prog W' 0 (fun b => decide (b < W.heap.size)) true 62 v d p :=
  Below.trod laidOut (by kernel_rfl) (of_decide_eq_true (by kernel_rfl)) h hb hlt
end
end Go.Proofs.Ytjhgmncmcklnkaa
