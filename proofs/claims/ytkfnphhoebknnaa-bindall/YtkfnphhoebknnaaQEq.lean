import Derived.Test.YtkfnphhoebknnaaQBl
import Derived.Carry
import Derived.ProofKit
import Derived.SizedLaws
import Derived.OpenShut
import Derived.Deep.Slices
import Derived.Lib.SmallJoins
import Derived.Test.YtkfnphhoebknnaaRows
import Derived.Test.YtkfnphhoebknnaaQEc
namespace Go.Proofs.Ytkfnphhoebknnaa
open Go.RowKit
structure VlIn (v : Vl) : Prop where
  k : I64 v.k
  n : I64 v.n
structure ColIn (c : Col) : Prop where
  id : I64 c.id
  kd : I64 c.kd
  st : I64 c.st
  df : VlIn c.df
structure IxIn (c : Ix) : Prop where
  id : I64 c.id
  col : I64 c.col
  st : I64 c.st
structure FkIn (c : Fk) : Prop where
  id : I64 c.id
  col : I64 c.col
  par : I64 c.par
  st : I64 c.st
structure TbIn (t : Tb) : Prop where
  id : I64 t.id
  c : ∀ x ∈ t.cols, ColIn x
  i : ∀ x ∈ t.ixs, IxIn x
  k : ∀ x ∈ t.fks, FkIn x
structure ScIn (s : Sc) : Prop where
  ver : I64 s.ver
  last : I64 s.last
  t : ∀ x ∈ s.tabs, TbIn x
end Go.Proofs.Ytkfnphhoebknnaa
namespace Go.Proofs.Ytkfnphhoebknnaa
open Go.ChangeShapes Go.WideShapes Go.ChangeAt Go.WideMaps Go.WideElems Go.RowKit Go.Joins Go.Deep
theorem own : ownKnob Try.prog.godebug = none := by kernel_rfl
theorem laidOut : laidOutB Try.prog = true := by kernel_rfl
theorem cells2 : Try.prog.cellsOf 2 = 1 := by kernel_rfl
theorem cells3 : Try.prog.cellsOf 3 = 1 := by kernel_rfl
theorem cells4 : Try.prog.cellsOf 4 = 1 := by kernel_rfl
theorem cells9 : Try.prog.cellsOf 9 = 1 := by kernel_rfl
theorem cells37 : Try.prog.cellsOf 37 = 3 := by kernel_rfl
theorem cells42 : Try.prog.cellsOf 42 = 1 := by kernel_rfl
theorem cells44 : Try.prog.cellsOf 44 = 11 := by kernel_rfl
theorem cells22 : Try.prog.cellsOf 22 = 1 := by kernel_rfl
theorem cells24 : Try.prog.cellsOf 24 = 3 := by kernel_rfl
theorem cells51 : Try.prog.cellsOf 51 = 1 := by kernel_rfl
theorem cells52 : Try.prog.cellsOf 52 = 1 := by kernel_rfl
theorem cells54 : Try.prog.cellsOf 54 = 5 := by kernel_rfl
theorem cells65 : Try.prog.cellsOf 65 = 7 := by kernel_rfl
theorem cells70 : Try.prog.cellsOf 70 = 5 := by kernel_rfl
theorem cells73 : Try.prog.cellsOf 73 = 5 := by kernel_rfl
theorem bytes54 : Try.prog.bytesOf 54 = 96 := by kernel_rfl
theorem bytes65 : Try.prog.bytesOf 65 = 72 := by kernel_rfl
theorem bytes70 : Try.prog.bytesOf 70 = 48 := by kernel_rfl
theorem bytes73 : Try.prog.bytesOf 73 = 48 := by kernel_rfl
def vlB (v : Vl) : Nat := 1 + v.s.size
def colB (c : Col) : Nat := 1 + c.nm.size + vlB c.df
def ixB (c : Ix) : Nat := 1 + c.nm.size
def fkBk (c : Fk) : Nat := 1 + c.nm.size
def tbB (t : Tb) : Nat := 1 + t.nm.size + (t.cols.map colB).sum + (t.ixs.map ixB).sum + (t.fks.map fkBk).sum
def scB (s : Sc) : Nat := 1 + (s.tabs.map tbB).sum
def ddB (d : Dd) : Nat := 1 + (d.cols.map colB).sum
structure TbQ (t : Tb) : Prop where
  c : t.cols.length * 72 ≤ 140737488355328
  i : t.ixs.length * 48 ≤ 140737488355328
  k : t.fks.length * 48 ≤ 140737488355328
structure ScQ (s : Sc) : Prop where
  n : s.tabs.length * 96 ≤ 140737488355328
  t : ∀ x ∈ s.tabs, TbQ x
structure DdIn (d : Dd) : Prop where
  kind : I64 d.kind
  ty : I64 d.ty
  df : VlIn d.df
  c : ∀ x ∈ d.cols, ColIn x
theorem bulk_one {H : Type} (d : DataW H) : 1 ≤ Rows.uptoBulk d := by
  cases d with
  | lit l => cases l <;> simp [Rows.uptoBulk]
  | nil => simp [Rows.uptoBulk]
  | ptr d => simp [Rows.uptoBulk]
  | slice elems spare => simp [Rows.uptoBulk]
  | agg parts => simp [Rows.uptoBulk]
  | iface t d => simp [Rows.uptoBulk]
  | map entries => simp [Rows.uptoBulk]
  | held h => simp [Rows.uptoBulk]
theorem bulk_text {H : Type} {y : DataW H} {s : ByteArray} (e : y = .lit (.string s.data.toList)) : Rows.uptoBulk y = s.size + 1 := by
  rw [e]
  simp only [Rows.uptoBulk]
  rw [Array.length_toList]
  rfl
theorem bulk_map {H : Type} {α : Type} {q : Nat → α} {D : Nat → DataW H} {f : α → Nat} : ∀ l : List Nat, (∀ i ∈ l, f (q i) ≤ Rows.uptoBulk (D i)) → ((l.map q).map f).sum ≤ Rows.uptoBulkAll (l.map D)
  | [], _ => by simp
  | i :: l, h => by
    have h1 := bulk_map l (fun j hj => h j (List.mem_cons_of_mem _ hj))
    have h2 := h i List.mem_cons_self
    simp only [List.map_cons, List.sum_cons, Rows.uptoBulkAll]
    omega
section
variable {H : Type} {enc : TypeId × Value → H} {W : World} {fuel : Nat} {cs : List Value} {x : DataW H × List MemPlace}
theorem weights_all {P : Program} {e : TypeId} {n : Nat} {d : DataW H} : ∀ {l : List (DataW H)}, d ∈ l → n ∈ d.weights P e → n ∈ DataW.weightsAll P e l
  | [], h, _ => by cases h
  | a :: l, h, hn => by
    simp only [DataW.weightsAll, List.mem_append]
    rcases List.mem_cons.1 h with rfl | h
    · exact .inl hn
    · exact .inr (weights_all h hn)
set_option maxRecDepth 100000 in
set_option maxHeartbeats 1000000 in
theorem list_trod {α : Type} (hinh : Inhabited α) {E : World → α → List Value → Prop} {P Q : α → Prop} {f : α → Nat} {st et : TypeId} {c : Nat} (hu : Try.prog.underlying st = some (.slice et)) (hcs : Try.prog.cellsOf et = c) (hc0 : 0 < c) {by0 : Nat} (hby : Try.prog.bytesOf et = by0)
    (each0 : ∀ (cs' : List Value) (fuel : Nat) (x' : DataW H × List MemPlace), cs'.length = c → DataW.trod enc Try.prog W 0 (fun _ => true) true fuel et cs' = some x' → ∃ q : α, E W q cs' ∧ P q ∧ f q ≤ Rows.uptoBulk x'.1 ∧ ((∀ n ∈ DataW.weights Try.prog et x'.1, n ≤ reachBytes) → Q q))
    (hf : DataW.trod enc Try.prog W 0 (fun _ => true) true fuel st cs = some x) : ∃ (l : List α) (v : Value), cs = [v] ∧ Lr E c W l v ∧ (∀ q ∈ l, P q) ∧ (l.map f).sum + 1 ≤ Rows.uptoBulk x.1 ∧ ((∀ n ∈ DataW.weights Try.prog st x.1, n ≤ reachBytes) → l.length * by0 ≤ 140737488355328 ∧ ∀ q ∈ l, Q q) := by
  rcases open_slice hu hf with ⟨hcs', hx⟩ | ⟨a, len, cap, m, n, D, Pl, hcs', _, hl, hm, hmm, hx, hel⟩
  · exact ⟨[], .slice none 0 0, hcs', ⟨none, 0, rfl, fun _ => rfl, Nat.le_refl _, Nat.zero_le _, fun i hi => by simp at hi⟩, fun q hq => (by cases hq), bulk_one _, fun _ => ⟨by simp, fun q hq => (by cases hq)⟩⟩
  · simp only [if_true] at hmm
    subst hmm
    have each : ∀ i, i < len → ∃ q : α, (∃ cs', E W q cs' ∧ cs'.length = c ∧ ∀ j u, cs'[j]? = some u → W.cell? (a.add (i * c + j)) = some u) ∧ P q ∧ f q ≤ Rows.uptoBulk (D i) ∧ ((∀ n ∈ DataW.weights Try.prog et (D i), n ≤ reachBytes) → Q q) := by
      intro i hi
      obtain ⟨cs', h1, h2⟩ := hel i (by omega)
      rw [hcs] at h1
      obtain ⟨_, hlen, hcell⟩ := World.cells?_some h1
      obtain ⟨o, e, hP, hz, hQ⟩ := each0 cs' _ _ hlen h2
      refine ⟨o, ⟨cs', e, hlen, fun j u hu => ?_⟩, hP, hz, hQ⟩
      have hj : j < cs'.length := by
        rw [List.getElem?_eq_some_iff] at hu
        exact hu.1
      have z := hcell j (by omega)
      rw [add_add] at z
      rw [z]
      exact hu
    obtain ⟨q, hq⟩ := choose_lt each
    have hlen : ((List.range len).map q).length = len := by simp
    refine ⟨(List.range len).map q, _, hcs', ⟨some a, m, by rw [hlen], fun z => (by cases z), by rw [hlen]; exact hl, hm, fun i hi => ?cl⟩, ?pp, ?sz, fun h => ?qq⟩
    case pp =>
      intro r hr
      obtain ⟨i, hi, rfl⟩ := List.mem_map.1 hr
      exact (hq i (List.mem_range.1 hi)).2.1
    case qq =>
      have hd : x.1 = _ := congrArg Prod.fst hx
      rw [hd] at h
      simp only [DataW.weights, hu] at h
      have z := h _ (List.mem_cons_self)
      rw [hby, List.length_map, List.length_map, List.length_range, List.length_range] at z
      have hR := reachBytes_lt
      have hm9 := Nat.mul_le_mul_right by0 (Nat.le_add_right len (m - len))
      refine ⟨by rw [hlen]; omega, ?_⟩
      intro r hr
      obtain ⟨i, hi, rfl⟩ := List.mem_map.1 hr
      have hi' := List.mem_range.1 hi
      exact (hq i hi').2.2.2 (fun n hn => h n (by
        simp only [List.mem_cons, List.mem_append]
        exact .inr (.inl (weights_all (List.mem_map.2 ⟨i, hi, rfl⟩) hn))))
    case sz =>
      have hd : x.1 = _ := congrArg Prod.fst hx
      have h1 := bulk_map (f := f) (q := q) (D := D) (List.range len) (fun i hi => (hq i (List.mem_range.1 hi)).2.2.1)
      rw [hd]
      simp only [Rows.uptoBulk]
      omega
    case cl =>
      rw [hlen] at hi
      obtain ⟨⟨cs', e1, e2, e3⟩, _⟩ := hq i hi
      obtain ⟨b, o, sp⟩ := a
      have hw0 : ∃ u, W.cell? ((⟨b, o, sp⟩ : Addr).add (i * c + 0)) = some u := ⟨_, e3 0 _ (List.getElem?_eq_getElem (by omega))⟩
      have hsp : sp = none := by
        obtain ⟨⟨cs0, _, l0, c0⟩, _⟩ := hq 0 (by omega)
        have := World.cell?_spot (c0 0 _ (List.getElem?_eq_getElem (by omega)))
        simpa [Addr.add] using this
      subst hsp
      have e : ((List.range len).map q)[i]'(by rw [hlen]; exact hi) = q i := by simp
      rw [e]
      have hbl : b < W.heap.size := by
        obtain ⟨u, z⟩ := hw0
        rw [add_at] at z
        exact pt_lt z
      exact ⟨b, o, cs', rfl, hbl, e1, e2, fun j u hu => by
        have z := e3 j u hu
        rw [add_at] at z
        rw [Nat.add_assoc]
        exact z⟩
def vlE (_ : World) (v : Vl) (cs : List Value) : Prop := cs = vlL v
set_option maxRecDepth 100000 in
set_option maxHeartbeats 1000000 in
theorem vl_trod (hl : cs.length = 3) (hf : DataW.trod enc Try.prog W 0 (fun _ => true) true fuel 37 cs = some x) : ∃ v : Vl, vlE W v cs ∧ VlIn v ∧ vlB v ≤ Rows.uptoBulk x.1 ∧ ((∀ n ∈ DataW.weights Try.prog 37 x.1, n ≤ reachBytes) → True) := by
  obtain ⟨xs, k, hk, hxy, _, hxl, hfl⟩ := DataW.trod_struct Try.underlying37 hf
  match xs, hxl, cs, hl with
  | [y0, y1, y2], _, [v0, v1, v2], _ =>
    have g0 := hfl 0 _ rfl
    have g1 := hfl 1 _ rfl
    have g2 := hfl 2 _ rfl
    simp [cells2, cells3, cells9] at g0 g1 g2
    obtain ⟨k0, f0, _, b0⟩ := DataW.trod_int Try.underlying3 g0
    obtain ⟨k1, f1, _, b1⟩ := DataW.trod_int Try.underlying2 g1
    obtain ⟨s2, f2, e2, _⟩ := DataW.trod_string Try.underlying9 g2
    simp at f0 f1 f2
    subst f0 f1 f2
    have t2 := bulk_text (congrArg Prod.fst e2)
    have hx : x.1 = .agg [y0.1, y1.1, y2.1] := by rw [hxy]; rfl
    refine ⟨⟨k0, k1, s2⟩, rfl, ⟨bounds_i64 b0, bounds_i64 b1⟩, ?_, fun _ => trivial⟩
    · rw [hx]
      simp only [Rows.uptoBulk, Rows.uptoBulkAll, vlB]
      omega
set_option maxRecDepth 100000 in
set_option maxHeartbeats 1000000 in
theorem col_trod (hl : cs.length = 7) (hf : DataW.trod enc Try.prog W 0 (fun _ => true) true fuel 65 cs = some x) : ∃ v : Col, colE W v cs ∧ ColIn v ∧ colB v ≤ Rows.uptoBulk x.1 ∧ ((∀ n ∈ DataW.weights Try.prog 65 x.1, n ≤ reachBytes) → True) := by
  obtain ⟨xs, k, hk, hxy, _, hxl, hfl⟩ := DataW.trod_struct Try.underlying65 hf
  match xs, hxl, cs, hl with
  | [y0, y1, y2, y3, y4], _, [v0, v1, v2, v3, v4, v5, v6], _ =>
    have g0 := hfl 0 _ rfl
    have g1 := hfl 1 _ rfl
    have g2 := hfl 2 _ rfl
    have g3 := hfl 3 _ rfl
    have g4 := hfl 4 _ rfl
    simp [cells3, cells9, cells37] at g0 g1 g2 g3 g4
    obtain ⟨k0, f0, _, b0⟩ := DataW.trod_int Try.underlying3 g0
    obtain ⟨s1, f1, e1, _⟩ := DataW.trod_string Try.underlying9 g1
    obtain ⟨k2, f2, _, b2⟩ := DataW.trod_int Try.underlying3 g2
    obtain ⟨k3, f3, _, b3⟩ := DataW.trod_int Try.underlying3 g3
    obtain ⟨q4, f4, i4, z4, _⟩ := vl_trod (cs := [v4, v5, v6]) rfl g4
    simp at f0 f1 f2 f3
    have f4' : [v4, v5, v6] = vlL q4 := f4
    simp only [vlL, List.cons.injEq, and_true] at f4'
    obtain ⟨rfl, rfl, rfl⟩ := f4'
    subst f0 f1 f2 f3
    have t1 := bulk_text (congrArg Prod.fst e1)
    have hx : x.1 = .agg [y0.1, y1.1, y2.1, y3.1, y4.1] := by rw [hxy]; rfl
    refine ⟨⟨k0, s1, k2, k3, q4⟩, rfl, ⟨bounds_i64 b0, bounds_i64 b2, bounds_i64 b3, i4⟩, ?_, fun _ => trivial⟩
    · rw [hx]
      simp only [Rows.uptoBulk, Rows.uptoBulkAll, colB]
      omega
set_option maxRecDepth 100000 in
set_option maxHeartbeats 1000000 in
theorem ix_trod (hl : cs.length = 5) (hf : DataW.trod enc Try.prog W 0 (fun _ => true) true fuel 70 cs = some x) : ∃ v : Ix, ixE W v cs ∧ IxIn v ∧ ixB v ≤ Rows.uptoBulk x.1 ∧ ((∀ n ∈ DataW.weights Try.prog 70 x.1, n ≤ reachBytes) → True) := by
  obtain ⟨xs, k, hk, hxy, _, hxl, hfl⟩ := DataW.trod_struct Try.underlying70 hf
  match xs, hxl, cs, hl with
  | [y0, y1, y2, y3, y4], _, [v0, v1, v2, v3, v4], _ =>
    have g0 := hfl 0 _ rfl
    have g1 := hfl 1 _ rfl
    have g2 := hfl 2 _ rfl
    have g3 := hfl 3 _ rfl
    have g4 := hfl 4 _ rfl
    simp [cells3, cells4, cells9] at g0 g1 g2 g3 g4
    obtain ⟨k0, f0, _, b0⟩ := DataW.trod_int Try.underlying3 g0
    obtain ⟨s1, f1, e1, _⟩ := DataW.trod_string Try.underlying9 g1
    obtain ⟨k2, f2, _, b2⟩ := DataW.trod_int Try.underlying3 g2
    obtain ⟨p3, f3, _⟩ := DataW.trod_bool Try.underlying4 g3
    obtain ⟨k4, f4, _, b4⟩ := DataW.trod_int Try.underlying3 g4
    simp at f0 f1 f2 f3 f4
    subst f0 f1 f2 f3 f4
    have t1 := bulk_text (congrArg Prod.fst e1)
    have hx : x.1 = .agg [y0.1, y1.1, y2.1, y3.1, y4.1] := by rw [hxy]; rfl
    refine ⟨⟨k0, s1, k2, p3, k4⟩, rfl, ⟨bounds_i64 b0, bounds_i64 b2, bounds_i64 b4⟩, ?_, fun _ => trivial⟩
    · rw [hx]
      simp only [Rows.uptoBulk, Rows.uptoBulkAll, ixB]
      omega
set_option maxRecDepth 100000 in
set_option maxHeartbeats 1000000 in
theorem fk_trod (hl : cs.length = 5) (hf : DataW.trod enc Try.prog W 0 (fun _ => true) true fuel 73 cs = some x) : ∃ v : Fk, fkE W v cs ∧ FkIn v ∧ fkBk v ≤ Rows.uptoBulk x.1 ∧ ((∀ n ∈ DataW.weights Try.prog 73 x.1, n ≤ reachBytes) → True) := by
  obtain ⟨xs, k, hk, hxy, _, hxl, hfl⟩ := DataW.trod_struct Try.underlying73 hf
  match xs, hxl, cs, hl with
  | [y0, y1, y2, y3, y4], _, [v0, v1, v2, v3, v4], _ =>
    have g0 := hfl 0 _ rfl
    have g1 := hfl 1 _ rfl
    have g2 := hfl 2 _ rfl
    have g3 := hfl 3 _ rfl
    have g4 := hfl 4 _ rfl
    simp [cells3, cells9] at g0 g1 g2 g3 g4
    obtain ⟨k0, f0, _, b0⟩ := DataW.trod_int Try.underlying3 g0
    obtain ⟨s1, f1, e1, _⟩ := DataW.trod_string Try.underlying9 g1
    obtain ⟨k2, f2, _, b2⟩ := DataW.trod_int Try.underlying3 g2
    obtain ⟨k3, f3, _, b3⟩ := DataW.trod_int Try.underlying3 g3
    obtain ⟨k4, f4, _, b4⟩ := DataW.trod_int Try.underlying3 g4
    simp at f0 f1 f2 f3 f4
    subst f0 f1 f2 f3 f4
    have t1 := bulk_text (congrArg Prod.fst e1)
    have hx : x.1 = .agg [y0.1, y1.1, y2.1, y3.1, y4.1] := by rw [hxy]; rfl
    refine ⟨⟨k0, s1, k2, k3, k4⟩, rfl, ⟨bounds_i64 b0, bounds_i64 b2, bounds_i64 b3, bounds_i64 b4⟩, ?_, fun _ => trivial⟩
    · rw [hx]
      simp only [Rows.uptoBulk, Rows.uptoBulkAll, fkBk]
      omega
theorem cols_trod (hf : DataW.trod enc Try.prog W 0 (fun _ => true) true fuel 42 cs = some x) : ∃ (l : List Col) (v : Value), cs = [v] ∧ Lr colE 7 W l v ∧ (∀ q ∈ l, ColIn q) ∧ (l.map colB).sum + 1 ≤ Rows.uptoBulk x.1 ∧ ((∀ n ∈ DataW.weights Try.prog 42 x.1, n ≤ reachBytes) → l.length * 72 ≤ 140737488355328 ∧ ∀ q ∈ l, True) :=
  list_trod ⟨⟨0, ⟨#[]⟩, 0, 0, ⟨0, 0, ⟨#[]⟩⟩⟩⟩ Try.underlying42 cells65 (by decide) bytes65 (fun _ _ _ h1 h2 => col_trod h1 h2) hf
theorem ixs_trod (hf : DataW.trod enc Try.prog W 0 (fun _ => true) true fuel 51 cs = some x) : ∃ (l : List Ix) (v : Value), cs = [v] ∧ Lr ixE 5 W l v ∧ (∀ q ∈ l, IxIn q) ∧ (l.map ixB).sum + 1 ≤ Rows.uptoBulk x.1 ∧ ((∀ n ∈ DataW.weights Try.prog 51 x.1, n ≤ reachBytes) → l.length * 48 ≤ 140737488355328 ∧ ∀ q ∈ l, True) :=
  list_trod ⟨⟨0, ⟨#[]⟩, 0, false, 0⟩⟩ Try.underlying51 cells70 (by decide) bytes70 (fun _ _ _ h1 h2 => ix_trod h1 h2) hf
theorem fks_trod (hf : DataW.trod enc Try.prog W 0 (fun _ => true) true fuel 52 cs = some x) : ∃ (l : List Fk) (v : Value), cs = [v] ∧ Lr fkE 5 W l v ∧ (∀ q ∈ l, FkIn q) ∧ (l.map fkBk).sum + 1 ≤ Rows.uptoBulk x.1 ∧ ((∀ n ∈ DataW.weights Try.prog 52 x.1, n ≤ reachBytes) → l.length * 48 ≤ 140737488355328 ∧ ∀ q ∈ l, True) :=
  list_trod ⟨⟨0, ⟨#[]⟩, 0, 0, 0⟩⟩ Try.underlying52 cells73 (by decide) bytes73 (fun _ _ _ h1 h2 => fk_trod h1 h2) hf
set_option maxRecDepth 100000 in
set_option maxHeartbeats 1000000 in
theorem tb_trod (hl : cs.length = 5) (hf : DataW.trod enc Try.prog W 0 (fun _ => true) true fuel 54 cs = some x) : ∃ v : Tb, tbE W v cs ∧ TbIn v ∧ tbB v ≤ Rows.uptoBulk x.1 ∧ ((∀ n ∈ DataW.weights Try.prog 54 x.1, n ≤ reachBytes) → TbQ v) := by
  obtain ⟨xs, k, hk, hxy, _, hxl, hfl⟩ := DataW.trod_struct Try.underlying54 hf
  match xs, hxl, cs, hl with
  | [y0, y1, y2, y3, y4], _, [v0, v1, v2, v3, v4], _ =>
    have g0 := hfl 0 _ rfl
    have g1 := hfl 1 _ rfl
    have g2 := hfl 2 _ rfl
    have g3 := hfl 3 _ rfl
    have g4 := hfl 4 _ rfl
    simp [cells3, cells9, cells42, cells51, cells52] at g0 g1 g2 g3 g4
    obtain ⟨k0, f0, _, b0⟩ := DataW.trod_int Try.underlying3 g0
    obtain ⟨s1, f1, e1, _⟩ := DataW.trod_string Try.underlying9 g1
    obtain ⟨l2, u2, f2, h2, i2, z2, w2⟩ := cols_trod g2
    obtain ⟨l3, u3, f3, h3, i3, z3, w3⟩ := ixs_trod g3
    obtain ⟨l4, u4, f4, h4, i4, z4, w4⟩ := fks_trod g4
    simp at f0 f1 f2 f3 f4
    subst f0 f1 f2 f3 f4
    have t1 := bulk_text (congrArg Prod.fst e1)
    have hx : x.1 = .agg [y0.1, y1.1, y2.1, y3.1, y4.1] := by rw [hxy]; rfl
    refine ⟨⟨k0, s1, l2, l3, l4⟩, ⟨v2, v3, v4, rfl, h2, h3, h4⟩, ⟨bounds_i64 b0, i2, i3, i4⟩, ?_, fun h => ?_⟩
    · rw [hx]
      simp only [Rows.uptoBulk, Rows.uptoBulkAll, tbB]
      omega
    · rw [hx] at h
      exact ⟨(w2 (fun n hn => h n (by
          simp only [DataW.weights, Try.underlying54, DataW.weightsEach, List.map_cons, List.mem_append]
          simp [hn]))).1, (w3 (fun n hn => h n (by
          simp only [DataW.weights, Try.underlying54, DataW.weightsEach, List.map_cons, List.mem_append]
          simp [hn]))).1, (w4 (fun n hn => h n (by
          simp only [DataW.weights, Try.underlying54, DataW.weightsEach, List.map_cons, List.mem_append]
          simp [hn]))).1⟩
theorem tabs_trod (hf : DataW.trod enc Try.prog W 0 (fun _ => true) true fuel 22 cs = some x) : ∃ (l : List Tb) (v : Value), cs = [v] ∧ Lr tbE 5 W l v ∧ (∀ q ∈ l, TbIn q) ∧ (l.map tbB).sum + 1 ≤ Rows.uptoBulk x.1 ∧ ((∀ n ∈ DataW.weights Try.prog 22 x.1, n ≤ reachBytes) → l.length * 96 ≤ 140737488355328 ∧ ∀ q ∈ l, TbQ q) :=
  list_trod ⟨⟨0, ⟨#[]⟩, [], [], []⟩⟩ Try.underlying22 cells54 (by decide) bytes54 (fun _ _ _ h1 h2 => tb_trod h1 h2) hf
def scE (w : World) (s : Sc) (cs : List Value) : Prop := ∃ tv, cs = [.int .i64 s.ver, .int .i64 s.last, tv] ∧ Lr tbE 5 w s.tabs tv
def ddE (w : World) (d : Dd) (cs : List Value) : Prop := ∃ cv, cs = [.int .i64 d.kind, .string d.table, .string d.name, .string d.column, .string d.parent, .bool d.uq, .int .i64 d.ty, .int .i64 d.df.k, .int .i64 d.df.n, .string d.df.s, cv] ∧ Lr colE 7 w d.cols cv
set_option maxRecDepth 100000 in
set_option maxHeartbeats 1000000 in
theorem sc_trod (hl : cs.length = 3) (hf : DataW.trod enc Try.prog W 0 (fun _ => true) true fuel 24 cs = some x) : ∃ v : Sc, scE W v cs ∧ ScIn v ∧ scB v ≤ Rows.uptoBulk x.1 ∧ ((∀ n ∈ DataW.weights Try.prog 24 x.1, n ≤ reachBytes) → ScQ v) := by
  obtain ⟨xs, k, hk, hxy, _, hxl, hfl⟩ := DataW.trod_struct Try.underlying24 hf
  match xs, hxl, cs, hl with
  | [y0, y1, y2], _, [v0, v1, v2], _ =>
    have g0 := hfl 0 _ rfl
    have g1 := hfl 1 _ rfl
    have g2 := hfl 2 _ rfl
    simp [cells3, cells22] at g0 g1 g2
    obtain ⟨k0, f0, _, b0⟩ := DataW.trod_int Try.underlying3 g0
    obtain ⟨k1, f1, _, b1⟩ := DataW.trod_int Try.underlying3 g1
    obtain ⟨l2, u2, f2, h2, i2, z2, w2⟩ := tabs_trod g2
    simp at f0 f1 f2
    subst f0 f1 f2
    have hx : x.1 = .agg [y0.1, y1.1, y2.1] := by rw [hxy]; rfl
    refine ⟨⟨k0, k1, l2⟩, ⟨v2, rfl, h2⟩, ⟨bounds_i64 b0, bounds_i64 b1, i2⟩, ?_, fun h => ?_⟩
    · rw [hx]
      simp only [Rows.uptoBulk, Rows.uptoBulkAll, scB]
      omega
    · rw [hx] at h
      exact ⟨(w2 (fun n hn => h n (by
          simp only [DataW.weights, Try.underlying24, DataW.weightsEach, List.map_cons, List.mem_append]
          simp [hn]))).1, (w2 (fun n hn => h n (by
          simp only [DataW.weights, Try.underlying24, DataW.weightsEach, List.map_cons, List.mem_append]
          simp [hn]))).2⟩
set_option maxRecDepth 100000 in
set_option maxHeartbeats 1000000 in
theorem dd_trod (hl : cs.length = 11) (hf : DataW.trod enc Try.prog W 0 (fun _ => true) true fuel 44 cs = some x) : ∃ v : Dd, ddE W v cs ∧ DdIn v ∧ ddB v ≤ Rows.uptoBulk x.1 ∧ ((∀ n ∈ DataW.weights Try.prog 44 x.1, n ≤ reachBytes) → v.cols.length * 72 ≤ 140737488355328) := by
  obtain ⟨xs, k, hk, hxy, _, hxl, hfl⟩ := DataW.trod_struct Try.underlying44 hf
  match xs, hxl, cs, hl with
  | [y0, y1, y2, y3, y4, y5, y6, y7, y8], _, [v0, v1, v2, v3, v4, v5, v6, v7, v8, v9, v10], _ =>
    have g0 := hfl 0 _ rfl
    have g1 := hfl 1 _ rfl
    have g2 := hfl 2 _ rfl
    have g3 := hfl 3 _ rfl
    have g4 := hfl 4 _ rfl
    have g5 := hfl 5 _ rfl
    have g6 := hfl 6 _ rfl
    have g7 := hfl 7 _ rfl
    have g8 := hfl 8 _ rfl
    simp [cells3, cells4, cells9, cells37, cells42] at g0 g1 g2 g3 g4 g5 g6 g7 g8
    obtain ⟨k0, f0, _, b0⟩ := DataW.trod_int Try.underlying3 g0
    obtain ⟨s1, f1, e1, _⟩ := DataW.trod_string Try.underlying9 g1
    obtain ⟨s2, f2, e2, _⟩ := DataW.trod_string Try.underlying9 g2
    obtain ⟨s3, f3, e3, _⟩ := DataW.trod_string Try.underlying9 g3
    obtain ⟨s4, f4, e4, _⟩ := DataW.trod_string Try.underlying9 g4
    obtain ⟨p5, f5, _⟩ := DataW.trod_bool Try.underlying4 g5
    obtain ⟨k6, f6, _, b6⟩ := DataW.trod_int Try.underlying3 g6
    obtain ⟨q7, f7, i7, z7, _⟩ := vl_trod (cs := [v7, v8, v9]) rfl g7
    obtain ⟨l8, u8, f8, h8, i8, z8, w8⟩ := cols_trod g8
    simp at f0 f1 f2 f3 f4 f5 f6 f8
    have f7' : [v7, v8, v9] = vlL q7 := f7
    simp only [vlL, List.cons.injEq, and_true] at f7'
    obtain ⟨rfl, rfl, rfl⟩ := f7'
    subst f0 f1 f2 f3 f4 f5 f6 f8
    have t1 := bulk_text (congrArg Prod.fst e1)
    have t2 := bulk_text (congrArg Prod.fst e2)
    have t3 := bulk_text (congrArg Prod.fst e3)
    have t4 := bulk_text (congrArg Prod.fst e4)
    have hx : x.1 = .agg [y0.1, y1.1, y2.1, y3.1, y4.1, y5.1, y6.1, y7.1, y8.1] := by rw [hxy]; rfl
    refine ⟨⟨k0, s1, s2, s3, s4, p5, k6, q7, l8⟩, ⟨v10, rfl, h8⟩, ⟨bounds_i64 b0, bounds_i64 b6, i7, i8⟩, ?_, fun h => ?_⟩
    · rw [hx]
      simp only [Rows.uptoBulk, Rows.uptoBulkAll, ddB]
      omega
    · rw [hx] at h
      exact (w8 (fun n hn => h n (by
          simp only [DataW.weights, Try.underlying44, DataW.weightsEach, List.map_cons, List.mem_append]
          simp [hn]))).1
set_option maxRecDepth 100000 in
theorem open_sc {base : Nat} {v : Value} {d : DataW H} {p : List MemPlace} (hv : Value.okWide Try.prog W .any base 24 v) (h : DataW.Trod enc Try.prog W 0 (fun _ => true) true 24 v d p) : ∃ (s : Sc) (tv : Value), v = scV s tv ∧ Lr tbE 5 W s.tabs tv ∧ ScIn s ∧ scB s ≤ Rows.uptoBulk d ∧ ((∀ n ∈ DataW.weights Try.prog 24 d, n ≤ reachBytes) → ScQ s) := by
  obtain ⟨cs, rfl, hsz⟩ := okWide_struct Try.underlying24 hv
  obtain ⟨fuel, hf⟩ := h
  obtain ⟨l⟩ := cs
  have hl : l.length = 3 := hsz.trans cells24
  obtain ⟨s, ⟨tv, e, hL⟩, hI, hB, hQ⟩ := sc_trod (cs := l) hl hf
  subst e
  exact ⟨s, tv, rfl, hL, hI, hB, hQ⟩
theorem againT_sc {W' : World} {v : Value} {d : DataW H} {p : List MemPlace} (h : DataW.Trod enc Try.prog W 0 (fun _ => true) true 24 v d p) (hb : Below W.heap.size W W') (hlt : ∀ x ∈ p, x.block < W.heap.size) : DataW.Trod enc Try.prog W' 0 (fun b => decide (b < W.heap.size)) true 24 v d p :=
  Below.trod laidOut (by kernel_rfl) (of_decide_eq_true (by kernel_rfl)) h hb hlt
end
end Go.Proofs.Ytkfnphhoebknnaa
namespace Go.Proofs.Ytkfnphhoebknnaa
open Go.ChangeShapes Go.WideShapes Go.ChangeAt Go.WideMaps Go.WideElems Go.RowKit Go.Joins Go.Deep
theorem cells35 : Try.prog.cellsOf 35 = 1 := by kernel_rfl
theorem cells46 : Try.prog.cellsOf 46 = 22 := by kernel_rfl
theorem bytes37 : Try.prog.bytesOf 37 = 32 := by kernel_rfl
theorem bytes46 : Try.prog.bytesOf 46 = 288 := by kernel_rfl
theorem ids_in {s : Sc} (h : ScIn s) : ∀ t ∈ s.tabs, ∀ i ∈ idsT t, I64 i := by
  intro t ht i hi
  have hT := h.t t ht
  unfold idsT at hi
  simp only [List.mem_cons, List.mem_append, List.mem_map] at hi
  rcases hi with rfl | (⟨x, hx, rfl⟩ | ⟨x, hx, rfl⟩) | ⟨x, hx, rfl⟩
  · exact hT.id
  · exact (hT.c x hx).id
  · exact (hT.i x hx).id
  · exact (hT.k x hx).id
/-- How long what comes in is. -/
theorem lens_in {s : Sc} {L : List St} (h : ScQ s) (h2 : L.length * 288 ≤ 140737488355328 ∧ ∀ q ∈ L, q.vals.length * 32 ≤ 140737488355328) : s.tabs.length ≤ 140737488355328 ∧ L.length ≤ 140737488355328 ∧ (∀ t ∈ s.tabs, t.cols.length ≤ 140737488355328 ∧ t.ixs.length ≤ 140737488355328 ∧ t.fks.length ≤ 140737488355328) ∧ ∀ x ∈ L, x.vals.length ≤ 140737488355328 := by
  refine ⟨by have := h.n; omega, by have := h2.1; omega, fun t ht => ?_, fun x hx => by have := h2.2 x hx; omega⟩
  have hT := h.t t ht
  exact ⟨by have := hT.c; omega, by have := hT.i; omega, by have := hT.k; omega⟩
section
variable {H : Type} {enc : TypeId × Value → H} {W : World} {fuel : Nat} {cs : List Value} {x : DataW H × List MemPlace}
def StQ (x : St) : Prop := x.vals.length * 32 ≤ 140737488355328
theorem vals_trod (hf : DataW.trod enc Try.prog W 0 (fun _ => true) true fuel 35 cs = some x) : ∃ (l : List Vl) (v : Value), cs = [v] ∧ Lr valsE 3 W l v ∧ (∀ q ∈ l, VlIn q) ∧ (l.map vlB).sum + 1 ≤ Rows.uptoBulk x.1 ∧ ((∀ n ∈ DataW.weights Try.prog 35 x.1, n ≤ reachBytes) → l.length * 32 ≤ 140737488355328 ∧ ∀ q ∈ l, True) :=
  list_trod (E := valsE) ⟨⟨0, 0, ⟨#[]⟩⟩⟩ Try.underlying35 cells37 (by decide) bytes37 (fun _ _ _ h1 h2 => vl_trod h1 h2) hf
set_option maxRecDepth 100000 in
set_option maxHeartbeats 4000000 in
theorem st_trod (hl : cs.length = 22) (hf : DataW.trod enc Try.prog W 0 (fun _ => true) true fuel 46 cs = some x) : ∃ v : St, stmtE W v cs ∧ True ∧ 1 ≤ Rows.uptoBulk x.1 ∧ ((∀ n ∈ DataW.weights Try.prog 46 x.1, n ≤ reachBytes) → StQ v) := by
  obtain ⟨xs, k, hk, hxy, _, hxl, hfl⟩ := DataW.trod_struct Try.underlying46 hf
  match xs, hxl, cs, hl with
  | [y0, y1, y2, y3, y4, y5, y6, y7], _, [v0, v1, v2, v3, v4, v5, v6, v7, v8, v9, v10, v11, v12, v13, v14, v15, v16, v17, v18, v19, v20, v21], _ =>
    have g0 := hfl 0 _ rfl
    have g1 := hfl 1 _ rfl
    have g2 := hfl 2 _ rfl
    have g3 := hfl 3 _ rfl
    have g4 := hfl 4 _ rfl
    have g5 := hfl 5 _ rfl
    have g6 := hfl 6 _ rfl
    have g7 := hfl 7 _ rfl
    simp [cells3, cells9, cells37, cells35, cells44] at g0 g1 g2 g3 g4 g5 g6 g7
    obtain ⟨k0, f0, _, b0⟩ := DataW.trod_int Try.underlying3 g0
    obtain ⟨s1, f1, e1, _⟩ := DataW.trod_string Try.underlying9 g1
    obtain ⟨l2, u2, f2, h2, i2, z2, w2⟩ := vals_trod g2
    obtain ⟨s3, f3, e3, _⟩ := DataW.trod_string Try.underlying9 g3
    obtain ⟨q4, f4, i4, z4, _⟩ := vl_trod (cs := [v4, v5, v6]) rfl g4
    obtain ⟨s5, f5, e5, _⟩ := DataW.trod_string Try.underlying9 g5
    obtain ⟨q6, f6, i6, z6, _⟩ := vl_trod (cs := [v8, v9, v10]) rfl g6
    obtain ⟨d7, ⟨cv7, f7, h7⟩, i7, z7, w7⟩ := dd_trod (cs := [v11, v12, v13, v14, v15, v16, v17, v18, v19, v20, v21]) rfl g7
    simp at f0 f1 f2 f3 f5
    have f4' : [v4, v5, v6] = vlL q4 := f4
    simp only [vlL, List.cons.injEq, and_true] at f4'
    obtain ⟨rfl, rfl, rfl⟩ := f4'
    have f6' : [v8, v9, v10] = vlL q6 := f6
    simp only [vlL, List.cons.injEq, and_true] at f6'
    obtain ⟨rfl, rfl, rfl⟩ := f6'
    simp only [List.cons.injEq, and_true] at f7
    obtain ⟨rfl, rfl, rfl, rfl, rfl, rfl, rfl, rfl, rfl, rfl, rfl⟩ := f7
    subst f0 f1 f2 f3 f5
    obtain ⟨va, vc, hva, -⟩ := h2.shape
    obtain ⟨da, dc, hda, -⟩ := h7.shape
    subst hva hda
    have hx : x.1 = .agg [y0.1, y1.1, y2.1, y3.1, y4.1, y5.1, y6.1, y7.1] := by rw [hxy]; rfl
    refine ⟨⟨k0, s1, l2, s3, q4, s5, q6, d7⟩, ⟨va, vc, da, dc, rfl, h2⟩, trivial, bulk_one _, fun h => ?_⟩
    rw [hx] at h
    exact (w2 (fun n hn => h n (by
      simp only [DataW.weights, Try.underlying46, DataW.weightsEach, List.map_cons, List.mem_append]
      simp [hn]))).1
theorem stmts_trod (hf : DataW.trod enc Try.prog W 0 (fun _ => true) true fuel 25 cs = some x) : ∃ (l : List St) (v : Value), cs = [v] ∧ Lr stmtE 22 W l v ∧ (∀ q ∈ l, True) ∧ (l.map (fun _ => 1)).sum + 1 ≤ Rows.uptoBulk x.1 ∧ ((∀ n ∈ DataW.weights Try.prog 25 x.1, n ≤ reachBytes) → l.length * 288 ≤ 140737488355328 ∧ ∀ q ∈ l, StQ q) :=
  list_trod (P := fun _ => True) (f := fun _ => 1) ⟨⟨0, ⟨#[]⟩, [], ⟨#[]⟩, ⟨0, 0, ⟨#[]⟩⟩, ⟨#[]⟩, ⟨0, 0, ⟨#[]⟩⟩, ⟨0, ⟨#[]⟩, ⟨#[]⟩, ⟨#[]⟩, ⟨#[]⟩, false, 0, ⟨0, 0, ⟨#[]⟩⟩, []⟩⟩⟩ Try.underlying25 cells46 (by decide) bytes46 (fun _ _ _ h1 h2 => st_trod h1 h2) hf
set_option maxRecDepth 100000 in
theorem open_stmts {base : Nat} {v : Value} {d : DataW H} {p : List MemPlace} (hv : Value.okWide Try.prog W .any base 25 v) (h : DataW.Trod enc Try.prog W 0 (fun _ => true) true 25 v d p) : ∃ (l : List St), Lr stmtE 22 W l v ∧ ((∀ n ∈ DataW.weights Try.prog 25 d, n ≤ reachBytes) → l.length * 288 ≤ 140737488355328 ∧ ∀ q ∈ l, StQ q) := by
  obtain ⟨fuel, hf⟩ := h
  obtain ⟨a0, len, cap, rfl⟩ := okWide_slice Try.underlying25 hv
  obtain ⟨l, v', e, hL, _, _, hQ⟩ := stmts_trod hf
  have e' : Value.slice a0 len cap = v' := by simpa [Value.cells] using e
  subst e'
  exact ⟨l, hL, hQ⟩
theorem againT_st {W' : World} {v : Value} {d : DataW H} {p : List MemPlace} (h : DataW.Trod enc Try.prog W 0 (fun _ => true) true 25 v d p) (hb : Below W.heap.size W W') (hlt : ∀ x ∈ p, x.block < W.heap.size) : DataW.Trod enc Try.prog W' 0 (fun b => decide (b < W.heap.size)) true 25 v d p :=
  Below.trod laidOut (by kernel_rfl) (of_decide_eq_true (by kernel_rfl)) h hb hlt
end
end Go.Proofs.Ytkfnphhoebknnaa
