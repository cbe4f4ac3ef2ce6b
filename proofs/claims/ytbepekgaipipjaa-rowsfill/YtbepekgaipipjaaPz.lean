/- Arguments opened: values, cells, tables, changes of rows. -/
import Derived.Test.YtbepekgaipipjaaBb
import Derived.Carry
import Derived.ProofKit
import Derived.SizedLaws
import Derived.OpenShut
import Derived.Deep.Slices
import Derived.Lib.SmallJoins
import Derived.Test.YtbepekgaipipjaaRows
namespace Go.Proofs.Ytbepekgaipipjaa
open Go.ChangeShapes Go.WideShapes Go.ChangeAt Go.WideMaps Go.WideElems Go.RowKit Go.Joins Go.Deep
theorem own : ownKnob Try.prog.godebug = none := by kernel_rfl
theorem laidOut : laidOutB Try.prog = true := by kernel_rfl
theorem cells2 : Try.prog.cellsOf 2 = 1 := by kernel_rfl
theorem cells3 : Try.prog.cellsOf 3 = 1 := by kernel_rfl
theorem cells4 : Try.prog.cellsOf 4 = 1 := by kernel_rfl
theorem cells9 : Try.prog.cellsOf 9 = 1 := by kernel_rfl
theorem cells23 : Try.prog.cellsOf 23 = 3 := by kernel_rfl
theorem cells51 : Try.prog.cellsOf 51 = 1 := by kernel_rfl
theorem cells52 : Try.prog.cellsOf 52 = 1 := by kernel_rfl
theorem cells53 : Try.prog.cellsOf 53 = 1 := by kernel_rfl
theorem cells55 : Try.prog.cellsOf 55 = 5 := by kernel_rfl
theorem cells99 : Try.prog.cellsOf 99 = 7 := by kernel_rfl
theorem cells96 : Try.prog.cellsOf 96 = 5 := by kernel_rfl
theorem cells133 : Try.prog.cellsOf 133 = 5 := by kernel_rfl
theorem bytes55 : Try.prog.bytesOf 55 = 96 := by kernel_rfl
theorem bytes99 : Try.prog.bytesOf 99 = 72 := by kernel_rfl
theorem bytes96 : Try.prog.bytesOf 96 = 48 := by kernel_rfl
theorem bytes133 : Try.prog.bytesOf 133 = 48 := by kernel_rfl
theorem cells32 : Try.prog.cellsOf 32 = 1 := by kernel_rfl
theorem cells40 : Try.prog.cellsOf 40 = 1 := by kernel_rfl
theorem cells89 : Try.prog.cellsOf 89 = 4 := by kernel_rfl
theorem cells73 : Try.prog.cellsOf 73 = 4 := by kernel_rfl
theorem cells61 : Try.prog.cellsOf 61 = 1 := by kernel_rfl
theorem bytes89 : Try.prog.bytesOf 89 = 40 := by kernel_rfl
theorem bytes73 : Try.prog.bytesOf 73 = 24 := by kernel_rfl
def vlB (v : V) : Nat := 1 + v.s.size
def I64 (n : Int) : Prop := -9223372036854775808 ≤ n ∧ n ≤ 9223372036854775807
structure VlIn (v : V) : Prop where
  k : I64 v.k
  n : I64 v.n
structure ColIn (c : Col) : Prop where
  id : I64 c.id
  kd : I64 c.kd
  st : I64 c.st
  df : VlIn c.df
structure IxIn (c : Ix) : Prop where
  id : I64 c.id
  col : I64 c.col
  st : I64 c.st
structure FkIn (c : Fk) : Prop where
  id : I64 c.id
  col : I64 c.col
  par : I64 c.par
  st : I64 c.st
structure TbIn (t : Tb) : Prop where
  id : I64 t.id
  c : ∀ x ∈ t.cols, ColIn x
  i : ∀ x ∈ t.ixs, IxIn x
  k : ∀ x ∈ t.fks, FkIn x
theorem pt_lt {w : World} {a : Addr} {v : Value} (c0 : w.cell? a = some v) : a.block < w.heap.size := by
  refine Classical.byContradiction fun q => ?_
  unfold World.cell? at c0
  rw [Array.getElem?_eq_none (by omega)] at c0
  simp at c0
structure CeIn (c : Ce) : Prop where
  id : I64 c.id
  v : VlIn c.v
theorem CeIn.fit {c : Ce} (h : CeIn c) : FitC c := ⟨⟨h.id.1, h.id.2⟩, ⟨h.v.n.1, h.v.n.2⟩⟩
def ceB (c : Ce) : Nat := 1 + vlB c.v
/-- A change of a row, as the law has it. -/
structure Ch where
  key : Int
  v : Int
  gone : Bool
  nw : Bool
abbrev chL (c : Ch) : List Value := [.int .i64 c.key, .int .i64 c.v, .bool c.gone, .bool c.nw]
theorem chL_len (x : Ch) : (chL x).length = 4 := rfl
def chE (_ : World) (x : Ch) (cs : List Value) : Prop := cs = chL x
theorem chE_held : Held chE := fun _ _ _ _ _ h => h
structure ChIn (c : Ch) : Prop where
  key : I64 c.key
  v : I64 c.v
def chB (_ : Ch) : Nat := 1
def colB (c : Col) : Nat := 1 + c.nm.size + vlB c.df
def ixB (c : Ix) : Nat := 1 + c.nm.size
def fkBk (c : Fk) : Nat := 1 + c.nm.size
def tbB (t : Tb) : Nat := 1 + t.nm.size + (t.cols.map colB).sum + (t.ixs.map ixB).sum + (t.fks.map fkBk).sum
structure TbQ (t : Tb) : Prop where
  c : t.cols.length * 72 ≤ 140737488355328
  i : t.ixs.length * 48 ≤ 140737488355328
  k : t.fks.length * 48 ≤ 140737488355328
theorem sum_ge {α : Type} {f : α → Nat} (h : ∀ x, 1 ≤ f x) : ∀ l : List α, l.length ≤ (l.map f).sum
  | [] => Nat.le_refl _
  | x :: l => by
    have := sum_ge h l
    have := h x
    simp
    omega
theorem sum_le {α : Type} {f g : α → Nat} (h : ∀ x, f x ≤ g x) : ∀ l : List α, (l.map f).sum ≤ (l.map g).sum
  | [] => Nat.le_refl _
  | x :: l => by
    have := sum_le h l
    have := h x
    simp
    omega
theorem sum_two {α : Type} {f g : α → Nat} : ∀ l : List α, (l.map fun x => f x + g x).sum = (l.map f).sum + (l.map g).sum
  | [] => rfl
  | x :: l => by
    have := sum_two (f := f) (g := g) l
    simp
    omega
theorem sum_mem {α : Type} {f : α → Nat} : ∀ {l : List α} {x : α}, x ∈ l → f x ≤ (l.map f).sum
  | y :: l, x, h => by
    simp only [List.map_cons, List.sum_cons]
    rcases List.mem_cons.1 h with rfl | h
    · omega
    · have := sum_mem (f := f) h
      omega
theorem one_sum {α : Type} : ∀ l : List α, (l.map fun _ => 1).sum = l.length
  | [] => rfl
  | x :: l => by
    have := one_sum l
    rw [List.map_cons, List.sum_cons, List.length_cons, this]
    omega
theorem bulk_one {H : Type} (d : DataW H) : 1 ≤ Rows.uptoBulk d := by
  cases d with
  | lit l => cases l <;> simp [Rows.uptoBulk]
  | nil => simp [Rows.uptoBulk]
  | ptr d => simp [Rows.uptoBulk]
  | slice elems spare => simp [Rows.uptoBulk]
  | agg parts => simp [Rows.uptoBulk]
  | iface t d => simp [Rows.uptoBulk]
  | map entries => simp [Rows.uptoBulk]
  | held h => simp [Rows.uptoBulk]
theorem bulk_text {H : Type} {y : DataW H} {s : ByteArray} (e : y = .lit (.string s.data.toList)) : Rows.uptoBulk y = s.size + 1 := by
  rw [e]
  simp only [Rows.uptoBulk]
  rw [Array.length_toList]
  rfl
theorem bulk_map {H : Type} {α : Type} {q : Nat → α} {D : Nat → DataW H} {f : α → Nat} : ∀ l : List Nat, (∀ i ∈ l, f (q i) ≤ Rows.uptoBulk (D i)) → ((l.map q).map f).sum ≤ Rows.uptoBulkAll (l.map D)
  | [], _ => by simp
  | i :: l, h => by
    have h1 := bulk_map l (fun j hj => h j (List.mem_cons_of_mem _ hj))
    have h2 := h i List.mem_cons_self
    simp only [List.map_cons, List.sum_cons, Rows.uptoBulkAll]
    omega
section
variable {H : Type} {enc : TypeId × Value → H} {W : World} {fuel : Nat} {cs : List Value} {x : DataW H × List MemPlace}
theorem weights_all {P : Program} {e : TypeId} {n : Nat} {d : DataW H} : ∀ {l : List (DataW H)}, d ∈ l → n ∈ d.weights P e → n ∈ DataW.weightsAll P e l
  | [], h, _ => by cases h
  | a :: l, h, hn => by
    simp only [DataW.weightsAll, List.mem_append]
    rcases List.mem_cons.1 h with rfl | h
    · exact .inl hn
    · exact .inr (weights_all h hn)
set_option maxRecDepth 100000 in
set_option maxHeartbeats 1000000 in
theorem list_trod {α : Type} (hinh : Inhabited α) {E : World → α → List Value → Prop} {P Q : α → Prop} {f : α → Nat} {st et : TypeId} {c : Nat} (hu : Try.prog.underlying st = some (.slice et)) (hcs : Try.prog.cellsOf et = c) (hc0 : 0 < c) {by0 : Nat} (hby : Try.prog.bytesOf et = by0)
    (each0 : ∀ (cs' : List Value) (fuel : Nat) (x' : DataW H × List MemPlace), cs'.length = c → DataW.trod enc Try.prog W 0 (fun _ => true) true fuel et cs' = some x' → ∃ q : α, E W q cs' ∧ P q ∧ f q ≤ Rows.uptoBulk x'.1 ∧ ((∀ n ∈ DataW.weights Try.prog et x'.1, n ≤ reachBytes) → Q q))
    (hf : DataW.trod enc Try.prog W 0 (fun _ => true) true fuel st cs = some x) : ∃ (l : List α) (v : Value), cs = [v] ∧ Lr E c W l v ∧ (∀ q ∈ l, P q) ∧ (l.map f).sum + 1 ≤ Rows.uptoBulk x.1 ∧ ((∀ n ∈ DataW.weights Try.prog st x.1, n ≤ reachBytes) → l.length * by0 ≤ 140737488355328 ∧ ∀ q ∈ l, Q q) := by
  rcases open_slice hu hf with ⟨hcs', hx⟩ | ⟨a, len, cap, m, n, D, Pl, hcs', _, hl, hm, hmm, hx, hel⟩
  · exact ⟨[], .slice none 0 0, hcs', ⟨none, 0, rfl, fun _ => rfl, Nat.le_refl _, Nat.zero_le _, fun i hi => by simp at hi⟩, fun q hq => (by cases hq), bulk_one _, fun _ => ⟨by simp, fun q hq => (by cases hq)⟩⟩
  · simp only [if_true] at hmm
    subst hmm
    have each : ∀ i, i < len → ∃ q : α, (∃ cs', E W q cs' ∧ cs'.length = c ∧ ∀ j u, cs'[j]? = some u → W.cell? (a.add (i * c + j)) = some u) ∧ P q ∧ f q ≤ Rows.uptoBulk (D i) ∧ ((∀ n ∈ DataW.weights Try.prog et (D i), n ≤ reachBytes) → Q q) := by
      intro i hi
      obtain ⟨cs', h1, h2⟩ := hel i (by omega)
      rw [hcs] at h1
      obtain ⟨_, hlen, hcell⟩ := World.cells?_some h1
      obtain ⟨o, e, hP, hz, hQ⟩ := each0 cs' _ _ hlen h2
      refine ⟨o, ⟨cs', e, hlen, fun j u hu => ?_⟩, hP, hz, hQ⟩
      have hj : j < cs'.length := by
        rw [List.getElem?_eq_some_iff] at hu
        exact hu.1
      have z := hcell j (by omega)
      rw [add_add] at z
      rw [z]
      exact hu
    obtain ⟨q, hq⟩ := choose_lt each
    have hlen : ((List.range len).map q).length = len := by simp
    refine ⟨(List.range len).map q, _, hcs', ⟨some a, m, by rw [hlen], fun z => (by cases z), by rw [hlen]; exact hl, hm, fun i hi => ?cl⟩, ?pp, ?sz, fun h => ?qq⟩
    case pp =>
      intro r hr
      obtain ⟨i, hi, rfl⟩ := List.mem_map.1 hr
      exact (hq i (List.mem_range.1 hi)).2.1
    case qq =>
      have hd : x.1 = _ := congrArg Prod.fst hx
      rw [hd] at h
      simp only [DataW.weights, hu] at h
      have z := h _ (List.mem_cons_self)
      rw [hby, List.length_map, List.length_map, List.length_range, List.length_range] at z
      have hR := reachBytes_lt
      have hm9 := Nat.mul_le_mul_right by0 (Nat.le_add_right len (m - len))
      refine ⟨by rw [hlen]; omega, ?_⟩
      intro r hr
      obtain ⟨i, hi, rfl⟩ := List.mem_map.1 hr
      have hi' := List.mem_range.1 hi
      exact (hq i hi').2.2.2 (fun n hn => h n (by
        simp only [List.mem_cons, List.mem_append]
        exact .inr (.inl (weights_all (List.mem_map.2 ⟨i, hi, rfl⟩) hn))))
    case sz =>
      have hd : x.1 = _ := congrArg Prod.fst hx
      have h1 := bulk_map (f := f) (q := q) (D := D) (List.range len) (fun i hi => (hq i (List.mem_range.1 hi)).2.2.1)
      rw [hd]
      simp only [Rows.uptoBulk]
      omega
    case cl =>
      rw [hlen] at hi
      obtain ⟨⟨cs', e1, e2, e3⟩, _⟩ := hq i hi
      obtain ⟨b, o, sp⟩ := a
      have hw0 : ∃ u, W.cell? ((⟨b, o, sp⟩ : Addr).add (i * c + 0)) = some u := ⟨_, e3 0 _ (List.getElem?_eq_getElem (by omega))⟩
      have hsp : sp = none := by
        obtain ⟨⟨cs0, _, l0, c0⟩, _⟩ := hq 0 (by omega)
        have := World.cell?_spot (c0 0 _ (List.getElem?_eq_getElem (by omega)))
        simpa [Addr.add] using this
      subst hsp
      have e : ((List.range len).map q)[i]'(by rw [hlen]; exact hi) = q i := by simp
      rw [e]
      have hbl : b < W.heap.size := by
        obtain ⟨u, z⟩ := hw0
        rw [add_at] at z
        exact pt_lt z
      exact ⟨b, o, cs', rfl, hbl, e1, e2, fun j u hu => by
        have z := e3 j u hu
        rw [add_at] at z
        rw [Nat.add_assoc]
        exact z⟩
set_option maxRecDepth 100000 in
set_option maxHeartbeats 1000000 in
theorem vl_trod (hl : cs.length = 3) (hf : DataW.trod enc Try.prog W 0 (fun _ => true) true fuel 23 cs = some x) : ∃ v : V, vlE W v cs ∧ VlIn v ∧ vlB v ≤ Rows.uptoBulk x.1 ∧ ((∀ n ∈ DataW.weights Try.prog 23 x.1, n ≤ reachBytes) → True) := by
  obtain ⟨xs, k, hk, hxy, _, hxl, hfl⟩ := DataW.trod_struct Try.underlying23 hf
  match xs, hxl, cs, hl with
  | [y0, y1, y2], _, [v0, v1, v2], _ =>
    have g0 := hfl 0 _ rfl
    have g1 := hfl 1 _ rfl
    have g2 := hfl 2 _ rfl
    simp [cells2, cells3, cells9] at g0 g1 g2
    obtain ⟨k0, f0, _, b0⟩ := DataW.trod_int Try.underlying3 g0
    obtain ⟨k1, f1, _, b1⟩ := DataW.trod_int Try.underlying2 g1
    obtain ⟨s2, f2, e2, _⟩ := DataW.trod_string Try.underlying9 g2
    simp at f0 f1 f2
    subst f0 f1 f2
    have t2 := bulk_text (congrArg Prod.fst e2)
    have hx : x.1 = .agg [y0.1, y1.1, y2.1] := by rw [hxy]; rfl
    refine ⟨⟨k0, k1, s2⟩, rfl, ⟨bounds_i64 b0, bounds_i64 b1⟩, ?_, fun _ => trivial⟩
    · rw [hx]
      simp only [Rows.uptoBulk, Rows.uptoBulkAll, vlB]
      omega
set_option maxRecDepth 100000 in
set_option maxHeartbeats 1000000 in
theorem col_trod (hl : cs.length = 7) (hf : DataW.trod enc Try.prog W 0 (fun _ => true) true fuel 99 cs = some x) : ∃ v : Col, colE W v cs ∧ ColIn v ∧ colB v ≤ Rows.uptoBulk x.1 ∧ ((∀ n ∈ DataW.weights Try.prog 99 x.1, n ≤ reachBytes) → True) := by
  obtain ⟨xs, k, hk, hxy, _, hxl, hfl⟩ := DataW.trod_struct Try.underlying99 hf
  match xs, hxl, cs, hl with
  | [y0, y1, y2, y3, y4], _, [v0, v1, v2, v3, v4, v5, v6], _ =>
    have g0 := hfl 0 _ rfl
    have g1 := hfl 1 _ rfl
    have g2 := hfl 2 _ rfl
    have g3 := hfl 3 _ rfl
    have g4 := hfl 4 _ rfl
    simp [cells3, cells9, cells23] at g0 g1 g2 g3 g4
    obtain ⟨k0, f0, _, b0⟩ := DataW.trod_int Try.underlying3 g0
    obtain ⟨s1, f1, e1, _⟩ := DataW.trod_string Try.underlying9 g1
    obtain ⟨k2, f2, _, b2⟩ := DataW.trod_int Try.underlying3 g2
    obtain ⟨k3, f3, _, b3⟩ := DataW.trod_int Try.underlying3 g3
    obtain ⟨q4, f4, i4, z4, _⟩ := vl_trod (cs := [v4, v5, v6]) rfl g4
    simp at f0 f1 f2 f3
    have f4' : [v4, v5, v6] = vlL q4 := f4
    simp only [vlL, List.cons.injEq, and_true] at f4'
    obtain ⟨rfl, rfl, rfl⟩ := f4'
    subst f0 f1 f2 f3
    have t1 := bulk_text (congrArg Prod.fst e1)
    have hx : x.1 = .agg [y0.1, y1.1, y2.1, y3.1, y4.1] := by rw [hxy]; rfl
    refine ⟨⟨k0, s1, k2, k3, q4⟩, rfl, ⟨bounds_i64 b0, bounds_i64 b2, bounds_i64 b3, i4⟩, ?_, fun _ => trivial⟩
    · rw [hx]
      simp only [Rows.uptoBulk, Rows.uptoBulkAll, colB]
      omega
set_option maxRecDepth 100000 in
set_option maxHeartbeats 1000000 in
theorem ix_trod (hl : cs.length = 5) (hf : DataW.trod enc Try.prog W 0 (fun _ => true) true fuel 96 cs = some x) : ∃ v : Ix, ixE W v cs ∧ IxIn v ∧ ixB v ≤ Rows.uptoBulk x.1 ∧ ((∀ n ∈ DataW.weights Try.prog 96 x.1, n ≤ reachBytes) → True) := by
  obtain ⟨xs, k, hk, hxy, _, hxl, hfl⟩ := DataW.trod_struct Try.underlying96 hf
  match xs, hxl, cs, hl with
  | [y0, y1, y2, y3, y4], _, [v0, v1, v2, v3, v4], _ =>
    have g0 := hfl 0 _ rfl
    have g1 := hfl 1 _ rfl
    have g2 := hfl 2 _ rfl
    have g3 := hfl 3 _ rfl
    have g4 := hfl 4 _ rfl
    simp [cells3, cells4, cells9] at g0 g1 g2 g3 g4
    obtain ⟨k0, f0, _, b0⟩ := DataW.trod_int Try.underlying3 g0
    obtain ⟨s1, f1, e1, _⟩ := DataW.trod_string Try.underlying9 g1
    obtain ⟨k2, f2, _, b2⟩ := DataW.trod_int Try.underlying3 g2
    obtain ⟨p3, f3, _⟩ := DataW.trod_bool Try.underlying4 g3
    obtain ⟨k4, f4, _, b4⟩ := DataW.trod_int Try.underlying3 g4
    simp at f0 f1 f2 f3 f4
    subst f0 f1 f2 f3 f4
    have t1 := bulk_text (congrArg Prod.fst e1)
    have hx : x.1 = .agg [y0.1, y1.1, y2.1, y3.1, y4.1] := by rw [hxy]; rfl
    refine ⟨⟨k0, s1, k2, p3, k4⟩, rfl, ⟨bounds_i64 b0, bounds_i64 b2, bounds_i64 b4⟩, ?_, fun _ => trivial⟩
    · rw [hx]
      simp only [Rows.uptoBulk, Rows.uptoBulkAll, ixB]
      omega
set_option maxRecDepth 100000 in
set_option maxHeartbeats 1000000 in
theorem fk_trod (hl : cs.length = 5) (hf : DataW.trod enc Try.prog W 0 (fun _ => true) true fuel 133 cs = some x) : ∃ v : Fk, fkE W v cs ∧ FkIn v ∧ fkBk v ≤ Rows.uptoBulk x.1 ∧ ((∀ n ∈ DataW.weights Try.prog 133 x.1, n ≤ reachBytes) → True) := by
  obtain ⟨xs, k, hk, hxy, _, hxl, hfl⟩ := DataW.trod_struct Try.underlying133 hf
  match xs, hxl, cs, hl with
  | [y0, y1, y2, y3, y4], _, [v0, v1, v2, v3, v4], _ =>
    have g0 := hfl 0 _ rfl
    have g1 := hfl 1 _ rfl
    have g2 := hfl 2 _ rfl
    have g3 := hfl 3 _ rfl
    have g4 := hfl 4 _ rfl
    simp [cells3, cells9] at g0 g1 g2 g3 g4
    obtain ⟨k0, f0, _, b0⟩ := DataW.trod_int Try.underlying3 g0
    obtain ⟨s1, f1, e1, _⟩ := DataW.trod_string Try.underlying9 g1
    obtain ⟨k2, f2, _, b2⟩ := DataW.trod_int Try.underlying3 g2
    obtain ⟨k3, f3, _, b3⟩ := DataW.trod_int Try.underlying3 g3
    obtain ⟨k4, f4, _, b4⟩ := DataW.trod_int Try.underlying3 g4
    simp at f0 f1 f2 f3 f4
    subst f0 f1 f2 f3 f4
    have t1 := bulk_text (congrArg Prod.fst e1)
    have hx : x.1 = .agg [y0.1, y1.1, y2.1, y3.1, y4.1] := by rw [hxy]; rfl
    refine ⟨⟨k0, s1, k2, k3, k4⟩, rfl, ⟨bounds_i64 b0, bounds_i64 b2, bounds_i64 b3, bounds_i64 b4⟩, ?_, fun _ => trivial⟩
    · rw [hx]
      simp only [Rows.uptoBulk, Rows.uptoBulkAll, fkBk]
      omega
theorem cols_trod (hf : DataW.trod enc Try.prog W 0 (fun _ => true) true fuel 51 cs = some x) : ∃ (l : List Col) (v : Value), cs = [v] ∧ Lr colE 7 W l v ∧ (∀ q ∈ l, ColIn q) ∧ (l.map colB).sum + 1 ≤ Rows.uptoBulk x.1 ∧ ((∀ n ∈ DataW.weights Try.prog 51 x.1, n ≤ reachBytes) → l.length * 72 ≤ 140737488355328 ∧ ∀ q ∈ l, True) :=
  list_trod ⟨⟨0, ⟨#[]⟩, 0, 0, nullV0⟩⟩ Try.underlying51 cells99 (by decide) bytes99 (fun _ _ _ h1 h2 => col_trod h1 h2) hf
theorem ixs_trod (hf : DataW.trod enc Try.prog W 0 (fun _ => true) true fuel 52 cs = some x) : ∃ (l : List Ix) (v : Value), cs = [v] ∧ Lr ixE 5 W l v ∧ (∀ q ∈ l, IxIn q) ∧ (l.map ixB).sum + 1 ≤ Rows.uptoBulk x.1 ∧ ((∀ n ∈ DataW.weights Try.prog 52 x.1, n ≤ reachBytes) → l.length * 48 ≤ 140737488355328 ∧ ∀ q ∈ l, True) :=
  list_trod ⟨⟨0, ⟨#[]⟩, 0, false, 0⟩⟩ Try.underlying52 cells96 (by decide) bytes96 (fun _ _ _ h1 h2 => ix_trod h1 h2) hf
theorem fks_trod (hf : DataW.trod enc Try.prog W 0 (fun _ => true) true fuel 53 cs = some x) : ∃ (l : List Fk) (v : Value), cs = [v] ∧ Lr fkE 5 W l v ∧ (∀ q ∈ l, FkIn q) ∧ (l.map fkBk).sum + 1 ≤ Rows.uptoBulk x.1 ∧ ((∀ n ∈ DataW.weights Try.prog 53 x.1, n ≤ reachBytes) → l.length * 48 ≤ 140737488355328 ∧ ∀ q ∈ l, True) :=
  list_trod ⟨⟨0, ⟨#[]⟩, 0, 0, 0⟩⟩ Try.underlying53 cells133 (by decide) bytes133 (fun _ _ _ h1 h2 => fk_trod h1 h2) hf
set_option maxRecDepth 100000 in
set_option maxHeartbeats 1000000 in
theorem tb_trod (hl : cs.length = 5) (hf : DataW.trod enc Try.prog W 0 (fun _ => true) true fuel 55 cs = some x) : ∃ v : Tb, tbE W v cs ∧ TbIn v ∧ tbB v ≤ Rows.uptoBulk x.1 ∧ ((∀ n ∈ DataW.weights Try.prog 55 x.1, n ≤ reachBytes) → TbQ v) := by
  obtain ⟨xs, k, hk, hxy, _, hxl, hfl⟩ := DataW.trod_struct Try.underlying55 hf
  match xs, hxl, cs, hl with
  | [y0, y1, y2, y3, y4], _, [v0, v1, v2, v3, v4], _ =>
    have g0 := hfl 0 _ rfl
    have g1 := hfl 1 _ rfl
    have g2 := hfl 2 _ rfl
    have g3 := hfl 3 _ rfl
    have g4 := hfl 4 _ rfl
    simp [cells3, cells9, cells51, cells52, cells53] at g0 g1 g2 g3 g4
    obtain ⟨k0, f0, _, b0⟩ := DataW.trod_int Try.underlying3 g0
    obtain ⟨s1, f1, e1, _⟩ := DataW.trod_string Try.underlying9 g1
    obtain ⟨l2, u2, f2, h2, i2, z2, w2⟩ := cols_trod g2
    obtain ⟨l3, u3, f3, h3, i3, z3, w3⟩ := ixs_trod g3
    obtain ⟨l4, u4, f4, h4, i4, z4, w4⟩ := fks_trod g4
    simp at f0 f1 f2 f3 f4
    subst f0 f1 f2 f3 f4
    have t1 := bulk_text (congrArg Prod.fst e1)
    have hx : x.1 = .agg [y0.1, y1.1, y2.1, y3.1, y4.1] := by rw [hxy]; rfl
    refine ⟨⟨k0, s1, l2, l3, l4⟩, ⟨v2, v3, v4, rfl, h2, h3, h4⟩, ⟨bounds_i64 b0, i2, i3, i4⟩, ?_, fun h => ?_⟩
    · rw [hx]
      simp only [Rows.uptoBulk, Rows.uptoBulkAll, tbB]
      omega
    · rw [hx] at h
      exact ⟨(w2 (fun n hn => h n (by
          simp only [DataW.weights, Try.underlying55, DataW.weightsEach, List.map_cons, List.mem_append]
          simp [hn]))).1, (w3 (fun n hn => h n (by
          simp only [DataW.weights, Try.underlying55, DataW.weightsEach, List.map_cons, List.mem_append]
          simp [hn]))).1, (w4 (fun n hn => h n (by
          simp only [DataW.weights, Try.underlying55, DataW.weightsEach, List.map_cons, List.mem_append]
          simp [hn]))).1⟩
set_option maxRecDepth 100000 in
set_option maxHeartbeats 1000000 in
theorem ce_trod (hl : cs.length = 4) (hf : DataW.trod enc Try.prog W 0 (fun _ => true) true fuel 89 cs = some x) : ∃ v : Ce, ceE W v cs ∧ CeIn v ∧ ceB v ≤ Rows.uptoBulk x.1 ∧ ((∀ n ∈ DataW.weights Try.prog 89 x.1, n ≤ reachBytes) → True) := by
  obtain ⟨xs, k, hk, hxy, _, hxl, hfl⟩ := DataW.trod_struct Try.underlying89 hf
  match xs, hxl, cs, hl with
  | [y0, y1], _, [v0, v1, v2, v3], _ =>
    have g0 := hfl 0 _ rfl
    have g1 := hfl 1 _ rfl
    simp [cells3, cells23] at g0 g1
    obtain ⟨k0, f0, _, b0⟩ := DataW.trod_int Try.underlying3 g0
    obtain ⟨q1, f1, i1, z1, _⟩ := vl_trod (cs := [v1, v2, v3]) rfl g1
    simp at f0
    have f1' : [v1, v2, v3] = vlL q1 := f1
    simp only [vlL, List.cons.injEq, and_true] at f1'
    obtain ⟨rfl, rfl, rfl⟩ := f1'
    subst f0
    have hx : x.1 = .agg [y0.1, y1.1] := by rw [hxy]; rfl
    refine ⟨⟨k0, q1⟩, rfl, ⟨bounds_i64 b0, i1⟩, ?_, fun _ => trivial⟩
    · rw [hx]
      simp only [Rows.uptoBulk, Rows.uptoBulkAll, ceB]
      omega
set_option maxRecDepth 100000 in
set_option maxHeartbeats 1000000 in
theorem ch_trod (hl : cs.length = 4) (hf : DataW.trod enc Try.prog W 0 (fun _ => true) true fuel 73 cs = some x) : ∃ v : Ch, chE W v cs ∧ ChIn v ∧ chB v ≤ Rows.uptoBulk x.1 ∧ ((∀ n ∈ DataW.weights Try.prog 73 x.1, n ≤ reachBytes) → True) := by
  obtain ⟨xs, k, hk, hxy, _, hxl, hfl⟩ := DataW.trod_struct Try.underlying73 hf
  match xs, hxl, cs, hl with
  | [y0, y1, y2, y3], _, [v0, v1, v2, v3], _ =>
    have g0 := hfl 0 _ rfl
    have g1 := hfl 1 _ rfl
    have g2 := hfl 2 _ rfl
    have g3 := hfl 3 _ rfl
    simp [cells3, cells4] at g0 g1 g2 g3
    obtain ⟨k0, f0, _, b0⟩ := DataW.trod_int Try.underlying3 g0
    obtain ⟨k1, f1, _, b1⟩ := DataW.trod_int Try.underlying3 g1
    obtain ⟨p2, f2, _⟩ := DataW.trod_bool Try.underlying4 g2
    obtain ⟨p3, f3, _⟩ := DataW.trod_bool Try.underlying4 g3
    simp at f0 f1 f2 f3
    subst f0 f1 f2 f3
    exact ⟨⟨k0, k1, p2, p3⟩, rfl, ⟨bounds_i64 b0, bounds_i64 b1⟩, bulk_one _, fun _ => trivial⟩
theorem cs_trod (hf : DataW.trod enc Try.prog W 0 (fun _ => true) true fuel 40 cs = some x) : ∃ (l : List Ce) (v : Value), cs = [v] ∧ Lr ceE 4 W l v ∧ (∀ q ∈ l, CeIn q) ∧ (l.map ceB).sum + 1 ≤ Rows.uptoBulk x.1 ∧ ((∀ n ∈ DataW.weights Try.prog 40 x.1, n ≤ reachBytes) → l.length * 40 ≤ 140737488355328 ∧ ∀ q ∈ l, True) :=
  list_trod ⟨⟨0, nullV0⟩⟩ Try.underlying40 cells89 (by decide) bytes89 (fun _ _ _ h1 h2 => ce_trod h1 h2) hf
theorem chs_trod (hf : DataW.trod enc Try.prog W 0 (fun _ => true) true fuel 61 cs = some x) : ∃ (l : List Ch) (v : Value), cs = [v] ∧ Lr chE 4 W l v ∧ (∀ q ∈ l, ChIn q) ∧ (l.map chB).sum + 1 ≤ Rows.uptoBulk x.1 ∧ ((∀ n ∈ DataW.weights Try.prog 61 x.1, n ≤ reachBytes) → l.length * 24 ≤ 140737488355328 ∧ ∀ q ∈ l, True) :=
  list_trod ⟨⟨0, 0, false, false⟩⟩ Try.underlying61 cells73 (by decide) bytes73 (fun _ _ _ h1 h2 => ch_trod h1 h2) hf
set_option maxRecDepth 100000 in
theorem open_vl {base : Nat} {v : Value} {d : DataW H} {p : List MemPlace} (hv : Value.okWide Try.prog W .any base 23 v) (h : DataW.Trod enc Try.prog W 0 (fun _ => true) true 23 v d p) : ∃ q : V, v = vlV q ∧ VlIn q := by
  obtain ⟨cs, rfl, hsz⟩ := okWide_struct Try.underlying23 hv
  obtain ⟨fuel, hf⟩ := h
  obtain ⟨l⟩ := cs
  have hl : l.length = 3 := hsz.trans cells23
  obtain ⟨q, e, hI, _, _⟩ := vl_trod (cs := l) hl hf
  have e' : l = vlL q := e
  subst e'
  exact ⟨q, rfl, hI⟩
set_option maxRecDepth 100000 in
theorem open_tb {base : Nat} {v : Value} {d : DataW H} {p : List MemPlace} (hv : Value.okWide Try.prog W .any base 55 v) (h : DataW.Trod enc Try.prog W 0 (fun _ => true) true 55 v d p) : ∃ (t : Tb) (cv iv kv : Value), v = tbV t cv iv kv ∧ Three W t cv iv kv ∧ TbIn t := by
  obtain ⟨cs, rfl, hsz⟩ := okWide_struct Try.underlying55 hv
  obtain ⟨fuel, hf⟩ := h
  obtain ⟨l⟩ := cs
  have hl : l.length = 5 := hsz.trans cells55
  obtain ⟨t, ⟨cv, iv, kv, e, hT⟩, hI, _, _⟩ := tb_trod (cs := l) hl hf
  subst e
  exact ⟨t, cv, iv, kv, rfl, hT, hI⟩
set_option maxRecDepth 100000 in
theorem open_cs {base : Nat} {v : Value} {d : DataW H} {p : List MemPlace} (hv : Value.okWide Try.prog W .any base 40 v) (h : DataW.Trod enc Try.prog W 0 (fun _ => true) true 40 v d p) : ∃ l : List Ce, Lr ceE 4 W l v ∧ ∀ q ∈ l, CeIn q := by
  obtain ⟨a0, len, cap, rfl⟩ := okWide_slice Try.underlying40 hv
  obtain ⟨fuel, hf⟩ := h
  obtain ⟨l, v', e, hL, hI, _, _⟩ := cs_trod hf
  have e' : [Value.slice a0 len cap] = [v'] := e
  obtain rfl := (List.cons.inj e').1
  exact ⟨l, hL, hI⟩
set_option maxRecDepth 100000 in
theorem open_chs {base : Nat} {v : Value} {d : DataW H} {p : List MemPlace} (hv : Value.okWide Try.prog W .any base 61 v) (h : DataW.Trod enc Try.prog W 0 (fun _ => true) true 61 v d p) : ∃ l : List Ch, Lr chE 4 W l v ∧ ∀ q ∈ l, ChIn q := by
  obtain ⟨a0, len, cap, rfl⟩ := okWide_slice Try.underlying61 hv
  obtain ⟨fuel, hf⟩ := h
  obtain ⟨l, v', e, hL, hI, _, _⟩ := chs_trod hf
  have e' : [Value.slice a0 len cap] = [v'] := e
  obtain rfl := (List.cons.inj e').1
  exact ⟨l, hL, hI⟩
theorem againT_vl {W' : World} {v : Value} {d : DataW H} {p : List MemPlace} (h : DataW.Trod enc Try.prog W 0 (fun _ => true) true 23 v d p) (hb : Below W.heap.size W W') (hlt : ∀ x ∈ p, x.block < W.heap.size) : DataW.Trod enc Try.prog W' 0 (fun b => decide (b < W.heap.size)) true 23 v d p :=
  Below.trod laidOut (by kernel_rfl) (of_decide_eq_true (by kernel_rfl)) h hb hlt
theorem againT_tb {W' : World} {v : Value} {d : DataW H} {p : List MemPlace} (h : DataW.Trod enc Try.prog W 0 (fun _ => true) true 55 v d p) (hb : Below W.heap.size W W') (hlt : ∀ x ∈ p, x.block < W.heap.size) : DataW.Trod enc Try.prog W' 0 (fun b => decide (b < W.heap.size)) true 55 v d p :=
  Below.trod laidOut (by kernel_rfl) (of_decide_eq_true (by kernel_rfl)) h hb hlt
theorem againT_cs {W' : World} {v : Value} {d : DataW H} {p : List MemPlace} (h : DataW.Trod enc Try.prog W 0 (fun _ => true) true 40 v d p) (hb : Below W.heap.size W W') (hlt : ∀ x ∈ p, x.block < W.heap.size) : DataW.Trod enc Try.prog W' 0 (fun b => decide (b < W.heap.size)) true 40 v d p :=
  Below.trod laidOut (by kernel_rfl) (of_decide_eq_true (by kernel_rfl)) h hb hlt
theorem againT_chs {W' : World} {v : Value} {d : DataW H} {p : List MemPlace} (h : DataW.Trod enc Try.prog W 0 (fun _ => true) true 61 v d p) (hb : Below W.heap.size W W') (hlt : ∀ x ∈ p, x.block < W.heap.size) : DataW.Trod enc Try.prog W' 0 (fun b => decide (b < W.heap.size)) true 61 v d p :=
  Below.trod laidOut (by kernel_rfl) (of_decide_eq_true (by kernel_rfl)) h hb hlt
theorem againT_str {W' : World} {v : Value} {d : DataW H} {p : List MemPlace} (h : DataW.Trod enc Try.prog W 0 (fun _ => true) true 9 v d p) (hb : Below W.heap.size W W') (hlt : ∀ x ∈ p, x.block < W.heap.size) : DataW.Trod enc Try.prog W' 0 (fun b => decide (b < W.heap.size)) true 9 v d p :=
  Below.trod laidOut (by kernel_rfl) (of_decide_eq_true (by kernel_rfl)) h hb hlt
theorem againT_int {W' : World} {v : Value} {d : DataW H} {p : List MemPlace} (h : DataW.Trod enc Try.prog W 0 (fun _ => true) true 3 v d p) (hb : Below W.heap.size W W') (hlt : ∀ x ∈ p, x.block < W.heap.size) : DataW.Trod enc Try.prog W' 0 (fun b => decide (b < W.heap.size)) true 3 v d p :=
  Below.trod laidOut (by kernel_rfl) (of_decide_eq_true (by kernel_rfl)) h hb hlt
end
end Go.Proofs.Ytbepekgaipipjaa
