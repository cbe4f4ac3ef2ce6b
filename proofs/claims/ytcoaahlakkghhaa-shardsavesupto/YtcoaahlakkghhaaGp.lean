/- Arguments opened: a command with its reads and writes. -/
import Derived.Test.YtcoaahlakkghhaaGo
namespace Go.Proofs.Ytcoaahlakkghhaa
open Go.ChangeShapes Go.WideShapes Go.ChangeAt Go.WideMaps Go.WideElems Go.RowKit Go.Joins Go.Deep
theorem cells2 : Try.prog.cellsOf 2 = 1 := by kernel_rfl
theorem cells37 : Try.prog.cellsOf 37 = 3 := by kernel_rfl
theorem cells38 : Try.prog.cellsOf 38 = 1 := by kernel_rfl
theorem cells39 : Try.prog.cellsOf 39 = 1 := by kernel_rfl
theorem cells41 : Try.prog.cellsOf 41 = 3 := by kernel_rfl
theorem cells42 : Try.prog.cellsOf 42 = 1 := by kernel_rfl
theorem cells44 : Try.prog.cellsOf 44 = 11 := by kernel_rfl
theorem cells45 : Try.prog.cellsOf 45 = 1 := by kernel_rfl
theorem cells47 : Try.prog.cellsOf 47 = 30 := by kernel_rfl
theorem cells49 : Try.prog.cellsOf 49 = 31 := by kernel_rfl
theorem cells55 : Try.prog.cellsOf 55 = 3 := by kernel_rfl
theorem cells58 : Try.prog.cellsOf 58 = 1 := by kernel_rfl
theorem cells60 : Try.prog.cellsOf 60 = 3 := by kernel_rfl
theorem cells82 : Try.prog.cellsOf 82 = 2 := by kernel_rfl
theorem bytes55 : Try.prog.bytesOf 55 = 40 := by kernel_rfl
theorem bytes82 : Try.prog.bytesOf 82 = 24 := by kernel_rfl
theorem bytes60 : Try.prog.bytesOf 60 = 56 := by kernel_rfl
section
variable {H : Type} {enc : TypeId × Value → H} {W : World} {fuel : Nat} {cs : List Value} {x : DataW H × List MemPlace}
set_option maxRecDepth 100000 in
theorem wr_trod (hl : cs.length = 3) (hf : DataW.trod enc Try.prog W 0 (fun _ => true) true fuel 55 cs = some x) : ∃ v : Wr, cs = wrL v := by
  obtain ⟨xs, k, hk, hxy, _, hxl, hfl⟩ := DataW.trod_struct Try.underlying55 hf
  match xs, hxl, cs, hl with
  | [y0, y1, y2], _, [v0, v1, v2], _ =>
    have g0 := hfl 0 _ rfl
    have g1 := hfl 1 _ rfl
    have g2 := hfl 2 _ rfl
    simp [cells9, cells4] at g0 g1 g2
    obtain ⟨s, f0, _, _⟩ := DataW.trod_string Try.underlying9 g0
    obtain ⟨t, f1, _, _⟩ := DataW.trod_string Try.underlying9 g1
    obtain ⟨k2, f2, _⟩ := DataW.trod_bool Try.underlying4 g2
    simp at f0 f1 f2
    subst f0 f1 f2
    exact ⟨⟨s, t, k2⟩, rfl⟩
set_option maxRecDepth 100000 in
theorem sm_trod (hl : cs.length = 2) (hf : DataW.trod enc Try.prog W 0 (fun _ => true) true fuel 82 cs = some x) : ∃ v : Sm, cs = smL v := by
  obtain ⟨xs, k, hk, hxy, _, hxl, hfl⟩ := DataW.trod_struct Try.underlying82 hf
  match xs, hxl, cs, hl with
  | [y0, y1], _, [v0, v1], _ =>
    have g0 := hfl 0 _ rfl
    have g1 := hfl 1 _ rfl
    simp [cells9, cells3] at g0 g1
    obtain ⟨s, f0, _, _⟩ := DataW.trod_string Try.underlying9 g0
    obtain ⟨k1, f1, _, _⟩ := DataW.trod_int Try.underlying3 g1
    simp at f0 f1
    subst f0 f1
    exact ⟨(s, k1), rfl⟩
set_option maxRecDepth 100000 in
theorem td_trod (hl : cs.length = 3) (hf : DataW.trod enc Try.prog W 0 (fun _ => true) true fuel 37 cs = some x) : ∃ t : Td, cs = tdL t ∧ TdOk t := by
  obtain ⟨xs, k, hk, hxy, _, hxl, hfl⟩ := DataW.trod_struct Try.underlying37 hf
  match xs, hxl, cs, hl with
  | [y0, y1, y2], _, [v0, v1, v2], _ =>
    have g0 := hfl 0 _ rfl
    have g1 := hfl 1 _ rfl
    have g2 := hfl 2 _ rfl
    simp [cells3] at g0 g1 g2
    obtain ⟨k0, f0, _, b0⟩ := DataW.trod_int Try.underlying3 g0
    obtain ⟨k1, f1, _, b1⟩ := DataW.trod_int Try.underlying3 g1
    obtain ⟨k2, f2, _, b2⟩ := DataW.trod_int Try.underlying3 g2
    simp at f0 f1 f2
    subst f0 f1 f2
    exact ⟨(k0, k1, k2), rfl, bounds_i64 b0, bounds_i64 b1, bounds_i64 b2⟩
set_option maxRecDepth 100000 in
set_option maxHeartbeats 1000000 in
theorem wrl_trod (hf : DataW.trod enc Try.prog W 0 (fun _ => true) true fuel 39 cs = some x) : ∃ (l : List Wr) (v : Value), cs = [v] ∧ Lr wrE 3 W l v ∧ ((∀ n ∈ DataW.weights Try.prog 39 x.1, n ≤ reachBytes) → l.length * 40 ≤ 140737488355328 ∧ True) := by
  rcases open_slice Try.underlying39 hf with ⟨hcs, hx⟩ | ⟨a, len, cap, m, n, D, Pl, hcs, _, hl, hm, hmm, hx, hel⟩
  · exact ⟨[], .slice none 0 0, hcs, ⟨none, 0, rfl, fun _ => rfl, Nat.le_refl _, Nat.zero_le _, fun i hi => by simp at hi⟩, fun _ => ⟨by simp, trivial⟩⟩
  · simp only [if_true] at hmm
    subst hmm
    have each : ∀ i, i < len → ∃ q : Wr, (∃ cs', wrE W q cs' ∧ cs'.length = 3 ∧ ∀ j u, cs'[j]? = some u → W.cell? (a.add (i * 3 + j)) = some u) ∧ ((∀ n ∈ DataW.weights Try.prog 55 (D i), n ≤ reachBytes) → True) := by
      intro i hi
      obtain ⟨cs', h1, h2⟩ := hel i (by omega)
      rw [cells55] at h1
      obtain ⟨_, hlen, hcell⟩ := World.cells?_some h1
      obtain ⟨o, e⟩ := wr_trod hlen h2
      refine ⟨o, ⟨cs', e, hlen, fun j u hu => ?_⟩, fun _ => trivial⟩
      have hj : j < cs'.length := by
        rw [List.getElem?_eq_some_iff] at hu
        exact hu.1
      have z := hcell j (by omega)
      rw [add_add] at z
      rw [z]
      exact hu
    have hinh : Inhabited Wr := ⟨⟨⟨#[]⟩, ⟨#[]⟩, false⟩⟩
    obtain ⟨q, hq⟩ := choose_lt each
    have hlen : ((List.range len).map q).length = len := by simp
    refine ⟨(List.range len).map q, _, hcs, ⟨some a, m, by rw [hlen], fun z => (by cases z), by rw [hlen]; exact hl, hm, fun i hi => ?cl⟩, fun h => ?sz⟩
    case sz =>
      have hd : x.1 = _ := congrArg Prod.fst hx
      rw [hd] at h
      simp only [DataW.weights, Try.underlying39] at h
      have z := h _ (List.mem_cons_self)
      rw [bytes55, List.length_map, List.length_map, List.length_range, List.length_range] at z
      have hR := reachBytes_lt
      refine ⟨by rw [hlen]; omega, ?_⟩
      trivial
    case cl =>
      rw [hlen] at hi
      obtain ⟨⟨cs', e1, e2, e3⟩, _⟩ := hq i hi
      obtain ⟨b, o, sp⟩ := a
      have hw0 : ∃ u, W.cell? ((⟨b, o, sp⟩ : Addr).add (i * 3 + 0)) = some u := ⟨_, e3 0 _ (List.getElem?_eq_getElem (by omega))⟩
      have hsp : sp = none := by
        obtain ⟨⟨cs0, _, l0, c0⟩, _⟩ := hq 0 (by omega)
        have := World.cell?_spot (c0 0 _ (List.getElem?_eq_getElem (by omega)))
        simpa [Addr.add] using this
      subst hsp
      have e : ((List.range len).map q)[i]'(by rw [hlen]; exact hi) = q i := by simp
      rw [e]
      have hbl : b < W.heap.size := by
        obtain ⟨u, z⟩ := hw0
        rw [add_at] at z
        exact cell_lt z
      exact ⟨b, o, cs', rfl, hbl, e1, e2, fun j u hu => by
        have z := e3 j u hu
        rw [add_at] at z
        rw [Nat.add_assoc]
        exact z⟩
set_option maxRecDepth 100000 in
set_option maxHeartbeats 1000000 in
theorem sml_trod (hf : DataW.trod enc Try.prog W 0 (fun _ => true) true fuel 58 cs = some x) : ∃ (l : List Sm) (v : Value), cs = [v] ∧ Lr smE 2 W l v ∧ ((∀ n ∈ DataW.weights Try.prog 58 x.1, n ≤ reachBytes) → l.length * 24 ≤ 140737488355328 ∧ True) := by
  rcases open_slice Try.underlying58 hf with ⟨hcs, hx⟩ | ⟨a, len, cap, m, n, D, Pl, hcs, _, hl, hm, hmm, hx, hel⟩
  · exact ⟨[], .slice none 0 0, hcs, ⟨none, 0, rfl, fun _ => rfl, Nat.le_refl _, Nat.zero_le _, fun i hi => by simp at hi⟩, fun _ => ⟨by simp, trivial⟩⟩
  · simp only [if_true] at hmm
    subst hmm
    have each : ∀ i, i < len → ∃ q : Sm, (∃ cs', smE W q cs' ∧ cs'.length = 2 ∧ ∀ j u, cs'[j]? = some u → W.cell? (a.add (i * 2 + j)) = some u) ∧ ((∀ n ∈ DataW.weights Try.prog 82 (D i), n ≤ reachBytes) → True) := by
      intro i hi
      obtain ⟨cs', h1, h2⟩ := hel i (by omega)
      rw [cells82] at h1
      obtain ⟨_, hlen, hcell⟩ := World.cells?_some h1
      obtain ⟨o, e⟩ := sm_trod hlen h2
      refine ⟨o, ⟨cs', e, hlen, fun j u hu => ?_⟩, fun _ => trivial⟩
      have hj : j < cs'.length := by
        rw [List.getElem?_eq_some_iff] at hu
        exact hu.1
      have z := hcell j (by omega)
      rw [add_add] at z
      rw [z]
      exact hu
    have hinh : Inhabited Sm := ⟨(⟨#[]⟩, 0)⟩
    obtain ⟨q, hq⟩ := choose_lt each
    have hlen : ((List.range len).map q).length = len := by simp
    refine ⟨(List.range len).map q, _, hcs, ⟨some a, m, by rw [hlen], fun z => (by cases z), by rw [hlen]; exact hl, hm, fun i hi => ?cl⟩, fun h => ?sz⟩
    case sz =>
      have hd : x.1 = _ := congrArg Prod.fst hx
      rw [hd] at h
      simp only [DataW.weights, Try.underlying58] at h
      have z := h _ (List.mem_cons_self)
      rw [bytes82, List.length_map, List.length_map, List.length_range, List.length_range] at z
      have hR := reachBytes_lt
      refine ⟨by rw [hlen]; omega, ?_⟩
      trivial
    case cl =>
      rw [hlen] at hi
      obtain ⟨⟨cs', e1, e2, e3⟩, _⟩ := hq i hi
      obtain ⟨b, o, sp⟩ := a
      have hw0 : ∃ u, W.cell? ((⟨b, o, sp⟩ : Addr).add (i * 2 + 0)) = some u := ⟨_, e3 0 _ (List.getElem?_eq_getElem (by omega))⟩
      have hsp : sp = none := by
        obtain ⟨⟨cs0, _, l0, c0⟩, _⟩ := hq 0 (by omega)
        have := World.cell?_spot (c0 0 _ (List.getElem?_eq_getElem (by omega)))
        simpa [Addr.add] using this
      subst hsp
      have e : ((List.range len).map q)[i]'(by rw [hlen]; exact hi) = q i := by simp
      rw [e]
      have hbl : b < W.heap.size := by
        obtain ⟨u, z⟩ := hw0
        rw [add_at] at z
        exact cell_lt z
      exact ⟨b, o, cs', rfl, hbl, e1, e2, fun j u hu => by
        have z := e3 j u hu
        rw [add_at] at z
        rw [Nat.add_assoc]
        exact z⟩
set_option maxRecDepth 100000 in
theorem rn_trod (hl : cs.length = 3) (hf : DataW.trod enc Try.prog W 0 (fun _ => true) true fuel 60 cs = some x) : ∃ r : Rn, rnE W r cs ∧ ((∀ n ∈ DataW.weights Try.prog 60 x.1, n ≤ reachBytes) → r.seen.length * 24 ≤ 140737488355328) := by
  obtain ⟨xs, k, hk, hxy, _, hxl, hfl⟩ := DataW.trod_struct Try.underlying60 hf
  match xs, hxl, cs, hl with
  | [y0, y1], _, [v0, v1, v2], _ =>
    have g0 := hfl 0 _ rfl
    have g1 := hfl 1 _ rfl
    simp [cells57, cells58] at g0 g1
    obtain ⟨s, u, f0, _⟩ := span_trod rfl g0
    obtain ⟨l, v, f1, hv, hvz⟩ := sml_trod g1
    simp at f0 f1
    obtain ⟨rfl, rfl⟩ := f0
    subst f1
    obtain ⟨sa, sc, ev, hr⟩ := hv
    refine ⟨⟨⟨s, u⟩, l⟩, ⟨sa, sc, by rw [ev], by rw [← ev]; exact ⟨sa, sc, ev, hr⟩⟩, fun h => ?_⟩
    have hx : x.1 = .agg [y0.1, y1.1] := by rw [hxy]; rfl
    rw [hx] at h
    exact (hvz (fun n hn => h n (by
      simp only [DataW.weights, Try.underlying60, DataW.weightsEach, List.map_cons, List.mem_append]
      simp [hn]))).1
set_option maxRecDepth 100000 in
set_option maxHeartbeats 1000000 in
theorem rnl_trod (hf : DataW.trod enc Try.prog W 0 (fun _ => true) true fuel 38 cs = some x) : ∃ (l : List Rn) (v : Value), cs = [v] ∧ Lr rnE 3 W l v ∧ ((∀ n ∈ DataW.weights Try.prog 38 x.1, n ≤ reachBytes) → l.length * 56 ≤ 140737488355328 ∧ ∀ r ∈ l, r.seen.length * 24 ≤ 140737488355328) := by
  rcases open_slice Try.underlying38 hf with ⟨hcs, hx⟩ | ⟨a, len, cap, m, n, D, Pl, hcs, _, hl, hm, hmm, hx, hel⟩
  · exact ⟨[], .slice none 0 0, hcs, ⟨none, 0, rfl, fun _ => rfl, Nat.le_refl _, Nat.zero_le _, fun i hi => by simp at hi⟩, fun _ => ⟨by simp, fun r hr => (by cases hr)⟩⟩
  · simp only [if_true] at hmm
    subst hmm
    have each : ∀ i, i < len → ∃ q : Rn, (∃ cs', rnE W q cs' ∧ cs'.length = 3 ∧ ∀ j u, cs'[j]? = some u → W.cell? (a.add (i * 3 + j)) = some u) ∧ ((∀ n ∈ DataW.weights Try.prog 60 (D i), n ≤ reachBytes) → q.seen.length * 24 ≤ 140737488355328) := by
      intro i hi
      obtain ⟨cs', h1, h2⟩ := hel i (by omega)
      rw [cells60] at h1
      obtain ⟨_, hlen, hcell⟩ := World.cells?_some h1
      obtain ⟨o, e, hz⟩ := rn_trod hlen h2
      refine ⟨o, ⟨cs', e, hlen, fun j u hu => ?_⟩, hz⟩
      have hj : j < cs'.length := by
        rw [List.getElem?_eq_some_iff] at hu
        exact hu.1
      have z := hcell j (by omega)
      rw [add_add] at z
      rw [z]
      exact hu
    have hinh : Inhabited Rn := ⟨⟨⟨⟨#[]⟩, ⟨#[]⟩⟩, []⟩⟩
    obtain ⟨q, hq⟩ := choose_lt each
    have hlen : ((List.range len).map q).length = len := by simp
    refine ⟨(List.range len).map q, _, hcs, ⟨some a, m, by rw [hlen], fun z => (by cases z), by rw [hlen]; exact hl, hm, fun i hi => ?cl⟩, fun h => ?sz⟩
    case sz =>
      have hd : x.1 = _ := congrArg Prod.fst hx
      rw [hd] at h
      simp only [DataW.weights, Try.underlying38] at h
      have z := h _ (List.mem_cons_self)
      rw [bytes60, List.length_map, List.length_map, List.length_range, List.length_range] at z
      have hR := reachBytes_lt
      refine ⟨by rw [hlen]; omega, ?_⟩
      intro r hr
      obtain ⟨i, hi, rfl⟩ := List.mem_map.1 hr
      have hi' := List.mem_range.1 hi
      exact (hq i hi').2 (fun n hn => h n (by
        simp only [List.mem_cons, List.mem_append]
        exact .inr (.inl (weights_all (List.mem_map.2 ⟨i, hi, rfl⟩) hn))))
    case cl =>
      rw [hlen] at hi
      obtain ⟨⟨cs', e1, e2, e3⟩, _⟩ := hq i hi
      obtain ⟨b, o, sp⟩ := a
      have hw0 : ∃ u, W.cell? ((⟨b, o, sp⟩ : Addr).add (i * 3 + 0)) = some u := ⟨_, e3 0 _ (List.getElem?_eq_getElem (by omega))⟩
      have hsp : sp = none := by
        obtain ⟨⟨cs0, _, l0, c0⟩, _⟩ := hq 0 (by omega)
        have := World.cell?_spot (c0 0 _ (List.getElem?_eq_getElem (by omega)))
        simpa [Addr.add] using this
      subst hsp
      have e : ((List.range len).map q)[i]'(by rw [hlen]; exact hi) = q i := by simp
      rw [e]
      have hbl : b < W.heap.size := by
        obtain ⟨u, z⟩ := hw0
        rw [add_at] at z
        exact cell_lt z
      exact ⟨b, o, cs', rfl, hbl, e1, e2, fun j u hu => by
        have z := e3 j u hu
        rw [add_at] at z
        rw [Nat.add_assoc]
        exact z⟩
theorem td_one (h : ∃ t : Td, cs = tdL t ∧ TdOk t) : ∀ u ∈ cs, u.oneCell' = true := fun u hu => by
  obtain ⟨t, rfl, _⟩ := h
  simp at hu
  rcases hu with rfl | rfl | rfl <;> rfl
theorem cut_get {o n : Nat} {l : List Value} (h : (cs.drop o).take n = l) (j : Nat) (hj : j < n) : cs[o + j]? = l[j]? := by
  rw [← h, List.getElem?_take_of_lt hj, List.getElem?_drop]
theorem cut_one {o n : Nat} {P : Value → Prop} (h1 : ∀ u ∈ (cs.drop o).take n, P u) (h2 : ∀ u ∈ cs.drop (o + n), P u) : ∀ u ∈ cs.drop o, P u := fun u hu => by
  rw [← List.take_append_drop n (cs.drop o), List.mem_append, List.drop_drop] at hu
  rcases hu with hu | hu
  · exact h1 u hu
  · exact h2 u hu
set_option maxRecDepth 100000 in
theorem va_trod (hl : cs.length = 3) (hf : DataW.trod enc Try.prog W 0 (fun _ => true) true fuel 41 cs = some x) : ∀ u ∈ cs, u.oneCell' = true := by
  obtain ⟨xs, k, hk, hxy, _, hxl, hfl⟩ := DataW.trod_struct Try.underlying41 hf
  match xs, hxl, cs, hl with
  | [y0, y1, y2], _, [v0, v1, v2], _ =>
    have g0 := hfl 0 _ rfl
    have g1 := hfl 1 _ rfl
    have g2 := hfl 2 _ rfl
    simp [cells3, cells2, cells9] at g0 g1 g2
    obtain ⟨k0, f0, _, _⟩ := DataW.trod_int Try.underlying3 g0
    obtain ⟨k1, f1, _, _⟩ := DataW.trod_int Try.underlying2 g1
    obtain ⟨s, f2, _, _⟩ := DataW.trod_string Try.underlying9 g2
    simp at f0 f1 f2
    subst f0 f1 f2
    intro u hu
    simp at hu
    rcases hu with rfl | rfl | rfl <;> rfl
theorem sl_one {st et : TypeId} (hu : Try.prog.underlying st = some (.slice et)) (hf : DataW.trod enc Try.prog W 0 (fun _ => true) true fuel st cs = some x) : ∀ u ∈ cs, u.oneCell' = true := by
  rcases open_slice hu hf with ⟨hcs, _⟩ | ⟨a, len, cap, m, n, D, Pl, hcs, _⟩
  · rw [hcs]
    intro u hu
    rw [List.mem_singleton.1 hu]
    rfl
  · rw [hcs]
    intro u hu
    rw [List.mem_singleton.1 hu]
    rfl
theorem in_one {tn : TypeId} {kd : IntKind} (hu : Try.prog.underlying tn = some (.int kd)) (hf : DataW.trod enc Try.prog W 0 (fun _ => true) true fuel tn cs = some x) : ∀ u ∈ cs, u.oneCell' = true := by
  obtain ⟨k, f, _⟩ := DataW.trod_int hu hf
  rw [f]
  intro u hu
  rw [List.mem_singleton.1 hu]
  rfl
theorem st_one' (hf : DataW.trod enc Try.prog W 0 (fun _ => true) true fuel 9 cs = some x) : ∀ u ∈ cs, u.oneCell' = true := by
  obtain ⟨k, f, _⟩ := DataW.trod_string Try.underlying9 hf
  rw [f]
  intro u hu
  rw [List.mem_singleton.1 hu]
  rfl
theorem bo_one (hf : DataW.trod enc Try.prog W 0 (fun _ => true) true fuel 4 cs = some x) : ∀ u ∈ cs, u.oneCell' = true := by
  obtain ⟨k, f, _⟩ := DataW.trod_bool Try.underlying4 hf
  rw [f]
  intro u hu
  rw [List.mem_singleton.1 hu]
  rfl
set_option maxRecDepth 100000 in
theorem dd_trod (hl : cs.length = 11) (hf : DataW.trod enc Try.prog W 0 (fun _ => true) true fuel 44 cs = some x) : ∀ u ∈ cs, u.oneCell' = true := by
  obtain ⟨xs, k, hk, hxy, _, hxl, hfl⟩ := DataW.trod_struct Try.underlying44 hf
  match xs, hxl with
  | [y0, y1, y2, y3, y4, y5, y6, y7, y8], _ =>
    have g0 : DataW.trod enc Try.prog W 0 (fun _ => true) true k 3 ((cs.drop 0).take (Try.prog.cellsOf 3)) = some y0 := hfl 0 _ rfl
    rw [cells3] at g0
    have g1 : DataW.trod enc Try.prog W 0 (fun _ => true) true k 9 ((cs.drop 1).take (Try.prog.cellsOf 9)) = some y1 := hfl 1 _ rfl
    rw [cells9] at g1
    have g2 : DataW.trod enc Try.prog W 0 (fun _ => true) true k 9 ((cs.drop 2).take (Try.prog.cellsOf 9)) = some y2 := hfl 2 _ rfl
    rw [cells9] at g2
    have g3 : DataW.trod enc Try.prog W 0 (fun _ => true) true k 9 ((cs.drop 3).take (Try.prog.cellsOf 9)) = some y3 := hfl 3 _ rfl
    rw [cells9] at g3
    have g4 : DataW.trod enc Try.prog W 0 (fun _ => true) true k 9 ((cs.drop 4).take (Try.prog.cellsOf 9)) = some y4 := hfl 4 _ rfl
    rw [cells9] at g4
    have g5 : DataW.trod enc Try.prog W 0 (fun _ => true) true k 4 ((cs.drop 5).take (Try.prog.cellsOf 4)) = some y5 := hfl 5 _ rfl
    rw [cells4] at g5
    have g6 : DataW.trod enc Try.prog W 0 (fun _ => true) true k 3 ((cs.drop 6).take (Try.prog.cellsOf 3)) = some y6 := hfl 6 _ rfl
    rw [cells3] at g6
    have g7 : DataW.trod enc Try.prog W 0 (fun _ => true) true k 41 ((cs.drop 7).take (Try.prog.cellsOf 41)) = some y7 := hfl 7 _ rfl
    rw [cells41] at g7
    have g8 : DataW.trod enc Try.prog W 0 (fun _ => true) true k 42 ((cs.drop 10).take (Try.prog.cellsOf 42)) = some y8 := hfl 8 _ rfl
    rw [cells42] at g8
    have hend : ∀ u ∈ cs.drop 11, u.oneCell' = true := fun u hu => by
      rw [List.drop_of_length_le (by omega)] at hu
      cases hu
    have q := cut_one (o := 0) (n := 1) (in_one Try.underlying3 g0) (cut_one (o := 1) (n := 1) (st_one' g1) (cut_one (o := 2) (n := 1) (st_one' g2) (cut_one (o := 3) (n := 1) (st_one' g3) (cut_one (o := 4) (n := 1) (st_one' g4) (cut_one (o := 5) (n := 1) (bo_one g5) (cut_one (o := 6) (n := 1) (in_one Try.underlying3 g6) (cut_one (o := 7) (n := 3) (va_trod (by simp [hl]) g7) (cut_one (o := 10) (n := 1) (sl_one Try.underlying42 g8) (hend)))))))))
    simpa using q
/-- A command read off its cells. -/
structure CmOk (W : World) (c : Cm) (cs : Array Value) (ra : Option Addr) (rc : Nat) (wa : Option Addr) (wc : Nat) : Prop where
  cc : Cc W c cs ra rc wa wc
  kd : I64 c.kind
  td : TdOk c.txn
structure CmSz (c : Cm) : Prop where
  rs : c.reads.length * 56 ≤ 140737488355328
  ws : c.writes.length * 40 ≤ 140737488355328
  sn : ∀ r ∈ c.reads, r.seen.length * 24 ≤ 140737488355328
set_option maxHeartbeats 2000000 in
set_option maxRecDepth 100000 in
theorem cm_trod (hl : cs.length = 30) (hf : DataW.trod enc Try.prog W 0 (fun _ => true) true fuel 47 cs = some x) : ∃ (c : Cm) (ra : Option Addr) (rc : Nat) (wa : Option Addr) (wc : Nat), CmOk W c cs.toArray ra rc wa wc ∧ ((∀ n ∈ DataW.weights Try.prog 47 x.1, n ≤ reachBytes) → CmSz c) := by
  obtain ⟨xs, k, hk, hxy, _, hxl, hfl⟩ := DataW.trod_struct Try.underlying47 hf
  match xs, hxl with
  | [y0, y1, y2, y3, y4, y5, y6, y7, y8, y9, y10, y11, y12, y13, y14, y15], _ =>
    have g0 : DataW.trod enc Try.prog W 0 (fun _ => true) true k 3 ((cs.drop 0).take (Try.prog.cellsOf 3)) = some y0 := hfl 0 _ rfl
    rw [cells3] at g0
    have g1 : DataW.trod enc Try.prog W 0 (fun _ => true) true k 37 ((cs.drop 1).take (Try.prog.cellsOf 37)) = some y1 := hfl 1 _ rfl
    rw [cells37] at g1
    have g2 : DataW.trod enc Try.prog W 0 (fun _ => true) true k 37 ((cs.drop 4).take (Try.prog.cellsOf 37)) = some y2 := hfl 2 _ rfl
    rw [cells37] at g2
    have g3 : DataW.trod enc Try.prog W 0 (fun _ => true) true k 3 ((cs.drop 7).take (Try.prog.cellsOf 3)) = some y3 := hfl 3 _ rfl
    rw [cells3] at g3
    have g4 : DataW.trod enc Try.prog W 0 (fun _ => true) true k 38 ((cs.drop 8).take (Try.prog.cellsOf 38)) = some y4 := hfl 4 _ rfl
    rw [cells38] at g4
    have g5 : DataW.trod enc Try.prog W 0 (fun _ => true) true k 39 ((cs.drop 9).take (Try.prog.cellsOf 39)) = some y5 := hfl 5 _ rfl
    rw [cells39] at g5
    have g6 : DataW.trod enc Try.prog W 0 (fun _ => true) true k 3 ((cs.drop 10).take (Try.prog.cellsOf 3)) = some y6 := hfl 6 _ rfl
    rw [cells3] at g6
    have g7 : DataW.trod enc Try.prog W 0 (fun _ => true) true k 3 ((cs.drop 11).take (Try.prog.cellsOf 3)) = some y7 := hfl 7 _ rfl
    rw [cells3] at g7
    have g8 : DataW.trod enc Try.prog W 0 (fun _ => true) true k 3 ((cs.drop 12).take (Try.prog.cellsOf 3)) = some y8 := hfl 8 _ rfl
    rw [cells3] at g8
    have g9 : DataW.trod enc Try.prog W 0 (fun _ => true) true k 3 ((cs.drop 13).take (Try.prog.cellsOf 3)) = some y9 := hfl 9 _ rfl
    rw [cells3] at g9
    have g10 : DataW.trod enc Try.prog W 0 (fun _ => true) true k 3 ((cs.drop 14).take (Try.prog.cellsOf 3)) = some y10 := hfl 10 _ rfl
    rw [cells3] at g10
    have g11 : DataW.trod enc Try.prog W 0 (fun _ => true) true k 44 ((cs.drop 15).take (Try.prog.cellsOf 44)) = some y11 := hfl 11 _ rfl
    rw [cells44] at g11
    have g12 : DataW.trod enc Try.prog W 0 (fun _ => true) true k 3 ((cs.drop 26).take (Try.prog.cellsOf 3)) = some y12 := hfl 12 _ rfl
    rw [cells3] at g12
    have g13 : DataW.trod enc Try.prog W 0 (fun _ => true) true k 3 ((cs.drop 27).take (Try.prog.cellsOf 3)) = some y13 := hfl 13 _ rfl
    rw [cells3] at g13
    have g14 : DataW.trod enc Try.prog W 0 (fun _ => true) true k 9 ((cs.drop 28).take (Try.prog.cellsOf 9)) = some y14 := hfl 14 _ rfl
    rw [cells9] at g14
    have g15 : DataW.trod enc Try.prog W 0 (fun _ => true) true k 45 ((cs.drop 29).take (Try.prog.cellsOf 45)) = some y15 := hfl 15 _ rfl
    rw [cells45] at g15
    obtain ⟨k0, f0, _, b0⟩ := DataW.trod_int Try.underlying3 g0
    obtain ⟨t1, f1, _⟩ := td_trod (by simp [hl]) g1
    obtain ⟨t, f2, ht⟩ := td_trod (by simp [hl]) g2
    obtain ⟨k3, f3, _⟩ := DataW.trod_int Try.underlying3 g3
    obtain ⟨R, rv, f4, hR, zR⟩ := rnl_trod g4
    obtain ⟨Ws, wv, f5, hWs, zW⟩ := wrl_trod g5
    obtain ⟨k6, f6, _⟩ := DataW.trod_int Try.underlying3 g6
    obtain ⟨k7, f7, _⟩ := DataW.trod_int Try.underlying3 g7
    obtain ⟨k8, f8, _⟩ := DataW.trod_int Try.underlying3 g8
    have hend : ∀ u ∈ cs.drop 30, u.oneCell' = true := fun u hu => by
      rw [List.drop_of_length_le (by omega)] at hu
      cases hu
    have one : ∀ u ∈ cs.drop 0, u.oneCell' = true := cut_one (o := 0) (n := 1) (in_one Try.underlying3 g0) (cut_one (o := 1) (n := 3) ((fun u hu => td_one (td_trod (by simp [hl]) g1) u hu)) (cut_one (o := 4) (n := 3) ((fun u hu => td_one (td_trod (by simp [hl]) g2) u hu)) (cut_one (o := 7) (n := 1) (in_one Try.underlying3 g3) (cut_one (o := 8) (n := 1) (sl_one Try.underlying38 g4) (cut_one (o := 9) (n := 1) (sl_one Try.underlying39 g5) (cut_one (o := 10) (n := 1) (in_one Try.underlying3 g6) (cut_one (o := 11) (n := 1) (in_one Try.underlying3 g7) (cut_one (o := 12) (n := 1) (in_one Try.underlying3 g8) (cut_one (o := 13) (n := 1) (in_one Try.underlying3 g9) (cut_one (o := 14) (n := 1) (in_one Try.underlying3 g10) (cut_one (o := 15) (n := 11) (dd_trod (by simp [hl]) g11) (cut_one (o := 26) (n := 1) (in_one Try.underlying3 g12) (cut_one (o := 27) (n := 1) (in_one Try.underlying3 g13) (cut_one (o := 28) (n := 1) (st_one' g14) (cut_one (o := 29) (n := 1) (in_one Try.underlying45 g15) (hend))))))))))))))))
    obtain ⟨ra, rc, er, hr⟩ := hR
    obtain ⟨wa, wc, ew, hw⟩ := hWs
    subst er ew
    have at' : ∀ j, cs.toArray[j]? = cs[j]? := fun j => List.getElem?_toArray
    refine ⟨⟨k0, t, k3, R, Ws, k6, k7, k8⟩, ra, rc, wa, wc, ⟨{
      sz := by simp [hl]
      one := by
        rw [List.all_toArray, List.all_eq_true]
        simpa using one
      k := (at' 0).trans (cut_get f0 0 (by decide))
      t0 := (at' 4).trans (cut_get f2 0 (by decide))
      t1 := (at' 5).trans (cut_get f2 1 (by decide))
      t2 := (at' 6).trans (cut_get f2 2 (by decide))
      hm := (at' 7).trans (cut_get f3 0 (by decide))
      rs := (at' 8).trans (cut_get f4 0 (by decide))
      ws := (at' 9).trans (cut_get f5 0 (by decide))
      mn := (at' 10).trans (cut_get f6 0 (by decide))
      til := (at' 11).trans (cut_get f7 0 (by decide))
      ts := (at' 12).trans (cut_get f8 0 (by decide))
      rl := ⟨ra, rc, rfl, hr⟩
      wl := ⟨wa, wc, rfl, hw⟩ }, bounds_i64 b0, ht⟩, fun h => ?_⟩
    have hx : x.1 = .agg [y0.1, y1.1, y2.1, y3.1, y4.1, y5.1, y6.1, y7.1, y8.1, y9.1, y10.1, y11.1, y12.1, y13.1, y14.1, y15.1] := by rw [hxy]; rfl
    rw [hx] at h
    have h4 := zR (fun n hn => h n (by
      simp only [DataW.weights, Try.underlying47, DataW.weightsEach, List.map_cons, List.mem_append]
      simp [hn]))
    have h5 := zW (fun n hn => h n (by
      simp only [DataW.weights, Try.underlying47, DataW.weightsEach, List.map_cons, List.mem_append]
      simp [hn]))
    exact ⟨h4.1, h5.1, h4.2⟩
set_option maxRecDepth 100000 in
theorem op_trod (hl : cs.length = 31) (hf : DataW.trod enc Try.prog W 0 (fun _ => true) true fuel 49 cs = some x) : ∃ (a : Int) (c : Cm) (ra : Option Addr) (rc : Nat) (wa : Option Addr) (wc : Nat), cs[0]? = some (.int .i64 a) ∧ I64 a ∧ CmOk W c (cs.drop 1).toArray ra rc wa wc ∧ ((∀ n ∈ DataW.weights Try.prog 49 x.1, n ≤ reachBytes) → CmSz c) := by
  obtain ⟨xs, k, hk, hxy, _, hxl, hfl⟩ := DataW.trod_struct Try.underlying49 hf
  match xs, hxl with
  | [y0, y1], _ =>
    have g0 : DataW.trod enc Try.prog W 0 (fun _ => true) true k 3 ((cs.drop 0).take (Try.prog.cellsOf 3)) = some y0 := hfl 0 _ rfl
    have g1 : DataW.trod enc Try.prog W 0 (fun _ => true) true k 47 ((cs.drop 1).take (Try.prog.cellsOf 47)) = some y1 := hfl 1 _ rfl
    rw [cells3] at g0
    rw [cells47] at g1
    obtain ⟨a, f0, _, b0⟩ := DataW.trod_int Try.underlying3 g0
    rw [List.take_of_length_le (by simp [hl])] at g1
    obtain ⟨c, ra, rc, wa, wc, hok, hz⟩ := cm_trod (by simp [hl]) g1
    refine ⟨a, c, ra, rc, wa, wc, cut_get f0 0 (by decide), bounds_i64 b0, hok, fun h => ?_⟩
    have hx : x.1 = .agg [y0.1, y1.1] := by rw [hxy]; rfl
    rw [hx] at h
    exact hz (fun n hn => h n (by
      simp only [DataW.weights, Try.underlying49, DataW.weightsEach, List.map_cons, List.mem_append]
      simp [hn]))
end
section
variable {H : Type} {enc : TypeId × Value → H}
set_option maxRecDepth 100000 in
theorem open_op {W : World} {base : Nat} {v : Value} {d : DataW H} {p : List MemPlace} (hv : Value.okWide Try.prog W .any base 49 v) (h : DataW.Trod enc Try.prog W 0 (fun _ => true) true 49 v d p) (hz : ∀ n ∈ DataW.weights Try.prog 49 d, n ≤ reachBytes) :
    ∃ (os : Array Value) (a : Int) (c : Cm) (cs : Array Value) (ra : Option Addr) (rc : Nat) (wa : Option Addr) (wc : Nat), v = .agg os ∧ os[0]? = some (.int .i64 a) ∧ (∀ j, os[j + 1]? = cs[j]?) ∧ CmOk W c cs ra rc wa wc ∧ CmSz c := by
  obtain ⟨cs, rfl, hsz⟩ := okWide_struct Try.underlying49 hv
  obtain ⟨fuel, hf⟩ := h
  obtain ⟨l⟩ := cs
  have hl : l.length = 31 := hsz.trans cells49
  obtain ⟨a, c, ra, rc, wa, wc, h0, _, hok, hq⟩ := op_trod (cs := l) hl hf
  exact ⟨⟨l⟩, a, c, (l.drop 1).toArray, ra, rc, wa, wc, rfl, by simpa using h0, fun j => by simp, hok, hq hz⟩
theorem again_op {W W' : World} {v : Value} {d : DataW H} {p : List MemPlace} (h : DataW.Trod enc Try.prog W 0 (fun _ => true) true 49 v d p) (hb : Below W.heap.size W W') (hlt : ∀ x ∈ p, x.block < W.heap.size) : DataW.Trod enc Try.prog W' 0 (fun b => decide (b < W.heap.size)) true 49 v d p :=
  Below.trod laidOut (by kernel_rfl) (of_decide_eq_true (by kernel_rfl)) h hb hlt
end
end Go.Proofs.Ytcoaahlakkghhaa
/- Lists of commands in memory; the walk of great. -/
namespace Go.Proofs.Ytcoaahlakkghhaa
open Go.RowKit
abbrev Oq := Int × Cm
def opE (w : World) (q : Oq) (cs : List Value) : Prop := cs.length = 31 ∧ cs[0]? = some (.int .i64 q.1) ∧ I64 q.1 ∧ ∃ ra rc wa wc, CmOk w q.2 (cs.drop 1).toArray ra rc wa wc
theorem opE_held : Held opE := fun _ _ _ _ hb ⟨h1, h2, h3, ra, rc, wa, wc, h4⟩ => ⟨h1, h2, h3, ra, rc, wa, wc, ⟨h4.cc.on hb, h4.kd, h4.td⟩⟩
/-- How much a command holds. -/
def seenN (R : List Rn) : Nat := (R.map fun r => r.seen.length).sum
def gsz (c : Cm) : Nat := 1 + c.writes.length + c.reads.length + seenN c.reads
def tot (L : List Oq) : Nat := (L.map fun q => gsz q.2).sum
theorem tot_next {L : List Oq} {i : Nat} (h : i < L.length) : tot (L.take (i + 1)) = tot (L.take i) + gsz L[i].2 := by
  unfold tot
  rw [List.take_add_one, List.getElem?_eq_getElem h, List.map_append, List.sum_append]
  simp only [Option.toList_some, List.map_cons, List.map_nil, List.sum_cons, List.sum_nil, Nat.add_zero]
theorem seen_next {L : List Rn} {i : Nat} (h : i < L.length) : seenN (L.take (i + 1)) = seenN (L.take i) + L[i].seen.length := by
  unfold seenN
  rw [List.take_add_one, List.getElem?_eq_getElem h, List.map_append, List.sum_append]
  simp only [Option.toList_some, List.map_cons, List.map_nil, List.sum_cons, List.sum_nil, Nat.add_zero]
theorem seen_le (L : List Rn) (i : Nat) : seenN (L.take i) ≤ seenN L := by
  have h := congrArg seenN (List.take_append_drop i L)
  unfold seenN at h ⊢
  rw [List.map_append, List.sum_append] at h
  omega
theorem tot_le (L : List Oq) (i : Nat) : tot (L.take i) ≤ tot L := by
  have h := congrArg tot (List.take_append_drop i L)
  unfold tot at h ⊢
  rw [List.map_append, List.sum_append] at h
  omega
theorem wrap_small {z : Int} (h : 0 ≤ z) (h2 : z ≤ 4000000000) : wrap64 z = z := by
  unfold wrap64
  omega
theorem wr1 {nw nr N : Nat} (h : 1 + nw + nr + N ≤ 2000000000) : wrap64 (1 + (nw : Int)) = 1 + nw := wrap_small (by omega) (by omega)
theorem wr2 {nw nr N : Nat} (h : 1 + nw + nr + N ≤ 2000000000) : wrap64 (1 + (nw : Int) + nr) = 1 + nw + nr := wrap_small (by omega) (by omega)
theorem wr3 {nw nr N : Nat} (h : 1 + nw + nr + N ≤ 2000000000) : wrap64 ((N : Int) + (1 + nw + nr)) = N + (1 + nw + nr) := wrap_small (by omega) (by omega)
theorem wr4 {nw nr N : Nat} (h : 1 + nw + nr + N ≤ 2000000000) : (nr : Int) ≤ 9223372036854775807 := by omega
theorem wr5 (N nw nr : Nat) : ((N + (1 + nw + nr) : Nat) : Int) = (N : Int) + (1 + nw + nr) := by omega
theorem wr6 {M sl : Nat} (h : M + sl ≤ 2000000000) : wrap64 ((M : Int) + sl) = ((M + sl : Nat) : Int) := by rw [wrap_small (by omega) (by omega)]; omega
theorem wr7 {a b c d e f : Nat} (h1 : a = b + (c + d)) (h2 : a ≤ f) (h3 : f ≤ 1000000000) (h4 : e ≤ d) : b + c + e ≤ 2000000000 := by omega
theorem size49 : (Try.prog.info? 49).map (·.size) = some 31 := by kernel_rfl
def GJ (w : World) (L : List Oq) (wr : World) (nv iv : Value) : Prop := ∃ i, i ≤ L.length ∧ iv = .int .i64 (i : Int) ∧ nv = .int .i64 (tot (L.take i) : Int) ∧ tot (L.take i) ≤ 3000 ∧ Below w.heap.size w wr
def GK (w : World) (R : List Rn) (N : Nat) (wr : World) (nv iv : Value) : Prop := ∃ i, i ≤ R.length ∧ iv = .int .i64 (i : Int) ∧ nv = .int .i64 ((N + seenN (R.take i) : Nat) : Int) ∧ Below w.heap.size w wr
section
variable {w : World} {L : List Oq} {v : Value}
set_option maxHeartbeats 600000 in
set_option maxRecDepth 100000 in
theorem great_any (hl : Lr opE 31 w L v) (hb : tot L ≤ 1000000000) : Calls Try.prog 10 #[v] w fun e w' => (∃ b, e = .returned (.bool b) ∧ (b = false → L.length ≤ 150 ∧ tot L ≤ 3000)) ∧ Below w.heap.size w w' := by
  have hl0 := hl
  obtain ⟨ad, cap, rfl, z0, z1, z2, _⟩ := hl0
  obtain ⟨n, hn⟩ : ∃ n, L.length = n := ⟨_, rfl⟩
  have hmx : (n : Int) ≤ 9223372036854775807 := by unfold maxLen at z2; omega
  have HL := Lib.hid hl
  have HN := Lib.hid hn
  have H0 : Hid (GJ w L w (.int .i64 0) (.int .i64 0)) := ⟨0, Nat.zero_le _, rfl, rfl, Nat.zero_le _, Below.refl _ _⟩
  rw [hn]
  clear hl z0 z1 z2 hn
  go_enter Try.func10, Try.ntmps10
  go_wp2
  go_loopw [3, 10] (fun nv iv wr => GJ w L wr nv iv) (fun _ iv _ => n - (intOf iv).toNat)
  case atStart => exact H0.out
  case round =>
    clear H0
    obtain ⟨i, hi, rfl, rfl, ht, hbw⟩ := hrel
    obtain ⟨V, rfl⟩ : ∃ V, V = wr := ⟨_, rfl⟩
    by_cases hlt : i < n
    · have hiL : i < L.length := by rw [HN.out]; exact hlt
      have k0 : (0 : Int) ≤ i := by omega
      have k1 : (i : Int) < n := by omega
      obtain ⟨_, _, e1, _, _, _, hcs⟩ := HL.out
      obtain ⟨b, o, cs, ha, _, hE, hcl, hcell⟩ := hcs i hiL
      cases e1
      subst ha
      obtain ⟨_, q0, _, ra, rc, wa, wc, hok⟩ := hE
      obtain ⟨os, hos⟩ : ∃ os, cs.toArray = os := ⟨_, rfl⟩
      have hld : (Instr.loadAt 49 (.pointer (some ⟨b, o + i * 31, none⟩))).run Try.prog V = .ok (.agg cs.toArray) V := run_loadAt_mid (P := Try.prog) V b (o + i * 31) 49 cs _ (fun j u hu => cell_on hbw (hcell j u hu)) Try.underlying49 rfl (by rw [hcl]; exact size49)
      obtain ⟨W0, hW0⟩ : ∃ W0, W0 = V.alloc (.cells #[.int .i64 0, .int .i64 0, .int .i64 0, .int .i64 0, .int .i64 0, .int .i64 0, .int .i64 0, .int .i64 0, .int .i64 0, .slice none 0 0, .slice none 0 0, .int .i64 0, .int .i64 0, .int .i64 0, .int .i64 0, .int .i64 0, .int .i64 0, .string ⟨#[]⟩, .string ⟨#[]⟩, .string ⟨#[]⟩, .string ⟨#[]⟩, .bool false, .int .i64 0, .int .i64 0, .int .i64 0, .string ⟨#[]⟩, .slice none 0 0, .int .i64 0, .int .i64 0, .string ⟨#[]⟩, .int .i64 0] 49) := ⟨_, rfl⟩
      obtain ⟨Y, hY⟩ : ∃ Y, V.heap.size = Y := ⟨_, rfl⟩
      have b0 : Below V.heap.size V W0 := by rw [hW0]; exact (Below.refl _ V).alloc (Nat.le_refl _) _
      have jY : W0.heap[Y]? = some (.cells #[.int .i64 0, .int .i64 0, .int .i64 0, .int .i64 0, .int .i64 0, .int .i64 0, .int .i64 0, .int .i64 0, .int .i64 0, .slice none 0 0, .slice none 0 0, .int .i64 0, .int .i64 0, .int .i64 0, .int .i64 0, .int .i64 0, .int .i64 0, .string ⟨#[]⟩, .string ⟨#[]⟩, .string ⟨#[]⟩, .string ⟨#[]⟩, .bool false, .int .i64 0, .int .i64 0, .int .i64 0, .string ⟨#[]⟩, .slice none 0 0, .int .i64 0, .int .i64 0, .string ⟨#[]⟩, .int .i64 0] 49 (0, 0)) := by rw [hW0, ← hY]; exact heap_alloc_new V _
      have hsz : cs.toArray.size = 31 := by simp [hcl]
      obtain ⟨X, hXe, jX, fX⟩ := sets_row jY cs.toArray (by rw [hsz]; rfl)
      have hone : cs.toArray.all (·.oneCell') = true := by
        have q := hok.cc.one
        rw [List.all_toArray, List.all_eq_true] at q ⊢
        intro u hu
        have e2 : cs = cs.take 1 ++ cs.drop 1 := (List.take_append_drop 1 cs).symm
        rw [e2, List.mem_append] at hu
        rcases hu with hu | hu
        · have h1 : cs.take 1 = [.int .i64 L[i].1] := by
            rcases cs with _ | ⟨x, cs⟩
            · cases q0
            · simp only [List.getElem?_cons_zero, Option.some.injEq] at q0
              rw [q0]
              rfl
          rw [h1] at hu
          rw [List.mem_singleton.1 hu]
          rfl
        · exact q u hu
      have hst0 : (Instr.storeAt 49 (.pointer (some ⟨Y, 0, none⟩)) (.agg cs.toArray)).run Try.prog W0 = .ok () X := by
        rw [hXe]
        exact store_row jY (by rw [hsz]; rfl) (by rw [hsz]; exact size49) hone
      have bX : Below w.heap.size w X := by
        have b1 : Below w.heap.size w W0 := hbw.trans (b0.mono hbw.size)
        have h2 := hbw.size
        exact ⟨fX.os.trans b1.os, fX.tape.trans b1.tape, fX.output.trans b1.output, Nat.le_trans b1.size fX.size, fun k hk => (fX.block k (Nat.lt_of_lt_of_le hk b1.size) (fun e => by have e' : k = Y := e; omega)).trans (b1.block k hk)⟩
      have at' : ∀ j, cs.toArray[j + 1]? = (cs.drop 1).toArray[j]? := fun j => by simp
      have c9 : X.cell? ⟨Y, 9, none⟩ = some (.slice ra L[i].2.reads.length rc) := (cell_blk jX 9).trans ((at' 8).trans hok.cc.rs)
      have c10 : X.cell? ⟨Y, 10, none⟩ = some (.slice wa L[i].2.writes.length wc) := (cell_blk jX 10).trans ((at' 9).trans hok.cc.ws)
      have hN := tot_next hiL
      have hle := tot_le L (i + 1)
      obtain ⟨R, hR⟩ : ∃ R, L[i].2.reads = R := ⟨_, rfl⟩
      obtain ⟨nw, hnw⟩ : ∃ nw, L[i].2.writes.length = nw := ⟨_, rfl⟩
      obtain ⟨nr, hnr⟩ : ∃ nr, R.length = nr := ⟨_, rfl⟩
      obtain ⟨N, hNN⟩ : ∃ N, tot (L.take i) = N := ⟨_, rfl⟩
      have hrl := hok.cc.rl
      rw [hR] at c9 hrl
      rw [hnr] at c9
      rw [hnw] at c10
      unfold gsz at hN
      rw [hR, hnw, hnr, hNN] at hN
      rw [hNN] at ht
      have hsm : 1 + nw + nr + N ≤ 2000000000 := by
        have q1 : N + (1 + nw + nr + seenN R) ≤ 1000000000 := by rw [← hN]; exact Nat.le_trans hle hb
        exact Nat.le_trans (by
          rw [Nat.add_comm (1 + nw + nr) N]
          exact Nat.le_trans (Nat.add_le_add_left (Nat.le_add_right _ _) N) q1) (by decide)
      have h1 := wr1 hsm
      have h2 := wr2 hsm
      have h3 := wr3 hsm
      have HNE := Lib.hid hN
      have HLE := Lib.hid hle
      have HNR := Lib.hid hnr
      have HRV := Lib.hid (show Lr rnE 3 w R (.slice ra R.length rc) from hrl)
      have hVX : Below V.heap.size V X := by
        exact ⟨fX.os.trans b0.os, fX.tape.trans b0.tape, fX.output.trans b0.output, Nat.le_trans b0.size fX.size, fun k hk => (fX.block k (Nat.lt_of_lt_of_le hk b0.size) (fun e => by have e' : k = Y := e; omega)).trans (b0.block k hk)⟩
      have HVX := Lib.hid hVX
      have HBX := Lib.hid bX
      have hnrx : (nr : Int) ≤ 9223372036854775807 := wr4 hsm
      have HW0 := Lib.hid hW0
      have HY := Lib.hid hY
      have H1 : Hid (GK w R (N + (1 + nw + nr)) X (.int .i64 ((N + (1 + nw + nr) : Nat) : Int)) (.int .i64 0)) := ⟨0, Nat.zero_le _, rfl, by rw [List.take_zero]; rfl, bX⟩
      have hNe : ((N + (1 + nw + nr) : Nat) : Int) = (N : Int) + (1 + nw + nr) := wr5 N nw nr
      rw [hNe] at H1
      rw [hNN]
      have hst : (Instr.storeAt 49 (.pointer (some ⟨V.heap.size, 0, none⟩)) (.agg os)).run Try.prog (V.alloc (.cells #[.int .i64 0, .int .i64 0, .int .i64 0, .int .i64 0, .int .i64 0, .int .i64 0, .int .i64 0, .int .i64 0, .int .i64 0, .slice none 0 0, .slice none 0 0, .int .i64 0, .int .i64 0, .int .i64 0, .int .i64 0, .int .i64 0, .int .i64 0, .string ⟨#[]⟩, .string ⟨#[]⟩, .string ⟨#[]⟩, .string ⟨#[]⟩, .bool false, .int .i64 0, .int .i64 0, .int .i64 0, .string ⟨#[]⟩, .slice none 0 0, .int .i64 0, .int .i64 0, .string ⟨#[]⟩, .int .i64 0] 49)) = .ok () X := by rw [HY.out, ← HW0.out, ← hos]; exact hst0
      rw [hos] at hld
      clear hst0 hos hcs hcell hok q0 hXe jX fX hone jY b0 bX at' hN hle hR hnw hnr hNN hrl hsz hVX hW0 hY hNe hcl hbw hi hsm
      go_upto_region 5 with (first | refine wpl_load _ rfl (by simp [Act.eval]) hld ?_ | refine wpl_store _ _ rfl (by simp [Act.eval, Act.put]) (by simp [Act.eval, Act.put]) hst ?_)
      rw [HY.out]
      go_wp2
      go_loopw [3, 30] (fun nv iv wr => GK w R (N + (1 + nw + nr)) wr nv iv) (fun _ iv _ => nr - (intOf iv).toNat)
      case atStart =>
        rw [h3]
        exact H1.out
      case round =>
        clear H1 c9 c10 h1 h2 h3 hst hld
        obtain ⟨j, hj, rfl, rfl, hbw2⟩ := hrel
        obtain ⟨U, rfl⟩ : ∃ U, U = wr := ⟨_, rfl⟩
        by_cases hlt2 : j < nr
        · have hjR : j < R.length := by rw [HNR.out]; exact hlt2
          have m0 : (0 : Int) ≤ j := Int.natCast_nonneg j
          have m1 : (j : Int) < nr := Int.ofNat_lt.2 hlt2
          obtain ⟨_, _, e1, _, _, _, hcs2⟩ := HRV.out.on rnE_held hbw2
          obtain ⟨b2, o2, cs2, ha2, _, hE2, _, hcell2⟩ := hcs2 j hjR
          obtain ⟨sa, sc, rfl, _⟩ := hE2
          cases e1
          subst ha2
          have c0 := hcell2 0 _ rfl
          have c1 := hcell2 1 _ rfl
          have c2 := hcell2 2 _ rfl
          simp only [Nat.add_zero] at c0
          have hsn := seen_next hjR
          have hsl := seen_le R (j + 1)
          obtain ⟨M, hM⟩ : ∃ M, N + (1 + nw + nr) + seenN (R.take j) = M := ⟨_, rfl⟩
          obtain ⟨sl, hsle⟩ : ∃ sl, R[j].seen.length = sl := ⟨_, rfl⟩
          rw [hsle] at c2 hsn
          have hMs : M + sl = N + (1 + nw + nr) + seenN (R.take (j + 1)) := by rw [hsn, ← hM, Nat.add_assoc _ _ sl]
          have h6 := wr6 (M := M) (sl := sl) (by rw [hMs]; exact wr7 HNE.out HLE.out hb hsl)
          obtain ⟨U1, hU1⟩ : ∃ U1, U1 = U.alloc (.cells #[.string R[j].span.lo, .string R[j].span.hi, .slice sa sl sc] 60) := ⟨_, rfl⟩
          obtain ⟨Z, hZ⟩ : ∃ Z, U.heap.size = Z := ⟨_, rfl⟩
          have bU : Below U.heap.size U U1 := by rw [hU1]; exact (Below.refl _ U).alloc (Nat.le_refl _) _
          have jZ : U1.heap[Z]? = some (.cells #[.string R[j].span.lo, .string R[j].span.hi, .slice sa sl sc] 60 (0, 0)) := by rw [hU1, ← hZ]; exact heap_alloc_new U _
          have cz : U1.cell? ⟨Z, 2, none⟩ = some (.slice sa sl sc) := cell_blk jZ 2
          have HNX : Hid (GK w R (N + (1 + nw + nr)) U1 (.int .i64 ((M + sl : Nat) : Int)) (.int .i64 ((j + 1 : Nat) : Int))) := ⟨j + 1, hjR, rfl, by rw [hMs], hbw2.trans (bU.mono hbw2.size)⟩
          have HU1 := Lib.hid hU1
          have HZ := Lib.hid hZ
          obtain ⟨lo, hlo⟩ : ∃ lo, R[j].span.lo = lo := ⟨_, rfl⟩
          obtain ⟨hi9, hhi⟩ : ∃ hi9, R[j].span.hi = hi9 := ⟨_, rfl⟩
          rw [hlo] at c0 HU1
          rw [hhi] at c1 HU1
          rw [hM]
          clear hcs2 hcell2 hsn hsl hM hsle hMs hU1 hZ bU jZ hlo hhi hbw2
          go_upto_region 9 with fail
          rw [← HU1.out, HZ.out]
          go_wp2
          go_roundw
          case rel =>
            first
            | exact HNX.out
            | (rw [h6]; exact HNX.out)
          case measure => simp [intOf]; omega
        · have hjn : j = R.length := by have := HNR.out; omega
          have m1 : ¬ (j : Int) < nr := fun q => hlt2 (Int.ofNat_lt.1 q)
          rw [hjn, List.take_length]
          obtain ⟨T, hT⟩ : ∃ T, N + (1 + nw + nr) + seenN R = T := ⟨_, rfl⟩
          have hT1 : tot (L.take (i + 1)) = T := HNE.out.trans ((Nat.add_assoc N (1 + nw + nr) (seenN R)).symm.trans hT)
          rw [hT]
          have HBU := Lib.hid hbw2
          have HT1 := Lib.hid hT1
          clear hT hT1 hbw2 hjn
          by_cases hbig : 3000 < T
          · have m2 : (3000 : Int) < T := Int.ofNat_lt.2 hbig
            go_wp2
            go_ret
            exact ⟨.inr rfl, HBU.out⟩
          · have m2 : ¬ (3000 : Int) < T := fun q => hbig (Int.ofNat_lt.1 q)
            have HNX : Hid (GJ w L U (.int .i64 (T : Int)) (.int .i64 ((i + 1 : Nat) : Int))) := ⟨i + 1, hiL, rfl, by rw [HT1.out], by rw [HT1.out]; exact Nat.le_of_not_lt hbig, HBU.out⟩
            go_wp2
            go_roundw
            case rel => exact HNX.out
            case measure => simp [intOf]; omega
    · have hin : i = L.length := Nat.le_antisymm hi (by rw [HN.out]; exact Nat.le_of_not_lt hlt)
      have k1 : ¬ (i : Int) < n := fun q => hlt (Int.ofNat_lt.1 q)
      have htl : tot L ≤ 3000 := by rw [hin, List.take_length] at ht; exact ht
      have HTL := Lib.hid htl
      have HBW := Lib.hid hbw
      clear htl ht hin hi hbw hb
      by_cases hbig : 150 < n
      · have m2 : (150 : Int) < n := Int.ofNat_lt.2 hbig
        go_wp2
        go_ret
        exact ⟨.inr rfl, HBW.out⟩
      · have m2 : ¬ (150 : Int) < n := fun q => hbig (Int.ofNat_lt.1 q)
        go_wp2
        go_ret
        exact ⟨.inl ⟨rfl, Nat.le_of_not_lt hbig, HTL.out⟩, HBW.out⟩
end
end Go.Proofs.Ytcoaahlakkghhaa
/- Arguments opened: lists of commands. -/
namespace Go.Proofs.Ytcoaahlakkghhaa
open Go.ChangeShapes Go.WideShapes Go.ChangeAt Go.WideMaps Go.WideElems Go.RowKit Go.Joins Go.Deep
theorem bytes49 : Try.prog.bytesOf 49 = 344 := by kernel_rfl
section
variable {H : Type} {enc : TypeId × Value → H} {W : World} {fuel : Nat} {cs : List Value} {x : DataW H × List MemPlace}
theorem opq_trod (hl : cs.length = 31) (hf : DataW.trod enc Try.prog W 0 (fun _ => true) true fuel 49 cs = some x) : ∃ q : Oq, opE W q cs ∧ ((∀ n ∈ DataW.weights Try.prog 49 x.1, n ≤ reachBytes) → CmSz q.2) := by
  obtain ⟨a, c, ra, rc, wa, wc, h0, h1, h2, h3⟩ := op_trod hl hf
  exact ⟨(a, c), ⟨hl, h0, h1, ra, rc, wa, wc, h2⟩, h3⟩
set_option maxRecDepth 100000 in
set_option maxHeartbeats 1000000 in
theorem opl_trod (hf : DataW.trod enc Try.prog W 0 (fun _ => true) true fuel 22 cs = some x) : ∃ (l : List Oq) (v : Value), cs = [v] ∧ Lr opE 31 W l v ∧ ((∀ n ∈ DataW.weights Try.prog 22 x.1, n ≤ reachBytes) → l.length * 344 ≤ 140737488355328 ∧ ∀ r ∈ l, CmSz r.2) := by
  rcases open_slice Try.underlying22 hf with ⟨hcs, hx⟩ | ⟨a, len, cap, m, n, D, Pl, hcs, _, hl, hm, hmm, hx, hel⟩
  · exact ⟨[], .slice none 0 0, hcs, ⟨none, 0, rfl, fun _ => rfl, Nat.le_refl _, Nat.zero_le _, fun i hi => by simp at hi⟩, fun _ => ⟨by simp, fun r hr => (by cases hr)⟩⟩
  · simp only [if_true] at hmm
    subst hmm
    have each : ∀ i, i < len → ∃ q : Oq, (∃ cs', opE W q cs' ∧ cs'.length = 31 ∧ ∀ j u, cs'[j]? = some u → W.cell? (a.add (i * 31 + j)) = some u) ∧ ((∀ n ∈ DataW.weights Try.prog 49 (D i), n ≤ reachBytes) → CmSz q.2) := by
      intro i hi
      obtain ⟨cs', h1, h2⟩ := hel i (by omega)
      rw [cells49] at h1
      obtain ⟨_, hlen, hcell⟩ := World.cells?_some h1
      obtain ⟨o, e, hz⟩ := opq_trod hlen h2
      refine ⟨o, ⟨cs', e, hlen, fun j u hu => ?_⟩, hz⟩
      have hj : j < cs'.length := by
        rw [List.getElem?_eq_some_iff] at hu
        exact hu.1
      have z := hcell j (by omega)
      rw [add_add] at z
      rw [z]
      exact hu
    have hinh : Inhabited Oq := ⟨(0, ⟨0, (0, 0, 0), 0, [], [], 0, 0, 0⟩)⟩
    obtain ⟨q, hq⟩ := choose_lt each
    have hlen : ((List.range len).map q).length = len := by simp
    refine ⟨(List.range len).map q, _, hcs, ⟨some a, m, by rw [hlen], fun z => (by cases z), by rw [hlen]; exact hl, hm, fun i hi => ?cl⟩, fun h => ?sz⟩
    case sz =>
      have hd : x.1 = _ := congrArg Prod.fst hx
      rw [hd] at h
      simp only [DataW.weights, Try.underlying22] at h
      have z := h _ (List.mem_cons_self)
      rw [bytes49, List.length_map, List.length_map, List.length_range, List.length_range] at z
      have hR := reachBytes_lt
      refine ⟨by rw [hlen]; omega, ?_⟩
      intro r hr
      obtain ⟨i, hi, rfl⟩ := List.mem_map.1 hr
      have hi' := List.mem_range.1 hi
      exact (hq i hi').2 (fun n hn => h n (by
        simp only [List.mem_cons, List.mem_append]
        exact .inr (.inl (weights_all (List.mem_map.2 ⟨i, hi, rfl⟩) hn))))
    case cl =>
      rw [hlen] at hi
      obtain ⟨⟨cs', e1, e2, e3⟩, _⟩ := hq i hi
      obtain ⟨b, o, sp⟩ := a
      have hw0 : ∃ u, W.cell? ((⟨b, o, sp⟩ : Addr).add (i * 31 + 0)) = some u := ⟨_, e3 0 _ (List.getElem?_eq_getElem (by omega))⟩
      have hsp : sp = none := by
        obtain ⟨⟨cs0, _, l0, c0⟩, _⟩ := hq 0 (by omega)
        have := World.cell?_spot (c0 0 _ (List.getElem?_eq_getElem (by omega)))
        simpa [Addr.add] using this
      subst hsp
      have e : ((List.range len).map q)[i]'(by rw [hlen]; exact hi) = q i := by simp
      rw [e]
      have hbl : b < W.heap.size := by
        obtain ⟨u, z⟩ := hw0
        rw [add_at] at z
        exact cell_lt z
      exact ⟨b, o, cs', rfl, hbl, e1, e2, fun j u hu => by
        have z := e3 j u hu
        rw [add_at] at z
        rw [Nat.add_assoc]
        exact z⟩
end
section
variable {H : Type} {enc : TypeId × Value → H}
set_option maxRecDepth 100000 in
theorem open_ops {W : World} {base : Nat} {v : Value} {d : DataW H} {p : List MemPlace} (hv : Value.okWide Try.prog W .any base 22 v) (h : DataW.Trod enc Try.prog W 0 (fun _ => true) true 22 v d p) (hz : ∀ n ∈ DataW.weights Try.prog 22 d, n ≤ reachBytes) : ∃ L : List Oq, Lr opE 31 W L v ∧ ∀ q ∈ L, CmSz q.2 := by
  obtain ⟨a0, len, cap, rfl⟩ := okWide_slice Try.underlying22 hv
  obtain ⟨fuel, hf⟩ := h
  obtain ⟨L, u, e, h1, h2⟩ := opl_trod hf
  simp [Value.cells] at e
  subst e
  exact ⟨L, h1, (h2 hz).2⟩
theorem again_ops {W W' : World} {v : Value} {d : DataW H} {p : List MemPlace} (h : DataW.Trod enc Try.prog W 0 (fun _ => true) true 22 v d p) (hb : Below W.heap.size W W') (hlt : ∀ x ∈ p, x.block < W.heap.size) : DataW.Trod enc Try.prog W' 0 (fun b => decide (b < W.heap.size)) true 22 v d p :=
  Below.trod laidOut (by kernel_rfl) (of_decide_eq_true (by kernel_rfl)) h hb hlt
end
end Go.Proofs.Ytcoaahlakkghhaa
