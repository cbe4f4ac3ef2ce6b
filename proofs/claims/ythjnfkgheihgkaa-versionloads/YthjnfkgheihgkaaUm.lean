/- Arguments opened: rows with their versions. -/
import Derived.Test.YthjnfkgheihgkaaUa
import Derived.Test.YthjnfkgheihgkaaVq
namespace Go.Proofs.Ythjnfkgheihgkaa
open Go.ChangeShapes Go.WideShapes Go.ChangeAt Go.WideMaps Go.WideElems Go.RowKit Go.Joins Go.Deep
theorem cells48 : Try.prog.cellsOf 48 = 1 := by kernel_rfl
theorem bytes31 : Try.prog.bytesOf 31 = 32 := by kernel_rfl
theorem bytes50 : Try.prog.bytesOf 50 = 40 := by kernel_rfl
theorem cells50 : Try.prog.cellsOf 50 = 2 := by kernel_rfl
section
variable {H : Type} {enc : TypeId × Value → H} {W : World} {fuel : Nat} {cs : List Value} {x : DataW H × List MemPlace}
set_option maxRecDepth 100000 in
set_option maxHeartbeats 1000000 in
theorem vs_trod (hf : DataW.trod enc Try.prog W 0 (fun _ => true) true fuel 48 cs = some x) : ∃ (l : List Ve) (v : Value), cs = [v] ∧ Vs W l v ∧ ((∀ n ∈ DataW.weights Try.prog 48 x.1, n ≤ reachBytes) → l.length ≤ 1000000000000000) := by
  rcases open_slice Try.underlying48 hf with ⟨hcs, hx⟩ | ⟨a, len, cap, m, n, D, Pl, hcs, _, hl, hm, hmm, hx, hel⟩
  · exact ⟨[], .slice none 0 0, hcs, ⟨none, 0, rfl, fun _ => rfl, Nat.le_refl _, Nat.zero_le _, fun i hi => by simp at hi⟩, fun _ => Nat.zero_le _⟩
  · simp only [if_true] at hmm
    subst hmm
    have each : ∀ i, i < len → ∃ q : Ve, W.cell? (a.add (i * 3)) = some (.int .i64 q.ts) ∧ W.cell? (a.add (i * 3 + 1)) = some (.string q.val) ∧ W.cell? (a.add (i * 3 + 2)) = some (.bool q.dead) := by
      intro i hi
      obtain ⟨cs', h1, h2⟩ := hel i (by omega)
      rw [cells31] at h1
      obtain ⟨_, hlen, hcell⟩ := World.cells?_some h1
      obtain ⟨o, rfl⟩ := ve_trod hlen h2
      have z0 := hcell 0 (by simp)
      have z1 := hcell 1 (by simp)
      have z2 := hcell 2 (by simp)
      rw [add_add] at z0 z1 z2
      exact ⟨o, z0, z1, z2⟩
    have hinh : Inhabited Ve := ⟨⟨0, noT, false⟩⟩
    obtain ⟨q, hq⟩ := choose_lt each
    have hlen : ((List.range len).map q).length = len := by simp
    refine ⟨(List.range len).map q, _, hcs, ⟨some a, m, by rw [hlen], fun z => (by cases z), by rw [hlen]; exact hl, hm, fun i hi => ?cl⟩, fun h => ?sz⟩
    case sz =>
      have hd : x.1 = _ := congrArg Prod.fst hx
      rw [hd] at h
      simp only [DataW.weights, Try.underlying48] at h
      have := h _ (List.mem_cons_self)
      rw [bytes31, List.length_map, List.length_map, List.length_range, List.length_range] at this
      have hR := reachBytes_lt
      rw [hlen]
      omega
    case cl =>
      rw [hlen] at hi
      obtain ⟨c0, c1, c2⟩ := hq i hi
      obtain ⟨b, o, sp⟩ := a
      have hsp : sp = none := by
        have := World.cell?_spot (hq 0 (by omega)).1
        simpa [Addr.add] using this
      subst hsp
      rw [add_at] at c0 c1 c2
      have e : ((List.range len).map q)[i]'(by rw [hlen]; exact hi) = q i := by simp
      rw [e]
      exact ⟨b, o, rfl, cell_lt c0, c0, (by rw [Nat.add_assoc]; exact c1), (by rw [Nat.add_assoc]; exact c2)⟩
set_option maxRecDepth 100000 in
theorem rw_trod (hl : cs.length = 2) (hf : DataW.trod enc Try.prog W 0 (fun _ => true) true fuel 50 cs = some x) : ∃ (r : Rw) (lv : Value), cs = [.string r.key, lv] ∧ Vs W r.list lv ∧ ((∀ n ∈ DataW.weights Try.prog 50 x.1, n ≤ reachBytes) → r.key.size ≤ maxLen ∧ r.list.length ≤ 1000000000000000) := by
  obtain ⟨xs, k, hk, hxy, _, hxl, hfl⟩ := DataW.trod_struct Try.underlying50 hf
  match xs, hxl, cs, hl with
  | [y0, y1], _, [v0, v1], _ =>
    have g0 := hfl 0 _ rfl
    have g1 := hfl 1 _ rfl
    simp [cells9, cells48] at g0 g1
    obtain ⟨s, f0, e0, _⟩ := DataW.trod_string Try.underlying9 g0
    obtain ⟨l, v, f1, hv, hvz⟩ := vs_trod g1
    simp at f0 f1
    subst f0 f1
    refine ⟨⟨s, l⟩, v1, rfl, hv, fun h => ?_⟩
    have e0' : y0.1 = _ := congrArg Prod.fst e0
    have hx : x.1 = .agg [y0.1, y1.1] := by rw [hxy]; rfl
    rw [hx] at h
    have h1 := h s.data.toList.length (by
      simp only [DataW.weights, Try.underlying50, DataW.weightsEach, List.map_cons, List.mem_append]
      rw [e0']
      simp [DataW.weights])
    rw [Array.length_toList] at h1
    exact ⟨reach_max h1, hvz (fun n hn => h n (by
      simp only [DataW.weights, Try.underlying50, DataW.weightsEach, List.map_cons, List.mem_append]
      simp [hn]))⟩
set_option maxRecDepth 100000 in
set_option maxHeartbeats 1000000 in
theorem open_rows {base : Nat} {v : Value} {d : DataW H} {p : List MemPlace} (hv : Value.okWide Try.prog W .any base 45 v) (h : DataW.Trod enc Try.prog W 0 (fun _ => true) true 45 v d p) (hz : ∀ n ∈ DataW.weights Try.prog 45 d, n ≤ reachBytes) :
    ∃ L : List Rw, Rd W L v ∧ (∀ r ∈ L, r.key.size ≤ maxLen ∧ r.list.length ≤ 1000000000000000) ∧ L.length ≤ 1000000000000000 := by
  obtain ⟨a0, len, cap, rfl⟩ := okWide_slice Try.underlying45 hv
  obtain ⟨fuel, hf⟩ := h
  rcases open_slice Try.underlying45 hf with ⟨hcs, hx⟩ | ⟨a, len', cap', m, n, D, Pl, hcs, _, hl, hm, hmm, hx, hel⟩
  · simp [Value.cells] at hcs
    obtain ⟨rfl, rfl, rfl⟩ := hcs
    exact ⟨[], ⟨none, 0, rfl, fun _ => rfl, Nat.le_refl _, Nat.zero_le _, fun i hi => by simp at hi⟩, fun p hp => (by simp at hp), Nat.zero_le _⟩
  · simp [Value.cells] at hcs
    obtain ⟨rfl, rfl, rfl⟩ := hcs
    simp only [if_true] at hmm
    subst hmm
    have hd : d = _ := congrArg Prod.fst hx
    have hwt : ∀ i, i < len → ∀ n ∈ DataW.weights Try.prog 50 (D i), n ≤ reachBytes := by
      intro i hi n hn
      apply hz
      rw [hd]
      simp only [DataW.weights, Try.underlying45, List.mem_cons, List.mem_append]
      exact .inr (.inl (weights_all (List.mem_map.2 ⟨i, List.mem_range.2 hi, rfl⟩) hn))
    have each : ∀ i, i < len → ∃ q : Rw × Value, W.cell? (a.add (i * 2)) = some (.string q.1.key) ∧ W.cell? (a.add (i * 2 + 1)) = some q.2 ∧ Vs W q.1.list q.2 ∧ q.1.key.size ≤ maxLen ∧ q.1.list.length ≤ 1000000000000000 := by
      intro i hi
      obtain ⟨cs', h1, h2⟩ := hel i (by omega)
      rw [cells50] at h1
      obtain ⟨_, hlen, hcell⟩ := World.cells?_some h1
      obtain ⟨r, lv, rfl, hvs, hS⟩ := rw_trod hlen h2
      have z0 := hcell 0 (by simp)
      have z1 := hcell 1 (by simp)
      rw [add_add] at z0 z1
      exact ⟨(r, lv), z0, z1, hvs, hS (hwt i hi)⟩
    have hinh : Inhabited (Rw × Value) := ⟨⟨⟨noT, []⟩, .bool false⟩⟩
    obtain ⟨q, hq⟩ := choose_lt each
    have hlen : ((List.range len).map fun i => (q i).1).length = len := by simp
    refine ⟨(List.range len).map fun i => (q i).1, ⟨some a, m, by rw [hlen], fun z => (by cases z), by rw [hlen]; exact hl, hm, fun i hi => ?_⟩, fun v hv => ?_, ?_⟩
    · rw [hlen] at hi
      obtain ⟨c0, c1, hvs, _⟩ := hq i hi
      obtain ⟨b, o, sp⟩ := a
      have hsp : sp = none := by
        have := World.cell?_spot (hq 0 (by omega)).1
        simpa [Addr.add] using this
      subst hsp
      rw [add_at] at c0 c1
      have e : ((List.range len).map fun i => (q i).1)[i]'(by rw [hlen]; exact hi) = (q i).1 := by simp
      rw [e]
      exact ⟨b, o, (q i).2, rfl, cell_lt c0, c0, (by rw [Nat.add_assoc]; exact c1), hvs⟩
    · obtain ⟨i, hi, rfl⟩ := List.mem_map.1 hv
      exact (hq i (List.mem_range.1 hi)).2.2.2
    · rw [hd] at hz
      simp only [DataW.weights, Try.underlying45] at hz
      have := hz _ (List.mem_cons_self)
      rw [bytes50, List.length_map, List.length_map, List.length_range, List.length_range] at this
      have hR := reachBytes_lt
      rw [hlen]
      omega
theorem again_rows {W W' : World} {v : Value} {d : DataW H} {p : List MemPlace} (h : DataW.Trod enc Try.prog W 0 (fun _ => true) true 45 v d p) (hb : Below W.heap.size W W') (hlt : ∀ x ∈ p, x.block < W.heap.size) : DataW.Trod enc Try.prog W' 0 (fun b => decide (b < W.heap.size)) true 45 v d p :=
  Below.trod laidOut (by kernel_rfl) (of_decide_eq_true (by kernel_rfl)) h hb hlt
end
end Go.Proofs.Ythjnfkgheihgkaa
