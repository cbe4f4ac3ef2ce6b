/- A list of calls as an argument, opened. -/
import Derived.Test.YtmiagjcihmenfaaSa
namespace Go.Proofs.Ytmiagjcihmenfaa
open Go.ChangeShapes Go.WideShapes Go.ChangeAt Go.WideMaps Go.WideElems Go.RowKit Go.Joins Go.Deep

/-- A call, and where its list lies. -/
abbrev Oq := Op × Option Addr × Nat
/-- What a call holds lies within a machine's reach. -/
structure Op.Sz (o : Op) : Prop where
  text : o.text.size ≤ 140737488355328
  list : o.m.list.length * 40 ≤ 140737488355328
  snap : o.m.snap.size ≤ 140737488355328
section
variable {H : Type} {enc : TypeId × Value → H} {W : World} {fuel : Nat} {cs : List Value} {x : DataW H × List MemPlace}
set_option maxRecDepth 100000 in
theorem ms_snap {v0 v1 v2 v3 v4 v5 v6 v7 v8 : Value} {s : ByteArray} (hf : DataW.trod enc Try.prog W 0 (fun _ => true) true fuel 34 [v0, v1, v2, v3, v4, v5, v6, v7, v8, .string s] = some x) (h : ∀ n ∈ DataW.weights Try.prog 34 x.1, n ≤ reachBytes) : s.size ≤ reachBytes := by
  obtain ⟨xs, k, hk, hxy, _, hxl, hfl⟩ := DataW.trod_struct Try.underlying34 hf
  match xs, hxl with
  | [y0, y1, y2, y3, y4, y5, y6, y7, y8, y9], _ =>
    have g9 := hfl 9 _ rfl
    simp [cells9] at g9
    obtain ⟨s', f9, e, _⟩ := DataW.trod_string Try.underlying9 g9
    simp at f9
    subst f9
    have e' : y9.1 = _ := congrArg Prod.fst e
    have hx : x.1 = .agg [y0.1, y1.1, y2.1, y3.1, y4.1, y5.1, y6.1, y7.1, y8.1, y9.1] := by rw [hxy]; rfl
    rw [hx] at h
    have h1 := h s.data.toList.length (by
      simp only [DataW.weights, Try.underlying34, DataW.weightsEach, List.map_cons, List.mem_append]
      rw [e']
      simp [DataW.weights])
    rw [Array.length_toList] at h1
    exact h1
set_option maxRecDepth 100000 in
theorem op_texts {v0 v1 v2 v4 v5 v6 v7 v8 v9 v10 v11 v12 : Value} {s u : ByteArray} (hf : DataW.trod enc Try.prog W 0 (fun _ => true) true fuel 36 [v0, v1, v2, .string s, v4, v5, v6, v7, v8, v9, v10, v11, v12, .string u] = some x) (h : ∀ n ∈ DataW.weights Try.prog 36 x.1, n ≤ reachBytes) : s.size ≤ reachBytes ∧ u.size ≤ reachBytes := by
  obtain ⟨xs, k, hk, hxy, _, hxl, hfl⟩ := DataW.trod_struct Try.underlying36 hf
  match xs, hxl with
  | [y0, y1, y2, y3, y4], _ =>
    have g3 := hfl 3 _ rfl
    have g4 := hfl 4 _ rfl
    simp [cells9, cells34] at g3 g4
    obtain ⟨s', f3, e, _⟩ := DataW.trod_string Try.underlying9 g3
    simp at f3
    subst f3
    have e' : y3.1 = _ := congrArg Prod.fst e
    have hx : x.1 = .agg [y0.1, y1.1, y2.1, y3.1, y4.1] := by rw [hxy]; rfl
    rw [hx] at h
    have h1 := h s.data.toList.length (by
      simp only [DataW.weights, Try.underlying36, DataW.weightsEach, List.map_cons, List.mem_append]
      rw [e']
      simp [DataW.weights])
    rw [Array.length_toList] at h1
    refine ⟨h1, ms_snap g4 (fun n hn => h n ?_)⟩
    simp only [DataW.weights, Try.underlying36, DataW.weightsEach, List.map_cons, List.mem_append]
    simp [hn]
theorem weights_all {P : Program} {e : TypeId} {n : Nat} {d : DataW H} : ∀ {l : List (DataW H)}, d ∈ l → n ∈ d.weights P e → n ∈ DataW.weightsAll P e l
  | [], h, _ => by cases h
  | a :: l, h, hn => by
    simp only [DataW.weightsAll, List.mem_append]
    rcases List.mem_cons.1 h with rfl | h
    · exact .inl hn
    · exact .inr (weights_all h hn)
end
/-- The calls L lie behind ad. -/
structure Lo (w : World) (L : List Oq) (ad : Option Addr) : Prop where
  at' : ∀ i (h : i < L.length), ∃ b o, ad = some ⟨b, o, none⟩ ∧ b < w.heap.size ∧ w.cell? ⟨b, o + i * 14, none⟩ = some (.int .i64 L[i].1.kind) ∧ w.cell? ⟨b, o + i * 14 + 1, none⟩ = some (.int .i64 L[i].1.a) ∧ w.cell? ⟨b, o + i * 14 + 2, none⟩ = some (.int .i64 L[i].1.b) ∧ w.cell? ⟨b, o + i * 14 + 3, none⟩ = some (.string L[i].1.text) ∧ w.cell? ⟨b, o + i * 14 + 4, none⟩ = some (.int .i64 L[i].1.m.kind) ∧ w.cell? ⟨b, o + i * 14 + 5, none⟩ = some (.int .i64 L[i].1.m.fr) ∧ w.cell? ⟨b, o + i * 14 + 6, none⟩ = some (.int .i64 L[i].1.m.to) ∧ w.cell? ⟨b, o + i * 14 + 7, none⟩ = some (.int .i64 L[i].1.m.term) ∧ w.cell? ⟨b, o + i * 14 + 8, none⟩ = some (.int .i64 L[i].1.m.index) ∧ w.cell? ⟨b, o + i * 14 + 9, none⟩ = some (.int .i64 L[i].1.m.prev) ∧ w.cell? ⟨b, o + i * 14 + 10, none⟩ = some (.int .i64 L[i].1.m.commit) ∧ w.cell? ⟨b, o + i * 14 + 11, none⟩ = some (.bool L[i].1.m.good) ∧ w.cell? ⟨b, o + i * 14 + 12, none⟩ = some (.slice L[i].2.1 L[i].1.m.list.length L[i].2.2) ∧ w.cell? ⟨b, o + i * 14 + 13, none⟩ = some (.string L[i].1.m.snap)
  es : ∀ p ∈ L, Es w (fun _ => False) p.1.m.list (.slice p.2.1 p.1.m.list.length p.2.2)
  ins : ∀ p ∈ L, p.1.In
  sz : ∀ p ∈ L, p.1.Sz
theorem Lo.on {w w' : World} {L : List Oq} {ad : Option Addr} (h : Lo w L ad) (hb : Below w.heap.size w w') : Lo w' L ad := by
  refine ⟨fun i hi => ?_, fun p hp => (h.es p hp).on hb, h.ins, h.sz⟩
  obtain ⟨b, o, ha, hl, c0, c1, c2, c3, c4, c5, c6, c7, c8, c9, c10, c11, c12, c13⟩ := h.at' i hi
  have hc : ∀ o, w'.cell? ⟨b, o, none⟩ = w.cell? ⟨b, o, none⟩ := fun o => World.cell?_of_block (hb.block b hl)
  exact ⟨b, o, ha, Nat.lt_of_lt_of_le hl hb.size, by rw [hc]; exact c0, by rw [hc]; exact c1, by rw [hc]; exact c2, by rw [hc]; exact c3, by rw [hc]; exact c4, by rw [hc]; exact c5, by rw [hc]; exact c6, by rw [hc]; exact c7, by rw [hc]; exact c8, by rw [hc]; exact c9, by rw [hc]; exact c10, by rw [hc]; exact c11, by rw [hc]; exact c12, by rw [hc]; exact c13⟩
section
variable {H : Type} {enc : TypeId × Value → H}
set_option maxRecDepth 100000 in
set_option maxHeartbeats 1000000 in
theorem open_ops {W : World} {base : Nat} {v : Value} {d : DataW H} {p : List MemPlace} (hv : Value.okWide Try.prog W .any base 22 v) (h : DataW.Trod enc Try.prog W 0 (fun _ => true) true 22 v d p) (hz : ∀ n ∈ DataW.weights Try.prog 22 d, n ≤ reachBytes) :
    ∃ (L : List Oq) (ad : Option Addr) (cap : Nat), v = .slice ad L.length cap ∧ Lo W L ad ∧ L.length ≤ cap ∧ cap ≤ maxLen := by
  obtain ⟨a0, len, cap, rfl⟩ := okWide_slice Try.underlying22 hv
  obtain ⟨fuel, hf⟩ := h
  rcases open_slice Try.underlying22 hf with ⟨hcs, hx⟩ | ⟨a, len', cap', m, n, D, Pl, hcs, _, hl, hm, hmm, hx, hel⟩
  · simp [Value.cells] at hcs
    obtain ⟨rfl, rfl, rfl⟩ := hcs
    exact ⟨[], none, 0, rfl, ⟨fun i hi => by simp at hi, fun p hp => by simp at hp, fun p hp => by simp at hp, fun p hp => by simp at hp⟩, Nat.le_refl _, Nat.zero_le _⟩
  · simp [Value.cells] at hcs
    obtain ⟨rfl, rfl, rfl⟩ := hcs
    simp only [if_true] at hmm
    subst hmm
    have hd : d = _ := congrArg Prod.fst hx
    have hwt : ∀ i, i < len → ∀ n ∈ DataW.weights Try.prog 36 (D i), n ≤ reachBytes := by
      intro i hi n hn
      apply hz
      rw [hd]
      simp only [DataW.weights, Try.underlying22, List.mem_cons, List.mem_append]
      exact .inr (.inl (weights_all (List.mem_map.2 ⟨i, List.mem_range.2 hi, rfl⟩) hn))
    have each : ∀ i, i < len → ∃ q : Oq, W.cell? (a.add (i * 14)) = some (.int .i64 q.1.kind) ∧ W.cell? (a.add (i * 14 + 1)) = some (.int .i64 q.1.a) ∧ W.cell? (a.add (i * 14 + 2)) = some (.int .i64 q.1.b) ∧ W.cell? (a.add (i * 14 + 3)) = some (.string q.1.text) ∧ W.cell? (a.add (i * 14 + 4)) = some (.int .i64 q.1.m.kind) ∧ W.cell? (a.add (i * 14 + 5)) = some (.int .i64 q.1.m.fr) ∧ W.cell? (a.add (i * 14 + 6)) = some (.int .i64 q.1.m.to) ∧ W.cell? (a.add (i * 14 + 7)) = some (.int .i64 q.1.m.term) ∧ W.cell? (a.add (i * 14 + 8)) = some (.int .i64 q.1.m.index) ∧ W.cell? (a.add (i * 14 + 9)) = some (.int .i64 q.1.m.prev) ∧ W.cell? (a.add (i * 14 + 10)) = some (.int .i64 q.1.m.commit) ∧ W.cell? (a.add (i * 14 + 11)) = some (.bool q.1.m.good) ∧ W.cell? (a.add (i * 14 + 12)) = some (.slice q.2.1 q.1.m.list.length q.2.2) ∧ W.cell? (a.add (i * 14 + 13)) = some (.string q.1.m.snap) ∧ Es W (fun _ => False) q.1.m.list (.slice q.2.1 q.1.m.list.length q.2.2) ∧ q.1.In ∧ q.1.Sz := by
      intro i hi
      obtain ⟨cs', h1, h2⟩ := hel i (by omega)
      rw [cells36] at h1
      obtain ⟨_, hlen, hcell⟩ := World.cells?_some h1
      obtain ⟨o, ad, cap, rfl, hE, hI, e0, e1, e2, e3, d0, d1, d2, d3, d4, d5, d6, d7, d8, d9, hd, hw⟩ := op_trod hlen h2
      have hwi := hwt i hi
      have hd : D i = _ := hd
      have ht := op_texts h2 hwi
      rw [hd] at hwi
      have hlw := wl_sized hw hwi
      have hR := reachBytes_lt
      have hSz : o.Sz := ⟨by omega, by omega, by omega⟩
      have z0 := hcell 0 (by omega)
      have z1 := hcell 1 (by omega)
      have z2 := hcell 2 (by omega)
      have z3 := hcell 3 (by omega)
      have z4 := hcell 4 (by omega)
      have z5 := hcell 5 (by omega)
      have z6 := hcell 6 (by omega)
      have z7 := hcell 7 (by omega)
      have z8 := hcell 8 (by omega)
      have z9 := hcell 9 (by omega)
      have z10 := hcell 10 (by omega)
      have z11 := hcell 11 (by omega)
      have z12 := hcell 12 (by omega)
      have z13 := hcell 13 (by omega)
      rw [add_add] at z0 z1 z2 z3 z4 z5 z6 z7 z8 z9 z10 z11 z12 z13
      exact ⟨(o, ad, cap), z0, z1, z2, z3, z4, z5, z6, z7, z8, z9, z10, z11, z12, z13, hE, hI, hSz⟩
    have hinh : Inhabited Oq := ⟨(⟨0, 0, 0, noT, ms0⟩, none, 0)⟩
    obtain ⟨q, hq⟩ := choose_lt each
    have hlen : ((List.range len).map q).length = len := by simp
    have hmem : ∀ v ∈ (List.range len).map q, ∃ i, i < len ∧ v = q i := by
      intro v hv
      obtain ⟨i, hi, rfl⟩ := List.mem_map.1 hv
      exact ⟨i, List.mem_range.1 hi, rfl⟩
    refine ⟨(List.range len).map q, some a, m, by rw [hlen], ⟨fun i hi => ?_, fun v hv => ?_, fun v hv => ?_, fun v hv => ?_⟩, by rw [hlen]; exact hl, hm⟩
    · rw [hlen] at hi
      obtain ⟨c0, c1, c2, c3, c4, c5, c6, c7, c8, c9, c10, c11, c12, c13, _⟩ := hq i hi
      obtain ⟨b, o, sp⟩ := a
      have hsp : sp = none := by
        have := World.cell?_spot (hq 0 (by omega)).1
        simpa [Addr.add] using this
      subst hsp
      rw [add_at] at c0 c1 c2 c3 c4 c5 c6 c7 c8 c9 c10 c11 c12 c13
      have e : ((List.range len).map q)[i]'(by rw [hlen]; exact hi) = q i := by simp
      rw [e]
      exact ⟨b, o, rfl, cell_lt c0, c0, (by rw [Nat.add_assoc]; exact c1), (by rw [Nat.add_assoc]; exact c2), (by rw [Nat.add_assoc]; exact c3), (by rw [Nat.add_assoc]; exact c4), (by rw [Nat.add_assoc]; exact c5), (by rw [Nat.add_assoc]; exact c6), (by rw [Nat.add_assoc]; exact c7), (by rw [Nat.add_assoc]; exact c8), (by rw [Nat.add_assoc]; exact c9), (by rw [Nat.add_assoc]; exact c10), (by rw [Nat.add_assoc]; exact c11), (by rw [Nat.add_assoc]; exact c12), (by rw [Nat.add_assoc]; exact c13)⟩
    · obtain ⟨i, hi, rfl⟩ := hmem v hv
      exact (hq i hi).2.2.2.2.2.2.2.2.2.2.2.2.2.2.1
    · obtain ⟨i, hi, rfl⟩ := hmem v hv
      exact (hq i hi).2.2.2.2.2.2.2.2.2.2.2.2.2.2.2.1
    · obtain ⟨i, hi, rfl⟩ := hmem v hv
      exact (hq i hi).2.2.2.2.2.2.2.2.2.2.2.2.2.2.2.2
end
end Go.Proofs.Ytmiagjcihmenfaa
