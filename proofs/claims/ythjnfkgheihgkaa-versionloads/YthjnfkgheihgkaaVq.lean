/- Arguments opened: a call, a list of calls, a span; each reads behind the call as before. -/
import Derived.Test.YthjnfkgheihgkaaVp
namespace Go.Proofs.Ythjnfkgheihgkaa
open Go.ChangeShapes Go.WideShapes Go.ChangeAt Go.WideMaps Go.WideElems Go.RowKit Go.Joins Go.Deep
open Go.ChangeMaps (open_string)

theorem own : ownKnob Try.prog.godebug = none := by kernel_rfl
theorem laidOut : laidOutB Try.prog = true := by kernel_rfl
theorem cells3 : Try.prog.cellsOf 3 = 1 := by kernel_rfl
theorem cells4 : Try.prog.cellsOf 4 = 1 := by kernel_rfl
theorem cells9 : Try.prog.cellsOf 9 = 1 := by kernel_rfl
theorem cells31 : Try.prog.cellsOf 31 = 3 := by kernel_rfl
theorem cells33 : Try.prog.cellsOf 33 = 2 := by kernel_rfl
theorem cells35 : Try.prog.cellsOf 35 = 8 := by kernel_rfl
theorem cell_lt {w : World} {a : Addr} {v : Value} (h : w.cell? a = some v) : a.block < w.heap.size := by
  rcases Nat.lt_or_ge a.block w.heap.size with h' | h'
  · exact h'
  · have e := Array.getElem?_eq_none h'
    simp [World.cell?, e] at h
/-- A number of the machine. -/
abbrev I64 (n : Int) : Prop := -9223372036854775808 ≤ n ∧ n ≤ 9223372036854775807
/-- A call. -/
structure Oc where
  kind : Int
  key : ByteArray
  v : Ve
  x : ByteArray
  y : ByteArray
  t : Int
abbrev ocV (o : Oc) : Value := .agg #[.int .i64 o.kind, .string o.key, .int .i64 o.v.ts, .string o.v.val, .bool o.v.dead, .string o.x, .string o.y, .int .i64 o.t]
abbrev ocL (o : Oc) : List Value := [.int .i64 o.kind, .string o.key, .int .i64 o.v.ts, .string o.v.val, .bool o.v.dead, .string o.x, .string o.y, .int .i64 o.t]
structure Oc.Sz (o : Oc) : Prop where
  key : o.key.size ≤ maxLen
  x : o.x.size ≤ maxLen
  y : o.y.size ≤ maxLen
section
variable {H : Type} {enc : TypeId × Value → H} {W : World} {fuel : Nat} {cs : List Value} {x : DataW H × List MemPlace}
theorem reach_max {n : Nat} (h : n ≤ reachBytes) : n ≤ maxLen := by
  have hR := reachBytes_lt
  unfold maxLen
  omega
set_option maxRecDepth 100000 in
theorem ve_trod (hl : cs.length = 3) (hf : DataW.trod enc Try.prog W 0 (fun _ => true) true fuel 31 cs = some x) : ∃ v : Ve, cs = [.int .i64 v.ts, .string v.val, .bool v.dead] := by
  obtain ⟨xs, k, hk, hxy, _, hxl, hfl⟩ := DataW.trod_struct Try.underlying31 hf
  match xs, hxl, cs, hl with
  | [y0, y1, y2], _, [v0, v1, v2], _ =>
    have g0 := hfl 0 _ rfl
    have g1 := hfl 1 _ rfl
    have g2 := hfl 2 _ rfl
    simp [cells3, cells9, cells4] at g0 g1 g2
    obtain ⟨k0, f0, _, b0⟩ := DataW.trod_int Try.underlying3 g0
    obtain ⟨s, f1, _, _⟩ := DataW.trod_string Try.underlying9 g1
    obtain ⟨k2, f2, _⟩ := DataW.trod_bool Try.underlying4 g2
    simp at f0 f1 f2
    subst f0 f1 f2
    exact ⟨⟨k0, s, k2⟩, rfl⟩
set_option maxRecDepth 100000 in
theorem span_trod (hl : cs.length = 2) (hf : DataW.trod enc Try.prog W 0 (fun _ => true) true fuel 33 cs = some x) : ∃ s u : ByteArray, cs = [.string s, .string u] ∧ ((∀ n ∈ DataW.weights Try.prog 33 x.1, n ≤ reachBytes) → s.size ≤ maxLen ∧ u.size ≤ maxLen) := by
  obtain ⟨xs, k, hk, hxy, _, hxl, hfl⟩ := DataW.trod_struct Try.underlying33 hf
  match xs, hxl, cs, hl with
  | [y0, y1], _, [v0, v1], _ =>
    have g0 := hfl 0 _ rfl
    have g1 := hfl 1 _ rfl
    simp [cells9] at g0 g1
    obtain ⟨s, f0, e0, _⟩ := DataW.trod_string Try.underlying9 g0
    obtain ⟨u, f1, e1, _⟩ := DataW.trod_string Try.underlying9 g1
    simp at f0 f1
    subst f0 f1
    refine ⟨s, u, rfl, fun h => ?_⟩
    have e0' : y0.1 = _ := congrArg Prod.fst e0
    have e1' : y1.1 = _ := congrArg Prod.fst e1
    have hx : x.1 = .agg [y0.1, y1.1] := by rw [hxy]; rfl
    rw [hx] at h
    have h1 := h s.data.toList.length (by
      simp only [DataW.weights, Try.underlying33, DataW.weightsEach, List.map_cons, List.mem_append]
      rw [e0']
      simp [DataW.weights])
    have h2 := h u.data.toList.length (by
      simp only [DataW.weights, Try.underlying33, DataW.weightsEach, List.map_cons, List.mem_append]
      rw [e1']
      simp [DataW.weights])
    rw [Array.length_toList] at h1 h2
    exact ⟨reach_max h1, reach_max h2⟩
set_option maxRecDepth 100000 in
theorem oc_trod (hl : cs.length = 8) (hf : DataW.trod enc Try.prog W 0 (fun _ => true) true fuel 35 cs = some x) : ∃ o : Oc, cs = ocL o ∧ ((∀ n ∈ DataW.weights Try.prog 35 x.1, n ≤ reachBytes) → o.Sz) := by
  obtain ⟨xs, k, hk, hxy, _, hxl, hfl⟩ := DataW.trod_struct Try.underlying35 hf
  match xs, hxl, cs, hl with
  | [y0, y1, y2, y3, y4], _, [v0, v1, v2, v3, v4, v5, v6, v7], _ =>
    have g0 := hfl 0 _ rfl
    have g1 := hfl 1 _ rfl
    have g2 := hfl 2 _ rfl
    have g3 := hfl 3 _ rfl
    have g4 := hfl 4 _ rfl
    simp [cells3, cells9, cells31, cells33] at g0 g1 g2 g3 g4
    obtain ⟨k0, f0, _, b0⟩ := DataW.trod_int Try.underlying3 g0
    obtain ⟨s, f1, e1, _⟩ := DataW.trod_string Try.underlying9 g1
    obtain ⟨v, f2⟩ := ve_trod rfl g2
    obtain ⟨p, q, f3, hz3⟩ := span_trod rfl g3
    obtain ⟨k4, f4, _, b4⟩ := DataW.trod_int Try.underlying3 g4
    simp at f0 f1 f2 f3 f4
    obtain ⟨rfl, rfl, rfl⟩ := f2
    obtain ⟨rfl, rfl⟩ := f3
    subst f0 f1 f4
    refine ⟨⟨k0, s, v, p, q, k4⟩, rfl, fun h => ?_⟩
    have e1' : y1.1 = _ := congrArg Prod.fst e1
    have hx : x.1 = .agg [y0.1, y1.1, y2.1, y3.1, y4.1] := by rw [hxy]; rfl
    rw [hx] at h
    have h1 := h s.data.toList.length (by
      simp only [DataW.weights, Try.underlying35, DataW.weightsEach, List.map_cons, List.mem_append]
      rw [e1']
      simp [DataW.weights])
    rw [Array.length_toList] at h1
    have h3 := hz3 (fun n hn => h n (by
      simp only [DataW.weights, Try.underlying35, DataW.weightsEach, List.map_cons, List.mem_append]
      simp [hn]))
    exact ⟨reach_max h1, h3.1, h3.2⟩
theorem weights_all {P : Program} {e : TypeId} {n : Nat} {d : DataW H} : ∀ {l : List (DataW H)}, d ∈ l → n ∈ d.weights P e → n ∈ DataW.weightsAll P e l
  | [], h, _ => by cases h
  | a :: l, h, hn => by
    simp only [DataW.weightsAll, List.mem_append]
    rcases List.mem_cons.1 h with rfl | h
    · exact .inl hn
    · exact .inr (weights_all h hn)
end
/-- The calls L lie behind ad. -/
structure Lo (w : World) (L : List Oc) (ad : Option Addr) : Prop where
  at' : ∀ i (h : i < L.length), ∃ b o, ad = some ⟨b, o, none⟩ ∧ b < w.heap.size ∧ w.cell? ⟨b, o + i * 8, none⟩ = some (.int .i64 L[i].kind) ∧ w.cell? ⟨b, o + i * 8 + 1, none⟩ = some (.string L[i].key) ∧ w.cell? ⟨b, o + i * 8 + 2, none⟩ = some (.int .i64 L[i].v.ts) ∧ w.cell? ⟨b, o + i * 8 + 3, none⟩ = some (.string L[i].v.val) ∧ w.cell? ⟨b, o + i * 8 + 4, none⟩ = some (.bool L[i].v.dead) ∧ w.cell? ⟨b, o + i * 8 + 5, none⟩ = some (.string L[i].x) ∧ w.cell? ⟨b, o + i * 8 + 6, none⟩ = some (.string L[i].y) ∧ w.cell? ⟨b, o + i * 8 + 7, none⟩ = some (.int .i64 L[i].t)
  sz : ∀ p ∈ L, p.Sz
theorem Lo.on {w w' : World} {L : List Oc} {ad : Option Addr} (h : Lo w L ad) (hb : Below w.heap.size w w') : Lo w' L ad := by
  refine ⟨fun i hi => ?_, h.sz⟩
  obtain ⟨b, o, ha, hl, c0, c1, c2, c3, c4, c5, c6, c7⟩ := h.at' i hi
  have hc : ∀ o, w'.cell? ⟨b, o, none⟩ = w.cell? ⟨b, o, none⟩ := fun o => World.cell?_of_block (hb.block b hl)
  exact ⟨b, o, ha, Nat.lt_of_lt_of_le hl hb.size, by rw [hc]; exact c0, by rw [hc]; exact c1, by rw [hc]; exact c2, by rw [hc]; exact c3, by rw [hc]; exact c4, by rw [hc]; exact c5, by rw [hc]; exact c6, by rw [hc]; exact c7⟩
section
variable {H : Type} {enc : TypeId × Value → H}
set_option maxRecDepth 100000 in
theorem open_oc {W : World} {base : Nat} {v : Value} {d : DataW H} {p : List MemPlace} (hv : Value.okWide Try.prog W .any base 35 v) (h : DataW.Trod enc Try.prog W 0 (fun _ => true) true 35 v d p) :
    ∃ o : Oc, v = ocV o ∧ ((∀ n ∈ DataW.weights Try.prog 35 d, n ≤ reachBytes) → o.Sz) := by
  obtain ⟨cs, rfl, hsz⟩ := okWide_struct Try.underlying35 hv
  obtain ⟨fuel, hf⟩ := h
  obtain ⟨l⟩ := cs
  have hl : l.length = 8 := hsz.trans cells35
  obtain ⟨o, e, hz⟩ := oc_trod (cs := l) hl hf
  subst e
  exact ⟨o, rfl, hz⟩
set_option maxRecDepth 100000 in
theorem open_span {W : World} {base : Nat} {v : Value} {d : DataW H} {p : List MemPlace} (hv : Value.okWide Try.prog W .any base 33 v) (h : DataW.Trod enc Try.prog W 0 (fun _ => true) true 33 v d p) :
    ∃ s u : ByteArray, v = .agg #[.string s, .string u] ∧ ((∀ n ∈ DataW.weights Try.prog 33 d, n ≤ reachBytes) → s.size ≤ maxLen ∧ u.size ≤ maxLen) := by
  obtain ⟨cs, rfl, hsz⟩ := okWide_struct Try.underlying33 hv
  obtain ⟨fuel, hf⟩ := h
  obtain ⟨l⟩ := cs
  have hl : l.length = 2 := hsz.trans cells33
  obtain ⟨s, u, e, hz⟩ := span_trod (cs := l) hl hf
  subst e
  exact ⟨s, u, rfl, hz⟩
set_option maxRecDepth 100000 in
set_option maxHeartbeats 1000000 in
theorem open_ocs {W : World} {base : Nat} {v : Value} {d : DataW H} {p : List MemPlace} (hv : Value.okWide Try.prog W .any base 22 v) (h : DataW.Trod enc Try.prog W 0 (fun _ => true) true 22 v d p) (hz : ∀ n ∈ DataW.weights Try.prog 22 d, n ≤ reachBytes) :
    ∃ (L : List Oc) (ad : Option Addr) (cap : Nat), v = .slice ad L.length cap ∧ Lo W L ad ∧ L.length ≤ cap ∧ cap ≤ maxLen := by
  obtain ⟨a0, len, cap, rfl⟩ := okWide_slice Try.underlying22 hv
  obtain ⟨fuel, hf⟩ := h
  rcases open_slice Try.underlying22 hf with ⟨hcs, hx⟩ | ⟨a, len', cap', m, n, D, Pl, hcs, _, hl, hm, hmm, hx, hel⟩
  · simp [Value.cells] at hcs
    obtain ⟨rfl, rfl, rfl⟩ := hcs
    exact ⟨[], none, 0, rfl, ⟨fun i hi => by simp at hi, fun p hp => by simp at hp⟩, Nat.le_refl _, Nat.zero_le _⟩
  · simp [Value.cells] at hcs
    obtain ⟨rfl, rfl, rfl⟩ := hcs
    simp only [if_true] at hmm
    subst hmm
    have hd : d = _ := congrArg Prod.fst hx
    have hwt : ∀ i, i < len → ∀ n ∈ DataW.weights Try.prog 35 (D i), n ≤ reachBytes := by
      intro i hi n hn
      apply hz
      rw [hd]
      simp only [DataW.weights, Try.underlying22, List.mem_cons, List.mem_append]
      exact .inr (.inl (weights_all (List.mem_map.2 ⟨i, List.mem_range.2 hi, rfl⟩) hn))
    have each : ∀ i, i < len → ∃ q : Oc, W.cell? (a.add (i * 8)) = some (.int .i64 q.kind) ∧ W.cell? (a.add (i * 8 + 1)) = some (.string q.key) ∧ W.cell? (a.add (i * 8 + 2)) = some (.int .i64 q.v.ts) ∧ W.cell? (a.add (i * 8 + 3)) = some (.string q.v.val) ∧ W.cell? (a.add (i * 8 + 4)) = some (.bool q.v.dead) ∧ W.cell? (a.add (i * 8 + 5)) = some (.string q.x) ∧ W.cell? (a.add (i * 8 + 6)) = some (.string q.y) ∧ W.cell? (a.add (i * 8 + 7)) = some (.int .i64 q.t) ∧ q.Sz := by
      intro i hi
      obtain ⟨cs', h1, h2⟩ := hel i (by omega)
      rw [cells35] at h1
      obtain ⟨_, hlen, hcell⟩ := World.cells?_some h1
      obtain ⟨o, rfl, hS⟩ := oc_trod hlen h2
      have z0 := hcell 0 (by simp)
      have z1 := hcell 1 (by simp)
      have z2 := hcell 2 (by simp)
      have z3 := hcell 3 (by simp)
      have z4 := hcell 4 (by simp)
      have z5 := hcell 5 (by simp)
      have z6 := hcell 6 (by simp)
      have z7 := hcell 7 (by simp)
      rw [add_add] at z0 z1 z2 z3 z4 z5 z6 z7
      exact ⟨o, z0, z1, z2, z3, z4, z5, z6, z7, hS (hwt i hi)⟩
    have hinh : Inhabited Oc := ⟨⟨0, noT, ⟨0, noT, false⟩, noT, noT, 0⟩⟩
    obtain ⟨q, hq⟩ := choose_lt each
    have hlen : ((List.range len).map q).length = len := by simp
    refine ⟨(List.range len).map q, some a, m, by rw [hlen], ⟨fun i hi => ?_, fun v hv => ?_⟩, by rw [hlen]; exact hl, hm⟩
    · rw [hlen] at hi
      obtain ⟨c0, c1, c2, c3, c4, c5, c6, c7, _⟩ := hq i hi
      obtain ⟨b, o, sp⟩ := a
      have hsp : sp = none := by
        have := World.cell?_spot (hq 0 (by omega)).1
        simpa [Addr.add] using this
      subst hsp
      rw [add_at] at c0 c1 c2 c3 c4 c5 c6 c7
      have e : ((List.range len).map q)[i]'(by rw [hlen]; exact hi) = q i := by simp
      rw [e]
      exact ⟨b, o, rfl, cell_lt c0, c0, (by rw [Nat.add_assoc]; exact c1), (by rw [Nat.add_assoc]; exact c2), (by rw [Nat.add_assoc]; exact c3), (by rw [Nat.add_assoc]; exact c4), (by rw [Nat.add_assoc]; exact c5), (by rw [Nat.add_assoc]; exact c6), (by rw [Nat.add_assoc]; exact c7)⟩
    · obtain ⟨i, hi, rfl⟩ := List.mem_map.1 hv
      exact (hq i (List.mem_range.1 hi)).2.2.2.2.2.2.2.2
end
section
variable {H : Type} {enc : TypeId × Value → H}
theorem again_oc {W W' : World} {v : Value} {d : DataW H} {p : List MemPlace} (h : DataW.Trod enc Try.prog W 0 (fun _ => true) true 35 v d p) (hb : Below W.heap.size W W') (hlt : ∀ x ∈ p, x.block < W.heap.size) : DataW.Trod enc Try.prog W' 0 (fun b => decide (b < W.heap.size)) true 35 v d p :=
  Below.trod laidOut (by kernel_rfl) (of_decide_eq_true (by kernel_rfl)) h hb hlt
theorem again_ocs {W W' : World} {v : Value} {d : DataW H} {p : List MemPlace} (h : DataW.Trod enc Try.prog W 0 (fun _ => true) true 22 v d p) (hb : Below W.heap.size W W') (hlt : ∀ x ∈ p, x.block < W.heap.size) : DataW.Trod enc Try.prog W' 0 (fun b => decide (b < W.heap.size)) true 22 v d p :=
  Below.trod laidOut (by kernel_rfl) (of_decide_eq_true (by kernel_rfl)) h hb hlt
theorem again_span {W W' : World} {v : Value} {d : DataW H} {p : List MemPlace} (h : DataW.Trod enc Try.prog W 0 (fun _ => true) true 33 v d p) (hb : Below W.heap.size W W') (hlt : ∀ x ∈ p, x.block < W.heap.size) : DataW.Trod enc Try.prog W' 0 (fun b => decide (b < W.heap.size)) true 33 v d p :=
  Below.trod laidOut (by kernel_rfl) (of_decide_eq_true (by kernel_rfl)) h hb hlt
theorem again_int {W W' : World} {v : Value} {d : DataW H} {p : List MemPlace} (h : DataW.Trod enc Try.prog W 0 (fun _ => true) true 3 v d p) (hb : Below W.heap.size W W') (hlt : ∀ x ∈ p, x.block < W.heap.size) : DataW.Trod enc Try.prog W' 0 (fun b => decide (b < W.heap.size)) true 3 v d p :=
  Below.trod laidOut (by kernel_rfl) (of_decide_eq_true (by kernel_rfl)) h hb hlt
theorem again_string {W W' : World} {v : Value} {d : DataW H} {p : List MemPlace} (h : DataW.Trod enc Try.prog W 0 (fun _ => true) true 9 v d p) (hb : Below W.heap.size W W') (hlt : ∀ x ∈ p, x.block < W.heap.size) : DataW.Trod enc Try.prog W' 0 (fun b => decide (b < W.heap.size)) true 9 v d p :=
  Below.trod laidOut (by kernel_rfl) (of_decide_eq_true (by kernel_rfl)) h hb hlt
end
section
variable {w : World}
set_option maxHeartbeats 2000000 in
set_option maxRecDepth 100000 in
theorem nil_law (o : Oc) : Calls Try.prog 7 #[ocV o] w fun e w' => e = .returned (.bool true) ∧ Below w.heap.size w w' := by
  obtain ⟨W, hW⟩ : ∃ W, W = w.alloc (.cells #[.int .i64 o.kind, .string o.key, .int .i64 o.v.ts, .string o.v.val, .bool o.v.dead, .string o.x, .string o.y, .int .i64 o.t] 35) := ⟨_, rfl⟩
  have hb : Below w.heap.size w W := by rw [hW]; exact (Below.refl _ w).alloc (Nat.le_refl _) _
  obtain ⟨Y, hY⟩ : ∃ Y, w.heap.size = Y := ⟨_, rfl⟩
  have jY : W.heap[Y]? = some (.cells #[.int .i64 o.kind, .string o.key, .int .i64 o.v.ts, .string o.v.val, .bool o.v.dead, .string o.x, .string o.y, .int .i64 o.t] 35 (0, 0)) := by rw [hW, ← hY]; exact heap_alloc_new w _
  have HW := Lib.hid hW
  have HYY := Lib.hid hY
  have HB := Lib.hid hb
  have HJ := Lib.hid jY
  clear hW hY hb jY
  go_enter Try.func7, Try.ntmps7
  go_upto_region 1 with fail
  rw [← HW.out, HYY.out]
  go_wp2_with fail
  refine (awake_any W).mono ?_
  rintro e w1 ⟨rfl, b1⟩
  have j1 := (b1.block Y (blk_lt HJ.out)).trans HJ.out
  have c1 : w1.cell? ⟨Y, 1, none⟩ = some (.string o.key) := cell_blk j1 1
  have c2 : w1.cell? ⟨Y, 2, none⟩ = some (.int .i64 o.v.ts) := cell_blk j1 2
  have c3 : w1.cell? ⟨Y, 3, none⟩ = some (.string o.v.val) := cell_blk j1 3
  have c4 : w1.cell? ⟨Y, 4, none⟩ = some (.bool o.v.dead) := cell_blk j1 4
  go_wp2_with fail
  refine (put_nil w1 o.key o.v).mono ?_
  rintro e w2 ⟨rfl, b2⟩
  have j2 := (b2.block Y (blk_lt j1)).trans j1
  have d5 : w2.cell? ⟨Y, 5, none⟩ = some (.string o.x) := cell_blk j2 5
  have d6 : w2.cell? ⟨Y, 6, none⟩ = some (.string o.y) := cell_blk j2 6
  have d7 : w2.cell? ⟨Y, 7, none⟩ = some (.int .i64 o.t) := cell_blk j2 7
  clear c1 c2 c3 c4
  go_wp2_with fail
  refine (span_nil w2 o.x o.y o.t).mono ?_
  rintro e w3 ⟨rfl, b3⟩
  have j3 := (b3.block Y (blk_lt j2)).trans j2
  have e1 : w3.cell? ⟨Y, 1, none⟩ = some (.string o.key) := cell_blk j3 1
  clear d5 d6 d7
  go_wp2_with fail
  refine (newest_nil w3 o.key).mono ?_
  rintro e w4 ⟨rfl, rfl⟩
  go_wp2_with fail
  refine (rows_nil w4).mono ?_
  rintro e w5 ⟨rfl, rfl⟩
  have b12 := HB.out.trans (b1.mono HB.out.size)
  have b13 := b12.trans (b2.mono b12.size)
  have b14 := b13.trans (b3.mono b13.size)
  have HB4 := Lib.hid b14
  clear b1 b2 b3 b12 b13 b14 j1 j2 j3 e1
  go_wp2
  go_ret
  exact ⟨rfl, HB4.out⟩
end
end Go.Proofs.Ythjnfkgheihgkaa
