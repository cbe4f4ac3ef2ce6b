/- A list of calls as an argument, opened. -/
import Derived.Test.YtphpadgmhanabaaOa
import Derived.Test.YtphpadgmhanabaaPa
namespace Go.Proofs.Ytphpadgmhanabaa
open Go.ChangeShapes Go.WideShapes Go.ChangeAt Go.WideMaps Go.WideElems Go.RowKit Go.Joins Go.Deep

theorem cells33 : Try.prog.cellsOf 33 = 5 := by kernel_rfl
theorem cells9 : Try.prog.cellsOf 9 = 1 := by kernel_rfl
theorem cells31 : Try.prog.cellsOf 31 = 1 := by kernel_rfl
theorem bytes33 : Try.prog.bytesOf 33 = 72 := by kernel_rfl
theorem weights_all {H : Type} {P : Program} {e : TypeId} {d : DataW H} {x : Nat} : ∀ {l : List (DataW H)}, d ∈ l → x ∈ d.weights P e → x ∈ DataW.weightsAll P e l := by
  intro l
  induction l with
  | nil => intro h; cases h
  | cons a l ih =>
    intro h hx
    simp only [DataW.weightsAll, List.mem_append]
    rcases List.mem_cons.1 h with rfl | h
    · exact .inl hx
    · exact .inr (ih h hx)

set_option maxRecDepth 100000 in
theorem open_ops {H : Type} {enc : TypeId × Value → H} {W : World} {base : Nat} {v : Value} {d : DataW H} {p : List MemPlace} (hv : Value.okWide Try.prog W .any base 22 v) (h : DataW.Trod enc Try.prog W 0 (fun _ => true) true 22 v d p) (hw : ∀ x ∈ DataW.weights Try.prog 22 d, x ≤ reachBytes) :
    ∃ (L : List O) (ad : Option Addr) (cap : Nat), v = .slice ad L.length cap ∧ Li L ad W ∧ Fits L := by
  obtain ⟨a0, len, cap, rfl⟩ := okWide_slice Try.underlying22 hv
  obtain ⟨fuel, hf⟩ := h
  rcases open_slice Try.underlying22 hf with ⟨hcs, hx⟩ | ⟨a, len', cap', m, n, D, Pl, hcs, _, hl, hm, hmm, hx, hel⟩
  · simp [Value.cells] at hcs
    obtain ⟨rfl, rfl, rfl⟩ := hcs
    exact ⟨[], none, 0, rfl, ⟨fun i hi => by simp at hi, fun i hi => by simp at hi⟩, ⟨by simp, fun v hv => by simp at hv, fun v hv => by simp at hv, fun v hv => by simp at hv, fun v hv => by simp at hv⟩⟩
  · simp [Value.cells] at hcs
    obtain ⟨rfl, rfl, rfl⟩ := hcs
    simp only [if_true] at hmm
    subst hmm
    simp only [Prod.mk.injEq] at hx
    obtain ⟨hx, _⟩ := hx
    subst hx
    have hw0 := hw (((List.range len).map D).length + ((List.range (m - len)).map fun j => D (len + j)).length |>.mul (Try.prog.bytesOf 33)) (by simp only [DataW.weights, Try.underlying22]; exact List.mem_cons_self ..)
    have hwi : ∀ i, i < len → ∀ x ∈ (D i).weights Try.prog 33, x ≤ reachBytes := by
      intro i hi x hx
      refine hw x ?_
      simp only [DataW.weights, Try.underlying22]
      refine List.mem_cons_of_mem _ (List.mem_append.2 (.inl (weights_all (d := D i) (List.mem_map.2 ⟨i, List.mem_range.2 hi, rfl⟩) hx)))
    have each : ∀ i, i < len → ∃ q : O, W.cell? (a.add (i * 5)) = some (.int .i64 q.kind) ∧ W.cell? (a.add (i * 5 + 1)) = some (.string q.name) ∧ W.cell? (a.add (i * 5 + 2)) = some (.string q.data) ∧ W.cell? (a.add (i * 5 + 3)) = some (.int .i64 q.n) ∧ W.cell? (a.add (i * 5 + 4)) = some (.slice q.kad q.keep.length q.kc) ∧
        Ints W (.slice q.kad q.keep.length q.kc) q.keep ∧ q.name.size ≤ 140737488355328 ∧ q.data.size ≤ 140737488355328 ∧ q.keep.length ≤ 140737488355328 ∧ (-9223372036854775808 ≤ q.n ∧ q.n ≤ 9223372036854775807) := by
      intro i hi
      obtain ⟨cs', h1, h2⟩ := hel i (by omega)
      rw [cells33] at h1
      obtain ⟨_, hlen, hcell⟩ := World.cells?_some h1
      obtain ⟨xs, k, hk, hxy, _, hxl, hfl⟩ := DataW.trod_struct Try.underlying33 h2
      match xs, hxl, cs', hlen with
      | [y0, y1, y2, y3, y4], _, [v0, v1, v2, v3, v4], _ =>
        have g0 := hfl 0 _ rfl
        have g1 := hfl 1 _ rfl
        have g2 := hfl 2 _ rfl
        have g3 := hfl 3 _ rfl
        have g4 := hfl 4 _ rfl
        simp [cells3, cells9, cells31] at g0 g1 g2 g3 g4
        have e0 := hcell 0 (by omega)
        have e1 := hcell 1 (by omega)
        have e2 := hcell 2 (by omega)
        have e3 := hcell 3 (by omega)
        have e4 := hcell 4 (by omega)
        rw [add_add] at e0 e1 e2 e3 e4
        obtain ⟨kk, f0, _, _⟩ := DataW.trod_int Try.underlying3 g0
        obtain ⟨nn, f1, z1, _⟩ := DataW.trod_string Try.underlying9 g1
        obtain ⟨dd, f2, z2, _⟩ := DataW.trod_string Try.underlying9 g2
        obtain ⟨mm, f3, _, wm⟩ := DataW.trod_int Try.underlying3 g3
        obtain ⟨ks, kad, kc, f4, hI, hkc, hd4⟩ := ints_trod g4
        simp at f0 f1 f2 f3 f4 e0 e1 e2 e3 e4
        subst f0 f1 f2 f3 f4
        have hD : D i = .agg [y0.1, y1.1, y2.1, y3.1, y4.1] := by
          have := congrArg (fun x => x.1) hxy
          simpa using this
        have hwD := hwi i hi
        rw [hD] at hwD
        simp only [DataW.weights, Try.underlying33] at hwD
        have s1 := hwD nn.data.toList.length (DataW.weights_mem_each (j := 1) (t := 9) (d := y1.1) rfl rfl _ (by rw [z1]; simp [DataW.weights]))
        have s2 := hwD dd.data.toList.length (DataW.weights_mem_each (j := 2) (t := 9) (d := y2.1) rfl rfl _ (by rw [z2]; simp [DataW.weights]))
        have s4 : ks.length ≤ 140737488355328 := by
          rcases hd4 with ⟨_, hc⟩ | ⟨elems, spare, he, hc⟩
          · omega
          · have := hwD ((elems.length + spare.length) * Try.prog.bytesOf 3) (DataW.weights_mem_each (j := 4) (t := 31) (d := y4.1) rfl rfl _ (by rw [he]; simp [DataW.weights, Try.underlying31]))
            rw [bytes3] at this
            simp only [reachBytes] at this
            omega
        rw [len_size] at s1 s2
        simp only [reachBytes] at s1 s2
        exact ⟨⟨kk, nn, dd, mm, kad, kc, ks⟩, e0, e1, e2, e3, e4, hI, by show nn.size ≤ _; omega, by show dd.size ≤ _; omega, s4, bounds_i64 wm⟩
    have hinh : Inhabited O := ⟨⟨0, ⟨#[]⟩, ⟨#[]⟩, 0, none, 0, []⟩⟩
    obtain ⟨q, hq⟩ := choose_lt each
    have hlen : ((List.range len).map q).length = len := by simp
    have hmem : ∀ v ∈ (List.range len).map q, ∃ i, i < len ∧ v = q i := by
      intro v hv
      obtain ⟨i, hi, rfl⟩ := List.mem_map.1 hv
      exact ⟨i, List.mem_range.1 hi, rfl⟩
    refine ⟨(List.range len).map q, some a, m, by rw [hlen], ⟨fun i hi => ?_, fun i hi => ?_⟩, ⟨?_, fun v hv => ?_, fun v hv => ?_, fun v hv => ?_, fun v hv => ?_⟩⟩
    · rw [hlen] at hi
      obtain ⟨c0, c1, c2, c3, c4, _⟩ := hq i hi
      obtain ⟨b, o, sp⟩ := a
      have hsp : sp = none := by
        have := World.cell?_spot (hq 0 (by omega)).1
        simpa [Addr.add] using this
      subst hsp
      have e : ∀ j, (⟨b, o, none⟩ : Addr).add j = ⟨b, o + j, none⟩ := fun j => by unfold Addr.add; split <;> simp_all
      rw [e] at c0 c1 c2 c3 c4
      refine ⟨b, o, rfl, cell_lt c0, ?_, ?_, ?_, ?_, ?_⟩
      · simpa using c0
      · simpa [Nat.add_assoc] using c1
      · simpa [Nat.add_assoc] using c2
      · simpa [Nat.add_assoc] using c3
      · simpa [Nat.add_assoc] using c4
    · rw [hlen] at hi
      have := (hq i hi).2.2.2.2.2.1
      simpa using this
    · rw [hlen]
      simp only [List.length_map, List.length_range, Nat.mul_eq] at hw0
      rw [bytes33] at hw0
      simp only [reachBytes] at hw0
      omega
    · obtain ⟨i, hi, rfl⟩ := hmem v hv
      exact (hq i hi).2.2.2.2.2.2.1
    · obtain ⟨i, hi, rfl⟩ := hmem v hv
      exact (hq i hi).2.2.2.2.2.2.2.1
    · obtain ⟨i, hi, rfl⟩ := hmem v hv
      exact (hq i hi).2.2.2.2.2.2.2.2.1
    · obtain ⟨i, hi, rfl⟩ := hmem v hv
      exact (hq i hi).2.2.2.2.2.2.2.2.2
end Go.Proofs.Ytphpadgmhanabaa
