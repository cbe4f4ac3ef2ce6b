/- A list of calls as an argument, opened; how much it holds. -/
import Derived.Test.YtoipmpaebngppaaEk
import Derived.Test.YtoipmpaebngppaaPa
namespace Go.Proofs.Ytoipmpaebngppaa
open Go.ChangeShapes Go.WideShapes Go.ChangeAt Go.WideMaps Go.WideElems Go.RowKit Go.Joins Go.Deep

theorem cells41 : Try.prog.cellsOf 41 = 4 := by kernel_rfl
theorem cells32 : Try.prog.cellsOf 32 = 1 := by kernel_rfl
theorem cells39 : Try.prog.cellsOf 39 = 1 := by kernel_rfl
theorem textSum_szT : ∀ l : List ByteArray, szT l = textSum l
  | [] => rfl
  | s :: l => by
    have h := textSum_szT l
    have e : szT (s :: l) = (1 + s.size) + szT l := by simp [szT]
    rw [e, h, textSum]
theorem szL_bulk {H : Type} {q : Nat → O} {D : Nat → DataW H} : ∀ l : List Nat, (∀ i ∈ l, szO (q i) ≤ Rows.uptoBulk (D i)) → szL (l.map q) ≤ Rows.uptoBulkAll (l.map D)
  | [], _ => Nat.zero_le _
  | i :: l, h => by
    have h1 := szL_bulk l (fun j hj => h j (List.mem_cons_of_mem _ hj))
    have h2 := h i List.mem_cons_self
    have e : szL ((i :: l).map q) = szO (q i) + szL (l.map q) := by simp [szL]
    rw [e, List.map_cons, Rows.uptoBulkAll]
    omega

set_option maxRecDepth 100000 in
theorem open_ops {H : Type} {enc : TypeId × Value → H} {W : World} {base : Nat} {v : Value} {d : DataW H} {p : List MemPlace} (hv : Value.okWide Try.prog W .any base 22 v) (h : DataW.Trod enc Try.prog W 0 (fun _ => true) true 22 v d p) :
    ∃ (L : List O) (ad : Option Addr) (cap : Nat), v = .slice ad L.length cap ∧ Li L ad W ∧ (∀ x ∈ L, -9223372036854775808 ≤ x.n ∧ x.n ≤ 9223372036854775807) ∧ szL L ≤ Rows.uptoBulk d ∧ L.length ≤ Rows.uptoBulk d := by
  obtain ⟨a0, len, cap, rfl⟩ := okWide_slice Try.underlying22 hv
  obtain ⟨fuel, hf⟩ := h
  rcases open_slice Try.underlying22 hf with ⟨hcs, hx⟩ | ⟨a, len', cap', m, n, D, Pl, hcs, _, hl, hm, hmm, hx, hel⟩
  · simp [Value.cells] at hcs
    obtain ⟨rfl, rfl, rfl⟩ := hcs
    exact ⟨[], none, 0, rfl, ⟨fun i hi => by simp at hi, fun i hi => by simp at hi, fun i hi => by simp at hi⟩, fun v hv => by simp at hv, Nat.zero_le _, Nat.zero_le _⟩
  · simp [Value.cells] at hcs
    obtain ⟨rfl, rfl, rfl⟩ := hcs
    simp only [if_true] at hmm
    subst hmm
    simp only [Prod.mk.injEq] at hx
    obtain ⟨hx, _⟩ := hx
    subst hx
    have each : ∀ i, i < len → ∃ q : O, W.cell? (a.add (i * 4)) = some (.int .i64 q.kind) ∧ W.cell? (a.add (i * 4 + 1)) = some (.slice q.lad q.list.length q.lc) ∧ W.cell? (a.add (i * 4 + 2)) = some (.int .i64 q.n) ∧ W.cell? (a.add (i * 4 + 3)) = some (.slice q.kad q.keep.length q.kc) ∧
        Ls q.list q.lad W ∧ Ints W (.slice q.kad q.keep.length q.kc) q.keep ∧ (-9223372036854775808 ≤ q.n ∧ q.n ≤ 9223372036854775807) ∧ szO q ≤ Rows.uptoBulk (D i) := by
      intro i hi
      obtain ⟨cs', h1, h2⟩ := hel i (by omega)
      rw [cells41] at h1
      obtain ⟨_, hlen, hcell⟩ := World.cells?_some h1
      obtain ⟨xs, k, hk, hxy, _, hxl, hfl⟩ := DataW.trod_struct Try.underlying41 h2
      match xs, hxl, cs', hlen with
      | [y0, y1, y2, y3], _, [v0, v1, v2, v3], _ =>
        have g0 := hfl 0 _ rfl
        have g1 := hfl 1 _ rfl
        have g2 := hfl 2 _ rfl
        have g3 := hfl 3 _ rfl
        simp [cells3, cells32, cells39] at g0 g1 g2 g3
        have e0 := hcell 0 (by omega)
        have e1 := hcell 1 (by omega)
        have e2 := hcell 2 (by omega)
        have e3 := hcell 3 (by omega)
        rw [add_add] at e0 e1 e2 e3
        obtain ⟨kk, f0, _, _⟩ := DataW.trod_int Try.underlying3 g0
        obtain ⟨ss, lad, lc, f1, hS, hsz⟩ := strs_trod g1
        obtain ⟨mm, f2, _, wm⟩ := DataW.trod_int Try.underlying3 g2
        obtain ⟨ks, kad, kc, f3, hI, hkc, hd3⟩ := ints_trod g3
        simp at f0 f1 f2 f3 e0 e1 e2 e3
        subst f0 f1 f2 f3
        have hD : D i = .agg [y0.1, y1.1, y2.1, y3.1] := by
          have := congrArg (fun x => x.1) hxy
          simpa using this
        have hkl : ks.length ≤ Rows.uptoBulk y3.1 := by
          rcases hd3 with ⟨_, hc⟩ | ⟨elems, spare, he, hc⟩
          · omega
          · rw [he]
            have := bulk_slice elems spare
            omega
        refine ⟨⟨kk, lad, lc, ss, mm, kad, kc, ks⟩, e0, e1, e2, e3, hS, hI, bounds_i64 wm, ?_⟩
        rw [hD]
        show 1 + ks.length + szT ss ≤ _
        rw [textSum_szT]
        simp only [Rows.uptoBulk, Rows.uptoBulkAll]
        omega
    have hinh : Inhabited O := ⟨⟨0, none, 0, [], 0, none, 0, []⟩⟩
    obtain ⟨q, hq⟩ := choose_lt each
    have hlen : ((List.range len).map q).length = len := by simp
    have hmem : ∀ v ∈ (List.range len).map q, ∃ i, i < len ∧ v = q i := by
      intro v hv
      obtain ⟨i, hi, rfl⟩ := List.mem_map.1 hv
      exact ⟨i, List.mem_range.1 hi, rfl⟩
    refine ⟨(List.range len).map q, some a, m, by rw [hlen], ⟨fun i hi => ?_, fun i hi => ?_, fun i hi => ?_⟩, fun v hv => ?_, ?_, ?_⟩
    · rw [hlen] at hi
      obtain ⟨c0, c1, c2, c3, _⟩ := hq i hi
      obtain ⟨b, o, sp⟩ := a
      have hsp : sp = none := by
        have := World.cell?_spot (hq 0 (by omega)).1
        simpa [Addr.add] using this
      subst hsp
      have e : ∀ j, (⟨b, o, none⟩ : Addr).add j = ⟨b, o + j, none⟩ := fun j => by unfold Addr.add; split <;> simp_all
      rw [e] at c0 c1 c2 c3
      refine ⟨b, o, rfl, cell_lt c0, ?_, ?_, ?_, ?_⟩
      · simpa using c0
      · simpa [Nat.add_assoc] using c1
      · simpa [Nat.add_assoc] using c2
      · simpa [Nat.add_assoc] using c3
    · rw [hlen] at hi
      have := (hq i hi).2.2.2.2.1
      simpa using this
    · rw [hlen] at hi
      have := (hq i hi).2.2.2.2.2.1
      simpa using this
    · obtain ⟨i, hi, rfl⟩ := hmem v hv
      exact (hq i hi).2.2.2.2.2.2.1
    · have h1 := szL_bulk (q := q) (D := D) (List.range len) (fun i hi => (hq i (List.mem_range.1 hi)).2.2.2.2.2.2.2)
      simp only [Rows.uptoBulk]
      omega
    · have h1 := bulk_slice ((List.range len).map D) ((List.range (m - len)).map fun j => D (len + j))
      rw [hlen]
      simp only [List.length_map, List.length_range] at h1
      omega
end Go.Proofs.Ytoipmpaebngppaa
