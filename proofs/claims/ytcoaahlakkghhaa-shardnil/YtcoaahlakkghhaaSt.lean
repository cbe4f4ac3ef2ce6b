/- The walk of slices.Delete at locks, for one lock. -/
import Derived.Test.YtcoaahlakkghhaaSr
namespace Go.Proofs.Ytcoaahlakkghhaa
open Go.RowKit
theorem append_none31 (w : World) (ad ad2 : Option Addr) (n cap cap2 : Nat) (hle : n ≤ cap) : (Builtin.append_ #[31, 31] 31 #[.slice ad n cap, .slice ad2 0 cap2]).run Try.prog w = .ok (.slice ad n cap) w := by
  obtain ⟨i0, hi, hz0, hz1, hz2⟩ := info_parts info_lk
  cases ad2 with
  | none => cases ad <;> simp [Builtin.append_, run_underlying Try.underlying31, sizeOf, typeInfo, hi, Builtin.lenOf, hle, Builtin.firstCells, storeCells]
  | some a =>
    have hfc := run_firstCells_some (P := Try.prog) w i0.size 0 a 0 cap2 [] (by simp) (fun j u hu => by simp at hu)
    cases ad <;> simp [Builtin.append_, run_underlying Try.underlying31, sizeOf, typeInfo, hi, Builtin.lenOf, hle, hfc, storeCells]
theorem wpl_clear {P : Program} {w w' : World} {ops : Array Oper} {rest : List Oper} {o : Oper} {a : Act} {Q : Exit → Act → World → Prop} {t ty : TypeId} {v' : Value} {ds : Option Tmp} {ps : String} {af : Array Edge} (s : Operand)
    (ho : o = ⟨ds, .call { callee := .builtin .clear, args := #[s], argTypes := #[t] }, ty, ps, af, none⟩) (hrun : (Builtin.clear_ #[t] ty #[a.eval s]).run P w = .ok v' w')
    (h : wpList P ops Q rest (a.put ds v') w') : wpList P ops Q (o :: rest) a w := by
  subst ho
  refine wpList_plain rfl fun K hK => ?_
  unfold Oper.wp execOp
  simp only [resolve, invoke, builtin, Sem.run_bind, Sem.run_pure, Result.andThen_ok, List.map_toArray, List.map_cons, List.map_nil, hrun]
  exact hK _ _ h
/-- An empty lock's cells. -/
def zL : List Value := (Builtin.zeroCells #[.int .i64 0, .int .i64 0, .int .i64 0, .int .i64 0, .int .i64 0, .slice none 0 0, .slice none 0 0] 1).toList
theorem zL_len : zL.length = 7 := by
  unfold zL
  rw [Array.length_toList, size_zeroCells]
  rfl
theorem zL_one : ∀ v ∈ zL, v.oneCell' = true := by
  intro v hv
  unfold zL Builtin.zeroCells at hv
  simp only [Array.toList_map, List.mem_map] at hv
  obtain ⟨i, _, rfl⟩ := hv
  have h4 : i % 7 < 7 := Nat.mod_lt _ (by decide)
  have : i % 7 = 0 ∨ i % 7 = 1 ∨ i % 7 = 2 ∨ i % 7 = 3 ∨ i % 7 = 4 ∨ i % 7 = 5 ∨ i % 7 = 6 := by omega
  show ((#[.int .i64 0, .int .i64 0, .int .i64 0, .int .i64 0, .int .i64 0, .slice none 0 0, .slice none 0 0] : Array Value)[i % 7]!).oneCell' = true
  rcases this with e | e | e | e | e | e | e <;> rw [e] <;> rfl
theorem clear_run31 {w : World} {g o cap : Nat} {cur : Array Value} (ty : TypeId) (hb : w.heap[g]? = some (.cells cur 68 (0, 0))) (hin : o + 7 ≤ cur.size) :
    (Builtin.clear_ #[31] ty #[.slice (some ⟨g, o, none⟩) 1 cap]).run Try.prog w = .ok (.tuple #[]) (w.setCells g o zL) := by
  obtain ⟨i0, hi, hz0, hz1, hz2⟩ := info_parts info_lk
  have hst := run_storeCells_cells (P := Try.prog) g o zL 0 w (fun j hj => by
    have hj' : j < 7 := by rw [← zL_len]; exact hj
    rw [cell_blk hb, Array.getElem?_eq_getElem (by omega)]
    rfl) (fun j _ => frozen_blk hb _) zL_one
  simp only [Nat.add_zero] at hst
  have hzc : (Builtin.zeroCells (Value.agg #[.int .i64 0, .int .i64 0, .int .i64 0, .int .i64 0, .int .i64 0, .slice none 0 0, .slice none 0 0]).cells 1).toList = zL := rfl
  simp [Builtin.clear_, run_underlying Try.underlying31, zeroValue, typeInfo, hi, hz0, hzc, hst]
section
variable {w w' : World} {G : List Gl} {g n cap i : Nat}
theorem own_take {e : TypeId} {c n i : Nat} {xs : List Value} (h : w.ownsRow 0 e c (.slice (some ⟨g, 0, none⟩) n cap) n xs) (hi : i ≤ n) : w.ownsRow 0 e c (.slice (some ⟨g, 0, none⟩) i cap) i (xs.take (i * c)) := by
  rcases h.2 with ⟨hv, _⟩ | ⟨g', cap', cur, hv, h0, hg, h1, h2, h3, h4⟩
  · cases hv
  · cases hv
    have hle : i * c ≤ n * c := Nat.mul_le_mul_right c hi
    refine ⟨by rw [List.length_take, h.1]; omega, .inr ⟨g, cap, cur, rfl, h0, hg, by omega, h2, h3, ?_⟩⟩
    rw [← h4, List.take_take, Nat.min_eq_left hle]
theorem fl_take {α : Type} {f : α → List Value} {c : Nat} (hc : ∀ x, (f x).length = c) (L : List α) (i : Nat) (hi : i ≤ L.length) : (L.flatMap f).take (i * c) = (L.take i).flatMap f := by
  have e : L.flatMap f = (L.take i).flatMap f ++ (L.drop i).flatMap f := by rw [← List.flatMap_append, List.take_append_drop]
  rw [e]
  have hl : ((L.take i).flatMap f).length = i * c := by rw [fl_len hc, List.length_take, Nat.min_eq_left hi]
  rw [← hl]
  exact List.take_left
theorem fl_drop {α : Type} {f : α → List Value} {c : Nat} (hc : ∀ x, (f x).length = c) (L : List α) (i : Nat) (hi : i ≤ L.length) (j : Nat) : ((L.drop i).flatMap f)[j]? = (L.flatMap f)[i * c + j]? := by
  have e : L.flatMap f = (L.take i).flatMap f ++ (L.drop i).flatMap f := by rw [← List.flatMap_append, List.take_append_drop]
  have hl : ((L.take i).flatMap f).length = i * c := by rw [fl_len hc, List.length_take, Nat.min_eq_left hi]
  rw [e, List.getElem?_append_right (by omega), hl, Nat.add_sub_cancel_left]
/-- The locks but the i-th, one behind the other. -/
theorem del_run (h : w.ownsRow 0 68 7 (.slice (some ⟨g, 0, none⟩) G.length cap) G.length (G.flatMap glL)) (hi : i < G.length) (h1 : ∀ u ∈ G.flatMap glL, u.oneCell' = true) :
    ∃ w', (∀ c2, (Builtin.append_ #[31, 31] 31 #[.slice (some ⟨g, 0, none⟩) i cap, .slice (some ⟨g, (i + 1) * 7, none⟩) (G.length - (i + 1)) c2]).run Try.prog w = .ok (.slice (some ⟨g, 0, none⟩) (G.length - 1) cap) w') ∧
      w'.ownsRow 0 68 7 (.slice (some ⟨g, 0, none⟩) (G.length - 1) cap) (G.length - 1) ((G.eraseIdx i).flatMap glL) ∧ Fr w w' (fun k => k = g) ∧ (i + 1 = G.length → w' = w) := by
  have hp := own_take h (Nat.le_of_lt hi)
  rw [fl_take glL_len G i (Nat.le_of_lt hi)] at hp
  have hlc : G.length ≤ cap := by
    rcases h.2 with ⟨hv, _⟩ | ⟨g', cap', cur, hv, _, _, q, _⟩
    · cases hv
    · cases hv
      exact q
  obtain ⟨i0, hif, hz0, hz1, hz2⟩ := info_parts info_lk
  have he : (G.eraseIdx i).flatMap glL = (G.take i).flatMap glL ++ (G.drop (i + 1)).flatMap glL := by rw [List.eraseIdx_eq_take_drop_succ, List.flatMap_append]
  by_cases hz : i + 1 = G.length
  · have hn : G.length - (i + 1) = 0 := by omega
    have hn1 : G.length - 1 = i := by omega
    refine ⟨w, fun c2 => ?_, ?_, Fr.refl _ _, fun _ => rfl⟩
    · rw [hn, hn1]
      exact append_none31 w _ _ i cap c2 (by omega)
    · rw [he, hn1, List.drop_of_length_le (by omega)]
      simpa using hp
  · have hx : ∀ c2, ∃ w', (Builtin.append_ #[31, 31] 31 #[.slice (some ⟨g, 0, none⟩) i cap, .slice (some ⟨g, (i + 1) * 7, none⟩) (G.length - (i + 1)) c2]).run Try.prog w = .ok (.slice (some ⟨g, 0, none⟩) (i + (G.length - (i + 1))) cap) w' ∧ w'.ownsRow 0 68 7 (.slice (some ⟨g, 0, none⟩) (i + (G.length - (i + 1))) cap) (i + (G.length - (i + 1))) ((G.take i).flatMap glL ++ (G.drop (i + 1)).flatMap glL) ∧ w.grownBy w' (some g) := fun c2 =>
      run_append_fits (P := Try.prog) w 0 31 31 68 i0 7 Try.underlying31 hif hz1 g i cap _ hp ⟨g, (i + 1) * 7, none⟩ (G.length - (i + 1)) c2 ((G.drop (i + 1)).flatMap glL) (by rw [fl_len glL_len, List.length_drop]) (fun j u hu => by
        have hj : j < (G.length - (i + 1)) * 7 := by
          have := (List.getElem?_eq_some_iff.1 hu).1
          rwa [fl_len glL_len, List.length_drop] at this
        rw [fl_drop glL_len G (i + 1) hi] at hu
        rw [add_at, h.cellAt _ (by omega)]
        exact hu) (fun u hu => h1 u (by
        have e : G.flatMap glL = (G.take (i + 1)).flatMap glL ++ (G.drop (i + 1)).flatMap glL := by rw [← List.flatMap_append, List.take_append_drop]
        rw [e]
        exact List.mem_append_right _ hu)) (by omega)
    obtain ⟨w', hr, ho, hg⟩ := hx 0
    have hn1 : i + (G.length - (i + 1)) = G.length - 1 := by omega
    rw [hn1] at hr ho
    refine ⟨w', fun c2 => ?_, by rw [he]; exact ho, Fr.grown (Fr.refl w _) hg (fun k hk => .inl (by cases hk; rfl)), fun q => absurd q hz⟩
    obtain ⟨w2, hr2, _, _⟩ := hx c2
    rw [hn1] at hr2
    have hsame : (Builtin.append_ #[31, 31] 31 #[.slice (some ⟨g, 0, none⟩) i cap, .slice (some ⟨g, (i + 1) * 7, none⟩) (G.length - (i + 1)) c2]) = (Builtin.append_ #[31, 31] 31 #[.slice (some ⟨g, 0, none⟩) i cap, .slice (some ⟨g, (i + 1) * 7, none⟩) (G.length - (i + 1)) 0]) := rfl
    rw [hsame]
    exact hr
end
end Go.Proofs.Ytcoaahlakkghhaa
