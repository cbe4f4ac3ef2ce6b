/- The program's list of entries in memory. -/
import Derived.Test.YtmiagjcihmenfaaDc
import Derived.ArgAppend
namespace Go.Proofs.Ytmiagjcihmenfaa
open Go.RowKit

theorem setCells_fix (b : Nat) : ∀ (vs : List Value) (o : Nat) (w : World), (w.setCells b o vs).os = w.os ∧ (w.setCells b o vs).tape = w.tape ∧ (w.setCells b o vs).output = w.output ∧ (w.setCells b o vs).heap.size = w.heap.size
  | [], _, _ => ⟨rfl, rfl, rfl, rfl⟩
  | v :: r, o, w => by
    obtain ⟨h1, h2, h3, h4⟩ := setCells_fix b r (o + 1) (w.setCell ⟨b, o, none⟩ v)
    exact ⟨h1, h2, h3, h4.trans (by simp [World.setCell])⟩
theorem setCells_other (b : Nat) : ∀ (vs : List Value) (o : Nat) (w : World) (k : Nat), k ≠ b → (w.setCells b o vs).heap[k]? = w.heap[k]?
  | [], _, _, _, _ => rfl
  | v :: r, o, _, k, h => (setCells_other b r (o + 1) _ k h).trans (set_other (a := ⟨b, o, none⟩) v h)
theorem setCells_blk (b : Nat) {t : TypeId} {fr : Nat × Nat} : ∀ (vs : List Value) (o : Nat) (w : World) (cur : Array Value), w.heap[b]? = some (.cells cur t fr) → ∃ cur', (w.setCells b o vs).heap[b]? = some (.cells cur' t fr) ∧ cur'.size = cur.size
  | [], _, _, cur, h => ⟨cur, h, rfl⟩
  | v :: r, o, w, cur, h => by
    obtain ⟨c, h1, h2⟩ := setCells_blk b r (o + 1) _ _ (set_blk (i := o) h v)
    exact ⟨c, h1, h2.trans (by simp)⟩
theorem setCells_fr (b o : Nat) (vs : List Value) (w : World) {S : Nat → Prop} (h : S b) : Fr w (w.setCells b o vs) S := by
  obtain ⟨h1, h2, h3, h4⟩ := setCells_fix b vs o w
  exact ⟨h1, h2, h3, by rw [h4]; exact Nat.le_refl _, fun k _ hk => setCells_other b vs o w k (fun e => hk (e ▸ h))⟩

/-- The block that a list may write. -/
def lgB : Value → Option Nat
  | .slice (some a) _ (_ + 1) => some a.block
  | _ => none
/-- The entries L lie where v leads to, in a block of their own. -/
def Lg (w : World) (L : List En) (v : Value) : Prop := (L = [] ∧ ∃ ad, v = .slice ad 0 0) ∨
  ∃ g o cap cur, v = .slice (some ⟨g, o, none⟩) L.length cap ∧ 0 < cap ∧ L.length ≤ cap ∧ cap ≤ maxLen ∧ w.heap[g]? = some (.cells cur 49 (0, 0)) ∧ cur.size = o + cap * 4 ∧ ∀ j, j < L.length * 4 → w.cell? ⟨g, o + j, none⟩ = (enC L)[j]?
section
variable {w w' : World} {L M : List En} {v : Value} {S : Nat → Prop}
theorem lgB_pos {g o n cap : Nat} (h : 0 < cap) : lgB (.slice (some ⟨g, o, none⟩) n cap) = some g := by
  obtain ⟨c, rfl⟩ : ∃ c, cap = c + 1 := ⟨cap - 1, by omega⟩
  rfl
theorem lgB_zero (ad : Option Addr) (n : Nat) : lgB (.slice ad n 0) = none := by cases ad <;> rfl
theorem Lg.shape (h : Lg w L v) : ∃ ad cap, v = .slice ad L.length cap ∧ L.length ≤ cap ∧ cap ≤ maxLen := by
  rcases h with ⟨rfl, ad, rfl⟩ | ⟨g, o, cap, cur, rfl, h0, h1, h2, _⟩
  · exact ⟨ad, 0, rfl, Nat.le_refl _, Nat.zero_le _⟩
  · exact ⟨_, cap, rfl, h1, h2⟩
theorem Lg.lt (h : Lg w L v) : ∀ k, lgB v = some k → k < w.heap.size := by
  intro k hk
  rcases h with ⟨rfl, ad, rfl⟩ | ⟨g, o, cap, cur, rfl, h0, h1, h2, h3, _⟩
  · rw [lgB_zero] at hk; cases hk
  · rw [lgB_pos h0] at hk
    cases hk
    exact blk_lt h3
theorem Lg.tag (h : Lg w L v) : ∀ k, lgB v = some k → ∃ cur, w.heap[k]? = some (.cells cur 49 (0, 0)) := by
  intro k hk
  rcases h with ⟨rfl, ad, rfl⟩ | ⟨g, o, cap, cur, rfl, h0, h1, h2, h3, _⟩
  · rw [lgB_zero] at hk; cases hk
  · rw [lgB_pos h0] at hk
    cases hk
    exact ⟨_, h3⟩
theorem Lg.like (h : Lg w L v) (hb : ∀ k, lgB v = some k → w'.heap[k]? = w.heap[k]?) : Lg w' L v := by
  rcases h with ⟨rfl, ad, rfl⟩ | ⟨g, o, cap, cur, rfl, h0, h1, h2, h3, h4, h5⟩
  · exact .inl ⟨rfl, ad, rfl⟩
  · have e := hb g (lgB_pos h0)
    exact .inr ⟨g, o, cap, cur, rfl, h0, h1, h2, e.trans h3, h4, fun j hj => (World.cell?_of_block e).trans (h5 j hj)⟩
theorem Lg.on (h : Lg w L v) (hb : Below w.heap.size w w') : Lg w' L v := h.like (fun k hk => hb.block k (h.lt k hk))
theorem Lg.nil (w : World) : Lg w [] (.slice none 0 0) := .inl ⟨rfl, _, rfl⟩
theorem Lg.own {B : Nat} (h : w.ownsRow B 49 4 v L.length (enC L)) : Lg w L v := by
  have h' := h
  rcases h.2 with ⟨hv, h0⟩ | ⟨g, cap, cur, hv, hg, hc, h1, h2, h3, h4⟩
  · exact .inl ⟨List.eq_nil_of_length_eq_zero h0, _, hv⟩
  · subst hv
    by_cases hz : cap = 0
    · subst hz
      have e : L = [] := List.eq_nil_of_length_eq_zero (by omega)
      subst e
      exact .inl ⟨rfl, _, rfl⟩
    · refine .inr ⟨g, 0, cap, cur, rfl, by omega, h1, h2, hc, by omega, fun j hj => ?_⟩
      rw [Nat.zero_add]
      exact h'.cellAt j (by omega)
/-- What stands there, cell by cell. -/
theorem Lg.get (h : Lg w L v) {i : Nat} (hi : i < L.length) : ∃ g o cap, v = .slice (some ⟨g, o, none⟩) L.length cap ∧ w.cell? ⟨g, o + i * 4, none⟩ = some (.int .i64 L[i].term) ∧ w.cell? ⟨g, o + i * 4 + 1, none⟩ = some (.int .i64 L[i].at') ∧ w.cell? ⟨g, o + i * 4 + 2, none⟩ = some (.int .i64 L[i].born) ∧ w.cell? ⟨g, o + i * 4 + 3, none⟩ = some (.string L[i].text) := by
  rcases h with ⟨rfl, ad, rfl⟩ | ⟨g, o, cap, cur, rfl, h0, h1, h2, h3, h4, h5⟩
  · simp at hi
  · obtain ⟨a, b, c, d⟩ := enC_get L i hi
    refine ⟨g, o, cap, rfl, (h5 _ (by omega)).trans a, ?_, ?_, ?_⟩
    · rw [Nat.add_assoc]; exact (h5 _ (by omega)).trans b
    · rw [Nat.add_assoc]; exact (h5 _ (by omega)).trans c
    · rw [Nat.add_assoc]; exact (h5 _ (by omega)).trans d
/-- A part of it, read. -/
theorem Lg.src (h : Lg w L v) : ∃ ad cap, v = .slice ad L.length cap ∧ (∀ a, ad = some a → ∀ j u, (enC L)[j]? = some u → w.cell? (a.add j) = some u) ∧ (ad = none → L = [] ∧ cap = 0) := by
  rcases h with ⟨rfl, ad, rfl⟩ | ⟨g, o, cap, cur, rfl, h0, h1, h2, h3, h4, h5⟩
  · exact ⟨ad, 0, rfl, fun a _ j u hu => by simp [enC] at hu, fun _ => ⟨rfl, rfl⟩⟩
  · refine ⟨_, cap, rfl, fun a ha j u hu => ?_, fun q => by cases q⟩
    cases ha
    have hj : j < L.length * 4 := by
      have := (List.getElem?_eq_some_iff.1 hu).1
      rwa [enC_len] at this
    rw [add_at, h5 j hj, hu]
end
/-- append puts nothing. -/
theorem append_none (w : World) (ad ad2 : Option Addr) (n cap cap2 : Nat) (hle : n ≤ cap) : (Builtin.append_ #[32, 32] 32 #[.slice ad n cap, .slice ad2 0 cap2]).run Try.prog w = .ok (.slice ad n cap) w := by
  obtain ⟨i0, hi, hz0, hz1, hz2⟩ := info_parts infoEn
  cases ad2 with
  | none => cases ad <;> simp [Builtin.append_, run_underlying Try.underlying32, sizeOf, typeInfo, hi, Builtin.lenOf, hle, Builtin.firstCells, storeCells]
  | some a =>
    have hfc := run_firstCells_some (P := Try.prog) w i0.size 0 a 0 cap2 [] (by simp) (fun j u hu => by simp at hu)
    cases ad <;> simp [Builtin.append_, run_underlying Try.underlying32, sizeOf, typeInfo, hi, Builtin.lenOf, hle, hfc, storeCells]
section
variable {w w' : World} {L M : List En} {v : Value} {S : Nat → Prop}
theorem Lg.append {ad2 : Option Addr} {cap2 : Nat} (h : Lg w L v) (hs : (ad2 = none ∧ M.length = 0 ∧ cap2 = 0 ∧ enC M = []) ∨ ∃ a, ad2 = some a ∧ (enC M).length = M.length * 4 ∧ (∀ j u, (enC M)[j]? = some u → w.cell? (a.add j) = some u))
    (hz : (L.length + M.length) * 40 ≤ 140737488355328) : ∃ v' w', (Builtin.append_ #[32, 32] 32 #[v, .slice ad2 M.length cap2]).run Try.prog w = .ok v' w' ∧ Lg w' (L ++ M) v' ∧ Fr w w' (fun k => lgB v = some k) ∧ (∀ k, lgB v' = some k → lgB v = some k ∨ w.heap.size ≤ k) := by
  obtain ⟨i0, hi, hz0, hz1, hz2⟩ := info_parts infoEn
  by_cases hM : M = []
  · subst hM
    obtain ⟨ad, cap, e, h1, _⟩ := h.shape
    refine ⟨v, w, ?_, by rw [List.append_nil]; exact h, Fr.refl _ _, fun k hk => .inl hk⟩
    rw [e]
    exact append_none w ad ad2 L.length cap cap2 h1
  · have hpos : 0 < M.length := List.length_pos_iff.2 hM
    rcases hs with ⟨_, h0, _⟩ | ⟨a, rfl, hl, hc⟩
    · omega
    · have fin : ∀ v' w', w'.ownsRow w.heap.size 49 4 v' (L.length + M.length) (enC L ++ enC M) → w.grownBy w' none → Lg w' (L ++ M) v' ∧ Fr w w' (fun k => lgB v = some k) ∧ (∀ k, lgB v' = some k → lgB v = some k ∨ w.heap.size ≤ k) := by
        intro v' w' ho hg
        refine ⟨Lg.own (B := w.heap.size) (by rw [List.length_append, enC_append]; exact ho), ⟨hg.os, hg.tape, hg.output, hg.size, fun k hk _ => hg.block k hk (by simp)⟩, fun k hk => .inr ?_⟩
        have hob : v'.ownBlock = some k := by
          revert hk
          cases v' with
          | slice ad n c => cases ad <;> cases c <;> simp [lgB, Value.ownBlock]
          | _ => simp [lgB]
        exact (ho.lt k hob).1
      rcases h with ⟨rfl, ad, rfl⟩ | ⟨g, o, cap, cur, rfl, h0, h1, h2, h3, h4, h5⟩
      · cases ad with
        | none =>
          obtain ⟨v', w', hr, ho, hg, _⟩ := ens_run (w := w) (v := .slice none 0 0) (base := w.heap.size) (n := 0) (xs := []) (ad := some a) (c := cap2) (World.ownsRow_nil _ _ _ _) (Nat.le_refl _) (.inr ⟨a, rfl, hl, hc⟩) (enC_one M) (by simpa using hz)
          exact ⟨v', w', hr, fin v' w' (by simpa [enC] using ho) hg⟩
        | some b =>
          obtain ⟨v', w', hr, ho, hg⟩ := run_append_arg_grows (P := Try.prog) w 32 32 49 i0 _ 4 40 Try.underlying32 hi hz0 hz1 hz2 rfl (by decide) b 0 0 [] rfl (fun j u hu => by simp at hu) a M.length cap2 (enC M) hl hc (by omega) (by simp only [List.length_nil] at hz; unfold maxLen; omega) (by simp only [List.length_nil] at hz; omega)
          exact ⟨v', w', hr, fin v' w' (by simpa [enC] using ho) hg⟩
      · by_cases hroom : L.length + M.length ≤ cap
        · have hcell : ∀ j, j < (enC M).length → (w.cell? ⟨g, o + L.length * 4 + j, none⟩).isSome = true := by
            intro j hj
            rw [cell_blk h3, Array.getElem?_eq_getElem (by rw [hl] at hj; omega)]
            rfl
          have hr := run_append_room_cells (P := Try.prog) w 32 32 49 i0 Try.underlying32 hi g o L.length cap a M.length cap2 (enC M) (by rw [hz1]; exact hl) hc (enC_one M) hroom (by rw [hz1]; exact hcell) (fun j _ => frozen_blk h3 _)
          rw [hz1] at hr
          obtain ⟨cur', hc1, hc2⟩ := setCells_blk g (enC M) (o + L.length * 4) w cur h3
          have hfr := setCells_fr g (o + L.length * 4) (enC M) w (S := fun k => lgB (.slice (some ⟨g, o, none⟩) L.length cap) = some k) (lgB_pos h0)
          refine ⟨_, _, hr, .inr ⟨g, o, cap, cur', by rw [List.length_append], h0, by rw [List.length_append]; exact hroom, h2, hc1, hc2.trans h4, fun j hj => ?_⟩, hfr, fun k hk => .inl ?_⟩
          · rw [List.length_append] at hj
            rw [enC_append]
            by_cases q : j < L.length * 4
            · rw [World.cell?_setCells_out g _ _ w _ (fun _ _ => .inl (by show o + j < _; omega)), h5 j q, List.getElem?_append_left (by rw [enC_len]; exact q)]
            · have := World.cell?_setCells_in g (enC M) (o + L.length * 4) w hcell (j - L.length * 4) (by rw [hl]; omega)
              rw [show o + L.length * 4 + (j - L.length * 4) = o + j by omega] at this
              rw [this, List.getElem?_append_right (by rw [enC_len]; omega)]
              have e : j - (enC L).length = j - L.length * 4 := by rw [enC_len]
              rw [e, List.getElem?_eq_getElem]
          · rw [lgB_pos h0] at hk ⊢
            exact hk
        · obtain ⟨v', w', hr, ho, hg⟩ := run_append_arg_grows (P := Try.prog) w 32 32 49 i0 _ 4 40 Try.underlying32 hi hz0 hz1 hz2 rfl (by decide) ⟨g, o, none⟩ L.length cap (enC L) (enC_len L) (fun j u hu => by
            have hj : j < L.length * 4 := by
              have := (List.getElem?_eq_some_iff.1 hu).1
              rwa [enC_len] at this
            rw [add_at, h5 j hj, hu]) a M.length cap2 (enC M) hl hc (by omega) (by unfold maxLen; omega) hz
          exact ⟨v', w', hr, fin v' w' ho hg⟩
end
end Go.Proofs.Ytmiagjcihmenfaa
