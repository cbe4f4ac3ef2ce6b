/- The law SplitParts. -/
import Derived.Test.YtonncfdkdibggaaVk
import Derived.Test.YtonncfdkdibggaaVZ
namespace Go.Proofs.Ytonncfdkdibggaa
open Go.RowKit
section
variable {ρ : Operand → Value} {X : World} {d : Option Tmp} {ty : TypeId} {ps : String} {af : Array Edge} {g : Option (Nat × Bool)}
theorem op_move {x : Operand} {v : Value} (e : ρ x = v) : (execOp ρ ⟨d, .move x, ty, ps, af, g⟩).run Try.prog X = .ok (.value v) X := by
  simp only [execOp, e]
  rfl
theorem op_assign {x : Operand} {v : Value} (e : ρ x = v) : (execOp ρ ⟨d, .assign x, ty, ps, af, g⟩).run Try.prog X = .ok (.value v) X := by
  simp only [execOp, e]
  rfl
theorem op_load34 {x : Operand} {B i : Nat} {s t : ByteArray} (e : ρ x = .pointer (some ⟨B, i, none⟩)) (y0 : X.cell? ⟨B, i, none⟩ = some (.string s)) (y1 : X.cell? ⟨B, i + 1, none⟩ = some (.string t)) : (execOp ρ ⟨d, .load 34 x, ty, ps, af, g⟩).run Try.prog X = .ok (.value (.agg #[.string s, .string t])) X := by
  simp only [execOp, e]
  go_simp
theorem op_call2 {f : FuncId} {x0 x1 : Operand} {v0 v1 : Value} {at' : Array TypeId} (hf : ∀ f, ρ (.func f) = .func (.func f) #[] #[]) (hc : Sem.run Try.prog (callFunc f #[v0, v1]) X = .ok (.enter f #[v0, v1]) X) (e0 : ρ x0 = v0) (e1 : ρ x1 = v1) : (execOp ρ ⟨d, .call { callee := .value (.func f), args := #[x0, x1], argTypes := at' }, ty, ps, af, g⟩).run Try.prog X = .ok (.enter f #[v0, v1]) X := by
  simp only [execOp]
  simp [resolve, hf, e0, e1, Deferred.ofValue, invoke, hc]
theorem call14 {v u : Value} : Sem.run Try.prog (callFunc 14 #[v, u]) X = .ok (.enter 14 #[v, u]) X := by go_simp
theorem call15 {v u : Value} : Sem.run Try.prog (callFunc 15 #[v, u]) X = .ok (.enter 15 #[v, u]) X := by go_simp
end
section
variable {w w' W V X : World} {L : List ByteArray} {v : Value}
theorem row_setc {w : World} {base g cap n c : Nat} {e : TypeId} {xs : List Value} (h : w.ownsRow base e c (.slice (some ⟨g, 0, none⟩) n cap) n xs) (j : Nat) (u : Value) : (w.setCell ⟨g, j, none⟩ u).ownsRow base e c (.slice (some ⟨g, 0, none⟩) n cap) n (xs.set j u) := by
  rcases h.2 with ⟨hv, _⟩ | ⟨g', cap', cur, hv, h0, hg, h1, h2, h3, h4⟩
  · cases hv
  · cases hv
    refine ⟨by rw [List.length_set]; exact h.1, .inr ⟨g, cap, cur.setIfInBounds j u, rfl, h0, set_blk hg u, h1, h2, by simp [h3], ?_⟩⟩
    rw [Array.toList_setIfInBounds, List.take_set, h4]
/-- Parts that a slice reads. -/
def Pr (w : World) (P : List Pt) (v : Value) : Prop := ∃ B, w.ownsRow B 39 3 v P.length (ptC P)
theorem Pr.on {P : List Pt} (h : Pr w P v) (hb : Below w.heap.size w w') : Pr w' P v := by
  obtain ⟨B, h⟩ := h
  exact ⟨B, own_below h hb⟩
theorem Pr.cells {P : List Pt} {ad : Option Addr} {cap : Nat} (h : Pr w P (.slice ad P.length cap)) {i : Nat} (hi : i < P.length) : ∃ g, ad = some ⟨g, 0, none⟩ ∧ w.cell? ⟨g, i * 3, none⟩ = some (.int .i64 (P[i].sh : Int)) ∧ w.cell? ⟨g, i * 3 + 1, none⟩ = some (.string P[i].lo) ∧ w.cell? ⟨g, i * 3 + 2, none⟩ = some (.string P[i].hi) := by
  obtain ⟨B, h⟩ := h
  obtain ⟨g0, g1, g2⟩ := ptC_get P i hi
  rcases h.2 with ⟨_, h0⟩ | ⟨g, cap', cur, hv, _⟩
  · omega
  · cases hv
    have f := fun j u hu => h.cells (g := g) rfl j u hu
    simp only [add_at, Nat.zero_add] at f
    exact ⟨g, rfl, f _ _ g0, f _ _ g1, f _ _ g2⟩
/-- What the law has in hand while it writes over its list. -/
structure Ri (w wr : World) (lo B Y base : Nat) (L : List ByteArray) (a b : ByteArray) (iv : Value) : Prop where
  own : ∃ M : List Value, wr.ownsRow base 9 1 iv L.length M
  sp : Sp wr lo B L
  box : wr.heap[Y]? = some (.cells #[.string a, .string b] 34 (0, 0))
  bl : Below w.heap.size w wr
theorem Ri.put {lo B Y base g cap : Nat} {a b : ByteArray} (h : Ri w V lo B Y base L a b (.slice (some ⟨g, 0, none⟩) L.length cap)) (hg : g < lo) (hY : Y < base) (hw : w.heap.size ≤ base) (i : Nat) (s : ByteArray) : Ri w (V.setCell ⟨g, i, none⟩ (.string s)) lo B Y base L a b (.slice (some ⟨g, 0, none⟩) L.length cap) := by
  obtain ⟨⟨M, h1⟩, h2, h3, h4⟩ := h
  have hgb := (h1.lt g rfl).1
  have hf : Fr V (V.setCell ⟨g, i, none⟩ (.string s)) (fun k => k = g) := Fr.set (S := fun k => k = g) (a := ⟨g, i, none⟩) (Fr.refl V _) (.inl rfl) _
  exact ⟨⟨_, row_setc h1 i _⟩, h2.fr hf (fun k hk => by subst hk; exact hg), (hf.block Y (blk_lt h3) (by omega)).trans h3, h4.trans (hf.toBelow (fun k hk q => by omega) h4.size)⟩
theorem Ri.cell {lo B Y base g cap : Nat} {a b : ByteArray} (h : Ri w V lo B Y base L a b (.slice (some ⟨g, 0, none⟩) L.length cap)) {i : Nat} (hi : i < L.length) : V.frozen? ⟨g, i, none⟩ = false ∧ ∃ u, V.cell? ⟨g, i, none⟩ = some u := by
  obtain ⟨⟨M, h1⟩, _, _, _⟩ := h
  have hM : M.length = L.length := by have := h1.1; omega
  have hc := h1.cells (g := g) rfl i M[i] (List.getElem?_eq_getElem (by omega))
  rw [add_at, Nat.zero_add] at hc
  rcases h1.2 with ⟨hv, _⟩ | ⟨g', cap', cur, hv, h0, hg, _⟩
  · cases hv
  · cases hv
    exact ⟨frozen_blk hg i, _, hc⟩
end
end Go.Proofs.Ytonncfdkdibggaa
