/- What stays of a ballot, plain. -/
import Derived.Test.YtmiagjcihmenfaaBa
namespace Go.Proofs.Ytmiagjcihmenfaa
namespace Bs

/-- All but what goes out is the same. -/
def So (b c : Bs) : Prop := c = { b with out := c.out }
theorem So.refl (b : Bs) : So b b := rfl
theorem So.trans {a b c : Bs} (h : So a b) (k : So b c) : So a c := by
  unfold So at *
  rw [k, h]
theorem so_send (b : Bs) (m : Ms) : So b (b.send m) := rfl
theorem so_feed (b : Bs) (to : Nat) : So b (b.feed to) := rfl
theorem so_feedTo (b : Bs) : ∀ n, So b (b.feedTo n)
  | 0 => So.refl b
  | n + 1 => by
    unfold feedTo
    split
    · exact so_feedTo b n
    · exact (so_feedTo b n).trans (so_feed _ _)
theorem so_feedAll (b : Bs) : So b b.feedAll := so_feedTo b _
theorem so_askTo (b : Bs) : ∀ n, So b (b.askTo n)
  | 0 => So.refl b
  | n + 1 => by
    unfold askTo
    split
    · exact so_askTo b n
    · exact (so_askTo b n).trans (so_send _ _)
theorem so_sent (b : Bs) : So b b.sent.1 := rfl

/-- What a ballot keeps at all times. -/
structure Inv (b : Bs) : Prop where
  idl : b.id < b.size
  sz : b.size ≤ 5
  hs : b.has.length = 5
  nx : b.next.length = 5
  mt : b.mat.length = 5
  b0 : 0 ≤ b.base
  bc : b.base ≤ b.commit
  cl : b.commit ≤ b.last
  v0 : -1 ≤ b.vote
  v1 : b.vote < b.size
  t0 : 0 ≤ b.term
theorem Inv.so {b c : Bs} (h : Inv b) (k : So b c) : Inv c := by
  unfold So at k
  rw [k]
  exact ⟨h.idl, h.sz, h.hs, h.nx, h.mt, h.b0, h.bc, h.cl, h.v0, h.v1, h.t0⟩

/-- What stays from b to c. -/
structure Stays (b c : Bs) : Prop where
  id : c.id = b.id
  size : c.size = b.size
  term : b.term ≤ c.term
  commit : b.commit ≤ c.commit
  base : b.base ≤ c.base
  log : ∀ i, c.base < i → i ≤ b.commit → c.at? i = b.at? i
  lead : b.role = 2 → c.role = 2 → c.term = b.term → ∀ i, c.base < i → i ≤ b.last → c.at? i = b.at? i
  len : b.role = 2 → c.role = 2 → c.term = b.term → b.last ≤ c.last
theorem Stays.refl (b : Bs) : Stays b b := ⟨rfl, rfl, Int.le_refl _, Int.le_refl _, Int.le_refl _, fun _ _ _ => rfl, fun _ _ _ _ _ _ => rfl, fun _ _ _ => Int.le_refl _⟩
theorem Stays.so {b c : Bs} (k : So b c) : Stays b c := by
  unfold So at k
  rw [k]
  exact ⟨rfl, rfl, Int.le_refl _, Int.le_refl _, Int.le_refl _, fun _ _ _ => rfl, fun _ _ _ _ _ _ => rfl, fun _ _ _ => Int.le_refl _⟩
theorem Stays.then {a b c : Bs} (h : Stays a b) (k : So b c) : Stays a c := by
  unfold So at k
  rw [k]
  exact ⟨h.id, h.size, h.term, h.commit, h.base, h.log, h.lead, h.len⟩
/-- Two steps, where a leader stays one in between. -/
theorem Stays.trans {a b c : Bs} (h : Stays a b) (k : Stays b c) (hr : a.role = 2 → c.role = 2 → c.term = a.term → b.role = 2) : Stays a c := by
  have hm := h.term
  have km := k.term
  refine ⟨k.id.trans h.id, k.size.trans h.size, by omega, by have := h.commit; have := k.commit; omega, by have := h.base; have := k.base; omega, fun i hi hc => ?_, fun h2 h3 h4 i hi hl => ?_, fun h2 h3 h4 => ?_⟩
  · have := k.base
    have := h.commit
    rw [k.log i hi (by omega), h.log i (by omega) hc]
  · have r := hr h2 h3 h4
    have := k.base
    have := h.len h2 r (by omega)
    rw [k.lead r h3 (by omega) i hi (by omega), h.lead h2 r (by omega) i (by omega) hl]
  · have r := hr h2 h3 h4
    have := h.len h2 r (by omega)
    have := k.len r h3 (by omega)
    omega

theorem at_lt {b : Bs} {i : Int} (h : b.base < i) (h2 : i ≤ b.last) : ∃ e, b.at? i = some e := by
  unfold at? last at *
  rw [if_pos h, List.getElem?_eq_getElem (by omega)]
  exact ⟨_, rfl⟩
theorem at_none {b : Bs} {i : Int} (h : i ≤ b.base ∨ b.last < i) : b.at? i = none := by
  unfold at? last at *
  split
  · exact List.getElem?_eq_none (by omega)
  · rfl
theorem termAt_none {b : Bs} {i : Int} (h : i < b.base ∨ b.last < i) : b.termAt i = -1 := by
  have hl : b.base ≤ b.last := by unfold last; omega
  unfold termAt
  rw [if_neg (by omega), at_none (by omega)]
theorem termAt_base (b : Bs) : b.termAt b.base = b.baseTerm := by unfold termAt; rw [if_pos rfl]

theorem put_last {b : Bs} {i : Int} (l : List En) (h1 : b.base < i) (h2 : i ≤ b.last + 1) : (b.put i l).last = i - 1 + l.length := by
  unfold put last at *
  simp only [List.length_append, List.length_take]
  omega
theorem put_at {b : Bs} {i j : Int} (l : List En) (h1 : b.base < i) (h2 : i ≤ b.last + 1) (hj : j < i) : (b.put i l).at? j = b.at? j := by
  unfold put at? last at *
  simp only
  split
  · rw [List.getElem?_append_left (by simp; omega), List.getElem?_take, if_pos (by omega)]
  · rfl
/-- Entries are put behind what is committed. -/
theorem put_stays {b : Bs} {i : Int} (l : List En) (h : Inv b) (h1 : b.commit < i) (h2 : i ≤ b.last + 1) (h3 : i = b.last + 1 ∨ b.role ≠ 2) : Stays b (b.put i l) ∧ Inv (b.put i l) := by
  have hb := h.bc
  have hl := put_last l (by omega) h2
  refine ⟨⟨rfl, rfl, Int.le_refl _, Int.le_refl _, Int.le_refl _, fun j hj hc => put_at l (by omega) h2 (by omega), fun hr _ _ j hj hjl => ?_, fun hr _ _ => ?_⟩, ⟨h.idl, h.sz, h.hs, h.nx, h.mt, h.b0, h.bc, ?_, h.v0, h.v1, h.t0⟩⟩
  · rcases h3 with e | e
    · exact put_at l (by omega) h2 (by omega)
    · exact absurd hr e
  · rcases h3 with e | e
    · omega
    · exact absurd hr e
  · rw [hl]
    show b.commit ≤ _
    omega
theorem best_le (b : Bs) : ∀ k, b.best k = 0 ∨ (b.commit < b.best k ∧ b.best k ≤ b.commit + k)
  | 0 => .inl rfl
  | k + 1 => by
    unfold best
    split
    · exact .inr ⟨by omega, by omega⟩
    · rcases best_le b k with h | h
      · exact .inl h
      · exact .inr ⟨h.1, by omega⟩
theorem settle_stays {b : Bs} (h : Inv b) : Stays b b.settle ∧ Inv b.settle ∧ b.settle.role = b.role := by
  unfold settle
  split
  · rename_i hp
    have hb := best_le b (b.last - b.commit).toNat
    have h1 : b.commit < b.best (b.last - b.commit).toNat ∧ b.best (b.last - b.commit).toNat ≤ b.last := by
      have := h.cl
      omega
    obtain ⟨x, hx⟩ : ∃ x, b.best (b.last - b.commit).toNat = x := ⟨_, rfl⟩
    rw [hx] at h1 ⊢
    have s1 : Stays b { b with commit := x } := ⟨rfl, rfl, Int.le_refl _, by show b.commit ≤ x; omega, Int.le_refl _, fun _ _ _ => rfl, fun _ _ _ _ _ _ => rfl, fun _ _ _ => Int.le_refl _⟩
    have i1 : Inv { b with commit := x } := ⟨h.idl, h.sz, h.hs, h.nx, h.mt, h.b0, by have := h.bc; show b.base ≤ x; omega, h1.2, h.v0, h.v1, h.t0⟩
    have so := so_feedAll { b with commit := x }
    refine ⟨s1.then so, i1.so so, ?_⟩
    unfold So at so
    rw [so]
  · exact ⟨Stays.refl b, h, rfl⟩
end Bs
end Go.Proofs.Ytmiagjcihmenfaa
