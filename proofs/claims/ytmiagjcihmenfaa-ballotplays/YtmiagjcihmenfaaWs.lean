/- The program's ballot and the document's in one memory; rows that are written over. -/
import Derived.Test.YtmiagjcihmenfaaWq
namespace Go.Proofs.Ytmiagjcihmenfaa
open Go.RowKit

section
variable {w0 w w' : World} {A B B0 B1 N N' : Nat} {b b' c c' : Bs} {S S1 T T1 : Nat → Prop} {M : List Ms} {ov : Value}
theorem Pb.wav (h : Pb w A S b) (Q : Nat → Prop) : Pb w A S (b.wav Q) := by
  obtain ⟨lv, pf, h⟩ := h
  exact ⟨lv, pf, ⟨h.ob, h.log, h.covA, h.cov, h.lt, h.len, h.b0, h.b1, h.fm, h.idl, h.sz⟩⟩
/-- The program's ballot c and the document's b side by side; nobody's blocks from B0 to N: the document's log keeps off them, and off the program's. -/
structure Mid (w0 w : World) (A B : Nat) (c b : Bs) (S T : Nat → Prop) (B0 N : Nat) : Prop where
  pb : Pb w A S c
  rb : Rb w B T (b.wav (fun k => S k ∨ (B0 ≤ k ∧ k < N)))
  ap : ∀ k, S k → ¬ T k
  sB : ∀ k, S k → k < B0
  tB : ∀ k, T k → ¬ (B0 ≤ k ∧ k < N)
  los : ∀ k, S k → w0.heap.size ≤ k
  lot : ∀ k, T k → w0.heap.size ≤ k
  lob : w0.heap.size ≤ B0
  hN : N ≤ w.heap.size
  bel : Below w0.heap.size w0 w
theorem Mid.on (h : Mid w0 w A B c b S T B0 N) (hb : Below w.heap.size w w') : Mid w0 w' A B c b S T B0 N :=
  ⟨h.pb.on hb, h.rb.on hb, h.ap, h.sB, h.tB, h.los, h.lot, h.lob, Nat.le_trans h.hN hb.size, h.bel.trans (hb.mono h.bel.size)⟩
/-- A step of the program. -/
theorem Mid.prog (h : Mid w0 w A B c b S T B0 N) (hob : b.out = []) (hp : Pb w' A S1 c') (hs : ∀ k, S1 k → Gro S w w' k) (hf : Fr w w' S) (hB : w.heap.size ≤ B1) (hS1 : ∀ k, S1 k → k < B1) : Mid w0 w' A B c' b S1 T B1 w'.heap.size := by
  have hz := hf.size
  have bz := h.bel.size
  have htl := h.rb.lt
  have hsl := h.pb.lt
  have hap : ∀ k, S1 k → ¬ T k := fun k q t => by
    rcases hs k q with q | q
    · exact h.ap k q t
    · have := htl k t
      omega
  refine ⟨hp, ?_, hap, hS1, fun k t q => by have := htl k t; omega, fun k q => ?_, h.lot, by omega, Nat.le_refl _, below_fr h.bel hf h.los⟩
  · obtain ⟨lv, ov, O, hv⟩ := h.rb
    have eO : O = [] := by
      have := hv.eo
      rw [show (b.wav (fun k => S k ∨ (B0 ≤ k ∧ k < N))).out = [] from hob] at this
      exact List.map_eq_nil_iff.1 this
    subst eO
    have hv2 := hv.stays hf (fun k t q => h.ap k q t) (hv.log.stays (hf.mono (fun _ q => .inr (.inl q))) (fun _ q => .inl q)) (fun p hp => by cases hp)
    refine ⟨lv, ov, [], ⟨hv2.ob, ?_, hv2.eo, hv2.out, hv2.ls, hv2.covA, hv2.cov, hv2.lt, hv2.few, hv2.len, hv2.b0, hv2.b1, fun k q => ?_⟩⟩
    · refine hv.log.stays (hf.mono (fun _ q => .inr (.inl q))) (fun k q => ?_)
      rcases q with q | q | q
      · exact .inl (.inl q)
      · rcases hs k q with q | q
        · exact .inl (.inr (.inl q))
        · exact .inr q
      · exact .inr ⟨by omega, q.2⟩
    · rcases q with q | q
      · rcases hs k q with q | q
        · have := hsl k q
          omega
        · exact q.2
      · exact q.2
  · rcases hs k q with q | q
    · exact h.los k q
    · omega
/-- A step of the document's. -/
theorem Mid.doc (h : Mid w0 w A B c b S T B0 N) (hr : Rb w' B T1 (b'.wav (fun k => S k ∨ (B0 ≤ k ∧ k < N)))) (hs : ∀ k, T1 k → Gro T w w' k) (hf : Fr w w' T) : Mid w0 w' A B c b' S T1 B0 N := by
  have hz := hf.size
  have bz := h.bel.size
  have hsl := h.pb.lt
  have hN := h.hN
  refine ⟨h.pb.stays hf h.ap, hr, fun k q t => ?_, h.sB, fun k t q => ?_, h.los, fun k t => ?_, h.lob, by omega, below_fr h.bel hf h.lot⟩
  · rcases hs k t with t | t
    · exact h.ap k q t
    · have := hsl k q
      omega
  · rcases hs k t with t | t
    · exact h.tB k t q
    · omega
  · rcases hs k t with t | t
    · exact h.lot k t
    · omega
/-- Nobody's blocks are written. -/
theorem Mid.set (h : Mid w0 w A B c b S T B0 N) (hob : b.out = []) {g i : Nat} (h1 : B0 ≤ g) (h2 : g < N) (v : Value) : Mid w0 (w.setCell ⟨g, i, none⟩ v) A B c b S T B0 N := by
  have hf : Fr w (w.setCell ⟨g, i, none⟩ v) (fun k => k = g) := Fr.set (a := ⟨g, i, none⟩) (Fr.refl w (fun k => k = g)) (Or.inl rfl) v
  have hz : (w.setCell ⟨g, i, none⟩ v).heap.size = w.heap.size := by simp [World.setCell]
  refine ⟨h.pb.stays hf (fun k q e => ?_), h.rb.aside hob hf (fun k e => .inl ?_) (fun k t e => ?_), h.ap, h.sB, h.tB, h.los, h.lot, h.lob, by rw [hz]; exact h.hN, below_fr h.bel hf (fun k e => ?_)⟩
  · have e' : k = g := e
    have := h.sB k q
    omega
  · have e' : k = g := e
    exact .inr ⟨by omega, by omega⟩
  · have e' : k = g := e
    exact h.tB k t ⟨by omega, by omega⟩
  · have e' : k = g := e
    have := h.lob
    omega
theorem Mid.set' (h : Mid w0 w A B c b S T B0 N) (hc : c = c') (hb : b = b') : Mid w0 w A B c' b' S T B0 N := by subst hc; subst hb; exact h

/-! ### Rows that are written over -/
/-- v leads to n entries that can be written, in a block from B0 to N. -/
def Wt (w : World) (B0 N : Nat) (v : Value) (n : Nat) : Prop := ∃ ad cap, v = .slice ad n cap ∧ n ≤ cap ∧ cap ≤ maxLen ∧ (0 < n → ∃ g cur, ad = some ⟨g, 0, none⟩ ∧ w.heap[g]? = some (.cells cur 49 (0, 0)) ∧ n * 4 ≤ cur.size ∧ B0 ≤ g ∧ g < N)
theorem Wt.own {v : Value} {n : Nat} {xs : List Value} (h : w.ownsRow B0 49 4 v n xs) (hl : ∀ k, v.ownBlock = some k → k < N) (hx : xs.length = n * 4) : Wt w B0 N v n := by
  have h' := h
  rcases h.2 with ⟨hv, h0⟩ | ⟨g, cap, cur, hv, hg, hc, h1, h2, hr⟩
  · exact ⟨none, 0, by rw [hv, h0], by omega, Nat.zero_le _, fun q => by omega⟩
  · subst hv
    refine ⟨_, cap, rfl, h1, h2, fun _ => ⟨g, cur, rfl, hc, ?_, hg, hl g rfl⟩⟩
    by_cases q : n = 0
    · omega
    · have := h'.cellAt (n * 4 - 1) (by omega)
      have hs : (xs[n * 4 - 1]?).isSome = true := by rw [List.getElem?_eq_getElem (by omega)]; rfl
      rw [← this, cell_blk hc] at hs
      refine Classical.byContradiction fun z => ?_
      rw [Array.getElem?_eq_none (by omega)] at hs
      cases hs
theorem Wt.on {v : Value} {n : Nat} (h : Wt w B0 N v n) (hb : ∀ k, B0 ≤ k → k < N → w'.heap[k]? = w.heap[k]?) : Wt w' B0 N v n := by
  obtain ⟨ad, cap, e, h1, h2, h3⟩ := h
  refine ⟨ad, cap, e, h1, h2, fun q => ?_⟩
  obtain ⟨g, cur, e1, e2, e3, e4, e5⟩ := h3 q
  exact ⟨g, cur, e1, (hb g e4 e5).trans e2, e3, e4, e5⟩
theorem Wt.set {v : Value} {n g i : Nat} (h : Wt w B0 N v n) (u : Value) : Wt (w.setCell ⟨g, i, none⟩ u) B0 N v n := by
  obtain ⟨ad, cap, e, h1, h2, h3⟩ := h
  refine ⟨ad, cap, e, h1, h2, fun q => ?_⟩
  obtain ⟨g', cur, e1, e2, e3, e4, e5⟩ := h3 q
  by_cases z : g' = g
  · subst z
    exact ⟨g', _, e1, set_blk e2 u, by simpa using e3, e4, e5⟩
  · exact ⟨g', cur, e1, (set_other u z).trans e2, e3, e4, e5⟩
/-- Messages that can be written over. -/
structure Mw (w : World) (B0 N : Nat) (O : List (Ms × Value)) (ov : Value) : Prop where
  own : w.ownsRow B0 34 10 ov O.length (msC O)
  ls : ∀ p ∈ O, Wt w B0 N p.2 p.1.list.length
theorem Mw.of {O : List (Ms × Value)} (h : Ou w B0 O ov) : Mw w B0 w.heap.size O ov := ⟨h.own, fun p hp => Wt.own (h.ls p hp) (fun k hk => ((h.ls p hp).lt k hk).2) (enC_len _)⟩
theorem Mw.keep {O : List (Ms × Value)} (h : Mw w B0 N O ov) (hb : ∀ k, B0 ≤ k → k < w.heap.size → w'.heap[k]? = w.heap[k]?) (hN : N ≤ w.heap.size) : Mw w' B0 N O ov :=
  ⟨own_like h.own (fun k hk => hb k (h.own.lt k hk).1 (h.own.lt k hk).2), fun p hp => (h.ls p hp).on (fun k h1 h2 => hb k h1 (by omega))⟩
theorem Mw.set {O : List (Ms × Value)} {g i : Nat} {cur : Array Value} (h : Mw w B0 N O ov) (hg : w.heap[g]? = some (.cells cur 49 (0, 0))) (u : Value) : Mw (w.setCell ⟨g, i, none⟩ u) B0 N O ov := by
  refine ⟨own_like h.own (fun k hk => set_other u (fun e => ?_)), fun p hp => (h.ls p hp).set u⟩
  obtain ⟨cs, t⟩ := own_tag2 h.own k hk
  exact tag_ne t hg (by decide) e
end
end Go.Proofs.Ytmiagjcihmenfaa
