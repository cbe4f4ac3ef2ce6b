/- What stays of the memory; entries and messages as cells; the document's ballot in memory. -/
import Derived.Test.YtmiagjcihmenfaaRows
import Derived.WalkKit
import Derived.WalkSpells
import Derived.WalkLawsBesides
import Derived.OwnWalk
import Derived.BigCall
import Derived.BigRegion
import Derived.Deep.QuietTactic
import Derived.BigQuiet
import Derived.Deep.OwnRows
import Derived.Deep.RegionWith
import Derived.Deep.RegionLaw
import Derived.Deep.RegionHeld3
import Derived.Laws.OwnMore
import Derived.Maps.AppendAt
import Derived.Lib.Hide
import Derived.Test.YtmiagjcihmenfaaBc
namespace Go.Proofs.Ytmiagjcihmenfaa
open Go.RowKit

/-- All blocks but those of S are as they were. -/
structure Fr (w w' : World) (S : Nat → Prop) : Prop where
  os : w'.os = w.os
  tape : w'.tape = w.tape
  output : w'.output = w.output
  size : w.heap.size ≤ w'.heap.size
  block : ∀ k, k < w.heap.size → ¬ S k → w'.heap[k]? = w.heap[k]?
theorem Fr.refl (w : World) (S : Nat → Prop) : Fr w w S := ⟨rfl, rfl, rfl, Nat.le_refl _, fun _ _ _ => rfl⟩
theorem Fr.trans {w w1 w2 : World} {S : Nat → Prop} (h : Fr w w1 S) (k : Fr w1 w2 S) : Fr w w2 S :=
  ⟨k.os.trans h.os, k.tape.trans h.tape, k.output.trans h.output, Nat.le_trans h.size k.size, fun j hj hr => (k.block j (Nat.lt_of_lt_of_le hj h.size) hr).trans (h.block j hj hr)⟩
/-- A second step may also change what is new. -/
theorem Fr.step {w w1 w2 : World} {S T : Nat → Prop} (h : Fr w w1 S) (k : Fr w1 w2 T) (hT : ∀ j, T j → S j ∨ w.heap.size ≤ j) : Fr w w2 S :=
  ⟨k.os.trans h.os, k.tape.trans h.tape, k.output.trans h.output, Nat.le_trans h.size k.size, fun j hj hr => (k.block j (Nat.lt_of_lt_of_le hj h.size) (fun q => by rcases hT j q with q | q; exact hr q; omega)).trans (h.block j hj hr)⟩
theorem Fr.mono {w w' : World} {S T : Nat → Prop} (h : Fr w w' S) (hT : ∀ j, S j → T j) : Fr w w' T :=
  ⟨h.os, h.tape, h.output, h.size, fun j hj hr => h.block j hj (fun q => hr (hT j q))⟩
theorem Fr.alloc {w w1 : World} {S : Nat → Prop} (h : Fr w w1 S) (o : Obj) : Fr w (w1.alloc o) S :=
  ⟨h.os, h.tape, h.output, Nat.le_trans h.size (by simp), fun j hj hr => (Below.heap_alloc w1 o j (Nat.lt_of_lt_of_le hj h.size)).trans (h.block j hj hr)⟩
theorem Fr.set {w w1 : World} {S : Nat → Prop} (h : Fr w w1 S) {a : Addr} (ha : S a.block ∨ w.heap.size ≤ a.block) (u : Value) : Fr w (w1.setCell a u) S :=
  ⟨h.os, h.tape, h.output, Nat.le_trans h.size (by simp [World.setCell]), fun j hj hr => (Below.heap_setCell w1 a u j (by rintro rfl; rcases ha with ha | ha; exact hr ha; omega)).trans (h.block j hj hr)⟩
theorem Fr.drewN {w w1 : World} {S : Nat → Prop} (h : Fr w w1 S) (k : Nat) : Fr w (w1.drewN k) S := ⟨h.os, h.tape, h.output, h.size, h.block⟩
theorem Fr.grown {w w1 w2 : World} {S : Nat → Prop} {row : Option Nat} (h : Fr w w1 S) (k : w1.grownBy w2 row) (hr : ∀ k, row = some k → S k ∨ w.heap.size ≤ k) : Fr w w2 S :=
  ⟨k.os.trans h.os, k.tape.trans h.tape, k.output.trans h.output, Nat.le_trans h.size k.size, fun j hj hrj => (k.block j (Nat.lt_of_lt_of_le hj h.size) (fun e => by rcases hr j e.symm with q | q; exact hrj q; omega)).trans (h.block j hj hrj)⟩
theorem Fr.below {w w1 w2 : World} {S : Nat → Prop} (h : Fr w w1 S) (k : Below w1.heap.size w1 w2) : Fr w w2 S :=
  ⟨k.os.trans h.os, k.tape.trans h.tape, k.output.trans h.output, Nat.le_trans h.size k.size, fun j hj hrj => (k.block j (Nat.lt_of_lt_of_le hj h.size)).trans (h.block j hj hrj)⟩
theorem Fr.toBelow {w w' : World} {S : Nat → Prop} {B : Nat} (h : Fr w w' S) (hS : ∀ k, k < B → ¬ S k) (hB : B ≤ w.heap.size) : Below B w w' :=
  ⟨h.os, h.tape, h.output, h.size, fun k hk => h.block k (by omega) (hS k hk)⟩
theorem Fr.ofBelow {w w' : World} (S : Nat → Prop) (h : Below w.heap.size w w') : Fr w w' S := ⟨h.os, h.tape, h.output, h.size, fun k hk _ => h.block k hk⟩
theorem Fr.fresh {w w' : World} {S : Nat → Prop} (h : Fr w w' S) (hS : ∀ k, S k → w.heap.size ≤ k) : Below w.heap.size w w' :=
  ⟨h.os, h.tape, h.output, h.size, fun k hk => h.block k hk (fun q => by have := hS k q; omega)⟩
/-- S, and what is new. -/
def Gro (S : Nat → Prop) (w w' : World) : Nat → Prop := fun k => S k ∨ (w.heap.size ≤ k ∧ k < w'.heap.size)

theorem cell_blk {w : World} {b : Nat} {cs : Array Value} {t : TypeId} {fr : Nat × Nat} (h : w.heap[b]? = some (.cells cs t fr)) (i : Nat) : w.cell? ⟨b, i, none⟩ = cs[i]? := by simp [World.cell?, h]
theorem frozen_blk {w : World} {b : Nat} {cs : Array Value} {t : TypeId} (h : w.heap[b]? = some (.cells cs t (0, 0))) (i : Nat) : w.frozen? ⟨b, i, none⟩ = false := by simp [World.frozen?, h]
theorem set_blk {w : World} {b i : Nat} {cs : Array Value} {t : TypeId} {fr : Nat × Nat} (h : w.heap[b]? = some (.cells cs t fr)) (v : Value) : (w.setCell ⟨b, i, none⟩ v).heap[b]? = some (.cells (cs.setIfInBounds i v) t fr) := by
  have hlt := (Array.getElem?_eq_some_iff.1 h).1
  simp [World.setCell, Array.getElem?_modify, h]
theorem set_other {w : World} {a : Addr} {k : Nat} (v : Value) (h : k ≠ a.block) : (w.setCell a v).heap[k]? = w.heap[k]? := Below.heap_setCell w a v k h
theorem blk_lt {w : World} {b : Nat} {o : Obj} (h : w.heap[b]? = some o) : b < w.heap.size := (Array.getElem?_eq_some_iff.1 h).1
theorem tag_ne {w : World} {a b : Nat} {cs cs' : Array Value} {t t' : TypeId} {fr fr' : Nat × Nat} (h : w.heap[a]? = some (.cells cs t fr)) (h' : w.heap[b]? = some (.cells cs' t' fr')) (ht : t ≠ t') : a ≠ b := by
  rintro rfl
  rw [h] at h'
  simp only [Option.some.injEq, Obj.cells.injEq] at h'
  exact ht h'.2.1
theorem own_like {w w' : World} {base : Nat} {e : TypeId} {size : Nat} {v : Value} {n : Nat} {xs : List Value} (h : w.ownsRow base e size v n xs) (hb : ∀ k, v.ownBlock = some k → w'.heap[k]? = w.heap[k]?) : w'.ownsRow base e size v n xs := by
  refine ⟨h.1, ?_⟩
  rcases h.2 with hn | ⟨g, cap, cur, rfl, hb0, hgg, rest⟩
  · exact .inl hn
  · exact .inr ⟨g, cap, cur, rfl, hb0, (hb g rfl).trans hgg, rest⟩
theorem undrew {w w' : World} {r : Option Nat} (h : w.drew.grownBy w' r) : w.grownBy w' r := ⟨h.os, h.tape, h.output, h.size, h.block⟩

theorem gro_fresh {w0 w1 w2 : World} {T : Nat → Prop} (hT : ∀ k, T k → w0.heap.size ≤ k) (hs : w0.heap.size ≤ w1.heap.size) : ∀ k, Gro T w1 w2 k → w0.heap.size ≤ k := by
  intro k q
  rcases q with q | q
  · exact hT k q
  · omega
theorem fr_below {w0 w1 w2 : World} {T : Nat → Prop} (hT : ∀ k, T k → w0.heap.size ≤ k) (hb : Below w0.heap.size w0 w1) (hf : Fr w1 w2 T) : Below w0.heap.size w0 w2 :=
  hb.trans (hf.toBelow (fun k hk q => by have := hT k q; omega) hb.size)
theorem own_mono {w : World} {B1 B2 : Nat} {v : Value} {e : TypeId} {c m : Nat} {xs : List Value} (h : w.ownsRow B2 e c v m xs) (hB : B1 ≤ B2) : w.ownsRow B1 e c v m xs := by
  rcases h with ⟨h1, h2 | ⟨g, cap, cur, hv, hg, hr⟩⟩
  · exact ⟨h1, .inl h2⟩
  · exact ⟨h1, .inr ⟨g, cap, cur, hv, Nat.le_trans hB hg, hr⟩⟩
theorem own_below {B : Nat} {e : TypeId} {k : Nat} {v : Value} {n : Nat} {xs : List Value} {w w' : World} (h : w.ownsRow B e k v n xs) (hb : Below w.heap.size w w') : w'.ownsRow B e k v n xs :=
  own_like h (fun j hj => hb.block j (h.lt j hj).2)
theorem row_keep {w w' : World} {B : Nat} {S : Nat → Prop} {v : Value} {e : TypeId} {c m : Nat} {xs : List Value} (h : w.ownsRow B e c v m xs) (hf : Fr w w' S) (hs : ∀ j, v.ownBlock = some j → ¬ S j) : w'.ownsRow B e c v m xs :=
  own_like h (fun j hj => hf.block j (h.lt j hj).2 (hs j hj))
theorem below_draw {w w1 : World} (h : Below w.heap.size w w1) (k : Nat) : Below w.heap.size w (w1.drewN k) := ⟨h.os, h.tape, h.output, h.size, h.block⟩

theorem own_shape {w : World} {B : Nat} {v : Value} {e : TypeId} {c m : Nat} {xs : List Value} (h : w.ownsRow B e c v m xs) : ∃ ad cap, v = .slice ad m cap := by
  rcases h.2 with ⟨hv, h0⟩ | ⟨g, cap, cur, hv, _⟩
  · exact ⟨none, 0, by rw [hv, h0]⟩
  · exact ⟨_, cap, hv⟩

theorem add_at (g o k : Nat) : (⟨g, o, none⟩ : Addr).add k = ⟨g, o + k, none⟩ := by unfold Addr.add; split <;> simp_all

/-! ### Entries -/
abbrev enV (e : En) : Value := .agg #[.int .i64 e.term, .int .i64 e.at', .int .i64 e.born, .string e.text]
abbrev enO (e : En) : Obj := .cells #[.int .i64 e.term, .int .i64 e.at', .int .i64 e.born, .string e.text] 49
def enC (L : List En) : List Value := L.flatMap fun e => [.int .i64 e.term, .int .i64 e.at', .int .i64 e.born, .string e.text]
theorem enC_cons (e : En) (L : List En) : enC (e :: L) = .int .i64 e.term :: .int .i64 e.at' :: .int .i64 e.born :: .string e.text :: enC L := by simp [enC]
theorem enC_append (a b : List En) : enC (a ++ b) = enC a ++ enC b := by simp [enC]
theorem enC_len (L : List En) : (enC L).length = L.length * 4 := by
  induction L with
  | nil => rfl
  | cons l L ih => rw [enC_cons]; simp [ih]; omega
theorem enC_get (L : List En) : ∀ (k : Nat) (h : k < L.length), (enC L)[k * 4]? = some (.int .i64 L[k].term) ∧ (enC L)[k * 4 + 1]? = some (.int .i64 L[k].at') ∧ (enC L)[k * 4 + 2]? = some (.int .i64 L[k].born) ∧ (enC L)[k * 4 + 3]? = some (.string L[k].text) := by
  induction L with
  | nil => intro k h; simp at h
  | cons l L ih =>
    intro k h
    rw [enC_cons]
    cases k with
    | zero => simp
    | succ k =>
      have := ih k (by simpa using h)
      have e : (k + 1) * 4 = k * 4 + 4 := by omega
      rw [e]
      simpa using this
theorem enC_one (L : List En) : ∀ u ∈ enC L, u.oneCell' = true := by
  intro u hu
  obtain ⟨f, _, hf⟩ := List.mem_flatMap.1 hu
  simp at hf
  rcases hf with rfl | rfl | rfl | rfl <;> rfl
theorem enC_cell (L : List En) : ∀ (j : Nat) (u : Value), (enC L)[j]? = some u → ∃ (i : Nat) (h : i < L.length), (j = i * 4 ∧ u = .int .i64 L[i].term) ∨ (j = i * 4 + 1 ∧ u = .int .i64 L[i].at') ∨ (j = i * 4 + 2 ∧ u = .int .i64 L[i].born) ∨ (j = i * 4 + 3 ∧ u = .string L[i].text) := by
  intro j u hu
  have hj : j < L.length * 4 := by
    have := (List.getElem?_eq_some_iff.1 hu).1
    rwa [enC_len] at this
  have hi : j / 4 < L.length := by omega
  obtain ⟨a, b, c, d⟩ := enC_get L (j / 4) hi
  refine ⟨j / 4, hi, ?_⟩
  have h3 : j = j / 4 * 4 ∨ j = j / 4 * 4 + 1 ∨ j = j / 4 * 4 + 2 ∨ j = j / 4 * 4 + 3 := by omega
  rcases h3 with e | e | e | e
  · rw [← e] at a
    rw [hu] at a
    exact .inl ⟨e, by simpa using a⟩
  · rw [← e] at b
    rw [hu] at b
    exact .inr (.inl ⟨e, by simpa using b⟩)
  · rw [← e] at c
    rw [hu] at c
    exact .inr (.inr (.inl ⟨e, by simpa using c⟩))
  · rw [← e] at d
    rw [hu] at d
    exact .inr (.inr (.inr ⟨e, by simpa using d⟩))
/-- The entries lie where v leads to, outside S. -/
def Es (w : World) (S : Nat → Prop) (L : List En) (v : Value) : Prop := ∃ ad cap, v = .slice ad L.length cap ∧ (ad = none → cap = 0) ∧ L.length ≤ cap ∧ cap ≤ maxLen ∧
  ∀ i (h : i < L.length), ∃ b o, ad = some ⟨b, o, none⟩ ∧ b < w.heap.size ∧ ¬ S b ∧ w.cell? ⟨b, o + i * 4, none⟩ = some (.int .i64 L[i].term) ∧ w.cell? ⟨b, o + i * 4 + 1, none⟩ = some (.int .i64 L[i].at') ∧ w.cell? ⟨b, o + i * 4 + 2, none⟩ = some (.int .i64 L[i].born) ∧ w.cell? ⟨b, o + i * 4 + 3, none⟩ = some (.string L[i].text)
section
variable {w w' : World} {S S' : Nat → Prop} {L : List En} {v : Value}
theorem Es.stays (h : Es w S L v) (hf : Fr w w' S) (hs : ∀ k, S' k → Gro S w w' k) : Es w' S' L v := by
  obtain ⟨ad, cap, e, h0, h1, h2, h3⟩ := h
  refine ⟨ad, cap, e, h0, h1, h2, fun i hi => ?_⟩
  obtain ⟨b, o, ha, hl, hS, c0, c1, c2, c3⟩ := h3 i hi
  have hc : ∀ o, w'.cell? ⟨b, o, none⟩ = w.cell? ⟨b, o, none⟩ := fun o => World.cell?_of_block (hf.block b hl hS)
  refine ⟨b, o, ha, Nat.lt_of_lt_of_le hl hf.size, fun q => ?_, by rw [hc]; exact c0, by rw [hc]; exact c1, by rw [hc]; exact c2, by rw [hc]; exact c3⟩
  rcases hs b q with q | q
  · exact hS q
  · omega
theorem Es.on (h : Es w S L v) (hb : Below w.heap.size w w') : Es w' S L v := h.stays (Fr.ofBelow S hb) (fun _ q => .inl q)
theorem Es.nil (w : World) (S : Nat → Prop) : Es w S [] (.slice none 0 0) := ⟨none, 0, rfl, fun _ => rfl, Nat.le_refl _, Nat.zero_le _, fun i hi => by simp at hi⟩
theorem Es.own {B : Nat} (h : w.ownsRow B 49 4 v L.length (enC L)) (hS : ∀ k, v.ownBlock = some k → ¬ S k) : Es w S L v := by
  have h' := h
  rcases h.2 with ⟨hv, h0⟩ | ⟨g, cap, cur, hv, hg, hc, h1, h2, hr⟩
  · have e : L = [] := List.eq_nil_of_length_eq_zero h0
    subst e
    rw [hv]
    exact Es.nil w S
  · subst hv
    refine ⟨_, cap, rfl, fun q => (by cases q), h1, h2, fun i hi => ⟨g, 0, rfl, blk_lt hc, hS g rfl, ?_⟩⟩
    obtain ⟨a, b, c, d⟩ := enC_get L i hi
    rw [Nat.zero_add]
    exact ⟨(h'.cellAt _ (by omega)).trans a, (h'.cellAt _ (by omega)).trans b, (h'.cellAt _ (by omega)).trans c, (h'.cellAt _ (by omega)).trans d⟩
theorem Es.shape (h : Es w S L v) : ∃ ad cap, v = .slice ad L.length cap ∧ L.length ≤ cap ∧ cap ≤ maxLen := by
  obtain ⟨ad, cap, e, _, h1, h2, _⟩ := h
  exact ⟨ad, cap, e, h1, h2⟩
/-- What append reads of them. -/
theorem Es.src {ad : Option Addr} {cap : Nat} (h : Es w S L (.slice ad L.length cap)) : (ad = none ∧ L.length = 0 ∧ cap = 0 ∧ enC L = []) ∨ ∃ a, ad = some a ∧ (enC L).length = L.length * 4 ∧ (∀ j u, (enC L)[j]? = some u → w.cell? (a.add j) = some u) := by
  obtain ⟨ad', cap', e, h0, h1, h2, h3⟩ := h
  cases e
  cases had : ad with
  | none =>
    have hL : L = [] := by
      rcases L with _ | ⟨l, L⟩
      · rfl
      · obtain ⟨b, o, e, _⟩ := h3 0 (by simp)
        rw [had] at e
        cases e
    subst hL
    exact .inl ⟨rfl, rfl, h0 had, rfl⟩
  | some a =>
    refine .inr ⟨a, rfl, enC_len L, fun j u hu => ?_⟩
    obtain ⟨i, hi, h⟩ := enC_cell L j u hu
    obtain ⟨b, o, e, _, _, c0, c1, c2, c3⟩ := h3 i hi
    rw [had] at e
    cases e
    rw [add_at]
    rcases h with ⟨rfl, rfl⟩ | ⟨rfl, rfl⟩ | ⟨rfl, rfl⟩ | ⟨rfl, rfl⟩
    · exact c0
    · exact c1
    · exact c2
    · exact c3
end

/-! ### Messages -/
abbrev msV (m : Ms) (lv : Value) : Value := .agg #[.int .i64 m.kind, .int .i64 m.fr, .int .i64 m.to, .int .i64 m.term, .int .i64 m.index, .int .i64 m.prev, .int .i64 m.commit, .bool m.good, lv, .string m.snap]
abbrev msO (m : Ms) (lv : Value) : Obj := .cells #[.int .i64 m.kind, .int .i64 m.fr, .int .i64 m.to, .int .i64 m.term, .int .i64 m.index, .int .i64 m.prev, .int .i64 m.commit, .bool m.good, lv, .string m.snap] 34
def msC (O : List (Ms × Value)) : List Value := O.flatMap fun p => [.int .i64 p.1.kind, .int .i64 p.1.fr, .int .i64 p.1.to, .int .i64 p.1.term, .int .i64 p.1.index, .int .i64 p.1.prev, .int .i64 p.1.commit, .bool p.1.good, p.2, .string p.1.snap]
theorem msC_append (a b : List (Ms × Value)) : msC (a ++ b) = msC a ++ msC b := by simp [msC]
theorem msC_len (O : List (Ms × Value)) : (msC O).length = O.length * 10 := by
  induction O with
  | nil => rfl
  | cons p O ih =>
    have e : msC (p :: O) = msC [p] ++ msC O := by simp [msC]
    rw [e, List.length_append, ih]
    simp [msC]
    omega

/-! ### A ballot in memory -/
def bC (b : Bs) (lv ov : Value) : Array Value := #[.int .i64 b.id, .int .i64 b.size, .int .i64 b.term, .int .i64 b.vote, .int .i64 b.role, .int .i64 b.lead, .int .i64 b.base, .int .i64 b.baseTerm, .string b.snap, lv,
  .bool (b.has.getD 0 false), .bool (b.has.getD 1 false), .bool (b.has.getD 2 false), .bool (b.has.getD 3 false), .bool (b.has.getD 4 false),
  .int .i64 (b.next.getD 0 0), .int .i64 (b.next.getD 1 0), .int .i64 (b.next.getD 2 0), .int .i64 (b.next.getD 3 0), .int .i64 (b.next.getD 4 0),
  .int .i64 (b.mat.getD 0 0), .int .i64 (b.mat.getD 1 0), .int .i64 (b.mat.getD 2 0), .int .i64 (b.mat.getD 3 0), .int .i64 (b.mat.getD 4 0),
  .int .i64 b.commit, .bool b.touched, .bool b.whole, .int .i64 b.fr, ov]
/-- The document's ballot b lies at A; S are the blocks that it writes. -/
structure Rv (w : World) (A : Nat) (S : Nat → Prop) (b : Bs) (lv ov : Value) (O : List (Ms × Value)) : Prop where
  ob : w.heap[A]? = some (.cells (bC b lv ov) 81 (0, 0))
  log : Es w S b.log lv
  eo : O.map Prod.fst = b.out
  out : w.ownsRow 0 34 10 ov O.length (msC O)
  ls : ∀ p ∈ O, Es w S p.1.list p.2
  covA : S A
  cov : ∀ k, ov.ownBlock = some k → S k
  lt : ∀ k, S k → k < w.heap.size
  few : O.length ≤ 900000
  len : b.log.length ≤ 900000
  b0 : 0 ≤ b.base
  b1 : b.base ≤ 4398046511104
def Rb (w : World) (A : Nat) (S : Nat → Prop) (b : Bs) : Prop := ∃ lv ov O, Rv w A S b lv ov O
section
variable {w w' : World} {A : Nat} {S T : Nat → Prop} {b : Bs} {lv ov : Value} {O : List (Ms × Value)}
theorem Rv.stays (h : Rv w A S b lv ov O) (k : Fr w w' T) (hd : ∀ b, S b → ¬ T b) (hl : Es w' S b.log lv) (hls : ∀ p ∈ O, Es w' S p.1.list p.2) : Rv w' A S b lv ov O :=
  ⟨(k.block A (h.lt A h.covA) (hd A h.covA)).trans h.ob, hl, h.eo, own_like h.out (fun j hj => k.block j (h.lt j (h.cov j hj)) (hd j (h.cov j hj))), hls, h.covA, h.cov, fun b hb => Nat.lt_of_lt_of_le (h.lt b hb) k.size, h.few, h.len, h.b0, h.b1⟩
theorem Rb.on (h : Rb w A S b) (hb : Below w.heap.size w w') : Rb w' A S b := by
  obtain ⟨lv, ov, O, h⟩ := h
  exact ⟨lv, ov, O, h.stays (Fr.ofBelow (fun _ => False) hb) (fun _ _ q => q) (h.log.on hb) (fun p hp => (h.ls p hp).on hb)⟩
theorem Rv.cell (h : Rv w A S b lv ov O) (i : Nat) : w.cell? ⟨A, i, none⟩ = (bC b lv ov)[i]? := cell_blk h.ob i
theorem last_any (h : Rb w A S b) : Calls Try.prog 38 #[.pointer (some ⟨A, 0, none⟩)] w fun e w' => e = .returned (.int .i64 b.last) ∧ ∃ n, w' = w.drewN n := by
  obtain ⟨lv, ov, O, h⟩ := h
  have c6 : w.cell? ⟨A, 6, none⟩ = some (.int .i64 b.base) := h.cell 6
  have c9 : w.cell? ⟨A, 9, none⟩ = some lv := h.cell 9
  obtain ⟨ad, cap, rfl, _, _⟩ := h.log.shape
  have b0 := h.b0
  have b1 := h.b1
  have l1 := h.len
  have el : b.last = b.base + b.log.length := rfl
  rw [el]
  clear h el
  go_enter Try.func38, Try.ntmps38
  go_wp2
  go_quiet (fail)
  go_wp2
  go_ret
  exact ⟨rfl, _, rfl⟩
end
end Go.Proofs.Ytmiagjcihmenfaa
