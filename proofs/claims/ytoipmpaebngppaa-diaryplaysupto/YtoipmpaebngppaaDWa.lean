/- What stays of the memory; a row of bytes that a file has. -/
import Derived.Test.YtoipmpaebngppaaDDb
import Derived.Test.YtoipmpaebngppaaRows
import Derived.WalkKit
import Derived.WalkSpells
import Derived.WalkLawsBesides
import Derived.OwnWalk
import Derived.BigCall
import Derived.BigRegion
import Derived.Deep.QuietTactic
import Derived.BigQuiet
import Derived.Deep.OwnRows
import Derived.Laws.OwnMore
import Derived.Laws.BytesArg
import Derived.Lib.ConvBytes
import Derived.Lib.AppendStr
import Derived.Lib.UnsafeStr
import Derived.Lib.Hide
import Derived.StringKeys
import Derived.Maps.OwnSet
import Derived.Deep.RegionWith
namespace Go.Proofs.Ytoipmpaebngppaa
open Go.RowKit Go.Maps

/-- All blocks but those of S are as they were. -/
structure Fr (w w' : World) (S : Nat → Prop) : Prop where
  os : w'.os = w.os
  tape : w'.tape = w.tape
  output : w'.output = w.output
  size : w.heap.size ≤ w'.heap.size
  block : ∀ k, k < w.heap.size → ¬ S k → w'.heap[k]? = w.heap[k]?
theorem Fr.refl (w : World) (S : Nat → Prop) : Fr w w S := ⟨rfl, rfl, rfl, Nat.le_refl _, fun _ _ _ => rfl⟩
theorem Fr.trans {w w1 w2 : World} {S : Nat → Prop} (h : Fr w w1 S) (k : Fr w1 w2 S) : Fr w w2 S :=
  ⟨k.os.trans h.os, k.tape.trans h.tape, k.output.trans h.output, Nat.le_trans h.size k.size, fun j hj hr => (k.block j (Nat.lt_of_lt_of_le hj h.size) hr).trans (h.block j hj hr)⟩
/-- A second step may also change what is new. -/
theorem Fr.step {w w1 w2 : World} {S T : Nat → Prop} (h : Fr w w1 S) (k : Fr w1 w2 T) (hT : ∀ j, T j → S j ∨ w.heap.size ≤ j) : Fr w w2 S :=
  ⟨k.os.trans h.os, k.tape.trans h.tape, k.output.trans h.output, Nat.le_trans h.size k.size, fun j hj hr => (k.block j (Nat.lt_of_lt_of_le hj h.size) (fun q => by rcases hT j q with q | q; exact hr q; omega)).trans (h.block j hj hr)⟩
theorem Fr.mono {w w' : World} {S T : Nat → Prop} (h : Fr w w' S) (hT : ∀ j, S j → T j) : Fr w w' T :=
  ⟨h.os, h.tape, h.output, h.size, fun j hj hr => h.block j hj (fun q => hr (hT j q))⟩
theorem Fr.alloc {w w1 : World} {S : Nat → Prop} (h : Fr w w1 S) (o : Obj) : Fr w (w1.alloc o) S :=
  ⟨h.os, h.tape, h.output, Nat.le_trans h.size (by simp), fun j hj hr => (Below.heap_alloc w1 o j (Nat.lt_of_lt_of_le hj h.size)).trans (h.block j hj hr)⟩
theorem Fr.set {w w1 : World} {S : Nat → Prop} (h : Fr w w1 S) {a : Addr} (ha : S a.block ∨ w.heap.size ≤ a.block) (u : Value) : Fr w (w1.setCell a u) S :=
  ⟨h.os, h.tape, h.output, Nat.le_trans h.size (by simp [World.setCell]), fun j hj hr => (Below.heap_setCell w1 a u j (by rintro rfl; rcases ha with ha | ha; exact hr ha; omega)).trans (h.block j hj hr)⟩
theorem Fr.drewN {w w1 : World} {S : Nat → Prop} (h : Fr w w1 S) (k : Nat) : Fr w (w1.drewN k) S := ⟨h.os, h.tape, h.output, h.size, h.block⟩
theorem Fr.grown {w w1 w2 : World} {S : Nat → Prop} {row : Option Nat} (h : Fr w w1 S) (k : w1.grownBy w2 row) (hr : ∀ k, row = some k → S k ∨ w.heap.size ≤ k) : Fr w w2 S :=
  ⟨k.os.trans h.os, k.tape.trans h.tape, k.output.trans h.output, Nat.le_trans h.size k.size, fun j hj hrj => (k.block j (Nat.lt_of_lt_of_le hj h.size) (fun e => by rcases hr j e.symm with q | q; exact hrj q; omega)).trans (h.block j hj hrj)⟩
theorem Fr.below {w w1 w2 : World} {S : Nat → Prop} (h : Fr w w1 S) (k : Below w1.heap.size w1 w2) : Fr w w2 S :=
  ⟨k.os.trans h.os, k.tape.trans h.tape, k.output.trans h.output, Nat.le_trans h.size k.size, fun j hj hrj => (k.block j (Nat.lt_of_lt_of_le hj h.size)).trans (h.block j hj hrj)⟩
theorem Fr.toBelow {w w' : World} {S : Nat → Prop} {B : Nat} (h : Fr w w' S) (hS : ∀ k, k < B → ¬ S k) (hB : B ≤ w.heap.size) : Below B w w' :=
  ⟨h.os, h.tape, h.output, h.size, fun k hk => h.block k (by omega) (hS k hk)⟩
theorem Fr.ofBelow {w w' : World} (S : Nat → Prop) (h : Below w.heap.size w w') : Fr w w' S := ⟨h.os, h.tape, h.output, h.size, fun k hk _ => h.block k hk⟩
theorem Fr.fresh {w w' : World} {S : Nat → Prop} (h : Fr w w' S) (hS : ∀ k, S k → w.heap.size ≤ k) : Below w.heap.size w w' :=
  ⟨h.os, h.tape, h.output, h.size, fun k hk => h.block k hk (fun q => by have := hS k q; omega)⟩
/-- S, and what is new. -/
def Gro (S : Nat → Prop) (w w' : World) : Nat → Prop := fun k => S k ∨ (w.heap.size ≤ k ∧ k < w'.heap.size)

theorem cell_blk {w : World} {b : Nat} {cs : Array Value} {t : TypeId} {fr : Nat × Nat} (h : w.heap[b]? = some (.cells cs t fr)) (i : Nat) : w.cell? ⟨b, i, none⟩ = cs[i]? := by simp [World.cell?, h]
theorem frozen_blk {w : World} {b : Nat} {cs : Array Value} {t : TypeId} (h : w.heap[b]? = some (.cells cs t (0, 0))) (i : Nat) : w.frozen? ⟨b, i, none⟩ = false := by simp [World.frozen?, h]
theorem set_blk {w : World} {b i : Nat} {cs : Array Value} {t : TypeId} {fr : Nat × Nat} (h : w.heap[b]? = some (.cells cs t fr)) (v : Value) : (w.setCell ⟨b, i, none⟩ v).heap[b]? = some (.cells (cs.setIfInBounds i v) t fr) := by
  have hlt := (Array.getElem?_eq_some_iff.1 h).1
  simp [World.setCell, Array.getElem?_modify, h]
theorem set_other {w : World} {a : Addr} {k : Nat} (v : Value) (h : k ≠ a.block) : (w.setCell a v).heap[k]? = w.heap[k]? := Below.heap_setCell w a v k h
theorem blk_lt {w : World} {b : Nat} {o : Obj} (h : w.heap[b]? = some o) : b < w.heap.size := (Array.getElem?_eq_some_iff.1 h).1
theorem tag_ne {w : World} {a b : Nat} {cs cs' : Array Value} {t t' : TypeId} {fr fr' : Nat × Nat} (h : w.heap[a]? = some (.cells cs t fr)) (h' : w.heap[b]? = some (.cells cs' t' fr')) (ht : t ≠ t') : a ≠ b := by
  rintro rfl
  rw [h] at h'
  simp only [Option.some.injEq, Obj.cells.injEq] at h'
  exact ht h'.2.1
theorem map_ne {w : World} {a b : Nat} {cs : Array Value} {t : TypeId} {fr : Nat × Nat} {es : Array MapEntry} {clock : Nat} (h : w.heap[a]? = some (.cells cs t fr)) (h' : w.heap[b]? = some (.map es clock)) : a ≠ b := by
  rintro rfl
  rw [h] at h'
  cases h'
theorem own_map {w w' : World} {P : Program} {k : TypeId} {H : Type} {R : Value → Option (DataW H × List MemPlace)} {b n : Nat} {D : DataW H} (h : w.ownsMap P k R b n D) (he : w'.heap[b]? = w.heap[b]?) : w'.ownsMap P k R b n D := by
  obtain ⟨es, clock, hb, r⟩ := h
  exact ⟨es, clock, he.trans hb, r⟩
theorem own_like {w w' : World} {base : Nat} {e : TypeId} {size : Nat} {v : Value} {n : Nat} {xs : List Value} (h : w.ownsRow base e size v n xs) (hb : ∀ k, v.ownBlock = some k → w'.heap[k]? = w.heap[k]?) : w'.ownsRow base e size v n xs := by
  refine ⟨h.1, ?_⟩
  rcases h.2 with hn | ⟨g, cap, cur, rfl, hb0, hgg, rest⟩
  · exact .inl hn
  · exact .inr ⟨g, cap, cur, rfl, hb0, (hb g rfl).trans hgg, rest⟩
theorem undrew {w w' : World} {r : Option Nat} (h : w.drew.grownBy w' r) : w.grownBy w' r := ⟨h.os, h.tape, h.output, h.size, h.block⟩

/-- The slice v has the bytes l, in a row of its own whose room is free. -/
def Row (w : World) (v : Value) (l : List UInt8) : Prop :=
  (v = .slice none 0 0 ∧ l = []) ∨ ∃ g cap cur fz, v = .slice (some ⟨g, 0, none⟩) l.length cap ∧ w.heap[g]? = some (.cells cur 5 fz) ∧ (fz = (0, 0) ∨ cur.size ≤ fz.1) ∧ l.length ≤ cap ∧ cap ≤ maxLen ∧ cur.size = cap ∧ cur.toList.take l.length = Lib.byteCells l
theorem Row.keep {w w' : World} {v : Value} {l : List UInt8} (h : Row w v l) (he : ∀ k, v.ownBlock = some k → w'.heap[k]? = w.heap[k]?) : Row w' v l := by
  rcases h with h | ⟨g, cap, cur, fz, rfl, hg, r⟩
  · exact .inl h
  · exact .inr ⟨g, cap, cur, fz, rfl, (he g rfl).trans hg, r⟩
theorem Row.blk {w : World} {v : Value} {l : List UInt8} (h : Row w v l) {k : Nat} (hk : v.ownBlock = some k) : ∃ cur fz, w.heap[k]? = some (.cells cur 5 fz) := by
  rcases h with ⟨rfl, _⟩ | ⟨g, cap, cur, fz, rfl, hg, r⟩
  · cases hk
  · cases hk
    exact ⟨cur, fz, hg⟩
theorem Row.shape {w : World} {v : Value} {l : List UInt8} (h : Row w v l) : ∃ ad cap, v = .slice ad l.length cap := by
  rcases h with ⟨rfl, rfl⟩ | ⟨g, cap, cur, fz, rfl, hg, r⟩
  · exact ⟨none, 0, rfl⟩
  · exact ⟨_, _, rfl⟩
theorem Row.ofOwn {w : World} {B : Nat} {v : Value} {n : Nat} {l : List UInt8} (h : w.ownsRow B 5 1 v n (Lib.byteCells l)) (hn : n = l.length) : Row w v l := by
  subst hn
  rcases h.2 with ⟨rfl, e⟩ | ⟨g, cap, cur, rfl, _, hg, h1, h2, h3, h4⟩
  · exact .inl ⟨rfl, List.eq_nil_of_length_eq_zero e⟩
  · exact .inr ⟨g, cap, cur, (0, 0), rfl, hg, .inl rfl, h1, h2, by simpa using h3, by simpa using h4⟩
/-- What a cell of the row has. -/
theorem Row.cell {w : World} {g n cap : Nat} {l : List UInt8} (h : Row w (.slice (some ⟨g, 0, none⟩) n cap) l) {j : Nat} (hj : j < l.length) : w.cell? ⟨g, j, none⟩ = some (.int .u8 l[j].toNat) := by
  rcases h with ⟨e, _⟩ | ⟨g', cap', cur, fz, e, hg, _, _, _, _, ht⟩
  · cases e
  · simp only [Value.slice.injEq, Option.some.injEq, Addr.mk.injEq] at e
    obtain ⟨⟨rfl, _⟩, _⟩ := e
    rw [cell_blk hg]
    have h1 : (cur.toList.take l.length)[j]? = (Lib.byteCells l)[j]? := by rw [ht]
    rw [List.getElem?_take, if_pos hj] at h1
    simpa [Lib.byteCells, hj] using h1

/-- Bytes put one behind the other into a row's free room. -/
theorem store_row (P : Program) (g o : Nat) (t : TypeId) (fz : Nat × Nat) (vs : List Value) : ∀ (i : Nat) (cur : Array Value) (w : World), w.heap[g]? = some (.cells cur t fz) → (fz = (0, 0) ∨ cur.size ≤ fz.1) → o + i + vs.length ≤ cur.size → (∀ v ∈ vs, v.oneCell' = true) →
    ∃ cur', (storeCells ⟨g, o, none⟩ vs i).run P w = .ok () (w.setRow g cur') ∧ cur'.size = cur.size ∧ (∀ j, j < o + i → cur'[j]? = cur[j]?) ∧ ∀ j, j < vs.length → cur'[o + i + j]? = vs[j]? := by
  induction vs with
  | nil =>
    intro i cur w hg _ _ _
    refine ⟨cur, ?_, rfl, fun _ _ => rfl, fun j hj => by simp at hj⟩
    rw [setRow_self w g cur t fz hg]
    simp [storeCells]
  | cons v vs ih =>
    intro i cur w hg hf hl h1
    simp only [List.length_cons] at hl
    have hc : w.cell? ⟨g, o + i, none⟩ = some cur[o + i] := by rw [cell_blk hg]; simp
    have hz : w.frozen? ⟨g, o + i, none⟩ = false := by
      rcases hf with rfl | hf
      · exact frozen_blk hg _
      · simp only [World.frozen?, hg, Bool.and_eq_false_iff, decide_eq_false_iff_not]
        left
        omega
    have ha : (⟨g, o, none⟩ : Addr).add i = ⟨g, o + i, none⟩ := by unfold Addr.add; split <;> simp_all
    have hst : (store ((⟨g, o, none⟩ : Addr).add i) v).run P w = .ok () (w.setCell ⟨g, o + i, none⟩ v) := by
      rw [ha, run_store P w _ v _ (h1 v (by simp)), hc]
      simp [hz]
    obtain ⟨cur', hr, hs, hb, ha'⟩ := ih (i + 1) (cur.setIfInBounds (o + i) v) (w.setCell ⟨g, o + i, none⟩ v) (set_blk hg v) (by simpa using hf) (by simp; omega) (fun u hu => h1 u (by simp [hu]))
    refine ⟨cur', ?_, by simpa using hs, ?_, ?_⟩
    · simp only [storeCells, Sem.run_bind, hst, Result.andThen_ok, hr]
      rw [setCell_eq_setRow w g (o + i) cur t fz v hg, setRow_setRow]
    · intro j hj
      rw [hb j (by omega), Array.getElem?_setIfInBounds, if_neg (by omega)]
    · intro j hj
      cases j with
      | zero =>
        have := hb (o + i) (by omega)
        rw [Nat.add_zero, this, Array.getElem?_setIfInBounds, if_pos rfl, if_pos (by omega)]
        simp
      | succ j =>
        have := ha' j (by simpa using hj)
        rw [show o + i + (j + 1) = o + (i + 1) + j by omega, this]
        simp

theorem infoByte : (Try.prog.info? 5).map (fun i => (i.zero, i.size, i.bytes)) = some (some (.int .u8 0), 1, 1) := by kernel_rfl
theorem str_cells (s : ByteArray) : Lib.strCells s = Lib.byteCells s.data.toList := rfl
theorem take_room (cur cur' : Array Value) (l m : List UInt8) (ht : cur.toList.take l.length = Lib.byteCells l) (h1 : ∀ j, j < l.length → cur'[j]? = cur[j]?) (h2 : ∀ j, j < m.length → cur'[l.length + j]? = (Lib.byteCells m)[j]?) :
    cur'.toList.take (l ++ m).length = Lib.byteCells (l ++ m) ∧ cur'.toList.take l.length = Lib.byteCells l := by
  have e1 : ∀ j, j < l.length → cur'[j]? = (Lib.byteCells l)[j]? := by
    intro j hj
    rw [h1 j hj, ← ht, List.getElem?_take, if_pos hj]
    simp
  constructor
  · apply List.ext_getElem?
    intro j
    rw [List.getElem?_take, Lib.byteCells_append]
    by_cases q : j < (l ++ m).length
    · rw [if_pos q]
      simp only [List.length_append] at q
      by_cases q1 : j < l.length
      · rw [List.getElem?_append_left (by simpa [Lib.byteCells] using q1), ← e1 j q1]
        simp
      · rw [List.getElem?_append_right (by simpa [Lib.byteCells] using q1)]
        have := h2 (j - l.length) (by omega)
        rw [show l.length + (j - l.length) = j by omega] at this
        simp only [Lib.byteCells_length]
        rw [← this]
        simp
    · rw [if_neg q, eq_comm, List.getElem?_eq_none]
      simp [Lib.byteCells] at q ⊢
      omega
  · apply List.ext_getElem?
    intro j
    rw [List.getElem?_take]
    by_cases q : j < l.length
    · rw [if_pos q, ← e1 j q]
      simp
    · rw [if_neg q, eq_comm, List.getElem?_eq_none]
      simp [Lib.byteCells] at q ⊢
      omega

/-- A text is put behind a row's bytes: in its room, or in a new row. -/
theorem Row.append {w : World} {v : Value} {l : List UInt8} (h : Row w v l) (s : ByteArray) (hb : l.length + s.size ≤ 140737488355328) (ty : TypeId) :
    ∃ v' w', (Builtin.append_ #[73, 9] ty #[v, .string s]).run Try.prog w = .ok v' w' ∧ Row w' v' (l ++ s.data.toList) ∧ Row w' v l ∧ w.grownBy w' v.ownBlock ∧ (∀ k, v'.ownBlock = some k → v.ownBlock = some k ∨ w.heap.size ≤ k) := by
  obtain ⟨i0, hi, hz0, hz1, hz2⟩ := info_parts infoByte
  have hm : l.length + s.size ≤ maxLen := by unfold maxLen; omega
  have hsl : s.data.toList.length = s.size := by simp
  rcases h with ⟨rfl, rfl⟩ | ⟨g, cap, cur, fz, rfl, hg, hf, hlc, hcm, hcs, ht⟩
  · by_cases h0 : s.size = 0
    · have hn : s.data.toList = [] := List.eq_nil_of_length_eq_zero (by omega)
      obtain ⟨v', w', hr, ho, hgr, hiff⟩ := Lib.run_append_own_string (P := Try.prog) w 0 73 9 ty 5 i0 Try.underlying73 Try.underlying9 hi hz0 hz1 hz2 (.slice none 0 0) 0 [] (World.ownsRow_nil w 0 5 1) s (by simpa using hm) (by simpa using hb) (Nat.zero_le _)
      have e := hiff.2 ⟨rfl, h0⟩
      subst e
      exact ⟨_, w', hr, .inl ⟨rfl, by simp [hn]⟩, .inl ⟨rfl, rfl⟩, hgr, fun k hk => by cases hk⟩
    · have hw : w.ownsRow w.heap.size 5 1 (.slice none 0 0) 0 [] := World.ownsRow_nil w _ 5 1
      obtain ⟨v', w', hr, ho, hgr, _⟩ := Lib.run_append_own_string (P := Try.prog) w w.heap.size 73 9 ty 5 i0 Try.underlying73 Try.underlying9 hi hz0 hz1 hz2 (.slice none 0 0) 0 [] hw s (by simpa using hm) (by simpa using hb) (Nat.le_refl _)
      refine ⟨v', w', hr, ?_, .inl ⟨rfl, rfl⟩, hgr, fun k hk => .inr (ho.lt k hk).1⟩
      simp only [List.nil_append, Nat.zero_add] at ho ⊢
      rw [str_cells] at ho
      exact Row.ofOwn ho (by omega)
  · by_cases hroom : l.length + s.size ≤ cap
    · obtain ⟨cur', hst, hs', h1, h2⟩ := store_row Try.prog g l.length 5 fz (Lib.strCells s) 0 cur w hg hf (by rw [Lib.strCells_length]; omega) (Lib.strCells_oneCell s)
      have hfc := Lib.run_firstCells_string (P := Try.prog) w 1 s
      have hr : (Builtin.append_ #[73, 9] ty #[.slice (some ⟨g, 0, none⟩) l.length cap, .string s]).run Try.prog w = .ok (.slice (some ⟨g, 0, none⟩) (l.length + s.size) cap) (w.setRow g cur') := by
        simp [Builtin.append_, run_underlying Try.underlying73, run_underlying Try.underlying9, sizeOf, typeInfo, hi, hz1, Builtin.lenOf, hroom, hfc, Addr.add_lit, hst]
      have e := take_room cur cur' l s.data.toList ht (fun j hj => h1 j (by omega)) (fun j hj => by
        have := h2 j (by rw [Lib.strCells_length]; omega)
        rwa [Nat.add_zero] at this)
      refine ⟨_, _, hr, .inr ⟨g, cap, cur', fz, by simp, setRow_heap w g cur _ 5 _ hg, by rw [hs']; exact hf, by simp; omega, hcm, by omega, e.1⟩, .inr ⟨g, cap, cur', fz, rfl, setRow_heap w g cur _ 5 _ hg, by rw [hs']; exact hf, hlc, hcm, by omega, e.2⟩,
        ⟨rfl, rfl, rfl, by simp, fun k _ hk => setRow_other w g k _ (fun e => hk (by simp [Value.ownBlock, e]))⟩, fun k hk => .inl hk⟩
    · have hold : ∀ j u, (Lib.byteCells l)[j]? = some u → w.cell? ((⟨g, 0, none⟩ : Addr).add j) = some u := by
        intro j u hu
        have hj : j < l.length := by
          have := (List.getElem?_eq_some_iff.1 hu).1
          rwa [Lib.byteCells_length] at this
        have e : (⟨g, 0, none⟩ : Addr).add j = ⟨g, j, none⟩ := by unfold Addr.add; split <;> simp_all
        rw [e, Row.cell (l := l) (n := l.length) (cap := cap) (.inr ⟨g, cap, cur, fz, rfl, hg, hf, hlc, hcm, hcs, ht⟩) hj]
        simpa [Lib.byteCells, hj] using hu
      have hr := Lib.run_append_grow_string (P := Try.prog) w 73 9 ty 5 i0 (.int .u8 0) Try.underlying73 Try.underlying9 hi hz0 ⟨g, 0, none⟩ l.length cap (Lib.byteCells l) (by rw [hz1, Lib.byteCells_length]; omega) hold s (by omega) (by omega) (by rw [hz2]; exact growslice_fits (by omega) (by omega))
      have hge := grownCap_ge w (l.length + s.size) cap 5
      have hcm2 := grownCap_le_maxLen w (l.length + s.size) cap 5 hm
      have hgr : w.grownBy (w.drew.alloc (.cells ((Lib.byteCells l).toArray ++ (Lib.strCells s).toArray ++ Builtin.zeroCells (Value.int IntKind.u8 0).cells (grownCap w (l.length + s.size) cap 5 - (l.length + s.size))) 5)) (Value.ownBlock (.slice (some ⟨g, 0, none⟩) l.length cap)) :=
        ⟨rfl, rfl, rfl, by simp, fun k hk _ => Below.heap_alloc w.drew _ k hk⟩
      refine ⟨_, _, hr, .inr ⟨w.heap.size, _, _, (0, 0), by simp, heap_alloc_new w.drew _, .inl rfl, by simp; omega, hcm2, ?_, ?_⟩, ?_, hgr, fun k hk => .inr (by cases hk; exact Nat.le_refl _)⟩
      · have hz1 : (Value.int IntKind.u8 0).cells.size = 1 := rfl
        simp only [Array.size_append, List.size_toArray, size_zeroCells, hz1, Lib.byteCells_length, Lib.strCells_length]
        omega
      · rw [str_cells, ← Lib.byteCells_length (l ++ s.data.toList), Lib.byteCells_append]
        simp only [Array.toList_append, List.append_assoc]
        rw [← List.append_assoc]
        exact List.take_left
      · exact Row.keep (w := w) (.inr ⟨g, cap, cur, fz, rfl, hg, hf, hlc, hcm, hcs, ht⟩) (fun k hk => by
          cases hk
          exact Below.heap_alloc w.drew _ _ (blk_lt hg))
/-- A text's bytes in a row of their own. -/
theorem Row.ofText (w : World) (s : ByteArray) (hs : s.size ≤ maxLen) : Row (Lib.bytesWorld w 5 s) (.slice (some ⟨w.heap.size, 0, none⟩) s.size (grownCap w s.size 0 5)) s.data.toList := by
  have hsl : s.data.toList.length = s.size := by simp
  have hge := grownCap_ge w s.size 0 5
  have e : (Lib.bytesCells w 5 s).size = grownCap w s.size 0 5 := by
    simp [Lib.bytesCells]
    have : s.data.size = s.size := rfl
    omega
  refine .inr ⟨w.heap.size, _, _, _, by rw [hsl], Lib.bytesWorld_at_new w 5 s, .inr (Nat.le_refl _), by omega, grownCap_le_maxLen w s.size 0 5 hs, e, ?_⟩
  rw [← Lib.byteCells_length s.data.toList]
  simp only [Lib.bytesCells, Array.toList_append, Array.toList_map]
  exact List.take_left
theorem text_below (w : World) (s : ByteArray) : Below w.heap.size w (Lib.bytesWorld w 5 s) :=
  ⟨rfl, rfl, rfl, by rw [Lib.bytesWorld_size]; omega, fun k hk => Lib.bytesWorld_at_old w 5 s k hk⟩
theorem back_self (l : List UInt8) : l.map ((fun n : Int => UInt8.ofNat n.toNat) ∘ fun b => (b.toNat : Int)) = l := by
  induction l with
  | nil => rfl
  | cons b l ih =>
    rw [List.map_cons, ih]
    simp
/-- The text of a row. -/
theorem Row.text {w : World} {v : Value} {s : ByteArray} (h : Row w v s.data.toList) : (convert 73 9 v).run Try.prog w = .ok (.string s) w := by
  rcases h with ⟨rfl, e⟩ | h
  · rw [run_convert_bytes_nil w 73 5 Try.underlying73 Try.underlying5 0 0 9 Try.underlying9]
    have : s = ByteArray.empty := bytes_ext (by rw [e]; rfl)
    rw [this]
  · obtain ⟨g, cap, cur, fz, rfl, hh⟩ := h
    have hrow : Row w (.slice (some ⟨g, 0, none⟩) s.data.toList.length cap) s.data.toList := .inr ⟨g, cap, cur, fz, rfl, hh⟩
    rw [run_convert_bytes_arg w 73 5 Try.underlying73 Try.underlying5 g 0 _ cap (s.data.toList.map fun b => (b.toNat : Int)) (by simp) (fun i hi => ?_) 9 Try.underlying9]
    · have : strOfNums (s.data.toList.map fun b => (b.toNat : Int)) = s := bytes_ext (by
        rw [strOfNums_data, List.map_map]
        exact back_self _)
      rw [this]
    · rw [Nat.zero_add, hrow.cell hi]
      simp only [List.getD, List.getElem?_map, List.getElem?_eq_getElem hi, Option.map_some, Option.getD_some]
end Go.Proofs.Ytoipmpaebngppaa
