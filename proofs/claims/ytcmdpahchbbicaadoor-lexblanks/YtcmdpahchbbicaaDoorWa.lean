/- What stays of the memory; whole rows read and stored at once. -/
import Derived.Test.YtcmdpahchbbicaaDoorRows
import Derived.WalkKit
import Derived.WalkSpells
import Derived.WalkLawsBesides
import Derived.OwnWalk
import Derived.BigCall
import Derived.BigRegion
import Derived.Deep.QuietTactic
import Derived.BigQuiet
import Derived.Deep.OwnRows
import Derived.Deep.RegionWith
import Derived.Deep.RegionLaw
import Derived.Deep.RegionHeld3
import Derived.Laws.OwnMore
import Derived.Laws.CopyRow
import Derived.Laws.CopyOwn
import Derived.Maps.AppendAt
import Derived.Lib.Hide
import Derived.Deep.MidRow
import Derived.Deep.DeepCutAuto
import Derived.Laws.EntriesVeiled
namespace Go.Proofs.YtcmdpahchbbicaaDoor
open Go.RowKit

/-- All blocks but those of S are as they were. -/
structure Fr (w w' : World) (S : Nat → Prop) : Prop where
  os : w'.os = w.os
  tape : w'.tape = w.tape
  output : w'.output = w.output
  size : w.heap.size ≤ w'.heap.size
  block : ∀ k, k < w.heap.size → ¬ S k → w'.heap[k]? = w.heap[k]?
theorem Fr.refl (w : World) (S : Nat → Prop) : Fr w w S := ⟨rfl, rfl, rfl, Nat.le_refl _, fun _ _ _ => rfl⟩
theorem Fr.trans {w w1 w2 : World} {S : Nat → Prop} (h : Fr w w1 S) (k : Fr w1 w2 S) : Fr w w2 S :=
  ⟨k.os.trans h.os, k.tape.trans h.tape, k.output.trans h.output, Nat.le_trans h.size k.size, fun j hj hr => (k.block j (Nat.lt_of_lt_of_le hj h.size) hr).trans (h.block j hj hr)⟩
/-- A second step may also change what is new. -/
theorem Fr.step {w w1 w2 : World} {S T : Nat → Prop} (h : Fr w w1 S) (k : Fr w1 w2 T) (hT : ∀ j, T j → S j ∨ w.heap.size ≤ j) : Fr w w2 S :=
  ⟨k.os.trans h.os, k.tape.trans h.tape, k.output.trans h.output, Nat.le_trans h.size k.size, fun j hj hr => (k.block j (Nat.lt_of_lt_of_le hj h.size) (fun q => by rcases hT j q with q | q; exact hr q; omega)).trans (h.block j hj hr)⟩
theorem Fr.mono {w w' : World} {S T : Nat → Prop} (h : Fr w w' S) (hT : ∀ j, S j → T j) : Fr w w' T :=
  ⟨h.os, h.tape, h.output, h.size, fun j hj hr => h.block j hj (fun q => hr (hT j q))⟩
theorem Fr.alloc {w w1 : World} {S : Nat → Prop} (h : Fr w w1 S) (o : Obj) : Fr w (w1.alloc o) S :=
  ⟨h.os, h.tape, h.output, Nat.le_trans h.size (by simp), fun j hj hr => (Below.heap_alloc w1 o j (Nat.lt_of_lt_of_le hj h.size)).trans (h.block j hj hr)⟩
theorem Fr.set {w w1 : World} {S : Nat → Prop} (h : Fr w w1 S) {a : Addr} (ha : S a.block ∨ w.heap.size ≤ a.block) (u : Value) : Fr w (w1.setCell a u) S :=
  ⟨h.os, h.tape, h.output, Nat.le_trans h.size (by simp [World.setCell]), fun j hj hr => (Below.heap_setCell w1 a u j (by rintro rfl; rcases ha with ha | ha; exact hr ha; omega)).trans (h.block j hj hr)⟩
theorem Fr.drewN {w w1 : World} {S : Nat → Prop} (h : Fr w w1 S) (k : Nat) : Fr w (w1.drewN k) S := ⟨h.os, h.tape, h.output, h.size, h.block⟩
theorem Fr.grown {w w1 w2 : World} {S : Nat → Prop} {row : Option Nat} (h : Fr w w1 S) (k : w1.grownBy w2 row) (hr : ∀ k, row = some k → S k ∨ w.heap.size ≤ k) : Fr w w2 S :=
  ⟨k.os.trans h.os, k.tape.trans h.tape, k.output.trans h.output, Nat.le_trans h.size k.size, fun j hj hrj => (k.block j (Nat.lt_of_lt_of_le hj h.size) (fun e => by rcases hr j e.symm with q | q; exact hrj q; omega)).trans (h.block j hj hrj)⟩
theorem Fr.below {w w1 w2 : World} {S : Nat → Prop} (h : Fr w w1 S) (k : Below w1.heap.size w1 w2) : Fr w w2 S :=
  ⟨k.os.trans h.os, k.tape.trans h.tape, k.output.trans h.output, Nat.le_trans h.size k.size, fun j hj hrj => (k.block j (Nat.lt_of_lt_of_le hj h.size)).trans (h.block j hj hrj)⟩
theorem Fr.toBelow {w w' : World} {S : Nat → Prop} {B : Nat} (h : Fr w w' S) (hS : ∀ k, k < B → ¬ S k) (hB : B ≤ w.heap.size) : Below B w w' :=
  ⟨h.os, h.tape, h.output, h.size, fun k hk => h.block k (by omega) (hS k hk)⟩
theorem Fr.ofBelow {w w' : World} (S : Nat → Prop) (h : Below w.heap.size w w') : Fr w w' S := ⟨h.os, h.tape, h.output, h.size, fun k hk _ => h.block k hk⟩
theorem Fr.fresh {w w' : World} {S : Nat → Prop} (h : Fr w w' S) (hS : ∀ k, S k → w.heap.size ≤ k) : Below w.heap.size w w' :=
  ⟨h.os, h.tape, h.output, h.size, fun k hk => h.block k hk (fun q => by have := hS k q; omega)⟩
/-- S, and what is new. -/
def Gro (S : Nat → Prop) (w w' : World) : Nat → Prop := fun k => S k ∨ (w.heap.size ≤ k ∧ k < w'.heap.size)

theorem cell_blk {w : World} {b : Nat} {cs : Array Value} {t : TypeId} {fr : Nat × Nat} (h : w.heap[b]? = some (.cells cs t fr)) (i : Nat) : w.cell? ⟨b, i, none⟩ = cs[i]? := by simp [World.cell?, h]
theorem frozen_blk {w : World} {b : Nat} {cs : Array Value} {t : TypeId} (h : w.heap[b]? = some (.cells cs t (0, 0))) (i : Nat) : w.frozen? ⟨b, i, none⟩ = false := by simp [World.frozen?, h]
theorem set_blk {w : World} {b i : Nat} {cs : Array Value} {t : TypeId} {fr : Nat × Nat} (h : w.heap[b]? = some (.cells cs t fr)) (v : Value) : (w.setCell ⟨b, i, none⟩ v).heap[b]? = some (.cells (cs.setIfInBounds i v) t fr) := by
  have hlt := (Array.getElem?_eq_some_iff.1 h).1
  simp [World.setCell, Array.getElem?_modify, h]
theorem set_other {w : World} {a : Addr} {k : Nat} (v : Value) (h : k ≠ a.block) : (w.setCell a v).heap[k]? = w.heap[k]? := Below.heap_setCell w a v k h
theorem blk_lt {w : World} {b : Nat} {o : Obj} (h : w.heap[b]? = some o) : b < w.heap.size := (Array.getElem?_eq_some_iff.1 h).1
theorem tag_ne {w : World} {a b : Nat} {cs cs' : Array Value} {t t' : TypeId} {fr fr' : Nat × Nat} (h : w.heap[a]? = some (.cells cs t fr)) (h' : w.heap[b]? = some (.cells cs' t' fr')) (ht : t ≠ t') : a ≠ b := by
  rintro rfl
  rw [h] at h'
  simp only [Option.some.injEq, Obj.cells.injEq] at h'
  exact ht h'.2.1
theorem own_like {w w' : World} {base : Nat} {e : TypeId} {size : Nat} {v : Value} {n : Nat} {xs : List Value} (h : w.ownsRow base e size v n xs) (hb : ∀ k, v.ownBlock = some k → w'.heap[k]? = w.heap[k]?) : w'.ownsRow base e size v n xs := by
  refine ⟨h.1, ?_⟩
  rcases h.2 with hn | ⟨g, cap, cur, rfl, hb0, hgg, rest⟩
  · exact .inl hn
  · exact .inr ⟨g, cap, cur, rfl, hb0, (hb g rfl).trans hgg, rest⟩
theorem undrew {w w' : World} {r : Option Nat} (h : w.drew.grownBy w' r) : w.grownBy w' r := ⟨h.os, h.tape, h.output, h.size, h.block⟩

theorem gro_fresh {w0 w1 w2 : World} {T : Nat → Prop} (hT : ∀ k, T k → w0.heap.size ≤ k) (hs : w0.heap.size ≤ w1.heap.size) : ∀ k, Gro T w1 w2 k → w0.heap.size ≤ k := by
  intro k q
  rcases q with q | q
  · exact hT k q
  · omega
theorem fr_below {w0 w1 w2 : World} {T : Nat → Prop} (hT : ∀ k, T k → w0.heap.size ≤ k) (hb : Below w0.heap.size w0 w1) (hf : Fr w1 w2 T) : Below w0.heap.size w0 w2 :=
  hb.trans (hf.toBelow (fun k hk q => by have := hT k q; omega) hb.size)
theorem own_mono {w : World} {B1 B2 : Nat} {v : Value} {e : TypeId} {c m : Nat} {xs : List Value} (h : w.ownsRow B2 e c v m xs) (hB : B1 ≤ B2) : w.ownsRow B1 e c v m xs := by
  rcases h with ⟨h1, h2 | ⟨g, cap, cur, hv, hg, hr⟩⟩
  · exact ⟨h1, .inl h2⟩
  · exact ⟨h1, .inr ⟨g, cap, cur, hv, Nat.le_trans hB hg, hr⟩⟩
theorem own_below {B : Nat} {e : TypeId} {k : Nat} {v : Value} {n : Nat} {xs : List Value} {w w' : World} (h : w.ownsRow B e k v n xs) (hb : Below w.heap.size w w') : w'.ownsRow B e k v n xs :=
  own_like h (fun j hj => hb.block j (h.lt j hj).2)
theorem row_keep {w w' : World} {B : Nat} {S : Nat → Prop} {v : Value} {e : TypeId} {c m : Nat} {xs : List Value} (h : w.ownsRow B e c v m xs) (hf : Fr w w' S) (hs : ∀ j, v.ownBlock = some j → ¬ S j) : w'.ownsRow B e c v m xs :=
  own_like h (fun j hj => hf.block j (h.lt j hj).2 (hs j hj))
theorem below_draw {w w1 : World} (h : Below w.heap.size w w1) (k : Nat) : Below w.heap.size w (w1.drewN k) := ⟨h.os, h.tape, h.output, h.size, h.block⟩

theorem own_shape {w : World} {B : Nat} {v : Value} {e : TypeId} {c m : Nat} {xs : List Value} (h : w.ownsRow B e c v m xs) : ∃ ad cap, v = .slice ad m cap := by
  rcases h.2 with ⟨hv, h0⟩ | ⟨g, cap, cur, hv, _⟩
  · exact ⟨none, 0, by rw [hv, h0]⟩
  · exact ⟨_, cap, hv⟩

theorem add_at (g o k : Nat) : (⟨g, o, none⟩ : Addr).add k = ⟨g, o + k, none⟩ := by unfold Addr.add; split <;> simp_all

theorem load_row {w : World} {g : Nat} {t ty : TypeId} {cs : Array Value} {fr : Nat × Nat} {d : TypeDesc} (hg : w.heap[g]? = some (.cells cs t fr)) (hu : Tryd.prog.underlying ty = some d) (hd : d.isRow = true) (hi : (Tryd.prog.info? ty).map (·.size) = some cs.size) : (Instr.loadAt ty (.pointer (some ⟨g, 0, none⟩))).run Tryd.prog w = .ok (.agg cs) w := by
  have h := run_loadVar_row w g t ty cs fr d hg hu (by cases d <;> first | rfl | cases hd) hi
  simp only [Instr.loadAt, Instr.sureAddr, Sem.run_bind, Sem.run_pure, Result.andThen_ok, h]
theorem wpl_load {P : Program} {w : World} {ops : Array Oper} {rest : List Oper} {o : Oper} {a : Act} {Q : Exit → Act → World → Prop} {t ty : TypeId} {v p : Value} {ds : Option Tmp} {ps : String} {af : Array Edge} (x : Operand)
    (ho : o = ⟨ds, .load t x, ty, ps, af, none⟩) (hx : a.eval x = p) (hld : (Instr.loadAt t p).run P w = .ok v w)
    (h : wpList P ops Q rest (a.put ds v) w) : wpList P ops Q (o :: rest) a w := by
  subst ho
  subst hx
  refine wpList_plain rfl fun K hK => ?_
  unfold Oper.wp execOp
  simp only [Sem.run_bind, Sem.run_pure, Result.andThen_ok, hld]
  exact hK _ _ h
theorem wpl_store {P : Program} {w w' : World} {ops : Array Oper} {rest : List Oper} {o : Oper} {a : Act} {Q : Exit → Act → World → Prop} {t ty : TypeId} {v p : Value} {ds : Option Tmp} {ps : String} {af : Array Edge} (x y : Operand)
    (ho : o = ⟨ds, .store t x y, ty, ps, af, none⟩) (hx : a.eval x = p) (hy : a.eval y = v) (hst : (Instr.storeAt t p v).run P w = .ok () w')
    (h : wpList P ops Q rest (a.put ds undef) w') : wpList P ops Q (o :: rest) a w := by
  subst ho
  subst hx
  subst hy
  refine wpList_plain rfl fun K hK => ?_
  unfold Oper.wp execOp
  simp only [Sem.run_bind, Sem.run_pure, Result.andThen_ok, hst]
  exact hK _ _ h
theorem store_row {w : World} {g : Nat} {t ty : TypeId} {cs us : Array Value} (hg : w.heap[g]? = some (.cells cs t (0, 0))) (hl : us.size = cs.size) (hi : (Tryd.prog.info? ty).map (·.size) = some us.size) (h1 : us.all (·.oneCell') = true) : (Instr.storeAt ty (.pointer (some ⟨g, 0, none⟩)) (.agg us)).run Tryd.prog w = .ok () (w.setCells g 0 us.toList) := by
  refine run_storeAt_mid w g 0 ty us (fun j hj => ?_) hi h1
  rw [Nat.zero_add]
  refine ⟨?_, frozen_blk hg j⟩
  rw [cell_blk hg j, Array.getElem?_eq_getElem (by omega)]
  rfl
theorem setCells_gen {R : Nat} {t : TypeId} {fr : Nat × Nat} : ∀ (vs : List Value) (o : Nat) (w : World) (cs : Array Value), w.heap[R]? = some (.cells cs t fr) → o + vs.length ≤ cs.size →
    (∃ ds : Array Value, (w.setCells R o vs).heap[R]? = some (.cells ds t fr) ∧ ds.toList = cs.toList.take o ++ vs ++ cs.toList.drop (o + vs.length)) ∧ (∀ k, k ≠ R → (w.setCells R o vs).heap[k]? = w.heap[k]?) ∧ (w.setCells R o vs).heap.size = w.heap.size ∧ (w.setCells R o vs).os = w.os ∧ (w.setCells R o vs).tape = w.tape ∧ (w.setCells R o vs).output = w.output
  | [], o, w, cs, h, _ => ⟨⟨cs, h, by simp⟩, fun _ _ => rfl, rfl, rfl, rfl, rfl⟩
  | v :: r, o, w, cs, h, hl => by
    simp only [List.length_cons] at hl
    obtain ⟨⟨ds, h1, h2⟩, h3, h4, h5, h6, h7⟩ := setCells_gen r (o + 1) (w.setCell ⟨R, o, none⟩ v) (cs.setIfInBounds o v) (set_blk h v) (by simp; omega)
    refine ⟨⟨ds, h1, ?_⟩, fun k hk => (h3 k hk).trans (set_other (a := ⟨R, o, none⟩) _ hk), h4.trans (by simp [World.setCell]), h5, h6, h7⟩
    have ho : o < cs.toList.length := by simp; omega
    rw [h2, Array.toList_setIfInBounds, List.drop_set_of_lt (by omega), List.take_add_one, List.take_set_of_le (Nat.le_refl _), List.getElem?_set_self ho]
    simp [List.length_cons, Nat.add_assoc, Nat.add_comm 1]
theorem sets_row {w : World} {R : Nat} {cs : Array Value} {t : TypeId} {fr : Nat × Nat} (h : w.heap[R]? = some (.cells cs t fr)) (vs : Array Value) (hl : vs.size = cs.size) : ∃ W, W = w.setCells R 0 vs.toList ∧ W.heap[R]? = some (.cells vs t fr) ∧ Fr w W (fun k => k = R) := by
  obtain ⟨⟨ds, h1, h2⟩, h3, h4, h5, h6, h7⟩ := setCells_gen vs.toList 0 w cs h (by simp; omega)
  refine ⟨_, rfl, ?_, ⟨h5, h6, h7, by omega, fun k _ hk => h3 k hk⟩⟩
  have e : ds = vs := by
    apply Array.toList_inj.1
    rw [h2]
    simp [hl]
  rw [h1, e]
theorem load_var {w : World} {g : Nat} {t ty : TypeId} {cs : Array Value} {fr : Nat × Nat} {d : TypeDesc} (hg : w.heap[g]? = some (.cells cs t fr)) (hu : Tryd.prog.underlying ty = some d) (hd : d.isRow = true) (hi : (Tryd.prog.info? ty).map (·.size) = some cs.size) : (loadVar ty ⟨g, 0, none⟩).run Tryd.prog w = .ok (.agg cs) w :=
  run_loadVar_row w g t ty cs fr d hg hu (by cases d <;> first | rfl | cases hd) hi
theorem results_one {fn : Func} {t : Tmp} {ty : TypeId} {ad : Addr} {v : Value} {tmps : Array Value} {w : World} (h : fn.results = #[.cell t ty]) (ha : tmps.getD t undef = .pointer (some ad)) (hl : (loadVar ty ad).run Tryd.prog w = .ok v w) : (results fn tmps).run Tryd.prog w = .ok v w := by
  have ha2 : tmps[t]?.getD undef = .pointer (some ad) := by simpa using ha
  simp [results, h, ha2, asAddr, hl]
end Go.Proofs.YtcmdpahchbbicaaDoor
