import Derived.Test.YtkfnphhoebknnaaRows
import Derived.WalkKit
import Derived.WalkSpells
import Derived.WalkLawsBesides
import Derived.OwnWalk
import Derived.BigCall
import Derived.BigRegion
import Derived.Deep.QuietTactic
import Derived.BigQuiet
import Derived.Deep.OwnRows
import Derived.Deep.RegionWith
import Derived.Deep.RegionLaw
import Derived.Deep.RegionHeld3
import Derived.Laws.OwnMore
import Derived.Laws.CopyRow
import Derived.Laws.CopyOwn
import Derived.Maps.AppendAt
import Derived.Lib.Hide
import Derived.Orders
import Derived.Laws.World
namespace Go.Proofs.Ytkfnphhoebknnaa
open Go.RowKit
/-- All blocks but those of S are as they were. -/
structure Fr (w w' : World) (S : Nat → Prop) : Prop where
  os : w'.os = w.os
  tape : w'.tape = w.tape
  output : w'.output = w.output
  size : w.heap.size ≤ w'.heap.size
  block : ∀ k, k < w.heap.size → ¬ S k → w'.heap[k]? = w.heap[k]?
theorem Fr.refl (w : World) (S : Nat → Prop) : Fr w w S := ⟨rfl, rfl, rfl, Nat.le_refl _, fun _ _ _ => rfl⟩
theorem Fr.trans {w w1 w2 : World} {S : Nat → Prop} (h : Fr w w1 S) (k : Fr w1 w2 S) : Fr w w2 S :=
  ⟨k.os.trans h.os, k.tape.trans h.tape, k.output.trans h.output, Nat.le_trans h.size k.size, fun j hj hr => (k.block j (Nat.lt_of_lt_of_le hj h.size) hr).trans (h.block j hj hr)⟩
theorem Fr.mono {w w' : World} {S T : Nat → Prop} (h : Fr w w' S) (hT : ∀ j, S j → T j) : Fr w w' T :=
  ⟨h.os, h.tape, h.output, h.size, fun j hj hr => h.block j hj (fun q => hr (hT j q))⟩
theorem Fr.alloc {w w1 : World} {S : Nat → Prop} (h : Fr w w1 S) (o : Obj) : Fr w (w1.alloc o) S :=
  ⟨h.os, h.tape, h.output, Nat.le_trans h.size (by simp), fun j hj hr => (Below.heap_alloc w1 o j (Nat.lt_of_lt_of_le hj h.size)).trans (h.block j hj hr)⟩
theorem Fr.set {w w1 : World} {S : Nat → Prop} (h : Fr w w1 S) {a : Addr} (ha : S a.block ∨ w.heap.size ≤ a.block) (u : Value) : Fr w (w1.setCell a u) S :=
  ⟨h.os, h.tape, h.output, Nat.le_trans h.size (by simp [World.setCell]), fun j hj hr => (Below.heap_setCell w1 a u j (by rintro rfl; rcases ha with ha | ha; exact hr ha; omega)).trans (h.block j hj hr)⟩
theorem Fr.drewN {w w1 : World} {S : Nat → Prop} (h : Fr w w1 S) (k : Nat) : Fr w (w1.drewN k) S := ⟨h.os, h.tape, h.output, h.size, h.block⟩
theorem Fr.grown {w w1 w2 : World} {S : Nat → Prop} {row : Option Nat} (h : Fr w w1 S) (k : w1.grownBy w2 row) (hr : ∀ k, row = some k → S k ∨ w.heap.size ≤ k) : Fr w w2 S :=
  ⟨k.os.trans h.os, k.tape.trans h.tape, k.output.trans h.output, Nat.le_trans h.size k.size, fun j hj hrj => (k.block j (Nat.lt_of_lt_of_le hj h.size) (fun e => by rcases hr j e.symm with q | q; exact hrj q; omega)).trans (h.block j hj hrj)⟩
theorem Fr.below {w w1 w2 : World} {S : Nat → Prop} (h : Fr w w1 S) (k : Below w1.heap.size w1 w2) : Fr w w2 S :=
  ⟨k.os.trans h.os, k.tape.trans h.tape, k.output.trans h.output, Nat.le_trans h.size k.size, fun j hj hrj => (k.block j (Nat.lt_of_lt_of_le hj h.size)).trans (h.block j hj hrj)⟩
theorem Fr.toBelow {w w' : World} {S : Nat → Prop} {B : Nat} (h : Fr w w' S) (hS : ∀ k, k < B → ¬ S k) (hB : B ≤ w.heap.size) : Below B w w' :=
  ⟨h.os, h.tape, h.output, h.size, fun k hk => h.block k (by omega) (hS k hk)⟩
theorem Fr.ofBelow {w w' : World} (S : Nat → Prop) (h : Below w.heap.size w w') : Fr w w' S := ⟨h.os, h.tape, h.output, h.size, fun k hk _ => h.block k hk⟩
theorem cell_blk {w : World} {b : Nat} {cs : Array Value} {t : TypeId} {fr : Nat × Nat} (h : w.heap[b]? = some (.cells cs t fr)) (i : Nat) : w.cell? ⟨b, i, none⟩ = cs[i]? := by simp [World.cell?, h]
theorem frozen_blk {w : World} {b : Nat} {cs : Array Value} {t : TypeId} (h : w.heap[b]? = some (.cells cs t (0, 0))) (i : Nat) : w.frozen? ⟨b, i, none⟩ = false := by simp [World.frozen?, h]
theorem set_blk {w : World} {b i : Nat} {cs : Array Value} {t : TypeId} {fr : Nat × Nat} (h : w.heap[b]? = some (.cells cs t fr)) (v : Value) : (w.setCell ⟨b, i, none⟩ v).heap[b]? = some (.cells (cs.setIfInBounds i v) t fr) := by
  have hlt := (Array.getElem?_eq_some_iff.1 h).1
  simp [World.setCell, Array.getElem?_modify, h]
theorem set_other {w : World} {a : Addr} {k : Nat} (v : Value) (h : k ≠ a.block) : (w.setCell a v).heap[k]? = w.heap[k]? := Below.heap_setCell w a v k h
theorem blk_lt {w : World} {b : Nat} {o : Obj} (h : w.heap[b]? = some o) : b < w.heap.size := (Array.getElem?_eq_some_iff.1 h).1
theorem own_like {w w' : World} {base : Nat} {e : TypeId} {size : Nat} {v : Value} {n : Nat} {xs : List Value} (h : w.ownsRow base e size v n xs) (hb : ∀ k, v.ownBlock = some k → w'.heap[k]? = w.heap[k]?) : w'.ownsRow base e size v n xs := by
  refine ⟨h.1, ?_⟩
  rcases h.2 with hn | ⟨g, cap, cur, rfl, hb0, hgg, rest⟩
  · exact .inl hn
  · exact .inr ⟨g, cap, cur, rfl, hb0, (hb g rfl).trans hgg, rest⟩
theorem own_mono {w : World} {B1 B2 : Nat} {v : Value} {e : TypeId} {c m : Nat} {xs : List Value} (h : w.ownsRow B2 e c v m xs) (hB : B1 ≤ B2) : w.ownsRow B1 e c v m xs := by
  rcases h with ⟨h1, h2 | ⟨g, cap, cur, hv, hg, hr⟩⟩
  · exact ⟨h1, .inl h2⟩
  · exact ⟨h1, .inr ⟨g, cap, cur, hv, Nat.le_trans hB hg, hr⟩⟩
theorem own_below {B : Nat} {e : TypeId} {k : Nat} {v : Value} {n : Nat} {xs : List Value} {w w' : World} (h : w.ownsRow B e k v n xs) (hb : Below w.heap.size w w') : w'.ownsRow B e k v n xs :=
  own_like h (fun j hj => hb.block j (h.lt j hj).2)
theorem row_keep {w w' : World} {B : Nat} {S : Nat → Prop} {v : Value} {e : TypeId} {c m : Nat} {xs : List Value} (h : w.ownsRow B e c v m xs) (hf : Fr w w' S) (hs : ∀ j, v.ownBlock = some j → ¬ S j) : w'.ownsRow B e c v m xs :=
  own_like h (fun j hj => hf.block j (h.lt j hj).2 (hs j hj))
theorem own_shape {w : World} {B : Nat} {v : Value} {e : TypeId} {c m : Nat} {xs : List Value} (h : w.ownsRow B e c v m xs) : ∃ ad cap, v = .slice ad m cap := by
  rcases h.2 with ⟨hv, h0⟩ | ⟨g, cap, cur, hv, _⟩
  · exact ⟨none, 0, by rw [hv, h0]⟩
  · exact ⟨_, cap, hv⟩
theorem add_at (g o k : Nat) : (⟨g, o, none⟩ : Addr).add k = ⟨g, o + k, none⟩ := by unfold Addr.add; split <;> simp_all
theorem step_run {P : Program} {w w' : World} {ops : Array Oper} {o : Oper} {a : Act} {K : Act → World → Prop} {Q : Exit → Act → World → Prop} {E : Prop} {t u : TypeId} {v' : Value} (s x : Operand) (hw : Region.wanted o (yielded ops a.tmps) = true)
    (ho : o.op = .call { callee := .builtin .append, args := #[s, x], argTypes := #[t, u] }) (hrun : (Builtin.append_ #[t, u] o.type #[a.eval s, a.eval x]).run P w = .ok v' w')
    (h : K (a.put o.dst v') w') : if Region.wanted o (yielded ops a.tmps) = true then Oper.wp P o a w K Q else E := by
  rw [if_pos hw]
  unfold Oper.wp execOp
  simp only [ho, resolve, invoke, builtin, Sem.run_bind, Sem.run_pure, Result.andThen_ok, List.map_toArray, List.map_cons, List.map_nil, hrun]
  exact h
end Go.Proofs.Ytkfnphhoebknnaa
namespace Go.Proofs.Ytkfnphhoebknnaa
def left (l : Array Bool) : Nat := l.toList.countP (fun b => !b)
theorem countP_set_true : ∀ (l : List Bool) (i : Nat), l[i]? = some false → (l.set i true).countP (fun b => !b) + 1 = l.countP (fun b => !b)
  | [], i, h => by simp at h
  | b :: l, 0, h => by
    simp at h
    subst h
    simp
  | b :: l, i + 1, h => by
    simp at h
    have := countP_set_true l i h
    simp only [List.set_cons_succ, List.countP_cons]
    omega
theorem countP_pos_of : ∀ (l : List Bool) (i : Nat), l[i]? = some false → 1 ≤ l.countP (fun b => !b)
  | [], i, h => by simp at h
  | b :: l, 0, h => by
    simp at h
    subst h
    simp
  | b :: l, i + 1, h => by
    simp at h
    have := countP_pos_of l i h
    simp only [List.countP_cons]
    omega
theorem getD_false {l : Array Bool} {i : Nat} (h : l.getD i true = false) : l.toList[i]? = some false := by
  rw [Array.getElem?_toList]
  rw [Array.getD_eq_getD_getElem?] at h
  cases hh : l[i]? with
  | none => rw [hh] at h; simp at h
  | some b => rw [hh] at h; simp at h; rw [h]
section
variable {P : Program} {ops : Array Oper} {Q : Exit → Act → World → Prop} {md : Region.Mode}
/-- What every operation keeps holds in the end. -/
theorem wpAny_kept (I : Array Bool → Act → World → Prop)
    (hs : ∀ l a w i, I l a w → i ∈ Region.ready md ops l → wpOp P ops Q i (I (l.setIfInBounds i true)) a w)
    (he : ∀ l a w, I l a w → Region.ready md ops l = [] → Q .normal a w) :
    ∀ (n : Nat) (l : Array Bool) (a : Act) (w : World), left l ≤ n → I l a w → wpAny P md ops Q n l a w := by
  intro n
  induction n with
  | zero =>
    intro l a w hl hI
    have hr : Region.ready md ops l = [] := by
      cases h : Region.ready md ops l with
      | nil => rfl
      | cons i r =>
        have hm : i ∈ Region.ready md ops l := by rw [h]; exact List.mem_cons_self
        have := countP_pos_of _ _ (getD_false (mem_ready.1 hm).1)
        unfold left at hl
        omega
    exact ⟨hr, he l a w hI hr⟩
  | succ n ih =>
    intro l a w hl hI
    refine ⟨he l a w hI, fun i hi => ?_⟩
    refine wpOp_mono (fun a' w' h => ih _ a' w' ?_ h) (hs l a w i hI hi)
    have := countP_set_true _ _ (getD_false (mem_ready.1 hi).1)
    unfold left at *
    rw [Array.toList_setIfInBounds]
    omega
/-- The temporaries that no operation of the region writes. -/
def outer (ops : Array Oper) (t : Nat) : Bool := ops.toList.all fun o => o.dst != some t
/-- An operation yields a value by itself, or by a call. -/
def Runs (P : Program) (o : Oper) (ρ : Operand → Value) (w : World) (K : Value → World → Prop) : Prop :=
  (∃ v w', (execOp ρ o).run P w = .ok (.value v) w' ∧ K v w') ∨
  (∃ w', (execOp ρ o).run P w = .ok .skip w' ∧ K undef w') ∨
  (∃ f args w1, (execOp ρ o).run P w = .ok (.enter f args) w1 ∧ Calls P f args w1 fun e w' => ∃ v, e = .returned v ∧ K v w')
theorem Runs.val {o : Oper} {ρ : Operand → Value} {w : World} {K : Value → World → Prop} (v : Value) {w' : World} (h : (execOp ρ o).run P w = .ok (.value v) w') (k : K v w') : Runs P o ρ w K :=
  .inl ⟨v, w', h, k⟩
theorem Runs.skips {o : Oper} {ρ : Operand → Value} {w : World} {K : Value → World → Prop} {w' : World} (h : (execOp ρ o).run P w = .ok .skip w') (k : K undef w') : Runs P o ρ w K :=
  .inr (.inl ⟨w', h, k⟩)
theorem Runs.goes {o : Oper} {ρ : Operand → Value} {w : World} {K : Value → World → Prop} (f : FuncId) (args : Array Value) (h : (execOp ρ o).run P w = .ok (.enter f args) w) (k : Calls P f args w fun e w' => ∃ v, e = .returned v ∧ K v w') : Runs P o ρ w K :=
  .inr (.inr ⟨f, args, w, h, k⟩)
/-- An operation that is carried out whatever was found. -/
def plainOp (o : Oper) : Prop := Region.wanted o (fun _ => none) = true
def depOn (o : Oper) (j : Nat) : Bool := o.after.toList.any fun e => e.on == j && Region.binds .any e
def dstOf (ops : Array Oper) (j : Nat) : Option Nat := (ops[j]?).bind (·.dst)
def AllOps (F : Nat → Oper → Prop) : Nat → List Oper → Prop
  | _, [] => True
  | i, o :: l => F i o ∧ AllOps F (i + 1) l
theorem AllOps.get {F : Nat → Oper → Prop} : ∀ {l : List Oper} {i k : Nat} {o : Oper}, AllOps F i l → l[k]? = some o → F (i + k) o
  | [], i, k, o, _, h => by simp at h
  | x :: l, i, 0, o, ⟨a, _⟩, h => by simp at h; subst h; exact a
  | x :: l, i, k + 1, o, ⟨_, a⟩, h => by
    simp at h
    have := AllOps.get a h
    rw [show i + (k + 1) = i + 1 + k by omega]
    exact this
def Stable (S : World → World → Prop) : List (Value → World → Prop) → Prop
  | [] => True
  | r :: l => (∀ v w w', S w w' → r v w → r v w') ∧ Stable S l
theorem Stable.get {S : World → World → Prop} : ∀ {l : List (Value → World → Prop)} {i : Nat}, Stable S l → ∀ v w w', S w w' → l.getD i (fun _ _ => True) v w → l.getD i (fun _ _ => True) v w'
  | [], i, _, v, w, w', _, _ => by simp
  | r :: l, 0, ⟨h, _⟩, v, w, w', hs, hr => h v w w' hs hr
  | r :: l, i + 1, ⟨_, h⟩, v, w, w', hs, hr => by
    simp only [List.getD_cons_succ] at hr ⊢
    exact Stable.get h v w w' hs hr
/-- No two operations write one temporary; each writes one that is there. -/
def dstsOk (ops : Array Oper) (n : Nat) : Bool :=
  (ops.toList.filterMap (·.dst)).Nodup && (ops.toList.filterMap (·.dst)).all (· < n)
/-- Whatever has come up, what it waits for has come up. -/
def Dn (ops : Array Oper) (l : Array Bool) : Prop := ∀ i o, ops[i]? = some o → l.getD i false = true → ∀ e ∈ o.after, Region.binds .any e = true → l.getD e.on false = true
structure KeptIn (ops : Array Oper) (a0 : Act) (G : World → Prop) (R : List (Value → World → Prop)) (l : Array Bool) (a : Act) (w : World) : Prop where
  good : G w
  dn : Dn ops l
  sz : l.size = ops.size
  size : a.tmps.size = a0.tmps.size
  defers : a.defers = a0.defers
  out : ∀ t, (∀ j o, ops[j]? = some o → l.getD j false = true → o.dst ≠ some t) → a.tmps.getD t undef = a0.tmps.getD t undef
  is : ∀ j o t, ops[j]? = some o → l.getD j false = true → o.dst = some t → R.getD j (fun _ _ => True) (a.tmps.getD t undef) w
theorem nodup_filterMap : ∀ {l : List Oper} {i j : Nat} {x y : Oper} {t : Nat}, (l.filterMap (·.dst)).Nodup → l[i]? = some x → l[j]? = some y → x.dst = some t → y.dst = some t → i = j
  | [], i, j, x, y, t, _, h, _, _, _ => by simp at h
  | o :: l, 0, 0, x, y, t, _, _, _, _, _ => rfl
  | o :: l, 0, j + 1, x, y, t, hn, hx, hy, dx, dy => by
    simp at hx hy
    subst hx
    rw [List.filterMap_cons, dx] at hn
    simp only [List.nodup_cons] at hn
    exact absurd (List.mem_filterMap.2 ⟨y, List.mem_of_getElem? hy, dy⟩) hn.1
  | o :: l, i + 1, 0, x, y, t, hn, hx, hy, dx, dy => by
    simp at hx hy
    subst hy
    rw [List.filterMap_cons, dy] at hn
    simp only [List.nodup_cons] at hn
    exact absurd (List.mem_filterMap.2 ⟨x, List.mem_of_getElem? hx, dx⟩) hn.1
  | o :: l, i + 1, j + 1, x, y, t, hn, hx, hy, dx, dy => by
    simp at hx hy
    have hn' : (l.filterMap (·.dst)).Nodup := by
      rw [List.filterMap_cons] at hn
      split at hn
      · exact hn
      · exact (List.nodup_cons.1 hn).2
    rw [nodup_filterMap hn' hx hy dx dy]
theorem put_other {a : Act} {d : Option Tmp} {v : Value} {t : Nat} (h : d ≠ some t) : (a.put d v).tmps.getD t undef = a.tmps.getD t undef := by
  cases d with
  | none => rfl
  | some d =>
    have hd : d ≠ t := fun e => h (by rw [e])
    simp only [Act.put, Array.getD_eq_getD_getElem?]
    rw [Array.getElem?_setIfInBounds_ne hd]
theorem put_self {a : Act} {v : Value} {t : Nat} (h : t < a.tmps.size) : (a.put (some t) v).tmps.getD t undef = v := by
  simp only [Act.put, Array.getD_eq_getD_getElem?]
  rw [Array.getElem?_setIfInBounds_self_of_lt h]
  rfl
theorem put_size {a : Act} {d : Option Tmp} {v : Value} : (a.put d v).tmps.size = a.tmps.size := by
  cases d <;> simp [Act.put]
theorem put_defers' {a : Act} {d : Option Tmp} {v : Value} : (a.put d v).defers = a.defers := by
  cases d <;> simp [Act.put]
theorem KeptIn.next {a0 : Act} {G : World → Prop} {S : World → World → Prop} {R : List (Value → World → Prop)} {l : Array Bool} {a : Act} {w w' : World} {i : Nat} {o : Oper} {v : Value}
    (hd : dstsOk ops a0.tmps.size = true) (hst : Stable S R) (ho : ops[i]? = some o) (haf : ∀ e ∈ o.after, Region.binds .any e = true → l.getD e.on false = true) (h : KeptIn ops a0 G R l a w) (hg : G w') (hS : S w w') (hr : R.getD i (fun _ _ => True) v w') :
    KeptIn ops a0 G R (l.setIfInBounds i true) (a.put o.dst v) w' := by
  unfold dstsOk at hd
  simp only [Bool.and_eq_true, decide_eq_true_eq, List.all_eq_true] at hd
  obtain ⟨hn, hlt⟩ := hd
  have hi : i < l.size := by rw [h.sz]; exact (Array.getElem?_eq_some_iff.1 ho).1
  have hlist : ∀ j, (l.setIfInBounds i true).getD j false = true ↔ j = i ∨ l.getD j false = true := by
    intro j
    by_cases e : j = i
    · subst e
      simp only [Array.getD_eq_getD_getElem?, Array.getElem?_setIfInBounds_self_of_lt hi]
      simp
    · simp only [Array.getD_eq_getD_getElem?, Array.getElem?_setIfInBounds_ne (fun q => e q.symm)]
      simp [e]
  refine ⟨hg, ?_, by rw [Array.size_setIfInBounds]; exact h.sz, put_size.trans h.size, put_defers'.trans h.defers, ?_, ?_⟩
  · intro j oj hj hl e he hb
    refine (hlist _).2 (.inr ?_)
    rcases (hlist j).1 hl with q | q
    · subst q
      rw [ho] at hj
      cases hj
      exact haf e he hb
    · exact h.dn j oj hj q e he hb
  · intro t ht
    rw [put_other (ht i o ho ((hlist i).2 (.inl rfl)))]
    exact h.out t fun j oj hj hl => ht j oj hj ((hlist j).2 (.inr hl))
  · intro j oj t hj hl hdj
    by_cases e : j = i
    · subst e
      rw [ho] at hj
      cases hj
      rw [hdj, put_self]
      · exact hr
      · rw [h.size]
        exact hlt t (List.mem_filterMap.2 ⟨o, List.mem_of_getElem? (by rw [Array.getElem?_toList]; exact ho), hdj⟩)
    · have hl' := ((hlist j).1 hl).resolve_left e
      rw [put_other]
      · exact hst.get _ _ _ hS (h.is j oj t hj hl' hdj)
      · intro q
        exact e (nodup_filterMap hn (by rw [Array.getElem?_toList]; exact hj) (by rw [Array.getElem?_toList]; exact ho) hdj q)
theorem eval_tmp (a : Act) (t : Nat) : a.eval (.tmp t) = a.tmps.getD t undef := rfl
theorem outer_not {t j : Nat} {o : Oper} (ht : outer ops t = true) (hj : ops[j]? = some o) : o.dst ≠ some t := by
  intro q
  unfold outer at ht
  have := List.all_eq_true.1 ht o (Array.mem_toList_iff.2 (Array.mem_of_getElem? hj))
  simp [q] at this
theorem dstOf_some {j t : Nat} (h : dstOf ops j = some t) : ∃ o, ops[j]? = some o ∧ o.dst = some t := by
  unfold dstOf at h
  cases ho : ops[j]? with
  | none => rw [ho] at h; cases h
  | some o => rw [ho] at h; exact ⟨o, rfl, h⟩
theorem depOn_some {o : Oper} {j : Nat} (h : depOn o j = true) : ∃ e ∈ o.after, e.on = j ∧ Region.binds .any e = true := by
  unfold depOn at h
  obtain ⟨e, he, hb⟩ := List.any_eq_true.1 h
  simp only [Bool.and_eq_true, beq_iff_eq] at hb
  exact ⟨e, Array.mem_toList_iff.1 he, hb.1, hb.2⟩
theorem wanted_none {o : Oper} (h : plainOp o) (f : Nat → Option Bool) : Region.wanted o f = true := by
  unfold plainOp Region.wanted at h
  unfold Region.wanted
  split
  · rfl
  · rename_i e
    rw [e] at h
    cases h
/-- Every operation waits for earlier ones alone. -/
def afterOk (ops : Array Oper) : Bool := (List.range ops.size).all fun i => match ops[i]? with | some o => o.after.all (fun e => e.on < i) | none => true
theorem all_listed (h : afterOk ops = true) (l : Array Bool) (hl : l.size = ops.size) (hr : Region.ready md ops l = []) : ∀ j, j < ops.size → l.getD j false = true := by
  intro j
  induction j using Nat.strongRecOn with
  | _ j ih =>
    intro hj
    cases hc : l.getD j false with
    | true => rfl
    | false =>
      exfalso
      have ho : ops[j]? = some ops[j] := Array.getElem?_eq_getElem hj
      have hm : j ∈ Region.ready md ops l := by
        refine mem_ready.2 ⟨?_, ops[j], ho, fun e he _ => ?_⟩
        · rw [Array.getD_eq_getD_getElem?, Array.getElem?_eq_getElem (by omega)] at hc ⊢
          simpa using hc
        · unfold afterOk at h
          rw [List.all_eq_true] at h
          have := h j (List.mem_range.2 hj)
          rw [ho] at this
          simp only at this
          have := Array.all_eq_true_iff_forall_mem.1 this e he
          simp only [decide_eq_true_eq] at this
          exact ih e.on this (by omega)
      rw [hr] at hm
      cases hm
theorem unlisted {l : Array Bool} {i : Nat} {o : Oper} (hsz : l.size = ops.size) (ho : ops[i]? = some o) (hl : l.getD i true = false) : l.getD i false = false := by
  have hlt : i < l.size := by rw [hsz]; exact (Array.getElem?_eq_some_iff.1 ho).1
  rw [Array.getD_eq_getD_getElem?, Array.getElem?_eq_getElem hlt] at hl ⊢
  simpa using hl
theorem none_listed (n : Nat) (j : Nat) : ¬ (Array.replicate n false).getD j false = true := by
  intro hl
  rw [Array.getD_eq_getD_getElem?, Array.getElem?_replicate] at hl
  split at hl <;> simp at hl
theorem left_replicate (n : Nat) : left (Array.replicate n false) ≤ n := by
  unfold left
  rw [Array.toList_replicate]
  exact Nat.le_trans List.countP_le_length (by simp)
end
end Go.Proofs.Ytkfnphhoebknnaa
namespace Go.Proofs.Ytkfnphhoebknnaa
section
variable {P : Program} {ops : Array Oper} {Q : Exit → Act → World → Prop}
structure AtIn (ops : Array Oper) (a0 : Act) (G : (Nat → Bool) → World → Prop) (R : List (Value → Prop)) (l : Array Bool) (a : Act) (w : World) : Prop where
  good : G (fun j => l.getD j false) w
  dn : Dn ops l
  sz : l.size = ops.size
  size : a.tmps.size = a0.tmps.size
  defers : a.defers = a0.defers
  out : ∀ t, (∀ j o, ops[j]? = some o → l.getD j false = true → o.dst ≠ some t) → a.tmps.getD t undef = a0.tmps.getD t undef
  is : ∀ j o t, ops[j]? = some o → l.getD j false = true → o.dst = some t → R.getD j (fun _ => True) (a.tmps.getD t undef)
theorem AtIn.next {a0 : Act} {G : (Nat → Bool) → World → Prop} {R : List (Value → Prop)} {l : Array Bool} {a : Act} {w w' : World} {i : Nat} {o : Oper} {v : Value}
    (hd : dstsOk ops a0.tmps.size = true) (ho : ops[i]? = some o) (haf : ∀ e ∈ o.after, Region.binds .any e = true → l.getD e.on false = true) (h : AtIn ops a0 G R l a w) (hg : G (fun j => if j = i then true else l.getD j false) w') (hr : R.getD i (fun _ => True) v) :
    AtIn ops a0 G R (l.setIfInBounds i true) (a.put o.dst v) w' := by
  have hk : KeptIn ops a0 (fun _ => True) (R.map fun r v (_ : World) => r v) l a w := by
    refine ⟨trivial, h.dn, h.sz, h.size, h.defers, h.out, fun j oj t h1 h2 h3 => ?_⟩
    have := h.is j oj t h1 h2 h3
    rw [List.getD_eq_getElem?_getD] at this ⊢
    rw [List.getElem?_map]
    cases hh : R[j]? with
    | none => exact trivial
    | some r => rw [hh] at this; exact this
  have hst : ∀ (L : List (Value → Prop)), Stable (fun _ _ => True) (L.map fun r v (_ : World) => r v) := by
    intro L
    induction L with
    | nil => exact trivial
    | cons r L ih => exact ⟨fun _ _ _ _ h => h, ih⟩
  have hr' : (R.map fun r v (_ : World) => r v).getD i (fun _ _ => True) v w' := by
    rw [List.getD_eq_getElem?_getD] at hr ⊢
    rw [List.getElem?_map]
    cases hh : R[i]? with
    | none => exact trivial
    | some r => rw [hh] at hr; exact hr
  have hn := hk.next (S := fun _ _ => True) (w' := w') hd (hst R) ho haf trivial trivial hr'
  have hi : i < l.size := by rw [h.sz]; exact (Array.getElem?_eq_some_iff.1 ho).1
  have hl : (fun j => (l.setIfInBounds i true).getD j false) = fun j => if j = i then true else l.getD j false := by
    funext j
    by_cases e : j = i
    · subst e
      rw [Array.getD_eq_getD_getElem?, Array.getElem?_setIfInBounds_self_of_lt hi]
      simp
    · rw [Array.getD_eq_getD_getElem?, Array.getElem?_setIfInBounds_ne (fun q => e q.symm), if_neg e, Array.getD_eq_getD_getElem?]
  refine ⟨by rw [hl]; exact hg, hn.dn, hn.sz, hn.size, hn.defers, hn.out, fun j oj t h1 h2 h3 => ?_⟩
  have := hn.is j oj t h1 h2 h3
  rw [List.getD_eq_getElem?_getD] at this ⊢
  rw [List.getElem?_map] at this
  cases hh : R[j]? with
  | none => exact trivial
  | some r => rw [hh] at this; exact this
end
/-- Temporaries put, one behind the other. -/
def putAll (a : Act) (x : Nat → Value) : List Nat → Act
  | [] => a
  | t :: l => putAll (a.put (some t) (x t)) x l
theorem putAll_size (x : Nat → Value) : ∀ (l : List Nat) (a : Act), (putAll a x l).tmps.size = a.tmps.size ∧ (putAll a x l).defers = a.defers
  | [], _ => ⟨rfl, rfl⟩
  | t :: l, a => by
    obtain ⟨h1, h2⟩ := putAll_size x l (a.put (some t) (x t))
    exact ⟨h1.trans put_size, h2.trans put_defers'⟩
theorem putAll_get (x : Nat → Value) : ∀ (l : List Nat) (a : Act) (t : Nat), t < a.tmps.size → (putAll a x l).tmps.getD t undef = if t ∈ l then x t else a.tmps.getD t undef
  | [], _, _, _ => by simp [putAll]
  | k :: l, a, t, ht => by
    rw [putAll, putAll_get x l _ t (by rw [put_size]; exact ht)]
    by_cases h1 : t ∈ l
    · rw [if_pos h1, if_pos (List.mem_cons_of_mem _ h1)]
    · rw [if_neg h1]
      by_cases h2 : t = k
      · subst h2
        rw [put_self ht, if_pos List.mem_cons_self]
      · rw [put_other (fun e => h2 (Option.some.inj e).symm), if_neg (by simp [h1, h2])]
theorem not_dst {ops : Array Oper} {t : Nat} (h : t ∉ ops.toList.filterMap (·.dst)) : outer ops t = true := by
  unfold outer
  rw [List.all_eq_true]
  intro o ho
  simp only [bne_iff_ne, ne_eq]
  intro e
  exact h (List.mem_filterMap.2 ⟨o, ho, e⟩)
/-- The state behind a region: the state ahead of it, and what was put. -/
theorem act_put {ops : Array Oper} {a a0 : Act} (hs : a.tmps.size = a0.tmps.size) (hd : a.defers = a0.defers) (ho : ∀ t, outer ops t = true → a.tmps.getD t undef = a0.tmps.getD t undef) :
    ∃ x : Nat → Value, a = putAll a0 x (ops.toList.filterMap (·.dst)) ∧ ∀ t, a.tmps.getD t undef = x t := by
  refine ⟨fun t => a.tmps.getD t undef, ?_, fun _ => rfl⟩
  obtain ⟨p1, p2⟩ := putAll_size (fun t => a.tmps.getD t undef) (ops.toList.filterMap (·.dst)) a0
  have hg := putAll_get (fun t => a.tmps.getD t undef) (ops.toList.filterMap (·.dst)) a0
  generalize putAll a0 (fun t => a.tmps.getD t undef) (ops.toList.filterMap (·.dst)) = b at p1 p2 hg
  obtain ⟨bt, bd⟩ := b
  obtain ⟨tm, df⟩ := a
  simp only at p1 p2 hs hd
  rw [Act.mk.injEq]
  refine ⟨?_, hd.trans p2.symm⟩
  apply Array.ext
  · rw [hs, p1]
  · intro i h1 h2
    have hi := hg i (by rw [← hs]; exact h1)
    have e1 : bt.getD i undef = bt[i] := by simp [Array.getD, h2]
    have e2 : tm.getD i undef = tm[i] := by simp [Array.getD, h1]
    simp only at hi
    rw [e1, e2] at hi
    rw [hi]
    by_cases hm : i ∈ ops.toList.filterMap (·.dst)
    · rw [if_pos hm]
    · rw [if_neg hm, ← e2]
      exact ho i (not_dst hm)
end Go.Proofs.Ytkfnphhoebknnaa
namespace Go.Proofs.Ytkfnphhoebknnaa
end Go.Proofs.Ytkfnphhoebknnaa
namespace Go.Proofs.Ytkfnphhoebknnaa
end Go.Proofs.Ytkfnphhoebknnaa
namespace Go.Proofs.Ytkfnphhoebknnaa
section
variable {P : Program} {ops : Array Oper} {Q : Exit → Act → World → Prop}
/-- It is carried out where operation j yields c. -/
def onlyIf (o : Oper) (j : Nat) (c : Bool) : Prop := ∀ y, Region.wanted o y = (y j == some c)
theorem yield_is {a : Act} {j t : Nat} {c : Bool} (h : dstOf ops j = some t) (e : a.eval (.tmp t) = .bool c) : yielded ops a.tmps j = some c := by
  unfold dstOf at h
  unfold yielded
  rw [h]
  rw [eval_tmp] at e
  cases hx : a.tmps[t]? with
  | none =>
    rw [Array.getD_eq_getD_getElem?, hx] at e
    cases e
  | some v =>
    rw [Array.getD_eq_getD_getElem?, hx] at e
    simp only [Option.getD_some] at e
    simp only [Option.bind_some, hx, e]
end
end Go.Proofs.Ytkfnphhoebknnaa
namespace Go.Proofs.Ytkfnphhoebknnaa
section
variable {P : Program} {ops : Array Oper} {Q : Exit → Act → World → Prop}
/-- One mark more. -/
def upd (fl : Nat → Bool) (i : Nat) : Nat → Bool := fun k => cond (Nat.beq k i) true (fl k)
/-- Whatever has come up, what it waits for has come up. -/
def Led (ops : Array Oper) (fl : Nat → Bool) : Prop := ∀ k o j, ops[k]? = some o → depOn o j = true → fl k = true → fl j = true
/-- What is asked of an operation: it is carried out, and leaves what it leaves; or its condition is against it. -/
def OpFl (P : Program) (ops : Array Oper) (a0 : Act) (G : (Nat → Bool) → World → Prop) (S : World → World → Prop) (R : List (Value → World → Prop)) (i : Nat) (o : Oper) : Prop :=
  ∀ ρ w fl, G fl w → fl i = false → Led ops fl → (∀ j, depOn o j = true → fl j = true) → (∀ t, outer ops t = true → ρ (.tmp t) = a0.eval (.tmp t)) → (∀ x, ρ (.const x) = x) → (∀ f, ρ (.func f) = .func (.func f) #[] #[]) →
    (∀ j t, depOn o j = true → dstOf ops j = some t → R.getD j (fun _ _ => True) (ρ (.tmp t)) w) →
    (plainOp o ∧ Runs P o ρ w fun v w' => G (upd fl i) w' ∧ S w w' ∧ R.getD i (fun _ _ => True) v w') ∨
    (∃ j t c, onlyIf o j c ∧ dstOf ops j = some t ∧ ρ (.tmp t) = .bool c ∧ Runs P o ρ w fun v w' => G (upd fl i) w' ∧ S w w' ∧ R.getD i (fun _ _ => True) v w') ∨
    (∃ j t c, onlyIf o j c ∧ dstOf ops j = some t ∧ ρ (.tmp t) ≠ .bool c ∧ G (upd fl i) w ∧ S w w ∧ R.getD i (fun _ _ => True) undef w)
theorem yield_isnt {a : Act} {j t : Nat} {c : Bool} (h : dstOf ops j = some t) (e : a.eval (.tmp t) ≠ .bool c) : yielded ops a.tmps j ≠ some c := by
  unfold dstOf at h
  unfold yielded
  rw [h]
  rw [eval_tmp] at e
  intro q
  cases hx : a.tmps[t]? with
  | none =>
    simp [hx] at q
  | some v =>
    rw [Array.getD_eq_getD_getElem?, hx] at e
    simp only [Option.getD_some] at e
    simp only [Option.bind_some, hx] at q
    cases v <;> simp at q
    subst q
    exact e rfl
theorem upd_is {l : Array Bool} {i : Nat} (hi : i < l.size) : (fun j => (l.setIfInBounds i true).getD j false) = upd (fun j => l.getD j false) i := by
  funext j
  unfold upd
  by_cases e : j = i
  · subst e
    rw [Array.getD_eq_getD_getElem?, Array.getElem?_setIfInBounds_self_of_lt hi]
    simp
  · rw [Array.getD_eq_getD_getElem?, Array.getElem?_setIfInBounds_ne (fun q => e q.symm), ← Array.getD_eq_getD_getElem?]
    have : Nat.beq j i = false := by
      cases h : Nat.beq j i with
      | false => rfl
      | true => exact absurd (Nat.eq_of_beq_eq_true h) e
    rw [this]
    rfl
/-- **Whatever order is drawn**: each operation has left what it leaves. -/
theorem wp_region_fc {id : Nat} {a0 : Act} {w0 : World} (G : (Nat → Bool) → World → Prop) (S : World → World → Prop) (R : List (Value → World → Prop))
    (hm : P.follows .mixedOrders = true) (hd : dstsOk ops a0.tmps.size = true) (haf : ∀ l : Array Bool, l.size = ops.size → Region.ready .any ops l = [] → ∀ j, j < ops.size → l.getD j false = true) (hst : Stable S R) (hg : G (fun _ => false) w0.drew)
    (hops : AllOps (OpFl P ops a0 G S R) 0 ops.toList)
    (he : ∀ (a : Act) (w : World) (fl : Nat → Bool), (∀ j, j < ops.size → fl j = true) → G fl w → a.tmps.size = a0.tmps.size → a.defers = a0.defers → (∀ t, outer ops t = true → a.tmps.getD t undef = a0.tmps.getD t undef) →
      (∀ j t, dstOf ops j = some t → R.getD j (fun _ _ => True) (a.tmps.getD t undef) w) → Q .normal a w) :
    (Code.region id ops true).wp P Q a0 w0 := by
  refine wp_region_any hm (wpAny_kept (fun l a w => G (fun j => l.getD j false) w ∧ KeptIn ops a0 (fun _ => True) R l a w) ?_ ?_ _ _ _ _ (left_replicate _) ?_)
  · intro l a w i ⟨hG, hk⟩ hi
    obtain ⟨hl, o, ho, hall⟩ := mem_ready.1 hi
    have hok : OpFl P ops a0 G S R i o := by
      have := hops.get (k := i) (o := o) (by rw [Array.getElem?_toList]; exact ho)
      rwa [Nat.zero_add] at this
    have hun := unlisted hk.sz ho hl
    have hil : i < l.size := by rw [hk.sz]; exact (Array.getElem?_eq_some_iff.1 ho).1
    have hrun := hok a.eval w (fun j => l.getD j false) hG hun (fun k ok j hok hdep hfl => by
      obtain ⟨e, he, rfl, hb⟩ := depOn_some hdep
      exact hk.dn k ok hok hfl e he hb) (fun j hdep => by
      obtain ⟨e, he, rfl, hb⟩ := depOn_some hdep
      exact hall e he hb) (fun t ht => by
      rw [eval_tmp, eval_tmp]
      exact hk.out t fun j oj hj _ q => outer_not ht hj q) (fun _ => rfl) (fun _ => rfl) (fun j t hj hdj => by
      obtain ⟨e, he, rfl, hb⟩ := depOn_some hj
      obtain ⟨oj, hoj, hdj⟩ := dstOf_some hdj
      rw [eval_tmp]
      exact hk.is _ oj t hoj (hall e he hb) hdj)
    have hK : ∀ v w', G (upd (fun j => l.getD j false) i) w' ∧ S w w' ∧ R.getD i (fun _ _ => True) v w' → G (fun j => (l.setIfInBounds i true).getD j false) w' ∧ KeptIn ops a0 (fun _ => True) R (l.setIfInBounds i true) (a.put o.dst v) w' := fun v w' ⟨h1, h2, h3⟩ => by
      rw [upd_is hil]
      exact ⟨h1, hk.next hd hst ho hall trivial h2 h3⟩
    unfold wpOp
    simp only [ho]
    have go : (Runs P o a.eval w fun v w' => G (upd (fun j => l.getD j false) i) w' ∧ S w w' ∧ R.getD i (fun _ _ => True) v w') → o.wp P a w (fun a' w' => G (fun j => (l.setIfInBounds i true).getD j false) w' ∧ KeptIn ops a0 (fun _ => True) R (l.setIfInBounds i true) a' w') Q := fun hrun => by
      unfold Oper.wp
      rcases hrun with ⟨v, w', hv, h⟩ | ⟨w', hv, h⟩ | ⟨f, args, w1, hv, hc⟩
      · rw [hv]
        exact hK _ _ h
      · rw [hv]
        exact hK _ _ h
      · rw [hv]
        refine hc.mono ?_
        rintro e w' ⟨v, rfl, h⟩
        exact hK _ _ h
    rcases hrun with ⟨hgd, hrun⟩ | ⟨j, t, c, hgd, hdj, hv, hrun⟩ | ⟨j, t, c, hgd, hdj, hv, h⟩
    · rw [if_pos (wanted_none hgd _)]
      exact .inl (go hrun)
    · rw [if_pos (by rw [hgd]; simp only [yield_is hdj hv, beq_self_eq_true])]
      exact .inl (go hrun)
    · rw [if_neg (by rw [hgd]; simp only [beq_iff_eq]; exact yield_isnt hdj hv)]
      exact hK _ _ h
  · intro l a w ⟨hG, hk⟩ hr
    have hall := haf l hk.sz hr
    refine he a w _ hall hG hk.size hk.defers (fun t ht => hk.out t fun j oj hj _ q => outer_not ht hj q) (fun j t hdj => ?_)
    obtain ⟨oj, hj, hdj⟩ := dstOf_some hdj
    exact hk.is j oj t hj (hall j (Array.getElem?_eq_some_iff.1 hj).1) hdj
  · have hz : (fun m => (Array.replicate ops.size false).getD m false) = fun _ => false := by
      funext m
      cases hc : (Array.replicate ops.size false).getD m false with
      | false => rfl
      | true => exact absurd hc (none_listed _ _)
    refine ⟨?_, ⟨trivial, fun j _ _ hl => absurd hl (none_listed _ j), by simp, rfl, rfl, fun _ _ => rfl, fun j o t hj hl _ => absurd hl (none_listed _ j)⟩⟩
    rw [hz]
    exact hg
/-- Every operation waits for earlier ones alone. -/
theorem wp_region_fl {id : Nat} {a0 : Act} {w0 : World} (G : (Nat → Bool) → World → Prop) (S : World → World → Prop) (R : List (Value → World → Prop))
    (hm : P.follows .mixedOrders = true) (hd : dstsOk ops a0.tmps.size = true) (haf : afterOk ops = true) (hst : Stable S R) (hg : G (fun _ => false) w0.drew)
    (hops : AllOps (OpFl P ops a0 G S R) 0 ops.toList)
    (he : ∀ (a : Act) (w : World) (fl : Nat → Bool), (∀ j, j < ops.size → fl j = true) → G fl w → a.tmps.size = a0.tmps.size → a.defers = a0.defers → (∀ t, outer ops t = true → a.tmps.getD t undef = a0.tmps.getD t undef) →
      (∀ j t, dstOf ops j = some t → R.getD j (fun _ _ => True) (a.tmps.getD t undef) w) → Q .normal a w) :
    (Code.region id ops true).wp P Q a0 w0 := wp_region_fc G S R hm hd (fun l hl hr => all_listed haf l hl hr) hst hg hops he
/-- Where it waits for a later one that wait binds nobody. -/
def afterOkB (ops : Array Oper) : Bool := (List.range ops.size).all fun i => match ops[i]? with | some o => o.after.all (fun e => !Region.binds .any e || decide (e.on < i)) | none => true
theorem all_listedB (h : afterOkB ops = true) (l : Array Bool) (hl : l.size = ops.size) (hr : Region.ready .any ops l = []) : ∀ j, j < ops.size → l.getD j false = true := by
  intro j
  induction j using Nat.strongRecOn with
  | _ j ih =>
    intro hj
    cases hc : l.getD j false with
    | true => rfl
    | false =>
      exfalso
      have ho : ops[j]? = some ops[j] := Array.getElem?_eq_getElem hj
      have hm : j ∈ Region.ready .any ops l := by
        refine mem_ready.2 ⟨?_, ops[j], ho, fun e he hbd => ?_⟩
        · rw [Array.getD_eq_getD_getElem?, Array.getElem?_eq_getElem (by omega)] at hc ⊢
          simpa using hc
        · unfold afterOkB at h
          rw [List.all_eq_true] at h
          have := h j (List.mem_range.2 hj)
          rw [ho] at this
          simp only at this
          have := Array.all_eq_true_iff_forall_mem.1 this e he
          rw [hbd] at this
          simp only [Bool.not_true, Bool.false_or, decide_eq_true_eq] at this
          exact ih e.on this (by omega)
      rw [hr] at hm
      cases hm
theorem wp_region_fb {id : Nat} {a0 : Act} {w0 : World} (G : (Nat → Bool) → World → Prop) (S : World → World → Prop) (R : List (Value → World → Prop))
    (hm : P.follows .mixedOrders = true) (hd : dstsOk ops a0.tmps.size = true) (haf : afterOkB ops = true) (hst : Stable S R) (hg : G (fun _ => false) w0.drew)
    (hops : AllOps (OpFl P ops a0 G S R) 0 ops.toList)
    (he : ∀ (a : Act) (w : World) (fl : Nat → Bool), (∀ j, j < ops.size → fl j = true) → G fl w → a.tmps.size = a0.tmps.size → a.defers = a0.defers → (∀ t, outer ops t = true → a.tmps.getD t undef = a0.tmps.getD t undef) →
      (∀ j t, dstOf ops j = some t → R.getD j (fun _ _ => True) (a.tmps.getD t undef) w) → Q .normal a w) :
    (Code.region id ops true).wp P Q a0 w0 := wp_region_fc G S R hm hd (fun l hl hr => all_listedB haf l hl hr) hst hg hops he
end
end Go.Proofs.Ytkfnphhoebknnaa
namespace Go.Proofs.Ytkfnphhoebknnaa
section
variable {P : Program} {ops : Array Oper} {Q : Exit → Act → World → Prop}
theorem KeptIn.next2 {a0 : Act} {G : World → Prop} {R : List (Value → World → Prop)} {l : Array Bool} {a : Act} {w w' : World} {i : Nat} {o : Oper} {v : Value}
    (hd : dstsOk ops a0.tmps.size = true) (ho : ops[i]? = some o) (haf : ∀ e ∈ o.after, Region.binds .any e = true → l.getD e.on false = true) (h : KeptIn ops a0 G R l a w) (hg : G w') (hS : ∀ j, l.getD j false = true → ∀ u, R.getD j (fun _ _ => True) u w → R.getD j (fun _ _ => True) u w') (hr : R.getD i (fun _ _ => True) v w') :
    KeptIn ops a0 G R (l.setIfInBounds i true) (a.put o.dst v) w' := by
  unfold dstsOk at hd
  simp only [Bool.and_eq_true, decide_eq_true_eq, List.all_eq_true] at hd
  obtain ⟨hn, hlt⟩ := hd
  have hi : i < l.size := by rw [h.sz]; exact (Array.getElem?_eq_some_iff.1 ho).1
  have hlist : ∀ j, (l.setIfInBounds i true).getD j false = true ↔ j = i ∨ l.getD j false = true := by
    intro j
    by_cases e : j = i
    · subst e
      simp only [Array.getD_eq_getD_getElem?, Array.getElem?_setIfInBounds_self_of_lt hi]
      simp
    · simp only [Array.getD_eq_getD_getElem?, Array.getElem?_setIfInBounds_ne (fun q => e q.symm)]
      simp [e]
  refine ⟨hg, ?_, by rw [Array.size_setIfInBounds]; exact h.sz, put_size.trans h.size, put_defers'.trans h.defers, ?_, ?_⟩
  · intro j oj hj hl e he hb
    refine (hlist _).2 (.inr ?_)
    rcases (hlist j).1 hl with q | q
    · subst q
      rw [ho] at hj
      cases hj
      exact haf e he hb
    · exact h.dn j oj hj q e he hb
  · intro t ht
    rw [put_other (ht i o ho ((hlist i).2 (.inl rfl)))]
    exact h.out t fun j oj hj hl => ht j oj hj ((hlist j).2 (.inr hl))
  · intro j oj t hj hl hdj
    by_cases e : j = i
    · subst e
      rw [ho] at hj
      cases hj
      rw [hdj, put_self]
      · exact hr
      · rw [h.size]
        exact hlt t (List.mem_filterMap.2 ⟨o, List.mem_of_getElem? (by rw [Array.getElem?_toList]; exact ho), hdj⟩)
    · have hl' := ((hlist j).1 hl).resolve_left e
      rw [put_other]
      · exact hS j hl' _ (h.is j oj t hj hl' hdj)
      · intro q
        exact e (nodup_filterMap hn (by rw [Array.getElem?_toList]; exact hj) (by rw [Array.getElem?_toList]; exact ho) hdj q)
def OpFs (P : Program) (ops : Array Oper) (a0 : Act) (G : (Nat → Bool) → World → Prop) (R : List (Value → World → Prop)) (i : Nat) (o : Oper) : Prop :=
  ∀ ρ w fl, G fl w → fl i = false → Led ops fl → (∀ j, depOn o j = true → fl j = true) → (∀ t, outer ops t = true → ρ (.tmp t) = a0.eval (.tmp t)) → (∀ x, ρ (.const x) = x) → (∀ f, ρ (.func f) = .func (.func f) #[] #[]) →
    (∀ j t, depOn o j = true → dstOf ops j = some t → R.getD j (fun _ _ => True) (ρ (.tmp t)) w) →
    plainOp o ∧ Runs P o ρ w fun v w' => G (upd fl i) w' ∧ (∀ j, fl j = true → ∀ u, R.getD j (fun _ _ => True) u w → R.getD j (fun _ _ => True) u w') ∧ R.getD i (fun _ _ => True) v w'
theorem wp_region_fs {id : Nat} {a0 : Act} {w0 : World} (G : (Nat → Bool) → World → Prop) (R : List (Value → World → Prop))
    (hm : P.follows .mixedOrders = true) (hd : dstsOk ops a0.tmps.size = true) (haf : afterOkB ops = true) (hg : G (fun _ => false) w0.drew)
    (hops : AllOps (OpFs P ops a0 G R) 0 ops.toList)
    (he : ∀ (a : Act) (w : World) (fl : Nat → Bool), (∀ j, j < ops.size → fl j = true) → G fl w → a.tmps.size = a0.tmps.size → a.defers = a0.defers → (∀ t, outer ops t = true → a.tmps.getD t undef = a0.tmps.getD t undef) →
      (∀ j t, dstOf ops j = some t → R.getD j (fun _ _ => True) (a.tmps.getD t undef) w) → Q .normal a w) :
    (Code.region id ops true).wp P Q a0 w0 := by
  refine wp_region_any hm (wpAny_kept (fun l a w => G (fun j => l.getD j false) w ∧ KeptIn ops a0 (fun _ => True) R l a w) ?_ ?_ _ _ _ _ (left_replicate _) ?_)
  · intro l a w i ⟨hG, hk⟩ hi
    obtain ⟨hl, o, ho, hall⟩ := mem_ready.1 hi
    have hok : OpFs P ops a0 G R i o := by
      have := hops.get (k := i) (o := o) (by rw [Array.getElem?_toList]; exact ho)
      rwa [Nat.zero_add] at this
    have hun := unlisted hk.sz ho hl
    have hil : i < l.size := by rw [hk.sz]; exact (Array.getElem?_eq_some_iff.1 ho).1
    have hrun := hok a.eval w (fun j => l.getD j false) hG hun (fun k ok j hok hdep hfl => by
      obtain ⟨e, he, rfl, hb⟩ := depOn_some hdep
      exact hk.dn k ok hok hfl e he hb) (fun j hdep => by
      obtain ⟨e, he, rfl, hb⟩ := depOn_some hdep
      exact hall e he hb) (fun t ht => by
      rw [eval_tmp, eval_tmp]
      exact hk.out t fun j oj hj _ q => outer_not ht hj q) (fun _ => rfl) (fun _ => rfl) (fun j t hj hdj => by
      obtain ⟨e, he, rfl, hb⟩ := depOn_some hj
      obtain ⟨oj, hoj, hdj⟩ := dstOf_some hdj
      rw [eval_tmp]
      exact hk.is _ oj t hoj (hall e he hb) hdj)
    have hK : ∀ v w', G (upd (fun j => l.getD j false) i) w' ∧ (∀ j, (fun j => l.getD j false) j = true → ∀ u, R.getD j (fun _ _ => True) u w → R.getD j (fun _ _ => True) u w') ∧ R.getD i (fun _ _ => True) v w' → G (fun j => (l.setIfInBounds i true).getD j false) w' ∧ KeptIn ops a0 (fun _ => True) R (l.setIfInBounds i true) (a.put o.dst v) w' := fun v w' ⟨h1, h2, h3⟩ => by
      rw [upd_is hil]
      exact ⟨h1, hk.next2 hd ho hall trivial h2 h3⟩
    unfold wpOp
    simp only [ho]
    have go : (Runs P o a.eval w fun v w' => G (upd (fun j => l.getD j false) i) w' ∧ (∀ j, (fun j => l.getD j false) j = true → ∀ u, R.getD j (fun _ _ => True) u w → R.getD j (fun _ _ => True) u w') ∧ R.getD i (fun _ _ => True) v w') → o.wp P a w (fun a' w' => G (fun j => (l.setIfInBounds i true).getD j false) w' ∧ KeptIn ops a0 (fun _ => True) R (l.setIfInBounds i true) a' w') Q := fun hrun => by
      unfold Oper.wp
      rcases hrun with ⟨v, w', hv, h⟩ | ⟨w', hv, h⟩ | ⟨f, args, w1, hv, hc⟩
      · rw [hv]
        exact hK _ _ h
      · rw [hv]
        exact hK _ _ h
      · rw [hv]
        refine hc.mono ?_
        rintro e w' ⟨v, rfl, h⟩
        exact hK _ _ h
    obtain ⟨hgd, hrun⟩ := hrun
    rw [if_pos (wanted_none hgd _)]
    exact .inl (go hrun)
  · intro l a w ⟨hG, hk⟩ hr
    have hall := all_listedB haf l hk.sz hr
    refine he a w _ hall hG hk.size hk.defers (fun t ht => hk.out t fun j oj hj _ q => outer_not ht hj q) (fun j t hdj => ?_)
    obtain ⟨oj, hj, hdj⟩ := dstOf_some hdj
    exact hk.is j oj t hj (hall j (Array.getElem?_eq_some_iff.1 hj).1) hdj
  · have hz : (fun m => (Array.replicate ops.size false).getD m false) = fun _ => false := by
      funext m
      cases hc : (Array.replicate ops.size false).getD m false with
      | false => rfl
      | true => exact absurd hc (none_listed _ _)
    refine ⟨?_, ⟨trivial, fun j _ _ hl => absurd hl (none_listed _ j), by simp, rfl, rfl, fun _ _ => rfl, fun j o t hj hl _ => absurd hl (none_listed _ j)⟩⟩
    rw [hz]
    exact hg
end
end Go.Proofs.Ytkfnphhoebknnaa
namespace Go.Proofs.Ytkfnphhoebknnaa
section
variable {P : Program} {ops : Array Oper} {Q : Exit → Act → World → Prop}
def OpGs (P : Program) (ops : Array Oper) (a0 : Act) (G : (Nat → Bool) → (Nat → Value) → World → Prop) (S : World → World → Prop) (R : List (Value → World → Prop)) (i : Nat) (o : Oper) : Prop :=
  ∀ ρ w fl, G fl (fun t => ρ (.tmp t)) w → fl i = false → Led ops fl → (∀ j, depOn o j = true → fl j = true) → (∀ t, outer ops t = true → ρ (.tmp t) = a0.eval (.tmp t)) → (∀ x, ρ (.const x) = x) → (∀ f, ρ (.func f) = .func (.func f) #[] #[]) →
    (∀ j t, depOn o j = true → dstOf ops j = some t → R.getD j (fun _ _ => True) (ρ (.tmp t)) w) →
    (plainOp o ∧ Runs P o ρ w fun v w' => (∀ r', (∀ t, o.dst ≠ some t → r' t = ρ (.tmp t)) → (∀ t, o.dst = some t → r' t = v) → G (upd fl i) r' w') ∧ S w w' ∧ R.getD i (fun _ _ => True) v w') ∨
    (∃ j t c, onlyIf o j c ∧ dstOf ops j = some t ∧ ρ (.tmp t) = .bool c ∧ Runs P o ρ w fun v w' => (∀ r', (∀ t, o.dst ≠ some t → r' t = ρ (.tmp t)) → (∀ t, o.dst = some t → r' t = v) → G (upd fl i) r' w') ∧ S w w' ∧ R.getD i (fun _ _ => True) v w') ∨
    (∃ j t c, onlyIf o j c ∧ dstOf ops j = some t ∧ ρ (.tmp t) ≠ .bool c ∧ (∀ r', (∀ t, o.dst ≠ some t → r' t = ρ (.tmp t)) → (∀ t, o.dst = some t → r' t = undef) → G (upd fl i) r' w) ∧ S w w ∧ R.getD i (fun _ _ => True) undef w)
/-- **Whatever order is drawn**: each operation has left what it leaves. -/
theorem wp_region_gs {id : Nat} {a0 : Act} {w0 : World} (G : (Nat → Bool) → (Nat → Value) → World → Prop) (S : World → World → Prop) (R : List (Value → World → Prop))
    (hm : P.follows .mixedOrders = true) (hd : dstsOk ops a0.tmps.size = true) (haf : afterOkB ops = true) (hst : Stable S R) (hg : G (fun _ => false) (fun t => a0.tmps.getD t undef) w0.drew)
    (hops : AllOps (OpGs P ops a0 G S R) 0 ops.toList)
    (he : ∀ (a : Act) (w : World) (fl : Nat → Bool), (∀ j, j < ops.size → fl j = true) → G fl (fun t => a.tmps.getD t undef) w → a.tmps.size = a0.tmps.size → a.defers = a0.defers → (∀ t, outer ops t = true → a.tmps.getD t undef = a0.tmps.getD t undef) →
      (∀ j t, dstOf ops j = some t → R.getD j (fun _ _ => True) (a.tmps.getD t undef) w) → Q .normal a w) :
    (Code.region id ops true).wp P Q a0 w0 := by
  refine wp_region_any hm (wpAny_kept (fun l a w => G (fun j => l.getD j false) (fun t => a.tmps.getD t undef) w ∧ KeptIn ops a0 (fun _ => True) R l a w) ?_ ?_ _ _ _ _ (left_replicate _) ?_)
  · intro l a w i ⟨hG, hk⟩ hi
    obtain ⟨hl, o, ho, hall⟩ := mem_ready.1 hi
    have hok : OpGs P ops a0 G S R i o := by
      have := hops.get (k := i) (o := o) (by rw [Array.getElem?_toList]; exact ho)
      rwa [Nat.zero_add] at this
    have hun := unlisted hk.sz ho hl
    have hil : i < l.size := by rw [hk.sz]; exact (Array.getElem?_eq_some_iff.1 ho).1
    have hrun := hok a.eval w (fun j => l.getD j false) (by simpa only [eval_tmp] using hG) hun (fun k ok j hok hdep hfl => by
      obtain ⟨e, he, rfl, hb⟩ := depOn_some hdep
      exact hk.dn k ok hok hfl e he hb) (fun j hdep => by
      obtain ⟨e, he, rfl, hb⟩ := depOn_some hdep
      exact hall e he hb) (fun t ht => by
      rw [eval_tmp, eval_tmp]
      exact hk.out t fun j oj hj _ q => outer_not ht hj q) (fun _ => rfl) (fun _ => rfl) (fun j t hj hdj => by
      obtain ⟨e, he, rfl, hb⟩ := depOn_some hj
      obtain ⟨oj, hoj, hdj⟩ := dstOf_some hdj
      rw [eval_tmp]
      exact hk.is _ oj t hoj (hall e he hb) hdj)
    have hK : ∀ v w', (∀ r', (∀ t, o.dst ≠ some t → r' t = a.eval (.tmp t)) → (∀ t, o.dst = some t → r' t = v) → G (upd (fun j => l.getD j false) i) r' w') ∧ S w w' ∧ R.getD i (fun _ _ => True) v w' → G (fun j => (l.setIfInBounds i true).getD j false) (fun t => (a.put o.dst v).tmps.getD t undef) w' ∧ KeptIn ops a0 (fun _ => True) R (l.setIfInBounds i true) (a.put o.dst v) w' := fun v w' ⟨h1, h2, h3⟩ => by
      rw [upd_is hil]
      refine ⟨h1 _ (fun t ht => by rw [eval_tmp]; exact put_other ht) (fun t ht => ?_), hk.next hd hst ho hall trivial h2 h3⟩
      have hd' := hd
      unfold dstsOk at hd'
      simp only [Bool.and_eq_true, decide_eq_true_eq, List.all_eq_true] at hd'
      simp only [ht]
      exact put_self (by
        rw [hk.size]
        exact hd'.2 t (List.mem_filterMap.2 ⟨o, List.mem_of_getElem? (by rw [Array.getElem?_toList]; exact ho), ht⟩))
    unfold wpOp
    simp only [ho]
    have go : (Runs P o a.eval w fun v w' => (∀ r', (∀ t, o.dst ≠ some t → r' t = a.eval (.tmp t)) → (∀ t, o.dst = some t → r' t = v) → G (upd (fun j => l.getD j false) i) r' w') ∧ S w w' ∧ R.getD i (fun _ _ => True) v w') → o.wp P a w (fun a' w' => G (fun j => (l.setIfInBounds i true).getD j false) (fun t => a'.tmps.getD t undef) w' ∧ KeptIn ops a0 (fun _ => True) R (l.setIfInBounds i true) a' w') Q := fun hrun => by
      unfold Oper.wp
      rcases hrun with ⟨v, w', hv, h⟩ | ⟨w', hv, h⟩ | ⟨f, args, w1, hv, hc⟩
      · rw [hv]
        exact hK _ _ h
      · rw [hv]
        exact hK _ _ h
      · rw [hv]
        refine hc.mono ?_
        rintro e w' ⟨v, rfl, h⟩
        exact hK _ _ h
    rcases hrun with ⟨hgd, hrun⟩ | ⟨j, t, c, hgd, hdj, hv, hrun⟩ | ⟨j, t, c, hgd, hdj, hv, h⟩
    · rw [if_pos (wanted_none hgd _)]
      exact .inl (go hrun)
    · rw [if_pos (by rw [hgd]; simp only [yield_is hdj hv, beq_self_eq_true])]
      exact .inl (go hrun)
    · rw [if_neg (by rw [hgd]; simp only [beq_iff_eq]; exact yield_isnt hdj hv)]
      exact hK _ _ h
  · intro l a w ⟨hG, hk⟩ hr
    have hall := all_listedB haf l hk.sz hr
    refine he a w _ hall hG hk.size hk.defers (fun t ht => hk.out t fun j oj hj _ q => outer_not ht hj q) (fun j t hdj => ?_)
    obtain ⟨oj, hj, hdj⟩ := dstOf_some hdj
    exact hk.is j oj t hj (hall j (Array.getElem?_eq_some_iff.1 hj).1) hdj
  · have hz : (fun m => (Array.replicate ops.size false).getD m false) = fun _ => false := by
      funext m
      cases hc : (Array.replicate ops.size false).getD m false with
      | false => rfl
      | true => exact absurd hc (none_listed _ _)
    refine ⟨?_, ⟨trivial, fun j _ _ hl => absurd hl (none_listed _ j), by simp, rfl, rfl, fun _ _ => rfl, fun j o t hj hl _ => absurd hl (none_listed _ j)⟩⟩
    rw [hz]
    exact hg
end
end Go.Proofs.Ytkfnphhoebknnaa
