/- A region whose order is drawn: what each operation leaves is said once, whatever order is drawn. -/
import Derived.Orders
import Derived.Laws.World
namespace Go.Proofs.Ytfokgalgdlajlaa

def left (l : Array Bool) : Nat := l.toList.countP (fun b => !b)

theorem countP_set_true : ∀ (l : List Bool) (i : Nat), l[i]? = some false → (l.set i true).countP (fun b => !b) + 1 = l.countP (fun b => !b)
  | [], i, h => by simp at h
  | b :: l, 0, h => by
    simp at h
    subst h
    simp
  | b :: l, i + 1, h => by
    simp at h
    have := countP_set_true l i h
    simp only [List.set_cons_succ, List.countP_cons]
    omega

theorem countP_pos_of : ∀ (l : List Bool) (i : Nat), l[i]? = some false → 1 ≤ l.countP (fun b => !b)
  | [], i, h => by simp at h
  | b :: l, 0, h => by
    simp at h
    subst h
    simp
  | b :: l, i + 1, h => by
    simp at h
    have := countP_pos_of l i h
    simp only [List.countP_cons]
    omega

theorem getD_false {l : Array Bool} {i : Nat} (h : l.getD i true = false) : l.toList[i]? = some false := by
  rw [Array.getElem?_toList]
  rw [Array.getD_eq_getD_getElem?] at h
  cases hh : l[i]? with
  | none => rw [hh] at h; simp at h
  | some b => rw [hh] at h; simp at h; rw [h]

section
variable {P : Program} {ops : Array Oper} {Q : Exit → Act → World → Prop} {md : Region.Mode}

/-- What every operation keeps holds in the end. -/
theorem wpAny_kept (I : Array Bool → Act → World → Prop)
    (hs : ∀ l a w i, I l a w → i ∈ Region.ready md ops l → wpOp P ops Q i (I (l.setIfInBounds i true)) a w)
    (he : ∀ l a w, I l a w → Region.ready md ops l = [] → Q .normal a w) :
    ∀ (n : Nat) (l : Array Bool) (a : Act) (w : World), left l ≤ n → I l a w → wpAny P md ops Q n l a w := by
  intro n
  induction n with
  | zero =>
    intro l a w hl hI
    have hr : Region.ready md ops l = [] := by
      cases h : Region.ready md ops l with
      | nil => rfl
      | cons i r =>
        have hm : i ∈ Region.ready md ops l := by rw [h]; exact List.mem_cons_self
        have := countP_pos_of _ _ (getD_false (mem_ready.1 hm).1)
        unfold left at hl
        omega
    exact ⟨hr, he l a w hI hr⟩
  | succ n ih =>
    intro l a w hl hI
    refine ⟨he l a w hI, fun i hi => ?_⟩
    refine wpOp_mono (fun a' w' h => ih _ a' w' ?_ h) (hs l a w i hI hi)
    have := countP_set_true _ _ (getD_false (mem_ready.1 hi).1)
    unfold left at *
    rw [Array.toList_setIfInBounds]
    omega

/-- The temporaries that no operation of the region writes. -/
def outer (ops : Array Oper) (t : Nat) : Bool := ops.toList.all fun o => o.dst != some t

/-- An operation yields a value by itself, or by a call. -/
def Runs (P : Program) (o : Oper) (ρ : Operand → Value) (w : World) (K : Value → World → Prop) : Prop :=
  (∃ v w', (execOp ρ o).run P w = .ok (.value v) w' ∧ K v w') ∨
  (∃ w', (execOp ρ o).run P w = .ok .skip w' ∧ K undef w') ∨
  (∃ f args w1, (execOp ρ o).run P w = .ok (.enter f args) w1 ∧ Calls P f args w1 fun e w' => ∃ v, e = .returned v ∧ K v w')

theorem Runs.val {o : Oper} {ρ : Operand → Value} {w : World} {K : Value → World → Prop} (v : Value) {w' : World} (h : (execOp ρ o).run P w = .ok (.value v) w') (k : K v w') : Runs P o ρ w K :=
  .inl ⟨v, w', h, k⟩
theorem Runs.skips {o : Oper} {ρ : Operand → Value} {w : World} {K : Value → World → Prop} {w' : World} (h : (execOp ρ o).run P w = .ok .skip w') (k : K undef w') : Runs P o ρ w K :=
  .inr (.inl ⟨w', h, k⟩)
theorem Runs.goes {o : Oper} {ρ : Operand → Value} {w : World} {K : Value → World → Prop} (f : FuncId) (args : Array Value) (h : (execOp ρ o).run P w = .ok (.enter f args) w) (k : Calls P f args w fun e w' => ∃ v, e = .returned v ∧ K v w') : Runs P o ρ w K :=
  .inr (.inr ⟨f, args, w, h, k⟩)

/-- An operation that is carried out whatever was found. -/
def plainOp (o : Oper) : Prop := Region.wanted o (fun _ => none) = true
def depOn (o : Oper) (j : Nat) : Bool := o.after.toList.any fun e => e.on == j && Region.binds .any e
def dstOf (ops : Array Oper) (j : Nat) : Option Nat := (ops[j]?).bind (·.dst)

/-- What is asked of an operation: whatever it waits for has left what it leaves. -/
def OpOk (P : Program) (ops : Array Oper) (a0 : Act) (G : World → Prop) (S : World → World → Prop) (R : List (Value → World → Prop)) (i : Nat) (o : Oper) : Prop :=
  plainOp o ∧ ∀ ρ w, G w → (∀ t, outer ops t = true → ρ (.tmp t) = a0.eval (.tmp t)) → (∀ x, ρ (.const x) = x) → (∀ f, ρ (.func f) = .func (.func f) #[] #[]) →
    (∀ j t, depOn o j = true → dstOf ops j = some t → R.getD j (fun _ _ => True) (ρ (.tmp t)) w) →
    Runs P o ρ w fun v w' => G w' ∧ S w w' ∧ R.getD i (fun _ _ => True) v w'

/-- What is asked of the last one: all others have left what they leave. -/
def LastOk (P : Program) (ops : Array Oper) (a0 : Act) (G : World → Prop) (R : List (Value → World → Prop)) (F : Value → World → Prop) (m : Nat) (o : Oper) : Prop :=
  plainOp o ∧ ∀ ρ w, G w → (∀ t, outer ops t = true → ρ (.tmp t) = a0.eval (.tmp t)) → (∀ x, ρ (.const x) = x) → (∀ f, ρ (.func f) = .func (.func f) #[] #[]) →
    (∀ j t, j < m → dstOf ops j = some t → R.getD j (fun _ _ => True) (ρ (.tmp t)) w) →
    Runs P o ρ w F

def AllOps (F : Nat → Oper → Prop) : Nat → List Oper → Prop
  | _, [] => True
  | i, o :: l => F i o ∧ AllOps F (i + 1) l

theorem AllOps.get {F : Nat → Oper → Prop} : ∀ {l : List Oper} {i k : Nat} {o : Oper}, AllOps F i l → l[k]? = some o → F (i + k) o
  | [], i, k, o, _, h => by simp at h
  | x :: l, i, 0, o, ⟨a, _⟩, h => by simp at h; subst h; exact a
  | x :: l, i, k + 1, o, ⟨_, a⟩, h => by
    simp at h
    have := AllOps.get a h
    rw [show i + (k + 1) = i + 1 + k by omega]
    exact this

def Stable (S : World → World → Prop) : List (Value → World → Prop) → Prop
  | [] => True
  | r :: l => (∀ v w w', S w w' → r v w → r v w') ∧ Stable S l

theorem Stable.get {S : World → World → Prop} : ∀ {l : List (Value → World → Prop)} {i : Nat}, Stable S l → ∀ v w w', S w w' → l.getD i (fun _ _ => True) v w → l.getD i (fun _ _ => True) v w'
  | [], i, _, v, w, w', _, _ => by simp
  | r :: l, 0, ⟨h, _⟩, v, w, w', hs, hr => h v w w' hs hr
  | r :: l, i + 1, ⟨_, h⟩, v, w, w', hs, hr => by
    simp only [List.getD_cons_succ] at hr ⊢
    exact Stable.get h v w w' hs hr

/-- No two operations write one temporary; each writes one that is there. -/
def dstsOk (ops : Array Oper) (n : Nat) : Bool :=
  (ops.toList.filterMap (·.dst)).Nodup && (ops.toList.filterMap (·.dst)).all (· < n)

/-- Whatever has come up, what it waits for has come up. -/
def Dn (ops : Array Oper) (l : Array Bool) : Prop := ∀ i o, ops[i]? = some o → l.getD i false = true → ∀ e ∈ o.after, Region.binds .any e = true → l.getD e.on false = true

structure KeptIn (ops : Array Oper) (a0 : Act) (G : World → Prop) (R : List (Value → World → Prop)) (l : Array Bool) (a : Act) (w : World) : Prop where
  good : G w
  dn : Dn ops l
  sz : l.size = ops.size
  size : a.tmps.size = a0.tmps.size
  defers : a.defers = a0.defers
  out : ∀ t, (∀ j o, ops[j]? = some o → l.getD j false = true → o.dst ≠ some t) → a.tmps.getD t undef = a0.tmps.getD t undef
  is : ∀ j o t, ops[j]? = some o → l.getD j false = true → o.dst = some t → R.getD j (fun _ _ => True) (a.tmps.getD t undef) w

theorem nodup_filterMap : ∀ {l : List Oper} {i j : Nat} {x y : Oper} {t : Nat}, (l.filterMap (·.dst)).Nodup → l[i]? = some x → l[j]? = some y → x.dst = some t → y.dst = some t → i = j
  | [], i, j, x, y, t, _, h, _, _, _ => by simp at h
  | o :: l, 0, 0, x, y, t, _, _, _, _, _ => rfl
  | o :: l, 0, j + 1, x, y, t, hn, hx, hy, dx, dy => by
    simp at hx hy
    subst hx
    rw [List.filterMap_cons, dx] at hn
    simp only [List.nodup_cons] at hn
    exact absurd (List.mem_filterMap.2 ⟨y, List.mem_of_getElem? hy, dy⟩) hn.1
  | o :: l, i + 1, 0, x, y, t, hn, hx, hy, dx, dy => by
    simp at hx hy
    subst hy
    rw [List.filterMap_cons, dy] at hn
    simp only [List.nodup_cons] at hn
    exact absurd (List.mem_filterMap.2 ⟨x, List.mem_of_getElem? hx, dx⟩) hn.1
  | o :: l, i + 1, j + 1, x, y, t, hn, hx, hy, dx, dy => by
    simp at hx hy
    have hn' : (l.filterMap (·.dst)).Nodup := by
      rw [List.filterMap_cons] at hn
      split at hn
      · exact hn
      · exact (List.nodup_cons.1 hn).2
    rw [nodup_filterMap hn' hx hy dx dy]

theorem put_other {a : Act} {d : Option Tmp} {v : Value} {t : Nat} (h : d ≠ some t) : (a.put d v).tmps.getD t undef = a.tmps.getD t undef := by
  cases d with
  | none => rfl
  | some d =>
    have hd : d ≠ t := fun e => h (by rw [e])
    simp only [Act.put, Array.getD_eq_getD_getElem?]
    rw [Array.getElem?_setIfInBounds_ne hd]

theorem put_self {a : Act} {v : Value} {t : Nat} (h : t < a.tmps.size) : (a.put (some t) v).tmps.getD t undef = v := by
  simp only [Act.put, Array.getD_eq_getD_getElem?]
  rw [Array.getElem?_setIfInBounds_self_of_lt h]
  rfl

theorem put_size {a : Act} {d : Option Tmp} {v : Value} : (a.put d v).tmps.size = a.tmps.size := by
  cases d <;> simp [Act.put]

theorem put_defers' {a : Act} {d : Option Tmp} {v : Value} : (a.put d v).defers = a.defers := by
  cases d <;> simp [Act.put]

theorem KeptIn.next {a0 : Act} {G : World → Prop} {S : World → World → Prop} {R : List (Value → World → Prop)} {l : Array Bool} {a : Act} {w w' : World} {i : Nat} {o : Oper} {v : Value}
    (hd : dstsOk ops a0.tmps.size = true) (hst : Stable S R) (ho : ops[i]? = some o) (haf : ∀ e ∈ o.after, Region.binds .any e = true → l.getD e.on false = true) (h : KeptIn ops a0 G R l a w) (hg : G w') (hS : S w w') (hr : R.getD i (fun _ _ => True) v w') :
    KeptIn ops a0 G R (l.setIfInBounds i true) (a.put o.dst v) w' := by
  unfold dstsOk at hd
  simp only [Bool.and_eq_true, decide_eq_true_eq, List.all_eq_true] at hd
  obtain ⟨hn, hlt⟩ := hd
  have hi : i < l.size := by rw [h.sz]; exact (Array.getElem?_eq_some_iff.1 ho).1
  have hlist : ∀ j, (l.setIfInBounds i true).getD j false = true ↔ j = i ∨ l.getD j false = true := by
    intro j
    by_cases e : j = i
    · subst e
      simp only [Array.getD_eq_getD_getElem?, Array.getElem?_setIfInBounds_self_of_lt hi]
      simp
    · simp only [Array.getD_eq_getD_getElem?, Array.getElem?_setIfInBounds_ne (fun q => e q.symm)]
      simp [e]
  refine ⟨hg, ?_, by rw [Array.size_setIfInBounds]; exact h.sz, put_size.trans h.size, put_defers'.trans h.defers, ?_, ?_⟩
  · intro j oj hj hl e he hb
    refine (hlist _).2 (.inr ?_)
    rcases (hlist j).1 hl with q | q
    · subst q
      rw [ho] at hj
      cases hj
      exact haf e he hb
    · exact h.dn j oj hj q e he hb
  · intro t ht
    rw [put_other (ht i o ho ((hlist i).2 (.inl rfl)))]
    exact h.out t fun j oj hj hl => ht j oj hj ((hlist j).2 (.inr hl))
  · intro j oj t hj hl hdj
    by_cases e : j = i
    · subst e
      rw [ho] at hj
      cases hj
      rw [hdj, put_self]
      · exact hr
      · rw [h.size]
        exact hlt t (List.mem_filterMap.2 ⟨o, List.mem_of_getElem? (by rw [Array.getElem?_toList]; exact ho), hdj⟩)
    · have hl' := ((hlist j).1 hl).resolve_left e
      rw [put_other]
      · exact hst.get _ _ _ hS (h.is j oj t hj hl' hdj)
      · intro q
        exact e (nodup_filterMap hn (by rw [Array.getElem?_toList]; exact hj) (by rw [Array.getElem?_toList]; exact ho) hdj q)

theorem eval_tmp (a : Act) (t : Nat) : a.eval (.tmp t) = a.tmps.getD t undef := rfl

theorem outer_not {t j : Nat} {o : Oper} (ht : outer ops t = true) (hj : ops[j]? = some o) : o.dst ≠ some t := by
  intro q
  unfold outer at ht
  have := List.all_eq_true.1 ht o (Array.mem_toList_iff.2 (Array.mem_of_getElem? hj))
  simp [q] at this

theorem dstOf_some {j t : Nat} (h : dstOf ops j = some t) : ∃ o, ops[j]? = some o ∧ o.dst = some t := by
  unfold dstOf at h
  cases ho : ops[j]? with
  | none => rw [ho] at h; cases h
  | some o => rw [ho] at h; exact ⟨o, rfl, h⟩

theorem depOn_some {o : Oper} {j : Nat} (h : depOn o j = true) : ∃ e ∈ o.after, e.on = j ∧ Region.binds .any e = true := by
  unfold depOn at h
  obtain ⟨e, he, hb⟩ := List.any_eq_true.1 h
  simp only [Bool.and_eq_true, beq_iff_eq] at hb
  exact ⟨e, Array.mem_toList_iff.1 he, hb.1, hb.2⟩

theorem wanted_none {o : Oper} (h : plainOp o) (f : Nat → Option Bool) : Region.wanted o f = true := by
  unfold plainOp Region.wanted at h
  unfold Region.wanted
  split
  · rfl
  · rename_i e
    rw [e] at h
    cases h

/-- Every operation waits for earlier ones alone. -/
def afterOk (ops : Array Oper) : Bool := (List.range ops.size).all fun i => match ops[i]? with | some o => o.after.all (fun e => e.on < i) | none => true

theorem all_listed (h : afterOk ops = true) (l : Array Bool) (hl : l.size = ops.size) (hr : Region.ready md ops l = []) : ∀ j, j < ops.size → l.getD j false = true := by
  intro j
  induction j using Nat.strongRecOn with
  | _ j ih =>
    intro hj
    cases hc : l.getD j false with
    | true => rfl
    | false =>
      exfalso
      have ho : ops[j]? = some ops[j] := Array.getElem?_eq_getElem hj
      have hm : j ∈ Region.ready md ops l := by
        refine mem_ready.2 ⟨?_, ops[j], ho, fun e he _ => ?_⟩
        · rw [Array.getD_eq_getD_getElem?, Array.getElem?_eq_getElem (by omega)] at hc ⊢
          simpa using hc
        · unfold afterOk at h
          rw [List.all_eq_true] at h
          have := h j (List.mem_range.2 hj)
          rw [ho] at this
          simp only at this
          have := Array.all_eq_true_iff_forall_mem.1 this e he
          simp only [decide_eq_true_eq] at this
          exact ih e.on this (by omega)
      rw [hr] at hm
      cases hm

theorem unlisted {l : Array Bool} {i : Nat} {o : Oper} (hsz : l.size = ops.size) (ho : ops[i]? = some o) (hl : l.getD i true = false) : l.getD i false = false := by
  have hlt : i < l.size := by rw [hsz]; exact (Array.getElem?_eq_some_iff.1 ho).1
  rw [Array.getD_eq_getD_getElem?, Array.getElem?_eq_getElem hlt] at hl ⊢
  simpa using hl

theorem none_listed (n : Nat) (j : Nat) : ¬ (Array.replicate n false).getD j false = true := by
  intro hl
  rw [Array.getD_eq_getD_getElem?, Array.getElem?_replicate] at hl
  split at hl <;> simp at hl

theorem left_replicate (n : Nat) : left (Array.replicate n false) ≤ n := by
  unfold left
  rw [Array.toList_replicate]
  exact Nat.le_trans List.countP_le_length (by simp)

/-- One operation of those that are said. -/
theorem kept_step {a0 : Act} {G : World → Prop} {S : World → World → Prop} {R : List (Value → World → Prop)} {l : Array Bool} {a : Act} {w : World} {i : Nat} {o : Oper} {K : Act → World → Prop}
    (hd : dstsOk ops a0.tmps.size = true) (hst : Stable S R) (ho : ops[i]? = some o) (hok : OpOk P ops a0 G S R i o) (hk : KeptIn ops a0 G R l a w) (hall : ∀ e ∈ o.after, Region.binds .any e = true → l.getD e.on false = true)
    (hK : ∀ a' w', KeptIn ops a0 G R (l.setIfInBounds i true) a' w' → K a' w') : wpOp P ops Q i K a w := by
  obtain ⟨hgd, hok⟩ := hok
  have hrun := hok a.eval w hk.good (fun t ht => by
    rw [eval_tmp, eval_tmp]
    exact hk.out t fun j oj hj _ q => outer_not ht hj q) (fun _ => rfl) (fun _ => rfl) (fun j t hj hdj => by
    obtain ⟨e, he, rfl, hb⟩ := depOn_some hj
    obtain ⟨oj, hoj, hdj⟩ := dstOf_some hdj
    rw [eval_tmp]
    exact hk.is _ oj t hoj (hall e he hb) hdj)
  unfold wpOp
  simp only [ho]
  rw [if_pos (wanted_none hgd _)]
  refine .inl ?_
  unfold Oper.wp
  rcases hrun with ⟨v, w', hv, h1, h2, h3⟩ | ⟨w', hv, h1, h2, h3⟩ | ⟨f, args, w1, hv, hc⟩
  · rw [hv]
    exact hK _ _ (hk.next hd hst ho hall h1 h2 h3)
  · rw [hv]
    exact hK _ _ (hk.next hd hst ho hall h1 h2 h3)
  · rw [hv]
    refine hc.mono ?_
    rintro e w' ⟨v, rfl, h1, h2, h3⟩
    exact hK _ _ (hk.next hd hst ho hall h1 h2 h3)

/-- **Whatever order is drawn**: each operation has left what it leaves. -/
theorem wp_region_kept {id : Nat} {a0 : Act} {w0 : World} (G : World → Prop) (S : World → World → Prop) (R : List (Value → World → Prop))
    (hm : P.follows .mixedOrders = true) (hd : dstsOk ops a0.tmps.size = true) (haf : afterOk ops = true) (hst : Stable S R) (hg : G w0.drew)
    (hops : AllOps (OpOk P ops a0 G S R) 0 ops.toList)
    (he : ∀ (a : Act) (w : World), G w → a.tmps.size = a0.tmps.size → a.defers = a0.defers → (∀ t, outer ops t = true → a.tmps.getD t undef = a0.tmps.getD t undef) →
      (∀ j t, dstOf ops j = some t → R.getD j (fun _ _ => True) (a.tmps.getD t undef) w) → Q .normal a w) :
    (Code.region id ops true).wp P Q a0 w0 := by
  refine wp_region_any hm (wpAny_kept (KeptIn ops a0 G R) ?_ ?_ _ _ _ _ (left_replicate _) ?_)
  · intro l a w i hk hi
    obtain ⟨hl, o, ho, hall⟩ := mem_ready.1 hi
    refine kept_step hd hst ho ?_ hk hall (fun _ _ h => h)
    have := hops.get (k := i) (o := o) (by rw [Array.getElem?_toList]; exact ho)
    rwa [Nat.zero_add] at this
  · intro l a w hk hr
    have hall := all_listed haf l hk.sz hr
    refine he a w hk.good hk.size hk.defers (fun t ht => hk.out t fun j oj hj _ q => outer_not ht hj q) (fun j t hdj => ?_)
    obtain ⟨oj, hj, hdj⟩ := dstOf_some hdj
    exact hk.is j oj t hj (hall j (Array.getElem?_eq_some_iff.1 hj).1) hdj
  · exact ⟨hg, fun j _ _ hl => absurd hl (none_listed _ j), by simp, rfl, rfl, fun _ _ => rfl, fun j o t hj hl _ => absurd hl (none_listed _ j)⟩

theorem act_is {a : Act} {n : Nat} {D : List Deferred} (hs : a.tmps.size = n) (hd : a.defers = D) : ∃ x : Nat → Value, a = ⟨((List.range n).map x).toArray, D⟩ ∧ ∀ t, a.tmps.getD t undef = x t := by
  refine ⟨fun t => a.tmps.getD t undef, ?_, fun _ => rfl⟩
  obtain ⟨tm, df⟩ := a
  subst hs hd
  simp only [Act.mk.injEq, and_true]
  apply Array.ext
  · simp
  · intro i h1 h2
    simp [Array.getD, h1]

/-- Each operation ahead of the last one is waited for by a later one. -/
def lastOk (ops : Array Oper) : Bool := (List.range (ops.size - 1)).all fun j => (List.range ops.size).any fun k => j < k && match ops[k]? with | some o => depOn o j | none => false

theorem all_ahead {l : Array Bool} (h : lastOk ops = true) (hdn : Dn ops l) {o : Oper} (ho : ops[ops.size - 1]? = some o) (hall : ∀ e ∈ o.after, Region.binds .any e = true → l.getD e.on false = true) :
    ∀ n j, ops.size - 1 - j = n → j < ops.size - 1 → l.getD j false = true := by
  intro n
  induction n using Nat.strongRecOn with
  | _ n ih =>
    intro j hn hj
    unfold lastOk at h
    rw [List.all_eq_true] at h
    have h1 := h j (List.mem_range.2 hj)
    rw [List.any_eq_true] at h1
    obtain ⟨k, hk, h2⟩ := h1
    have hk' := List.mem_range.1 hk
    simp only [Bool.and_eq_true, decide_eq_true_eq] at h2
    obtain ⟨hjk, h3⟩ := h2
    cases hok : ops[k]? with
    | none => rw [hok] at h3; cases h3
    | some ok =>
      rw [hok] at h3
      simp only at h3
      obtain ⟨e, he, rfl, hb⟩ := depOn_some h3
      by_cases hkl : k = ops.size - 1
      · subst hkl
        rw [ho] at hok
        cases hok
        exact hall e he hb
      · exact hdn k ok hok (ih (ops.size - 1 - k) (by omega) k rfl (by omega)) e he hb

/-- **Whatever order is drawn**, and the last one comes last: it may do what it likes. -/
theorem wp_region_last {id : Nat} {a0 : Act} {w0 : World} (G : World → Prop) (S : World → World → Prop) (R : List (Value → World → Prop)) (F : Value → World → Prop) {ol : Oper} (hol : ops[ops.size - 1]? = some ol)
    (hm : P.follows .mixedOrders = true) (hd : dstsOk ops a0.tmps.size = true) (haf : afterOk ops = true) (hla : lastOk ops = true) (hst : Stable S R) (hg : G w0.drew)
    (hops : AllOps (OpOk P ops a0 G S R) 0 (ops.toList.take (ops.size - 1)))
    (hlast : LastOk P ops a0 G R F (ops.size - 1) ol)
    (he : ∀ (a : Act) (w wb : World) (v : Value), F v w → a.tmps.size = a0.tmps.size → a.defers = a0.defers → (∀ t, outer ops t = true → a.tmps.getD t undef = a0.tmps.getD t undef) → (∀ t, ol.dst = some t → a.tmps.getD t undef = v) →
      (∀ j t, j < ops.size - 1 → dstOf ops j = some t → R.getD j (fun _ _ => True) (a.tmps.getD t undef) wb) → Q .normal a w) :
    (Code.region id ops true).wp P Q a0 w0 := by
  have hmlt : ops.size - 1 < ops.size := (Array.getElem?_eq_some_iff.1 hol).1
  have hd2 := hd
  unfold dstsOk at hd2
  simp only [Bool.and_eq_true, decide_eq_true_eq, List.all_eq_true] at hd2
  refine wp_region_any hm (wpAny_kept (fun l a w => (l.getD (ops.size - 1) false = false ∧ KeptIn ops a0 G R l a w) ∨ ((∀ j, j < ops.size → l.getD j true = true) ∧ Q .normal a w)) ?_ ?_ _ _ _ _ (left_replicate _) ?_)
  · intro l a w i hk hi
    obtain ⟨hl, o, ho, hall⟩ := mem_ready.1 hi
    have hil : i < ops.size := (Array.getElem?_eq_some_iff.1 ho).1
    rcases hk with ⟨hnl, hk⟩ | ⟨hk, _⟩
    · by_cases him : i = ops.size - 1
      · subst him
        rw [ho] at hol
        cases hol
        obtain ⟨hgd, hok⟩ := hlast
        have hah := all_ahead hla hk.dn ho hall
        have hrun := hok a.eval w hk.good (fun t ht => by
          rw [eval_tmp, eval_tmp]
          exact hk.out t fun j oj hj _ q => outer_not ht hj q) (fun _ => rfl) (fun _ => rfl) (fun j t hj hdj => by
          obtain ⟨oj, hoj, hdj⟩ := dstOf_some hdj
          rw [eval_tmp]
          exact hk.is _ oj t hoj (hah _ j rfl hj) hdj)
        have hfin : ∀ v w', F v w' → (∀ j, j < ops.size → (l.setIfInBounds (ops.size - 1) true).getD j true = true) ∧ Q .normal (a.put ol.dst v) w' := by
          intro v w' hF
          refine ⟨fun j hj => ?_, he _ w' w v hF (put_size.trans hk.size) (put_defers'.trans hk.defers) (fun t ht => ?_) (fun t ht => ?_) (fun j t hj hdj => ?_)⟩
          · by_cases e : j = ops.size - 1
            · subst e
              rw [Array.getD_eq_getD_getElem?, Array.getElem?_setIfInBounds_self_of_lt (by rw [hk.sz]; exact hmlt)]
              rfl
            · have := hah _ j rfl (by omega)
              have hjl : j < l.size := by rw [hk.sz]; exact hj
              rw [Array.getD_eq_getD_getElem?, Array.getElem?_setIfInBounds_ne (fun q => e q.symm), Array.getElem?_eq_getElem hjl]
              rw [Array.getD_eq_getD_getElem?, Array.getElem?_eq_getElem hjl] at this
              simpa using this
          · rw [put_other (outer_not ht ho)]
            exact hk.out t fun j oj hj _ q => outer_not ht hj q
          · rw [ht, put_self]
            rw [hk.size]
            exact hd2.2 t (List.mem_filterMap.2 ⟨ol, List.mem_of_getElem? (by rw [Array.getElem?_toList]; exact ho), ht⟩)
          · obtain ⟨oj, hoj, hdj⟩ := dstOf_some hdj
            rw [put_other]
            · exact hk.is _ oj t hoj (hah _ j rfl hj) hdj
            · intro q
              have := nodup_filterMap hd2.1 (by rw [Array.getElem?_toList]; exact hoj) (by rw [Array.getElem?_toList]; exact ho) hdj q
              omega
        unfold wpOp
        simp only [ho]
        rw [if_pos (wanted_none hgd _)]
        refine .inl ?_
        unfold Oper.wp
        rcases hrun with ⟨v, w', hv, hF⟩ | ⟨w', hv, hF⟩ | ⟨f, args, w1, hv, hc⟩
        · rw [hv]
          exact .inr (hfin v w' hF)
        · rw [hv]
          exact .inr (hfin undef w' hF)
        · rw [hv]
          refine hc.mono ?_
          rintro e w' ⟨v, rfl, hF⟩
          exact .inr (hfin v w' hF)
      · refine kept_step hd hst ho ?_ hk hall (fun a' w' h => .inl ⟨?_, h⟩)
        · have := hops.get (k := i) (o := o) (by rw [List.getElem?_take_of_lt (by omega), Array.getElem?_toList]; exact ho)
          rwa [Nat.zero_add] at this
        · rw [Array.getD_eq_getD_getElem?, Array.getElem?_setIfInBounds_ne him, ← Array.getD_eq_getD_getElem?]
          exact hnl
    · rw [hk i hil] at hl
      cases hl
  · intro l a w hk hr
    rcases hk with ⟨hnl, hk⟩ | ⟨_, hq⟩
    · have := all_listed haf l hk.sz hr _ hmlt
      rw [hnl] at this
      cases this
    · exact hq
  · refine .inl ⟨?_, ⟨hg, fun j _ _ hl => absurd hl (none_listed _ j), by simp, rfl, rfl, fun _ _ => rfl, fun j o t hj hl _ => absurd hl (none_listed _ j)⟩⟩
    cases hc : (Array.replicate ops.size false).getD (ops.size - 1) false with
    | false => rfl
    | true => exact absurd hc (none_listed _ _)
end
end Go.Proofs.Ytfokgalgdlajlaa
/- A region whose order is drawn, where what the memory is hangs on what has come up. -/
namespace Go.Proofs.Ytfokgalgdlajlaa

section
variable {P : Program} {ops : Array Oper} {Q : Exit → Act → World → Prop}

/-- What is asked of an operation: whatever has come up has left what it leaves. -/
def OpAt (P : Program) (ops : Array Oper) (a0 : Act) (G : (Nat → Bool) → World → Prop) (R : List (Value → Prop)) (i : Nat) (o : Oper) : Prop :=
  plainOp o ∧ ∀ ρ w (l : Nat → Bool), (∀ j oj, ops[j]? = some oj → l j = true → ∀ e ∈ oj.after, Region.binds .any e = true → l e.on = true) → l i = false → (∀ e ∈ o.after, Region.binds .any e = true → l e.on = true) → G l w →
    (∀ t, outer ops t = true → ρ (.tmp t) = a0.eval (.tmp t)) → (∀ x, ρ (.const x) = x) → (∀ f, ρ (.func f) = .func (.func f) #[] #[]) →
    (∀ j t, l j = true → dstOf ops j = some t → R.getD j (fun _ => True) (ρ (.tmp t))) →
    Runs P o ρ w fun v w' => G (fun j => if j = i then true else l j) w' ∧ R.getD i (fun _ => True) v

structure AtIn (ops : Array Oper) (a0 : Act) (G : (Nat → Bool) → World → Prop) (R : List (Value → Prop)) (l : Array Bool) (a : Act) (w : World) : Prop where
  good : G (fun j => l.getD j false) w
  dn : Dn ops l
  sz : l.size = ops.size
  size : a.tmps.size = a0.tmps.size
  defers : a.defers = a0.defers
  out : ∀ t, (∀ j o, ops[j]? = some o → l.getD j false = true → o.dst ≠ some t) → a.tmps.getD t undef = a0.tmps.getD t undef
  is : ∀ j o t, ops[j]? = some o → l.getD j false = true → o.dst = some t → R.getD j (fun _ => True) (a.tmps.getD t undef)

theorem AtIn.next {a0 : Act} {G : (Nat → Bool) → World → Prop} {R : List (Value → Prop)} {l : Array Bool} {a : Act} {w w' : World} {i : Nat} {o : Oper} {v : Value}
    (hd : dstsOk ops a0.tmps.size = true) (ho : ops[i]? = some o) (haf : ∀ e ∈ o.after, Region.binds .any e = true → l.getD e.on false = true) (h : AtIn ops a0 G R l a w) (hg : G (fun j => if j = i then true else l.getD j false) w') (hr : R.getD i (fun _ => True) v) :
    AtIn ops a0 G R (l.setIfInBounds i true) (a.put o.dst v) w' := by
  have hk : KeptIn ops a0 (fun _ => True) (R.map fun r v (_ : World) => r v) l a w := by
    refine ⟨trivial, h.dn, h.sz, h.size, h.defers, h.out, fun j oj t h1 h2 h3 => ?_⟩
    have := h.is j oj t h1 h2 h3
    rw [List.getD_eq_getElem?_getD] at this ⊢
    rw [List.getElem?_map]
    cases hh : R[j]? with
    | none => exact trivial
    | some r => rw [hh] at this; exact this
  have hst : ∀ (L : List (Value → Prop)), Stable (fun _ _ => True) (L.map fun r v (_ : World) => r v) := by
    intro L
    induction L with
    | nil => exact trivial
    | cons r L ih => exact ⟨fun _ _ _ _ h => h, ih⟩
  have hr' : (R.map fun r v (_ : World) => r v).getD i (fun _ _ => True) v w' := by
    rw [List.getD_eq_getElem?_getD] at hr ⊢
    rw [List.getElem?_map]
    cases hh : R[i]? with
    | none => exact trivial
    | some r => rw [hh] at hr; exact hr
  have hn := hk.next (S := fun _ _ => True) (w' := w') hd (hst R) ho haf trivial trivial hr'
  have hi : i < l.size := by rw [h.sz]; exact (Array.getElem?_eq_some_iff.1 ho).1
  have hl : (fun j => (l.setIfInBounds i true).getD j false) = fun j => if j = i then true else l.getD j false := by
    funext j
    by_cases e : j = i
    · subst e
      rw [Array.getD_eq_getD_getElem?, Array.getElem?_setIfInBounds_self_of_lt hi]
      simp
    · rw [Array.getD_eq_getD_getElem?, Array.getElem?_setIfInBounds_ne (fun q => e q.symm), if_neg e, Array.getD_eq_getD_getElem?]
  refine ⟨by rw [hl]; exact hg, hn.dn, hn.sz, hn.size, hn.defers, hn.out, fun j oj t h1 h2 h3 => ?_⟩
  have := hn.is j oj t h1 h2 h3
  rw [List.getD_eq_getElem?_getD] at this ⊢
  rw [List.getElem?_map] at this
  cases hh : R[j]? with
  | none => exact trivial
  | some r => rw [hh] at this; exact this

/-- **Whatever order is drawn**: what has come up tells what the memory is. -/
theorem wp_region_at {id : Nat} {a0 : Act} {w0 : World} (G : (Nat → Bool) → World → Prop) (R : List (Value → Prop))
    (hm : P.follows .mixedOrders = true) (hd : dstsOk ops a0.tmps.size = true) (haf : afterOk ops = true) (hg : G (fun _ => false) w0.drew)
    (hops : AllOps (OpAt P ops a0 G R) 0 ops.toList)
    (he : ∀ (a : Act) (w : World) (l : Nat → Bool), (∀ j, j < ops.size → l j = true) → G l w → a.tmps.size = a0.tmps.size → a.defers = a0.defers → (∀ t, outer ops t = true → a.tmps.getD t undef = a0.tmps.getD t undef) →
      (∀ j t, dstOf ops j = some t → R.getD j (fun _ => True) (a.tmps.getD t undef)) → Q .normal a w) :
    (Code.region id ops true).wp P Q a0 w0 := by
  refine wp_region_any hm (wpAny_kept (AtIn ops a0 G R) ?_ ?_ _ _ _ _ (left_replicate _) ?_)
  · intro l a w i hk hi
    obtain ⟨hl, o, ho, hall⟩ := mem_ready.1 hi
    have hok : OpAt P ops a0 G R i o := by
      have := hops.get (k := i) (o := o) (by rw [Array.getElem?_toList]; exact ho)
      rwa [Nat.zero_add] at this
    obtain ⟨hgd, hok⟩ := hok
    have hrun := hok a.eval w (fun j => l.getD j false) (fun j oj hj hlj e he hb => hk.dn j oj hj hlj e he hb) (unlisted hk.sz ho hl) hall hk.good (fun t ht => by
      rw [eval_tmp, eval_tmp]
      exact hk.out t fun j oj hj _ q => outer_not ht hj q) (fun _ => rfl) (fun _ => rfl) (fun j t hj hdj => by
      obtain ⟨oj, hoj, hdj⟩ := dstOf_some hdj
      rw [eval_tmp]
      exact hk.is _ oj t hoj hj hdj)
    unfold wpOp
    simp only [ho]
    rw [if_pos (wanted_none hgd _)]
    refine .inl ?_
    unfold Oper.wp
    rcases hrun with ⟨v, w', hv, h1, h2⟩ | ⟨w', hv, h1, h2⟩ | ⟨f, args, w1, hv, hc⟩
    · rw [hv]
      exact hk.next hd ho hall h1 h2
    · rw [hv]
      exact hk.next hd ho hall h1 h2
    · rw [hv]
      refine hc.mono ?_
      rintro e w' ⟨v, rfl, h1, h2⟩
      exact hk.next hd ho hall h1 h2
  · intro l a w hk hr
    have hall := all_listed haf l hk.sz hr
    refine he a w (fun j => l.getD j false) hall hk.good hk.size hk.defers (fun t ht => hk.out t fun j oj hj _ q => outer_not ht hj q) (fun j t hdj => ?_)
    obtain ⟨oj, hj, hdj⟩ := dstOf_some hdj
    exact hk.is j oj t hj (hall j (Array.getElem?_eq_some_iff.1 hj).1) hdj
  · have hz : (fun j => (Array.replicate ops.size false).getD j false) = fun _ => false := by
      funext j
      cases hc : (Array.replicate ops.size false).getD j false with
      | false => rfl
      | true => exact absurd hc (none_listed _ _)
    exact ⟨by rw [hz]; exact hg, fun j _ _ hl => absurd hl (none_listed _ j), by simp, rfl, rfl, fun _ _ => rfl, fun j o t hj hl _ => absurd hl (none_listed _ j)⟩
end

/-- Temporaries put, one behind the other. -/
def putAll (a : Act) (x : Nat → Value) : List Nat → Act
  | [] => a
  | t :: l => putAll (a.put (some t) (x t)) x l

theorem putAll_size (x : Nat → Value) : ∀ (l : List Nat) (a : Act), (putAll a x l).tmps.size = a.tmps.size ∧ (putAll a x l).defers = a.defers
  | [], _ => ⟨rfl, rfl⟩
  | t :: l, a => by
    obtain ⟨h1, h2⟩ := putAll_size x l (a.put (some t) (x t))
    exact ⟨h1.trans put_size, h2.trans put_defers'⟩

theorem putAll_get (x : Nat → Value) : ∀ (l : List Nat) (a : Act) (t : Nat), t < a.tmps.size → (putAll a x l).tmps.getD t undef = if t ∈ l then x t else a.tmps.getD t undef
  | [], _, _, _ => by simp [putAll]
  | k :: l, a, t, ht => by
    rw [putAll, putAll_get x l _ t (by rw [put_size]; exact ht)]
    by_cases h1 : t ∈ l
    · rw [if_pos h1, if_pos (List.mem_cons_of_mem _ h1)]
    · rw [if_neg h1]
      by_cases h2 : t = k
      · subst h2
        rw [put_self ht, if_pos List.mem_cons_self]
      · rw [put_other (fun e => h2 (Option.some.inj e).symm), if_neg (by simp [h1, h2])]

theorem not_dst {ops : Array Oper} {t : Nat} (h : t ∉ ops.toList.filterMap (·.dst)) : outer ops t = true := by
  unfold outer
  rw [List.all_eq_true]
  intro o ho
  simp only [bne_iff_ne, ne_eq]
  intro e
  exact h (List.mem_filterMap.2 ⟨o, ho, e⟩)

/-- The state behind a region: the state ahead of it, and what was put. -/
theorem act_put {ops : Array Oper} {a a0 : Act} (hs : a.tmps.size = a0.tmps.size) (hd : a.defers = a0.defers) (ho : ∀ t, outer ops t = true → a.tmps.getD t undef = a0.tmps.getD t undef) :
    ∃ x : Nat → Value, a = putAll a0 x (ops.toList.filterMap (·.dst)) ∧ ∀ t, a.tmps.getD t undef = x t := by
  refine ⟨fun t => a.tmps.getD t undef, ?_, fun _ => rfl⟩
  obtain ⟨p1, p2⟩ := putAll_size (fun t => a.tmps.getD t undef) (ops.toList.filterMap (·.dst)) a0
  have hg := putAll_get (fun t => a.tmps.getD t undef) (ops.toList.filterMap (·.dst)) a0
  generalize putAll a0 (fun t => a.tmps.getD t undef) (ops.toList.filterMap (·.dst)) = b at p1 p2 hg
  obtain ⟨bt, bd⟩ := b
  obtain ⟨tm, df⟩ := a
  simp only at p1 p2 hs hd
  rw [Act.mk.injEq]
  refine ⟨?_, hd.trans p2.symm⟩
  apply Array.ext
  · rw [hs, p1]
  · intro i h1 h2
    have hi := hg i (by rw [← hs]; exact h1)
    have e1 : bt.getD i undef = bt[i] := by simp [Array.getD, h2]
    have e2 : tm.getD i undef = tm[i] := by simp [Array.getD, h1]
    simp only at hi
    rw [e1, e2] at hi
    rw [hi]
    by_cases hm : i ∈ ops.toList.filterMap (·.dst)
    · rw [if_pos hm]
    · rw [if_neg hm, ← e2]
      exact ho i (not_dst hm)
end Go.Proofs.Ytfokgalgdlajlaa
/- A region whose order is drawn, whose last operation writes a variable that others read. -/
namespace Go.Proofs.Ytfokgalgdlajlaa

section
variable {P : Program} {ops : Array Oper} {Q : Exit → Act → World → Prop}

/-- What is asked of an operation ahead of the last one. -/
def OpEv (P : Program) (ops : Array Oper) (a0 : Act) (G : World → Prop) (S : World → World → Prop) (R : List (Value → World → Prop)) (i : Nat) (o : Oper) : Prop :=
  plainOp o ∧ ∀ ρ w, G w → (∀ t, outer ops.pop t = true → ρ (.tmp t) = a0.eval (.tmp t)) → (∀ x, ρ (.const x) = x) → (∀ f, ρ (.func f) = .func (.func f) #[] #[]) →
    (∀ j t, depOn o j = true → dstOf ops j = some t → R.getD j (fun _ _ => True) (ρ (.tmp t)) w) →
    Runs P o ρ w fun v w' => G w' ∧ S w w' ∧ R.getD i (fun _ _ => True) v w'

def LastEv (P : Program) (ops : Array Oper) (a0 : Act) (G : World → Prop) (R : List (Value → World → Prop)) (F : Value → World → Prop) (m : Nat) (o : Oper) : Prop :=
  plainOp o ∧ ∀ ρ w, G w → (∀ t, outer ops.pop t = true → ρ (.tmp t) = a0.eval (.tmp t)) → (∀ x, ρ (.const x) = x) → (∀ f, ρ (.func f) = .func (.func f) #[] #[]) →
    (∀ j t, j < m → dstOf ops j = some t → R.getD j (fun _ _ => True) (ρ (.tmp t)) w) →
    Runs P o ρ w F

theorem pop_get {j : Nat} {o : Oper} (h : ops[j]? = some o) (hj : j < ops.size - 1) : ops.pop[j]? = some o := by
  rw [Array.getElem?_pop, if_pos hj]
  exact h

theorem early {l : Array Bool} {a a0 : Act} {w : World} {G : World → Prop} {R : List (Value → World → Prop)} {t : Nat} (hk : KeptIn ops a0 G R l a w) (hnl : l.getD (ops.size - 1) false = false) (ht : outer ops.pop t = true) : a.tmps.getD t undef = a0.tmps.getD t undef := by
  refine hk.out t fun j oj hj hlj q => ?_
  have hlt : j < ops.size := (Array.getElem?_eq_some_iff.1 hj).1
  by_cases e : j = ops.size - 1
  · rw [e, hnl] at hlj
    cases hlj
  · exact outer_not (ops := ops.pop) ht (pop_get hj (by omega)) q

/-- **Whatever order is drawn**, and the last one comes last: it may write what the others have read. -/
theorem wp_region_fin {id : Nat} {a0 : Act} {w0 : World} (G : World → Prop) (S : World → World → Prop) (R : List (Value → World → Prop)) (F : Value → World → Prop) {ol : Oper} (hol : ops[ops.size - 1]? = some ol)
    (hm : P.follows .mixedOrders = true) (hd : dstsOk ops a0.tmps.size = true) (haf : afterOk ops = true) (hla : lastOk ops = true) (hst : Stable S R) (hg : G w0.drew)
    (hops : AllOps (OpEv P ops a0 G S R) 0 (ops.toList.take (ops.size - 1)))
    (hlast : LastEv P ops a0 G R F (ops.size - 1) ol)
    (he : ∀ (a : Act) (w wb : World) (v : Value), F v w → a.tmps.size = a0.tmps.size → a.defers = a0.defers → (∀ t, outer ops t = true → a.tmps.getD t undef = a0.tmps.getD t undef) → (∀ t, ol.dst = some t → a.tmps.getD t undef = v) →
      (∀ j t, j < ops.size - 1 → dstOf ops j = some t → R.getD j (fun _ _ => True) (a.tmps.getD t undef) wb) → Q .normal a w) :
    (Code.region id ops true).wp P Q a0 w0 := by
  have hmlt : ops.size - 1 < ops.size := (Array.getElem?_eq_some_iff.1 hol).1
  have hd2 := hd
  unfold dstsOk at hd2
  simp only [Bool.and_eq_true, decide_eq_true_eq, List.all_eq_true] at hd2
  refine wp_region_any hm (wpAny_kept (fun l a w => (l.getD (ops.size - 1) false = false ∧ KeptIn ops a0 G R l a w) ∨ ((∀ j, j < ops.size → l.getD j true = true) ∧ Q .normal a w)) ?_ ?_ _ _ _ _ (left_replicate _) ?_)
  · intro l a w i hk hi
    obtain ⟨hl, o, ho, hall⟩ := mem_ready.1 hi
    have hil : i < ops.size := (Array.getElem?_eq_some_iff.1 ho).1
    rcases hk with ⟨hnl, hk⟩ | ⟨hk, _⟩
    · by_cases him : i = ops.size - 1
      · subst him
        rw [ho] at hol
        cases hol
        obtain ⟨hgd, hok⟩ := hlast
        have hah := all_ahead hla hk.dn ho hall
        have hrun := hok a.eval w hk.good (fun t ht => by
          rw [eval_tmp, eval_tmp]
          exact early hk hnl ht) (fun _ => rfl) (fun _ => rfl) (fun j t hj hdj => by
          obtain ⟨oj, hoj, hdj⟩ := dstOf_some hdj
          rw [eval_tmp]
          exact hk.is _ oj t hoj (hah _ j rfl hj) hdj)
        have hfin : ∀ v w', F v w' → (∀ j, j < ops.size → (l.setIfInBounds (ops.size - 1) true).getD j true = true) ∧ Q .normal (a.put ol.dst v) w' := by
          intro v w' hF
          refine ⟨fun j hj => ?_, he _ w' w v hF (put_size.trans hk.size) (put_defers'.trans hk.defers) (fun t ht => ?_) (fun t ht => ?_) (fun j t hj hdj => ?_)⟩
          · by_cases e : j = ops.size - 1
            · subst e
              rw [Array.getD_eq_getD_getElem?, Array.getElem?_setIfInBounds_self_of_lt (by rw [hk.sz]; exact hmlt)]
              rfl
            · have := hah _ j rfl (by omega)
              have hjl : j < l.size := by rw [hk.sz]; exact hj
              rw [Array.getD_eq_getD_getElem?, Array.getElem?_setIfInBounds_ne (fun q => e q.symm), Array.getElem?_eq_getElem hjl]
              rw [Array.getD_eq_getD_getElem?, Array.getElem?_eq_getElem hjl] at this
              simpa using this
          · rw [put_other (outer_not ht ho)]
            exact hk.out t fun j oj hj _ q => outer_not ht hj q
          · rw [ht, put_self]
            rw [hk.size]
            exact hd2.2 t (List.mem_filterMap.2 ⟨ol, List.mem_of_getElem? (by rw [Array.getElem?_toList]; exact ho), ht⟩)
          · obtain ⟨oj, hoj, hdj⟩ := dstOf_some hdj
            rw [put_other]
            · exact hk.is _ oj t hoj (hah _ j rfl hj) hdj
            · intro q
              have := nodup_filterMap hd2.1 (by rw [Array.getElem?_toList]; exact hoj) (by rw [Array.getElem?_toList]; exact ho) hdj q
              omega
        unfold wpOp
        simp only [ho]
        rw [if_pos (wanted_none hgd _)]
        refine .inl ?_
        unfold Oper.wp
        rcases hrun with ⟨v, w', hv, hF⟩ | ⟨w', hv, hF⟩ | ⟨f, args, w1, hv, hc⟩
        · rw [hv]
          exact .inr (hfin v w' hF)
        · rw [hv]
          exact .inr (hfin undef w' hF)
        · rw [hv]
          refine hc.mono ?_
          rintro e w' ⟨v, rfl, hF⟩
          exact .inr (hfin v w' hF)
      · have hok : OpEv P ops a0 G S R i o := by
          have := hops.get (k := i) (o := o) (by rw [List.getElem?_take_of_lt (by omega), Array.getElem?_toList]; exact ho)
          rwa [Nat.zero_add] at this
        obtain ⟨hgd, hok⟩ := hok
        have hrun := hok a.eval w hk.good (fun t ht => by
          rw [eval_tmp, eval_tmp]
          exact early hk hnl ht) (fun _ => rfl) (fun _ => rfl) (fun j t hj hdj => by
          obtain ⟨e, he, rfl, hb⟩ := depOn_some hj
          obtain ⟨oj, hoj, hdj⟩ := dstOf_some hdj
          rw [eval_tmp]
          exact hk.is _ oj t hoj (hall e he hb) hdj)
        have hnx : (l.setIfInBounds i true).getD (ops.size - 1) false = false := by
          rw [Array.getD_eq_getD_getElem?, Array.getElem?_setIfInBounds_ne him, ← Array.getD_eq_getD_getElem?]
          exact hnl
        unfold wpOp
        simp only [ho]
        rw [if_pos (wanted_none hgd _)]
        refine .inl ?_
        unfold Oper.wp
        rcases hrun with ⟨v, w', hv, h1, h2, h3⟩ | ⟨w', hv, h1, h2, h3⟩ | ⟨f, args, w1, hv, hc⟩
        · rw [hv]
          exact .inl ⟨hnx, hk.next hd hst ho hall h1 h2 h3⟩
        · rw [hv]
          exact .inl ⟨hnx, hk.next hd hst ho hall h1 h2 h3⟩
        · rw [hv]
          refine hc.mono ?_
          rintro e w' ⟨v, rfl, h1, h2, h3⟩
          exact .inl ⟨hnx, hk.next hd hst ho hall h1 h2 h3⟩
    · rw [hk i hil] at hl
      cases hl
  · intro l a w hk hr
    rcases hk with ⟨hnl, hk⟩ | ⟨_, hq⟩
    · have := all_listed haf l hk.sz hr _ hmlt
      rw [hnl] at this
      cases this
    · exact hq
  · refine .inl ⟨?_, ⟨hg, fun j _ _ hl => absurd hl (none_listed _ j), by simp, rfl, rfl, fun _ _ => rfl, fun j o t hj hl _ => absurd hl (none_listed _ j)⟩⟩
    cases hc : (Array.replicate ops.size false).getD (ops.size - 1) false with
    | false => rfl
    | true => exact absurd hc (none_listed _ _)
end
end Go.Proofs.Ytfokgalgdlajlaa
