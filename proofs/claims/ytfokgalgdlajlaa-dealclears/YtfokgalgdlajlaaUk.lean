/- A region whose order is drawn, with conditions and with marks of what has come up. -/
import Derived.Test.YtfokgalgdlajlaaVv
namespace Go.Proofs.Ytfokgalgdlajlaa
section
variable {P : Program} {ops : Array Oper} {Q : Exit → Act → World → Prop}
/-- One mark more. -/
def upd (fl : Nat → Bool) (i : Nat) : Nat → Bool := fun k => cond (Nat.beq k i) true (fl k)
/-- Whatever has come up, what it waits for has come up. -/
def Led (ops : Array Oper) (fl : Nat → Bool) : Prop := ∀ k o j, ops[k]? = some o → depOn o j = true → fl k = true → fl j = true
/-- What is asked of an operation: it is carried out, and leaves what it leaves; or its condition is against it. -/
def OpFl (P : Program) (ops : Array Oper) (a0 : Act) (G : (Nat → Bool) → World → Prop) (S : World → World → Prop) (R : List (Value → World → Prop)) (i : Nat) (o : Oper) : Prop :=
  ∀ ρ w fl, G fl w → fl i = false → Led ops fl → (∀ j, depOn o j = true → fl j = true) → (∀ t, outer ops t = true → ρ (.tmp t) = a0.eval (.tmp t)) → (∀ x, ρ (.const x) = x) → (∀ f, ρ (.func f) = .func (.func f) #[] #[]) →
    (∀ j t, depOn o j = true → dstOf ops j = some t → R.getD j (fun _ _ => True) (ρ (.tmp t)) w) →
    (plainOp o ∧ Runs P o ρ w fun v w' => G (upd fl i) w' ∧ S w w' ∧ R.getD i (fun _ _ => True) v w') ∨
    (∃ j t c, onlyIf o j c ∧ dstOf ops j = some t ∧ ρ (.tmp t) = .bool c ∧ Runs P o ρ w fun v w' => G (upd fl i) w' ∧ S w w' ∧ R.getD i (fun _ _ => True) v w') ∨
    (∃ j t c, onlyIf o j c ∧ dstOf ops j = some t ∧ ρ (.tmp t) ≠ .bool c ∧ G (upd fl i) w ∧ S w w ∧ R.getD i (fun _ _ => True) undef w)
theorem yield_isnt {a : Act} {j t : Nat} {c : Bool} (h : dstOf ops j = some t) (e : a.eval (.tmp t) ≠ .bool c) : yielded ops a.tmps j ≠ some c := by
  unfold dstOf at h
  unfold yielded
  rw [h]
  rw [eval_tmp] at e
  intro q
  cases hx : a.tmps[t]? with
  | none =>
    simp [hx] at q
  | some v =>
    rw [Array.getD_eq_getD_getElem?, hx] at e
    simp only [Option.getD_some] at e
    simp only [Option.bind_some, hx] at q
    cases v <;> simp at q
    subst q
    exact e rfl
theorem upd_is {l : Array Bool} {i : Nat} (hi : i < l.size) : (fun j => (l.setIfInBounds i true).getD j false) = upd (fun j => l.getD j false) i := by
  funext j
  unfold upd
  by_cases e : j = i
  · subst e
    rw [Array.getD_eq_getD_getElem?, Array.getElem?_setIfInBounds_self_of_lt hi]
    simp
  · rw [Array.getD_eq_getD_getElem?, Array.getElem?_setIfInBounds_ne (fun q => e q.symm), ← Array.getD_eq_getD_getElem?]
    have : Nat.beq j i = false := by
      cases h : Nat.beq j i with
      | false => rfl
      | true => exact absurd (Nat.eq_of_beq_eq_true h) e
    rw [this]
    rfl
/-- **Whatever order is drawn**: each operation has left what it leaves. -/
theorem wp_region_fc {id : Nat} {a0 : Act} {w0 : World} (G : (Nat → Bool) → World → Prop) (S : World → World → Prop) (R : List (Value → World → Prop))
    (hm : P.follows .mixedOrders = true) (hd : dstsOk ops a0.tmps.size = true) (haf : ∀ l : Array Bool, l.size = ops.size → Region.ready .any ops l = [] → ∀ j, j < ops.size → l.getD j false = true) (hst : Stable S R) (hg : G (fun _ => false) w0.drew)
    (hops : AllOps (OpFl P ops a0 G S R) 0 ops.toList)
    (he : ∀ (a : Act) (w : World) (fl : Nat → Bool), (∀ j, j < ops.size → fl j = true) → G fl w → a.tmps.size = a0.tmps.size → a.defers = a0.defers → (∀ t, outer ops t = true → a.tmps.getD t undef = a0.tmps.getD t undef) →
      (∀ j t, dstOf ops j = some t → R.getD j (fun _ _ => True) (a.tmps.getD t undef) w) → Q .normal a w) :
    (Code.region id ops true).wp P Q a0 w0 := by
  refine wp_region_any hm (wpAny_kept (fun l a w => G (fun j => l.getD j false) w ∧ KeptIn ops a0 (fun _ => True) R l a w) ?_ ?_ _ _ _ _ (left_replicate _) ?_)
  · intro l a w i ⟨hG, hk⟩ hi
    obtain ⟨hl, o, ho, hall⟩ := mem_ready.1 hi
    have hok : OpFl P ops a0 G S R i o := by
      have := hops.get (k := i) (o := o) (by rw [Array.getElem?_toList]; exact ho)
      rwa [Nat.zero_add] at this
    have hun := unlisted hk.sz ho hl
    have hil : i < l.size := by rw [hk.sz]; exact (Array.getElem?_eq_some_iff.1 ho).1
    have hrun := hok a.eval w (fun j => l.getD j false) hG hun (fun k ok j hok hdep hfl => by
      obtain ⟨e, he, rfl, hb⟩ := depOn_some hdep
      exact hk.dn k ok hok hfl e he hb) (fun j hdep => by
      obtain ⟨e, he, rfl, hb⟩ := depOn_some hdep
      exact hall e he hb) (fun t ht => by
      rw [eval_tmp, eval_tmp]
      exact hk.out t fun j oj hj _ q => outer_not ht hj q) (fun _ => rfl) (fun _ => rfl) (fun j t hj hdj => by
      obtain ⟨e, he, rfl, hb⟩ := depOn_some hj
      obtain ⟨oj, hoj, hdj⟩ := dstOf_some hdj
      rw [eval_tmp]
      exact hk.is _ oj t hoj (hall e he hb) hdj)
    have hK : ∀ v w', G (upd (fun j => l.getD j false) i) w' ∧ S w w' ∧ R.getD i (fun _ _ => True) v w' → G (fun j => (l.setIfInBounds i true).getD j false) w' ∧ KeptIn ops a0 (fun _ => True) R (l.setIfInBounds i true) (a.put o.dst v) w' := fun v w' ⟨h1, h2, h3⟩ => by
      rw [upd_is hil]
      exact ⟨h1, hk.next hd hst ho hall trivial h2 h3⟩
    unfold wpOp
    simp only [ho]
    have go : (Runs P o a.eval w fun v w' => G (upd (fun j => l.getD j false) i) w' ∧ S w w' ∧ R.getD i (fun _ _ => True) v w') → o.wp P a w (fun a' w' => G (fun j => (l.setIfInBounds i true).getD j false) w' ∧ KeptIn ops a0 (fun _ => True) R (l.setIfInBounds i true) a' w') Q := fun hrun => by
      unfold Oper.wp
      rcases hrun with ⟨v, w', hv, h⟩ | ⟨w', hv, h⟩ | ⟨f, args, w1, hv, hc⟩
      · rw [hv]
        exact hK _ _ h
      · rw [hv]
        exact hK _ _ h
      · rw [hv]
        refine hc.mono ?_
        rintro e w' ⟨v, rfl, h⟩
        exact hK _ _ h
    rcases hrun with ⟨hgd, hrun⟩ | ⟨j, t, c, hgd, hdj, hv, hrun⟩ | ⟨j, t, c, hgd, hdj, hv, h⟩
    · rw [if_pos (wanted_none hgd _)]
      exact .inl (go hrun)
    · rw [if_pos (by rw [hgd]; simp only [yield_is hdj hv, beq_self_eq_true])]
      exact .inl (go hrun)
    · rw [if_neg (by rw [hgd]; simp only [beq_iff_eq]; exact yield_isnt hdj hv)]
      exact hK _ _ h
  · intro l a w ⟨hG, hk⟩ hr
    have hall := haf l hk.sz hr
    refine he a w _ hall hG hk.size hk.defers (fun t ht => hk.out t fun j oj hj _ q => outer_not ht hj q) (fun j t hdj => ?_)
    obtain ⟨oj, hj, hdj⟩ := dstOf_some hdj
    exact hk.is j oj t hj (hall j (Array.getElem?_eq_some_iff.1 hj).1) hdj
  · have hz : (fun m => (Array.replicate ops.size false).getD m false) = fun _ => false := by
      funext m
      cases hc : (Array.replicate ops.size false).getD m false with
      | false => rfl
      | true => exact absurd hc (none_listed _ _)
    refine ⟨?_, ⟨trivial, fun j _ _ hl => absurd hl (none_listed _ j), by simp, rfl, rfl, fun _ _ => rfl, fun j o t hj hl _ => absurd hl (none_listed _ j)⟩⟩
    rw [hz]
    exact hg
/-- Every operation waits for earlier ones alone. -/
theorem wp_region_fl {id : Nat} {a0 : Act} {w0 : World} (G : (Nat → Bool) → World → Prop) (S : World → World → Prop) (R : List (Value → World → Prop))
    (hm : P.follows .mixedOrders = true) (hd : dstsOk ops a0.tmps.size = true) (haf : afterOk ops = true) (hst : Stable S R) (hg : G (fun _ => false) w0.drew)
    (hops : AllOps (OpFl P ops a0 G S R) 0 ops.toList)
    (he : ∀ (a : Act) (w : World) (fl : Nat → Bool), (∀ j, j < ops.size → fl j = true) → G fl w → a.tmps.size = a0.tmps.size → a.defers = a0.defers → (∀ t, outer ops t = true → a.tmps.getD t undef = a0.tmps.getD t undef) →
      (∀ j t, dstOf ops j = some t → R.getD j (fun _ _ => True) (a.tmps.getD t undef) w) → Q .normal a w) :
    (Code.region id ops true).wp P Q a0 w0 := wp_region_fc G S R hm hd (fun l hl hr => all_listed haf l hl hr) hst hg hops he
/-- Where it waits for a later one that wait binds nobody. -/
def afterOkB (ops : Array Oper) : Bool := (List.range ops.size).all fun i => match ops[i]? with | some o => o.after.all (fun e => !Region.binds .any e || decide (e.on < i)) | none => true
theorem all_listedB (h : afterOkB ops = true) (l : Array Bool) (hl : l.size = ops.size) (hr : Region.ready .any ops l = []) : ∀ j, j < ops.size → l.getD j false = true := by
  intro j
  induction j using Nat.strongRecOn with
  | _ j ih =>
    intro hj
    cases hc : l.getD j false with
    | true => rfl
    | false =>
      exfalso
      have ho : ops[j]? = some ops[j] := Array.getElem?_eq_getElem hj
      have hm : j ∈ Region.ready .any ops l := by
        refine mem_ready.2 ⟨?_, ops[j], ho, fun e he hbd => ?_⟩
        · rw [Array.getD_eq_getD_getElem?, Array.getElem?_eq_getElem (by omega)] at hc ⊢
          simpa using hc
        · unfold afterOkB at h
          rw [List.all_eq_true] at h
          have := h j (List.mem_range.2 hj)
          rw [ho] at this
          simp only at this
          have := Array.all_eq_true_iff_forall_mem.1 this e he
          rw [hbd] at this
          simp only [Bool.not_true, Bool.false_or, decide_eq_true_eq] at this
          exact ih e.on this (by omega)
      rw [hr] at hm
      cases hm
theorem wp_region_fb {id : Nat} {a0 : Act} {w0 : World} (G : (Nat → Bool) → World → Prop) (S : World → World → Prop) (R : List (Value → World → Prop))
    (hm : P.follows .mixedOrders = true) (hd : dstsOk ops a0.tmps.size = true) (haf : afterOkB ops = true) (hst : Stable S R) (hg : G (fun _ => false) w0.drew)
    (hops : AllOps (OpFl P ops a0 G S R) 0 ops.toList)
    (he : ∀ (a : Act) (w : World) (fl : Nat → Bool), (∀ j, j < ops.size → fl j = true) → G fl w → a.tmps.size = a0.tmps.size → a.defers = a0.defers → (∀ t, outer ops t = true → a.tmps.getD t undef = a0.tmps.getD t undef) →
      (∀ j t, dstOf ops j = some t → R.getD j (fun _ _ => True) (a.tmps.getD t undef) w) → Q .normal a w) :
    (Code.region id ops true).wp P Q a0 w0 := wp_region_fc G S R hm hd (fun l hl hr => all_listedB haf l hl hr) hst hg hops he
end
end Go.Proofs.Ytfokgalgdlajlaa
