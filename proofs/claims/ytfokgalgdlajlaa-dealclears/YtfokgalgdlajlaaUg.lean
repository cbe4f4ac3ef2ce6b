/- A region whose order is drawn, where what holds may speak of the slots too. -/
import Derived.Test.YtfokgalgdlajlaaUk
namespace Go.Proofs.Ytfokgalgdlajlaa
section
variable {P : Program} {ops : Array Oper} {Q : Exit → Act → World → Prop}
def OpGs (P : Program) (ops : Array Oper) (a0 : Act) (G : (Nat → Bool) → (Nat → Value) → World → Prop) (S : World → World → Prop) (R : List (Value → World → Prop)) (i : Nat) (o : Oper) : Prop :=
  ∀ ρ w fl, G fl (fun t => ρ (.tmp t)) w → fl i = false → Led ops fl → (∀ j, depOn o j = true → fl j = true) → (∀ t, outer ops t = true → ρ (.tmp t) = a0.eval (.tmp t)) → (∀ x, ρ (.const x) = x) → (∀ f, ρ (.func f) = .func (.func f) #[] #[]) →
    (∀ j t, depOn o j = true → dstOf ops j = some t → R.getD j (fun _ _ => True) (ρ (.tmp t)) w) →
    (plainOp o ∧ Runs P o ρ w fun v w' => (∀ r', (∀ t, o.dst ≠ some t → r' t = ρ (.tmp t)) → (∀ t, o.dst = some t → r' t = v) → G (upd fl i) r' w') ∧ S w w' ∧ R.getD i (fun _ _ => True) v w') ∨
    (∃ j t c, onlyIf o j c ∧ dstOf ops j = some t ∧ ρ (.tmp t) = .bool c ∧ Runs P o ρ w fun v w' => (∀ r', (∀ t, o.dst ≠ some t → r' t = ρ (.tmp t)) → (∀ t, o.dst = some t → r' t = v) → G (upd fl i) r' w') ∧ S w w' ∧ R.getD i (fun _ _ => True) v w') ∨
    (∃ j t c, onlyIf o j c ∧ dstOf ops j = some t ∧ ρ (.tmp t) ≠ .bool c ∧ (∀ r', (∀ t, o.dst ≠ some t → r' t = ρ (.tmp t)) → (∀ t, o.dst = some t → r' t = undef) → G (upd fl i) r' w) ∧ S w w ∧ R.getD i (fun _ _ => True) undef w)
/-- **Whatever order is drawn**: each operation has left what it leaves. -/
theorem wp_region_gs {id : Nat} {a0 : Act} {w0 : World} (G : (Nat → Bool) → (Nat → Value) → World → Prop) (S : World → World → Prop) (R : List (Value → World → Prop))
    (hm : P.follows .mixedOrders = true) (hd : dstsOk ops a0.tmps.size = true) (haf : afterOkB ops = true) (hst : Stable S R) (hg : G (fun _ => false) (fun t => a0.tmps.getD t undef) w0.drew)
    (hops : AllOps (OpGs P ops a0 G S R) 0 ops.toList)
    (he : ∀ (a : Act) (w : World) (fl : Nat → Bool), (∀ j, j < ops.size → fl j = true) → G fl (fun t => a.tmps.getD t undef) w → a.tmps.size = a0.tmps.size → a.defers = a0.defers → (∀ t, outer ops t = true → a.tmps.getD t undef = a0.tmps.getD t undef) →
      (∀ j t, dstOf ops j = some t → R.getD j (fun _ _ => True) (a.tmps.getD t undef) w) → Q .normal a w) :
    (Code.region id ops true).wp P Q a0 w0 := by
  refine wp_region_any hm (wpAny_kept (fun l a w => G (fun j => l.getD j false) (fun t => a.tmps.getD t undef) w ∧ KeptIn ops a0 (fun _ => True) R l a w) ?_ ?_ _ _ _ _ (left_replicate _) ?_)
  · intro l a w i ⟨hG, hk⟩ hi
    obtain ⟨hl, o, ho, hall⟩ := mem_ready.1 hi
    have hok : OpGs P ops a0 G S R i o := by
      have := hops.get (k := i) (o := o) (by rw [Array.getElem?_toList]; exact ho)
      rwa [Nat.zero_add] at this
    have hun := unlisted hk.sz ho hl
    have hil : i < l.size := by rw [hk.sz]; exact (Array.getElem?_eq_some_iff.1 ho).1
    have hrun := hok a.eval w (fun j => l.getD j false) (by simpa only [eval_tmp] using hG) hun (fun k ok j hok hdep hfl => by
      obtain ⟨e, he, rfl, hb⟩ := depOn_some hdep
      exact hk.dn k ok hok hfl e he hb) (fun j hdep => by
      obtain ⟨e, he, rfl, hb⟩ := depOn_some hdep
      exact hall e he hb) (fun t ht => by
      rw [eval_tmp, eval_tmp]
      exact hk.out t fun j oj hj _ q => outer_not ht hj q) (fun _ => rfl) (fun _ => rfl) (fun j t hj hdj => by
      obtain ⟨e, he, rfl, hb⟩ := depOn_some hj
      obtain ⟨oj, hoj, hdj⟩ := dstOf_some hdj
      rw [eval_tmp]
      exact hk.is _ oj t hoj (hall e he hb) hdj)
    have hK : ∀ v w', (∀ r', (∀ t, o.dst ≠ some t → r' t = a.eval (.tmp t)) → (∀ t, o.dst = some t → r' t = v) → G (upd (fun j => l.getD j false) i) r' w') ∧ S w w' ∧ R.getD i (fun _ _ => True) v w' → G (fun j => (l.setIfInBounds i true).getD j false) (fun t => (a.put o.dst v).tmps.getD t undef) w' ∧ KeptIn ops a0 (fun _ => True) R (l.setIfInBounds i true) (a.put o.dst v) w' := fun v w' ⟨h1, h2, h3⟩ => by
      rw [upd_is hil]
      refine ⟨h1 _ (fun t ht => by rw [eval_tmp]; exact put_other ht) (fun t ht => ?_), hk.next hd hst ho hall trivial h2 h3⟩
      have hd' := hd
      unfold dstsOk at hd'
      simp only [Bool.and_eq_true, decide_eq_true_eq, List.all_eq_true] at hd'
      simp only [ht]
      exact put_self (by
        rw [hk.size]
        exact hd'.2 t (List.mem_filterMap.2 ⟨o, List.mem_of_getElem? (by rw [Array.getElem?_toList]; exact ho), ht⟩))
    unfold wpOp
    simp only [ho]
    have go : (Runs P o a.eval w fun v w' => (∀ r', (∀ t, o.dst ≠ some t → r' t = a.eval (.tmp t)) → (∀ t, o.dst = some t → r' t = v) → G (upd (fun j => l.getD j false) i) r' w') ∧ S w w' ∧ R.getD i (fun _ _ => True) v w') → o.wp P a w (fun a' w' => G (fun j => (l.setIfInBounds i true).getD j false) (fun t => a'.tmps.getD t undef) w' ∧ KeptIn ops a0 (fun _ => True) R (l.setIfInBounds i true) a' w') Q := fun hrun => by
      unfold Oper.wp
      rcases hrun with ⟨v, w', hv, h⟩ | ⟨w', hv, h⟩ | ⟨f, args, w1, hv, hc⟩
      · rw [hv]
        exact hK _ _ h
      · rw [hv]
        exact hK _ _ h
      · rw [hv]
        refine hc.mono ?_
        rintro e w' ⟨v, rfl, h⟩
        exact hK _ _ h
    rcases hrun with ⟨hgd, hrun⟩ | ⟨j, t, c, hgd, hdj, hv, hrun⟩ | ⟨j, t, c, hgd, hdj, hv, h⟩
    · rw [if_pos (wanted_none hgd _)]
      exact .inl (go hrun)
    · rw [if_pos (by rw [hgd]; simp only [yield_is hdj hv, beq_self_eq_true])]
      exact .inl (go hrun)
    · rw [if_neg (by rw [hgd]; simp only [beq_iff_eq]; exact yield_isnt hdj hv)]
      exact hK _ _ h
  · intro l a w ⟨hG, hk⟩ hr
    have hall := all_listedB haf l hk.sz hr
    refine he a w _ hall hG hk.size hk.defers (fun t ht => hk.out t fun j oj hj _ q => outer_not ht hj q) (fun j t hdj => ?_)
    obtain ⟨oj, hj, hdj⟩ := dstOf_some hdj
    exact hk.is j oj t hj (hall j (Array.getElem?_eq_some_iff.1 hj).1) hdj
  · have hz : (fun m => (Array.replicate ops.size false).getD m false) = fun _ => false := by
      funext m
      cases hc : (Array.replicate ops.size false).getD m false with
      | false => rfl
      | true => exact absurd hc (none_listed _ _)
    refine ⟨?_, ⟨trivial, fun j _ _ hl => absurd hl (none_listed _ j), by simp, rfl, rfl, fun _ _ => rfl, fun j o t hj hl _ => absurd hl (none_listed _ j)⟩⟩
    rw [hz]
    exact hg
end
end Go.Proofs.Ytfokgalgdlajlaa
