/- A region whose order is drawn: what an operation has left holds on whatever comes up behind it. -/
import Derived.Test.YtfokgalgdlajlaaUk
namespace Go.Proofs.Ytfokgalgdlajlaa
section
variable {P : Program} {ops : Array Oper} {Q : Exit → Act → World → Prop}
theorem KeptIn.next2 {a0 : Act} {G : World → Prop} {R : List (Value → World → Prop)} {l : Array Bool} {a : Act} {w w' : World} {i : Nat} {o : Oper} {v : Value}
    (hd : dstsOk ops a0.tmps.size = true) (ho : ops[i]? = some o) (haf : ∀ e ∈ o.after, Region.binds .any e = true → l.getD e.on false = true) (h : KeptIn ops a0 G R l a w) (hg : G w') (hS : ∀ j, l.getD j false = true → ∀ u, R.getD j (fun _ _ => True) u w → R.getD j (fun _ _ => True) u w') (hr : R.getD i (fun _ _ => True) v w') :
    KeptIn ops a0 G R (l.setIfInBounds i true) (a.put o.dst v) w' := by
  unfold dstsOk at hd
  simp only [Bool.and_eq_true, decide_eq_true_eq, List.all_eq_true] at hd
  obtain ⟨hn, hlt⟩ := hd
  have hi : i < l.size := by rw [h.sz]; exact (Array.getElem?_eq_some_iff.1 ho).1
  have hlist : ∀ j, (l.setIfInBounds i true).getD j false = true ↔ j = i ∨ l.getD j false = true := by
    intro j
    by_cases e : j = i
    · subst e
      simp only [Array.getD_eq_getD_getElem?, Array.getElem?_setIfInBounds_self_of_lt hi]
      simp
    · simp only [Array.getD_eq_getD_getElem?, Array.getElem?_setIfInBounds_ne (fun q => e q.symm)]
      simp [e]
  refine ⟨hg, ?_, by rw [Array.size_setIfInBounds]; exact h.sz, put_size.trans h.size, put_defers'.trans h.defers, ?_, ?_⟩
  · intro j oj hj hl e he hb
    refine (hlist _).2 (.inr ?_)
    rcases (hlist j).1 hl with q | q
    · subst q
      rw [ho] at hj
      cases hj
      exact haf e he hb
    · exact h.dn j oj hj q e he hb
  · intro t ht
    rw [put_other (ht i o ho ((hlist i).2 (.inl rfl)))]
    exact h.out t fun j oj hj hl => ht j oj hj ((hlist j).2 (.inr hl))
  · intro j oj t hj hl hdj
    by_cases e : j = i
    · subst e
      rw [ho] at hj
      cases hj
      rw [hdj, put_self]
      · exact hr
      · rw [h.size]
        exact hlt t (List.mem_filterMap.2 ⟨o, List.mem_of_getElem? (by rw [Array.getElem?_toList]; exact ho), hdj⟩)
    · have hl' := ((hlist j).1 hl).resolve_left e
      rw [put_other]
      · exact hS j hl' _ (h.is j oj t hj hl' hdj)
      · intro q
        exact e (nodup_filterMap hn (by rw [Array.getElem?_toList]; exact hj) (by rw [Array.getElem?_toList]; exact ho) hdj q)
def OpFs (P : Program) (ops : Array Oper) (a0 : Act) (G : (Nat → Bool) → World → Prop) (R : List (Value → World → Prop)) (i : Nat) (o : Oper) : Prop :=
  ∀ ρ w fl, G fl w → fl i = false → Led ops fl → (∀ j, depOn o j = true → fl j = true) → (∀ t, outer ops t = true → ρ (.tmp t) = a0.eval (.tmp t)) → (∀ x, ρ (.const x) = x) → (∀ f, ρ (.func f) = .func (.func f) #[] #[]) →
    (∀ j t, depOn o j = true → dstOf ops j = some t → R.getD j (fun _ _ => True) (ρ (.tmp t)) w) →
    plainOp o ∧ Runs P o ρ w fun v w' => G (upd fl i) w' ∧ (∀ j, fl j = true → ∀ u, R.getD j (fun _ _ => True) u w → R.getD j (fun _ _ => True) u w') ∧ R.getD i (fun _ _ => True) v w'
theorem wp_region_fs {id : Nat} {a0 : Act} {w0 : World} (G : (Nat → Bool) → World → Prop) (R : List (Value → World → Prop))
    (hm : P.follows .mixedOrders = true) (hd : dstsOk ops a0.tmps.size = true) (haf : afterOkB ops = true) (hg : G (fun _ => false) w0.drew)
    (hops : AllOps (OpFs P ops a0 G R) 0 ops.toList)
    (he : ∀ (a : Act) (w : World) (fl : Nat → Bool), (∀ j, j < ops.size → fl j = true) → G fl w → a.tmps.size = a0.tmps.size → a.defers = a0.defers → (∀ t, outer ops t = true → a.tmps.getD t undef = a0.tmps.getD t undef) →
      (∀ j t, dstOf ops j = some t → R.getD j (fun _ _ => True) (a.tmps.getD t undef) w) → Q .normal a w) :
    (Code.region id ops true).wp P Q a0 w0 := by
  refine wp_region_any hm (wpAny_kept (fun l a w => G (fun j => l.getD j false) w ∧ KeptIn ops a0 (fun _ => True) R l a w) ?_ ?_ _ _ _ _ (left_replicate _) ?_)
  · intro l a w i ⟨hG, hk⟩ hi
    obtain ⟨hl, o, ho, hall⟩ := mem_ready.1 hi
    have hok : OpFs P ops a0 G R i o := by
      have := hops.get (k := i) (o := o) (by rw [Array.getElem?_toList]; exact ho)
      rwa [Nat.zero_add] at this
    have hun := unlisted hk.sz ho hl
    have hil : i < l.size := by rw [hk.sz]; exact (Array.getElem?_eq_some_iff.1 ho).1
    have hrun := hok a.eval w (fun j => l.getD j false) hG hun (fun k ok j hok hdep hfl => by
      obtain ⟨e, he, rfl, hb⟩ := depOn_some hdep
      exact hk.dn k ok hok hfl e he hb) (fun j hdep => by
      obtain ⟨e, he, rfl, hb⟩ := depOn_some hdep
      exact hall e he hb) (fun t ht => by
      rw [eval_tmp, eval_tmp]
      exact hk.out t fun j oj hj _ q => outer_not ht hj q) (fun _ => rfl) (fun _ => rfl) (fun j t hj hdj => by
      obtain ⟨e, he, rfl, hb⟩ := depOn_some hj
      obtain ⟨oj, hoj, hdj⟩ := dstOf_some hdj
      rw [eval_tmp]
      exact hk.is _ oj t hoj (hall e he hb) hdj)
    have hK : ∀ v w', G (upd (fun j => l.getD j false) i) w' ∧ (∀ j, (fun j => l.getD j false) j = true → ∀ u, R.getD j (fun _ _ => True) u w → R.getD j (fun _ _ => True) u w') ∧ R.getD i (fun _ _ => True) v w' → G (fun j => (l.setIfInBounds i true).getD j false) w' ∧ KeptIn ops a0 (fun _ => True) R (l.setIfInBounds i true) (a.put o.dst v) w' := fun v w' ⟨h1, h2, h3⟩ => by
      rw [upd_is hil]
      exact ⟨h1, hk.next2 hd ho hall trivial h2 h3⟩
    unfold wpOp
    simp only [ho]
    have go : (Runs P o a.eval w fun v w' => G (upd (fun j => l.getD j false) i) w' ∧ (∀ j, (fun j => l.getD j false) j = true → ∀ u, R.getD j (fun _ _ => True) u w → R.getD j (fun _ _ => True) u w') ∧ R.getD i (fun _ _ => True) v w') → o.wp P a w (fun a' w' => G (fun j => (l.setIfInBounds i true).getD j false) w' ∧ KeptIn ops a0 (fun _ => True) R (l.setIfInBounds i true) a' w') Q := fun hrun => by
      unfold Oper.wp
      rcases hrun with ⟨v, w', hv, h⟩ | ⟨w', hv, h⟩ | ⟨f, args, w1, hv, hc⟩
      · rw [hv]
        exact hK _ _ h
      · rw [hv]
        exact hK _ _ h
      · rw [hv]
        refine hc.mono ?_
        rintro e w' ⟨v, rfl, h⟩
        exact hK _ _ h
    obtain ⟨hgd, hrun⟩ := hrun
    rw [if_pos (wanted_none hgd _)]
    exact .inl (go hrun)
  · intro l a w ⟨hG, hk⟩ hr
    have hall := all_listedB haf l hk.sz hr
    refine he a w _ hall hG hk.size hk.defers (fun t ht => hk.out t fun j oj hj _ q => outer_not ht hj q) (fun j t hdj => ?_)
    obtain ⟨oj, hj, hdj⟩ := dstOf_some hdj
    exact hk.is j oj t hj (hall j (Array.getElem?_eq_some_iff.1 hj).1) hdj
  · have hz : (fun m => (Array.replicate ops.size false).getD m false) = fun _ => false := by
      funext m
      cases hc : (Array.replicate ops.size false).getD m false with
      | false => rfl
      | true => exact absurd hc (none_listed _ _)
    refine ⟨?_, ⟨trivial, fun j _ _ hl => absurd hl (none_listed _ j), by simp, rfl, rfl, fun _ _ => rfl, fun j o t hj hl _ => absurd hl (none_listed _ j)⟩⟩
    rw [hz]
    exact hg
end
end Go.Proofs.Ytfokgalgdlajlaa
