/- A region whose order is drawn: one operation among the others may write what was told of the memory. -/
import Derived.Test.YtfokgalgdlajlaaVZ
namespace Go.Proofs.Ytfokgalgdlajlaa

section
variable {P : Program} {ops : Array Oper} {Q : Exit → Act → World → Prop}

/-- What is asked of an operation ahead of the last one. -/
def OpOn (P : Program) (ops : Array Oper) (a0 : Act) (m : Nat) (G : Bool → World → Prop) (S Sm : World → World → Prop) (R : List (Value → World → Prop)) (i : Nat) (o : Oper) : Prop :=
  plainOp o ∧ (i ≠ m → ∀ ρ w d, G d w → (∀ t, outer ops.pop t = true → ρ (.tmp t) = a0.eval (.tmp t)) → (∀ x, ρ (.const x) = x) → (∀ f, ρ (.func f) = .func (.func f) #[] #[]) →
    (∀ j t, depOn o j = true → dstOf ops j = some t → R.getD j (fun _ _ => True) (ρ (.tmp t)) w) →
    Runs P o ρ w fun v w' => G d w' ∧ S w w' ∧ R.getD i (fun _ _ => True) v w') ∧
  (i = m → ∀ ρ w, G false w → (∀ t, outer ops.pop t = true → ρ (.tmp t) = a0.eval (.tmp t)) → (∀ x, ρ (.const x) = x) → (∀ f, ρ (.func f) = .func (.func f) #[] #[]) →
    (∀ j t, depOn o j = true → dstOf ops j = some t → R.getD j (fun _ _ => True) (ρ (.tmp t)) w) →
    Runs P o ρ w fun v w' => G true w' ∧ Sm w w' ∧ R.getD i (fun _ _ => True) v w')

theorem getD_setR (R : List (Value → World → Prop)) (m j : Nat) (h : j ≠ m) : (R.set m (fun _ _ => True)).getD j (fun _ _ => True) = R.getD j (fun _ _ => True) := by
  rw [List.getD_eq_getElem?_getD, List.getD_eq_getElem?_getD, List.getElem?_set_ne (fun e => h e.symm)]
theorem getD_setT (R : List (Value → World → Prop)) (m : Nat) (v : Value) (w : World) : (R.set m (fun _ _ => True)).getD m (fun _ _ => True) v w := by
  rw [List.getD_eq_getElem?_getD, List.getElem?_set_self']
  cases R[m]? <;> trivial
theorem KeptIn.once {a0 : Act} {Sm : World → World → Prop} {R : List (Value → World → Prop)} {l : Array Bool} {a : Act} {w w' : World} {m : Nat} {o : Oper} {v : Value}
    (hd : dstsOk ops a0.tmps.size = true) (hst : Stable Sm (R.set m (fun _ _ => True))) (ho : ops[m]? = some o) (haf : ∀ e ∈ o.after, Region.binds .any e = true → l.getD e.on false = true) (hun : l.getD m false = false) (h : KeptIn ops a0 (fun _ => True) R l a w) (hS : Sm w w') (hr : R.getD m (fun _ _ => True) v w') :
    KeptIn ops a0 (fun _ => True) R (l.setIfInBounds m true) (a.put o.dst v) w' := by
  have h0 : KeptIn ops a0 (fun _ => True) (R.set m (fun _ _ => True)) l a w := ⟨trivial, h.dn, h.sz, h.size, h.defers, h.out, fun j oj t hj hl hdj => by
    by_cases e : j = m
    · subst e
      rw [hun] at hl
      cases hl
    · rw [getD_setR R m j e]
      exact h.is j oj t hj hl hdj⟩
  have h1 := h0.next hd hst ho haf trivial hS (getD_setT R m v w')
  refine ⟨trivial, h1.dn, h1.sz, h1.size, h1.defers, h1.out, fun j oj t hj hl hdj => ?_⟩
  by_cases e : j = m
  · subst e
    rw [ho] at hj
    cases hj
    have hd2 := hd
    unfold dstsOk at hd2
    simp only [Bool.and_eq_true, decide_eq_true_eq, List.all_eq_true] at hd2
    rw [hdj, put_self]
    · exact hr
    · rw [h.size]
      exact hd2.2 t (List.mem_filterMap.2 ⟨o, List.mem_of_getElem? (by rw [Array.getElem?_toList]; exact ho), hdj⟩)
  · have := h1.is j oj t hj hl hdj
    rwa [getD_setR R m j e] at this

/-- **Whatever order is drawn**, the last one comes last, and one of the others, m, may write what is told of the memory till then. -/
theorem wp_region_once {id : Nat} {a0 : Act} {w0 : World} (m : Nat) (G : Bool → World → Prop) (S Sm : World → World → Prop) (R : List (Value → World → Prop)) (F : Value → World → Prop) {ol : Oper} (hol : ops[ops.size - 1]? = some ol)
    (hm : P.follows .mixedOrders = true) (hd : dstsOk ops a0.tmps.size = true) (haf : afterOk ops = true) (hla : lastOk ops = true) (hst : Stable S R) (hstm : Stable Sm (R.set m (fun _ _ => True))) (hg : G false w0.drew) (hml : m < ops.size - 1)
    (hops : AllOps (OpOn P ops a0 m G S Sm R) 0 (ops.toList.take (ops.size - 1)))
    (hlast : LastEv P ops a0 (G true) R F (ops.size - 1) ol)
    (he : ∀ (a : Act) (w wb : World) (v : Value), F v w → a.tmps.size = a0.tmps.size → a.defers = a0.defers → (∀ t, outer ops t = true → a.tmps.getD t undef = a0.tmps.getD t undef) → (∀ t, ol.dst = some t → a.tmps.getD t undef = v) →
      (∀ j t, j < ops.size - 1 → dstOf ops j = some t → R.getD j (fun _ _ => True) (a.tmps.getD t undef) wb) → Q .normal a w) :
    (Code.region id ops true).wp P Q a0 w0 := by
  have hmlt : ops.size - 1 < ops.size := (Array.getElem?_eq_some_iff.1 hol).1
  have hd2 := hd
  unfold dstsOk at hd2
  simp only [Bool.and_eq_true, decide_eq_true_eq, List.all_eq_true] at hd2
  refine wp_region_any hm (wpAny_kept (fun l a w => (l.getD (ops.size - 1) false = false ∧ G (l.getD m false) w ∧ KeptIn ops a0 (fun _ => True) R l a w) ∨ ((∀ j, j < ops.size → l.getD j true = true) ∧ Q .normal a w)) ?_ ?_ _ _ _ _ (left_replicate _) ?_)
  · intro l a w i hk hi
    obtain ⟨hl, o, ho, hall⟩ := mem_ready.1 hi
    have hil : i < ops.size := (Array.getElem?_eq_some_iff.1 ho).1
    rcases hk with ⟨hnl, hgd0, hk⟩ | ⟨hk, _⟩
    · by_cases him : i = ops.size - 1
      · subst him
        rw [ho] at hol
        cases hol
        obtain ⟨hgd, hok⟩ := hlast
        have hah := all_ahead hla hk.dn ho hall
        have hmd : l.getD m false = true := hah _ m rfl (by omega)
        rw [hmd] at hgd0
        have hrun := hok a.eval w hgd0 (fun t ht => by
          rw [eval_tmp, eval_tmp]
          exact early hk hnl ht) (fun _ => rfl) (fun _ => rfl) (fun j t hj hdj => by
          obtain ⟨oj, hoj, hdj⟩ := dstOf_some hdj
          rw [eval_tmp]
          exact hk.is _ oj t hoj (hah _ j rfl hj) hdj)
        have hfin : ∀ v w', F v w' → (∀ j, j < ops.size → (l.setIfInBounds (ops.size - 1) true).getD j true = true) ∧ Q .normal (a.put ol.dst v) w' := by
          intro v w' hF
          refine ⟨fun j hj => ?_, he _ w' w v hF (put_size.trans hk.size) (put_defers'.trans hk.defers) (fun t ht => ?_) (fun t ht => ?_) (fun j t hj hdj => ?_)⟩
          · by_cases e : j = ops.size - 1
            · subst e
              rw [Array.getD_eq_getD_getElem?, Array.getElem?_setIfInBounds_self_of_lt (by rw [hk.sz]; exact hmlt)]
              rfl
            · have := hah _ j rfl (by omega)
              have hjl : j < l.size := by rw [hk.sz]; exact hj
              rw [Array.getD_eq_getD_getElem?, Array.getElem?_setIfInBounds_ne (fun q => e q.symm), Array.getElem?_eq_getElem hjl]
              rw [Array.getD_eq_getD_getElem?, Array.getElem?_eq_getElem hjl] at this
              simpa using this
          · rw [put_other (outer_not ht ho)]
            exact hk.out t fun j oj hj _ q => outer_not ht hj q
          · rw [ht, put_self]
            rw [hk.size]
            exact hd2.2 t (List.mem_filterMap.2 ⟨ol, List.mem_of_getElem? (by rw [Array.getElem?_toList]; exact ho), ht⟩)
          · obtain ⟨oj, hoj, hdj⟩ := dstOf_some hdj
            rw [put_other]
            · exact hk.is _ oj t hoj (hah _ j rfl hj) hdj
            · intro q
              have := nodup_filterMap hd2.1 (by rw [Array.getElem?_toList]; exact hoj) (by rw [Array.getElem?_toList]; exact ho) hdj q
              omega
        unfold wpOp
        simp only [ho]
        rw [if_pos (wanted_none hgd _)]
        refine .inl ?_
        unfold Oper.wp
        rcases hrun with ⟨v, w', hv, hF⟩ | ⟨w', hv, hF⟩ | ⟨f, args, w1, hv, hc⟩
        · rw [hv]
          exact .inr (hfin v w' hF)
        · rw [hv]
          exact .inr (hfin undef w' hF)
        · rw [hv]
          refine hc.mono ?_
          rintro e w' ⟨v, rfl, hF⟩
          exact .inr (hfin v w' hF)
      · have hok : OpOn P ops a0 m G S Sm R i o := by
          have := hops.get (k := i) (o := o) (by rw [List.getElem?_take_of_lt (by omega), Array.getElem?_toList]; exact ho)
          rwa [Nat.zero_add] at this
        obtain ⟨hgd, hok⟩ := hok
        have hun := unlisted hk.sz ho hl
        have hil2 : i < l.size := by rw [hk.sz]; exact hil
        have hflag : (l.setIfInBounds i true).getD m false = (l.getD m false || decide (i = m)) := by
          by_cases e : i = m
          · subst e
            rw [Array.getD_eq_getD_getElem?, Array.getElem?_setIfInBounds_self_of_lt hil2]
            simp
          · rw [Array.getD_eq_getD_getElem?, Array.getElem?_setIfInBounds_ne e, ← Array.getD_eq_getD_getElem?]
            simp [e]
        have hrun : Runs P o a.eval w fun v w' => G ((l.setIfInBounds i true).getD m false) w' ∧ (if i = m then Sm w w' else S w w') ∧ R.getD i (fun _ _ => True) v w' := by
          rw [hflag]
          by_cases e : i = m
          · rw [decide_eq_true e, Bool.or_true]
            simp only [if_pos e]
            have hg0 : G false w := by rw [← hun, e]; exact hgd0
            exact hok.2 e a.eval w hg0 (fun t ht => by
              rw [eval_tmp, eval_tmp]
              exact early hk hnl ht) (fun _ => rfl) (fun _ => rfl) (fun j t hj hdj => by
              obtain ⟨e, he, rfl, hb⟩ := depOn_some hj
              obtain ⟨oj, hoj, hdj⟩ := dstOf_some hdj
              rw [eval_tmp]
              exact hk.is _ oj t hoj (hall e he hb) hdj)
          · rw [decide_eq_false e, Bool.or_false]
            simp only [if_neg e]
            exact hok.1 e a.eval w _ hgd0 (fun t ht => by
              rw [eval_tmp, eval_tmp]
              exact early hk hnl ht) (fun _ => rfl) (fun _ => rfl) (fun j t hj hdj => by
              obtain ⟨e, he, rfl, hb⟩ := depOn_some hj
              obtain ⟨oj, hoj, hdj⟩ := dstOf_some hdj
              rw [eval_tmp]
              exact hk.is _ oj t hoj (hall e he hb) hdj)
        have hnext : ∀ v w', (if i = m then Sm w w' else S w w') → R.getD i (fun _ _ => True) v w' → KeptIn ops a0 (fun _ => True) R (l.setIfInBounds i true) (a.put o.dst v) w' := by
          intro v w' h2 h3
          by_cases e : i = m
          · rw [if_pos e] at h2
            subst e
            exact hk.once hd hstm ho hall hun h2 h3
          · rw [if_neg e] at h2
            exact hk.next hd hst ho hall trivial h2 h3
        have hnx : (l.setIfInBounds i true).getD (ops.size - 1) false = false := by
          rw [Array.getD_eq_getD_getElem?, Array.getElem?_setIfInBounds_ne him, ← Array.getD_eq_getD_getElem?]
          exact hnl
        unfold wpOp
        simp only [ho]
        rw [if_pos (wanted_none hgd _)]
        refine .inl ?_
        unfold Oper.wp
        rcases hrun with ⟨v, w', hv, h1, h2, h3⟩ | ⟨w', hv, h1, h2, h3⟩ | ⟨f, args, w1, hv, hc⟩
        · rw [hv]
          exact .inl ⟨hnx, h1, hnext _ _ h2 h3⟩
        · rw [hv]
          exact .inl ⟨hnx, h1, hnext _ _ h2 h3⟩
        · rw [hv]
          refine hc.mono ?_
          rintro e w' ⟨v, rfl, h1, h2, h3⟩
          exact .inl ⟨hnx, h1, hnext _ _ h2 h3⟩
    · rw [hk i hil] at hl
      cases hl
  · intro l a w hk hr
    rcases hk with ⟨hnl, _, hk⟩ | ⟨_, hq⟩
    · have := all_listed haf l hk.sz hr _ hmlt
      rw [hnl] at this
      cases this
    · exact hq
  · refine .inl ⟨?_, ?_, ⟨trivial, fun j _ _ hl => absurd hl (none_listed _ j), by simp, rfl, rfl, fun _ _ => rfl, fun j o t hj hl _ => absurd hl (none_listed _ j)⟩⟩
    · cases hc : (Array.replicate ops.size false).getD (ops.size - 1) false with
      | false => rfl
      | true => exact absurd hc (none_listed _ _)
    · have hz : (Array.replicate ops.size false).getD m false = false := by
        cases hc : (Array.replicate ops.size false).getD m false with
        | false => rfl
        | true => exact absurd hc (none_listed _ _)
      rw [hz]
      exact hg
end
end Go.Proofs.Ytfokgalgdlajlaa
