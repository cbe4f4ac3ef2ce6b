/- A drawn region with conditions that are decided. -/
import Derived.Test.YtfokgalgdlajlaaVY
namespace Go.Proofs.Ytfokgalgdlajlaa
section
variable {P : Program} {ops : Array Oper} {Q : Exit → Act → World → Prop}

/-- It is carried out where operation j yields c. -/
def onlyIf (o : Oper) (j : Nat) (c : Bool) : Prop := ∀ y, Region.wanted o y = (y j == some c)
/-- What is asked of an operation: it is carried out, and leaves what it leaves; or its condition is against it. -/
def OpGd (P : Program) (ops : Array Oper) (a0 : Act) (G : World → Prop) (S : World → World → Prop) (R : List (Value → World → Prop)) (i : Nat) (o : Oper) : Prop :=
  ∀ ρ w, G w → (∀ t, outer ops t = true → ρ (.tmp t) = a0.eval (.tmp t)) → (∀ x, ρ (.const x) = x) → (∀ f, ρ (.func f) = .func (.func f) #[] #[]) →
    (∀ j t, depOn o j = true → dstOf ops j = some t → R.getD j (fun _ _ => True) (ρ (.tmp t)) w) →
    (plainOp o ∧ Runs P o ρ w fun v w' => G w' ∧ S w w' ∧ R.getD i (fun _ _ => True) v w') ∨
    (∃ j t c, onlyIf o j c ∧ dstOf ops j = some t ∧ ρ (.tmp t) = .bool c ∧ Runs P o ρ w fun v w' => G w' ∧ S w w' ∧ R.getD i (fun _ _ => True) v w') ∨
    (∃ j t c, onlyIf o j c ∧ dstOf ops j = some t ∧ ρ (.tmp t) = .bool (!c) ∧ G w ∧ S w w ∧ R.getD i (fun _ _ => True) undef w)

theorem yield_is {a : Act} {j t : Nat} {c : Bool} (h : dstOf ops j = some t) (e : a.eval (.tmp t) = .bool c) : yielded ops a.tmps j = some c := by
  unfold dstOf at h
  unfold yielded
  rw [h]
  rw [eval_tmp] at e
  cases hx : a.tmps[t]? with
  | none =>
    rw [Array.getD_eq_getD_getElem?, hx] at e
    cases e
  | some v =>
    rw [Array.getD_eq_getD_getElem?, hx] at e
    simp only [Option.getD_some] at e
    simp only [Option.bind_some, hx, e]

theorem gd_step {a0 : Act} {G : World → Prop} {S : World → World → Prop} {R : List (Value → World → Prop)} {l : Array Bool} {a : Act} {w : World} {i : Nat} {o : Oper} {K : Act → World → Prop}
    (hd : dstsOk ops a0.tmps.size = true) (hst : Stable S R) (ho : ops[i]? = some o) (hok : OpGd P ops a0 G S R i o) (hk : KeptIn ops a0 G R l a w) (hall : ∀ e ∈ o.after, Region.binds .any e = true → l.getD e.on false = true)
    (hK : ∀ a' w', KeptIn ops a0 G R (l.setIfInBounds i true) a' w' → K a' w') : wpOp P ops Q i K a w := by
  have hrun := hok a.eval w hk.good (fun t ht => by
    rw [eval_tmp, eval_tmp]
    exact hk.out t fun j oj hj _ q => outer_not ht hj q) (fun _ => rfl) (fun _ => rfl) (fun j t hj hdj => by
    obtain ⟨e, he, rfl, hb⟩ := depOn_some hj
    obtain ⟨oj, hoj, hdj⟩ := dstOf_some hdj
    rw [eval_tmp]
    exact hk.is _ oj t hoj (hall e he hb) hdj)
  unfold wpOp
  simp only [ho]
  have go : (Runs P o a.eval w fun v w' => G w' ∧ S w w' ∧ R.getD i (fun _ _ => True) v w') → o.wp P a w K Q := fun hrun => by
    unfold Oper.wp
    rcases hrun with ⟨v, w', hv, h1, h2, h3⟩ | ⟨w', hv, h1, h2, h3⟩ | ⟨f, args, w1, hv, hc⟩
    · rw [hv]
      exact hK _ _ (hk.next hd hst ho hall h1 h2 h3)
    · rw [hv]
      exact hK _ _ (hk.next hd hst ho hall h1 h2 h3)
    · rw [hv]
      refine hc.mono ?_
      rintro e w' ⟨v, rfl, h1, h2, h3⟩
      exact hK _ _ (hk.next hd hst ho hall h1 h2 h3)
  rcases hrun with ⟨hg, hrun⟩ | ⟨j, t, c, hg, hdj, hv, hrun⟩ | ⟨j, t, c, hg, hdj, hv, h1, h2, h3⟩
  · rw [if_pos (wanted_none hg _)]
    exact .inl (go hrun)
  · rw [if_pos (by rw [hg]; simp only [yield_is hdj hv, beq_self_eq_true])]
    exact .inl (go hrun)
  · rw [if_neg (by rw [hg]; simp only [yield_is hdj hv]; cases c <;> simp)]
    exact hK _ _ (hk.next hd hst ho hall h1 h2 h3)

/-- **Whatever order is drawn**: each operation has left what it leaves. -/
theorem wp_region_gd {id : Nat} {a0 : Act} {w0 : World} (G : World → Prop) (S : World → World → Prop) (R : List (Value → World → Prop))
    (hm : P.follows .mixedOrders = true) (hd : dstsOk ops a0.tmps.size = true) (haf : afterOk ops = true) (hst : Stable S R) (hg : G w0.drew)
    (hops : AllOps (OpGd P ops a0 G S R) 0 ops.toList)
    (he : ∀ (a : Act) (w : World), G w → a.tmps.size = a0.tmps.size → a.defers = a0.defers → (∀ t, outer ops t = true → a.tmps.getD t undef = a0.tmps.getD t undef) →
      (∀ j t, dstOf ops j = some t → R.getD j (fun _ _ => True) (a.tmps.getD t undef) w) → Q .normal a w) :
    (Code.region id ops true).wp P Q a0 w0 := by
  refine wp_region_any hm (wpAny_kept (KeptIn ops a0 G R) ?_ ?_ _ _ _ _ (left_replicate _) ?_)
  · intro l a w i hk hi
    obtain ⟨hl, o, ho, hall⟩ := mem_ready.1 hi
    refine gd_step hd hst ho ?_ hk hall (fun _ _ h => h)
    have := hops.get (k := i) (o := o) (by rw [Array.getElem?_toList]; exact ho)
    rwa [Nat.zero_add] at this
  · intro l a w hk hr
    have hall := all_listed haf l hk.sz hr
    refine he a w hk.good hk.size hk.defers (fun t ht => hk.out t fun j oj hj _ q => outer_not ht hj q) (fun j t hdj => ?_)
    obtain ⟨oj, hj, hdj⟩ := dstOf_some hdj
    exact hk.is j oj t hj (hall j (Array.getElem?_eq_some_iff.1 hj).1) hdj
  · exact ⟨hg, fun j _ _ hl => absurd hl (none_listed _ j), by simp, rfl, rfl, fun _ _ => rfl, fun j o t hj hl _ => absurd hl (none_listed _ j)⟩
end
end Go.Proofs.Ytfokgalgdlajlaa
