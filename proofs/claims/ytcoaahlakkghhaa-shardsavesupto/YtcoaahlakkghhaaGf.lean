/- A region whose order is drawn, with operations under conditions that are decided. -/
import Derived.Test.YtcoaahlakkghhaaGe
import Derived.Test.YtcoaahlakkghhaaGa
namespace Go.Proofs.Ytcoaahlakkghhaa
section
variable {P : Program} {ops : Array Oper} {Q : Exit → Act → World → Prop}

/-- It is carried out where operation j yields c. -/
def onlyIf (o : Oper) (j : Nat) (c : Bool) : Prop := ∀ y, Region.wanted o y = (y j == some c)
/-- What is asked of an operation: it is carried out, and leaves what it leaves; or its condition is against it. -/
def OpGd (P : Program) (ops : Array Oper) (a0 : Act) (G : World → Prop) (S : World → World → Prop) (R : List (Value → World → Prop)) (i : Nat) (o : Oper) : Prop :=
  ∀ ρ w, G w → (∀ t, outer ops t = true → ρ (.tmp t) = a0.eval (.tmp t)) → (∀ x, ρ (.const x) = x) → (∀ f, ρ (.func f) = .func (.func f) #[] #[]) →
    (∀ j t, depOn o j = true → dstOf ops j = some t → R.getD j (fun _ _ => True) (ρ (.tmp t)) w) →
    (plainOp o ∧ Runs P o ρ w fun v w' => G w' ∧ S w w' ∧ R.getD i (fun _ _ => True) v w') ∨
    (∃ j t c, onlyIf o j c ∧ dstOf ops j = some t ∧ ρ (.tmp t) = .bool c ∧ Runs P o ρ w fun v w' => G w' ∧ S w w' ∧ R.getD i (fun _ _ => True) v w') ∨
    (∃ j t c, onlyIf o j c ∧ dstOf ops j = some t ∧ ρ (.tmp t) = .bool (!c) ∧ G w ∧ S w w ∧ R.getD i (fun _ _ => True) undef w)

theorem yield_is {a : Act} {j t : Nat} {c : Bool} (h : dstOf ops j = some t) (e : a.eval (.tmp t) = .bool c) : yielded ops a.tmps j = some c := by
  unfold dstOf at h
  unfold yielded
  rw [h]
  rw [eval_tmp] at e
  cases hx : a.tmps[t]? with
  | none =>
    rw [Array.getD_eq_getD_getElem?, hx] at e
    cases e
  | some v =>
    rw [Array.getD_eq_getD_getElem?, hx] at e
    simp only [Option.getD_some] at e
    simp only [Option.bind_some, hx, e]

theorem gd_step {a0 : Act} {G : World → Prop} {S : World → World → Prop} {R : List (Value → World → Prop)} {l : Array Bool} {a : Act} {w : World} {i : Nat} {o : Oper} {K : Act → World → Prop}
    (hd : dstsOk ops a0.tmps.size = true) (hst : Stable S R) (ho : ops[i]? = some o) (hok : OpGd P ops a0 G S R i o) (hk : KeptIn ops a0 G R l a w) (hall : ∀ e ∈ o.after, Region.binds .any e = true → l.getD e.on false = true)
    (hK : ∀ a' w', KeptIn ops a0 G R (l.setIfInBounds i true) a' w' → K a' w') : wpOp P ops Q i K a w := by
  have hrun := hok a.eval w hk.good (fun t ht => by
    rw [eval_tmp, eval_tmp]
    exact hk.out t fun j oj hj _ q => outer_not ht hj q) (fun _ => rfl) (fun _ => rfl) (fun j t hj hdj => by
    obtain ⟨e, he, rfl, hb⟩ := depOn_some hj
    obtain ⟨oj, hoj, hdj⟩ := dstOf_some hdj
    rw [eval_tmp]
    exact hk.is _ oj t hoj (hall e he hb) hdj)
  unfold wpOp
  simp only [ho]
  have go : (Runs P o a.eval w fun v w' => G w' ∧ S w w' ∧ R.getD i (fun _ _ => True) v w') → o.wp P a w K Q := fun hrun => by
    unfold Oper.wp
    rcases hrun with ⟨v, w', hv, h1, h2, h3⟩ | ⟨w', hv, h1, h2, h3⟩ | ⟨f, args, w1, hv, hc⟩
    · rw [hv]
      exact hK _ _ (hk.next hd hst ho hall h1 h2 h3)
    · rw [hv]
      exact hK _ _ (hk.next hd hst ho hall h1 h2 h3)
    · rw [hv]
      refine hc.mono ?_
      rintro e w' ⟨v, rfl, h1, h2, h3⟩
      exact hK _ _ (hk.next hd hst ho hall h1 h2 h3)
  rcases hrun with ⟨hg, hrun⟩ | ⟨j, t, c, hg, hdj, hv, hrun⟩ | ⟨j, t, c, hg, hdj, hv, h1, h2, h3⟩
  · rw [if_pos (wanted_none hg _)]
    exact .inl (go hrun)
  · rw [if_pos (by rw [hg]; simp only [yield_is hdj hv, beq_self_eq_true])]
    exact .inl (go hrun)
  · rw [if_neg (by rw [hg]; simp only [yield_is hdj hv]; cases c <;> simp)]
    exact hK _ _ (hk.next hd hst ho hall h1 h2 h3)

/-- **Whatever order is drawn**: each operation has left what it leaves. -/
theorem wp_region_gd {id : Nat} {a0 : Act} {w0 : World} (G : World → Prop) (S : World → World → Prop) (R : List (Value → World → Prop))
    (hm : P.follows .mixedOrders = true) (hd : dstsOk ops a0.tmps.size = true) (haf : afterOk ops = true) (hst : Stable S R) (hg : G w0.drew)
    (hops : AllOps (OpGd P ops a0 G S R) 0 ops.toList)
    (he : ∀ (a : Act) (w : World), G w → a.tmps.size = a0.tmps.size → a.defers = a0.defers → (∀ t, outer ops t = true → a.tmps.getD t undef = a0.tmps.getD t undef) →
      (∀ j t, dstOf ops j = some t → R.getD j (fun _ _ => True) (a.tmps.getD t undef) w) → Q .normal a w) :
    (Code.region id ops true).wp P Q a0 w0 := by
  refine wp_region_any hm (wpAny_kept (KeptIn ops a0 G R) ?_ ?_ _ _ _ _ (left_replicate _) ?_)
  · intro l a w i hk hi
    obtain ⟨hl, o, ho, hall⟩ := mem_ready.1 hi
    refine gd_step hd hst ho ?_ hk hall (fun _ _ h => h)
    have := hops.get (k := i) (o := o) (by rw [Array.getElem?_toList]; exact ho)
    rwa [Nat.zero_add] at this
  · intro l a w hk hr
    have hall := all_listed haf l hk.sz hr
    refine he a w hk.good hk.size hk.defers (fun t ht => hk.out t fun j oj hj _ q => outer_not ht hj q) (fun j t hdj => ?_)
    obtain ⟨oj, hj, hdj⟩ := dstOf_some hdj
    exact hk.is j oj t hj (hall j (Array.getElem?_eq_some_iff.1 hj).1) hdj
  · exact ⟨hg, fun j _ _ hl => absurd hl (none_listed _ j), by simp, rfl, rfl, fun _ _ => rfl, fun j o t hj hl _ => absurd hl (none_listed _ j)⟩
end
section
variable {ρ : Operand → Value} {X : World} {d : Option Tmp} {ty : TypeId} {ps : String} {af : Array Edge} {g : Option (Nat × Bool)}
theorem op_f80_0 {x : Operand} {B o : Nat} (e : ρ x = .pointer (some ⟨B, o, none⟩)) : (execOp ρ ⟨d, .fieldAddr 80 x 0, ty, ps, af, g⟩).run Try.prog X = .ok (.value (.pointer (some ⟨B, o, none⟩))) X := by
  simp only [execOp, e]
  go_simp
theorem op_f80_1 {x : Operand} {B o : Nat} (e : ρ x = .pointer (some ⟨B, o, none⟩)) : (execOp ρ ⟨d, .fieldAddr 80 x 1, ty, ps, af, g⟩).run Try.prog X = .ok (.value (.pointer (some ⟨B, o + 1, none⟩))) X := by
  simp only [execOp, e]
  go_simp
theorem op_gtr3 {x y : Operand} {n m : Int} {b : Bool} (e : ρ x = .int .i64 n) (e2 : ρ y = .int .i64 m) (h : decide (m < n) = b) : (execOp ρ ⟨d, .binOp .gtr 3 x y 3, ty, ps, af, g⟩).run Try.prog X = .ok (.value (.bool b)) X := by
  simp only [execOp, e, e2]
  cases b with
  | true => have h' := of_decide_eq_true h; go_simp
  | false => have h' := of_decide_eq_false h; go_simp
theorem op_lss3 {x y : Operand} {n m : Int} {b : Bool} (e : ρ x = .int .i64 n) (e2 : ρ y = .int .i64 m) (h : decide (n < m) = b) : (execOp ρ ⟨d, .binOp .lss 3 x y 3, ty, ps, af, g⟩).run Try.prog X = .ok (.value (.bool b)) X := by
  simp only [execOp, e, e2]
  cases b with
  | true => have h' := of_decide_eq_true h; go_simp
  | false => have h' := of_decide_eq_false h; go_simp
theorem op_pick {x y z : Operand} {b : Bool} {v : Value} (e : ρ x = .bool b) (e2 : (if b then ρ y else ρ z) = v) : (execOp ρ ⟨d, .pick x y z, ty, ps, af, g⟩).run Try.prog X = .ok (.value v) X := by
  cases b with
  | true => simp only [execOp, e]; simp at e2; rw [e2]; go_simp
  | false => simp only [execOp, e]; simp at e2; rw [e2]; go_simp
theorem op_not {x : Operand} {b : Bool} (e : ρ x = .bool b) : (execOp ρ ⟨d, .unOp .not 4 x, ty, ps, af, g⟩).run Try.prog X = .ok (.value (.bool (!b))) X := by
  simp only [execOp, e]
  go_simp
theorem op_b57 {x y : Operand} {s t : ByteArray} (e : ρ x = .string s) (e2 : ρ y = .string t) : (execOp ρ ⟨d, .build 57 #[(0, x), (1, y)], ty, ps, af, g⟩).run Try.prog X = .ok (.value (.agg #[.string s, .string t])) X := by
  simp only [execOp]
  simp [e, e2]
  go_simp
theorem op_sub3 {x y : Operand} {n : Nat} (e : ρ x = .int .i64 ((n + 1 : Nat) : Int)) (e2 : ρ y = .int .i64 1) (h : ((n + 1 : Nat) : Int) ≤ 9223372036854775807) : (execOp ρ ⟨d, .binOp .sub 3 x y 3, ty, ps, af, g⟩).run Try.prog X = .ok (.value (.int .i64 (n : Int))) X := by
  simp only [execOp, e, e2]
  go_simp
  rw [IntKind.wrap_i64]
  omega
theorem op_i77 {x y : Operand} {B n m i : Nat} (e : ρ x = .slice (some ⟨B, 0, none⟩) n m) (e2 : ρ y = .int .i64 (i : Int)) (h : i < n) : (execOp ρ ⟨d, .indexAddr 77 x y, ty, ps, af, g⟩).run Try.prog X = .ok (.value (.pointer (some ⟨B, i * 3, none⟩))) X := by
  have k0 : (0 : Int) ≤ (i : Int) := by omega
  have k1 : (i : Int) < (n : Int) := by omega
  simp only [execOp, e, e2]
  go_simp
theorem op_geq9 {x y : Operand} {s t : ByteArray} {b : Bool} (e : ρ x = .string s) (e2 : ρ y = .string t) (h : decide (cb s t < 0) = b) : (execOp ρ ⟨d, .binOp .geq 9 x y 9, ty, ps, af, g⟩).run Try.prog X = .ok (.value (.bool (!b))) X := by
  have h' := less_eq s t
  rw [h] at h'
  simp only [execOp, e, e2]
  go_simp
theorem call48 {v u : Value} : Sem.run Try.prog (callFunc 48 #[v, u]) X = .ok (.enter 48 #[v, u]) X := by go_simp
end
/-! ### Two spans that meet -/
theorem filter_split {α : Type} {p q r : α → Bool} : ∀ {l : List α}, (∀ x ∈ l, r x = (p x || q x)) → (∀ x ∈ l, p x = true → q x = false) → (l.Pairwise fun x y => ¬ (q x = true ∧ p y = true)) → l.filter p ++ l.filter q = l.filter r
  | [], _, _, _ => rfl
  | x :: l, h1, h2, h3 => by
    obtain ⟨h4, h5⟩ := List.pairwise_cons.1 h3
    have ih := filter_split (fun y hy => h1 y (.tail _ hy)) (fun y hy => h2 y (.tail _ hy)) h5
    have a1 := h1 x (.head _)
    have a2 := h2 x (.head _)
    rw [List.filter_cons, List.filter_cons, List.filter_cons, a1]
    cases hp : p x with
    | true =>
      rw [a2 hp]
      simp only [Bool.or_false, if_true]
      rw [← ih]
      rfl
    | false =>
      cases hq : q x with
      | false =>
        simp only [Bool.or_false]
        exact ih
      | true =>
        have hn : l.filter p = [] := List.filter_eq_nil_iff.2 fun y hy q => h4 y hy ⟨hq, q⟩
        rw [hn] at ih ⊢
        simp only [Bool.or_true, if_true]
        rw [← ih]
        rfl
theorem pw_of {α : Type} {p q : α → α → Prop} {l : List α} (h : l.Pairwise p) (f : ∀ x y, p x y → q x y) : l.Pairwise q :=
  List.pairwise_iff_getElem.2 fun i j hi hj hij => f _ _ (List.pairwise_iff_getElem.1 h i j hi hj hij)
theorem span_join {R : List Rw} (hs : Sorted R) {a b c : ByteArray} {t : Int} (h1 : cb a b ≤ 0) (h2 : cb b c ≤ 0) : span R a b t ++ span R b c t = span R a c t := by
  unfold span
  rw [← List.filterMap_append]
  congr 1
  refine filter_split (fun r _ => ?_) (fun r _ h => ?_) (pw_of hs fun x y h => ?_)
  · unfold inSpan
    have t1 := cb_turn r.key b
    by_cases e : cb r.key b < 0
    · have e1 : cb r.key c < 0 := cb_lt e h2
      have e2 : ¬ cb b r.key ≤ 0 := by omega
      simp [e, e1, e2]
    · have e2 : cb b r.key ≤ 0 := by omega
      have e3 : cb a r.key ≤ 0 := cb_le h1 e2
      simp [e, e2, e3]
  · unfold inSpan at h ⊢
    simp only [Bool.and_eq_true, decide_eq_true_eq] at h
    have t1 := cb_turn r.key b
    have e2 : ¬ cb b r.key ≤ 0 := by omega
    simp [e2]
  · unfold inSpan
    simp only [Bool.and_eq_true, decide_eq_true_eq]
    rintro ⟨⟨q1, _⟩, _, q2⟩
    have q3 := cb_lt h (by omega : cb y.key b ≤ 0)
    have := cb_turn x.key b
    omega
/-- What is told of each hit. -/
theorem span_each {R : List Rw} (h : Okr R) {a c : ByteArray} {t : Int} : ∀ x ∈ span R a c t, x.ts ≤ t ∧ 1 ≤ x.ts ∧ inSpan a c x.key = true ∧ ∃ r ∈ R, r.key = x.key := by
  intro x hx
  unfold span at hx
  obtain ⟨r, hr, he⟩ := List.mem_filterMap.1 hx
  obtain ⟨hm, hin⟩ := List.mem_filter.1 hr
  rw [hit_is] at he
  unfold hitO at he
  cases htop : tops r.list t with
  | none => rw [htop] at he; cases he
  | some v =>
    rw [htop] at he
    simp only at he
    split at he
    · cases he
    · cases he
      unfold tops at htop
      have hv := List.mem_of_getLast? htop
      obtain ⟨v1, v2⟩ := List.mem_filter.1 hv
      exact ⟨of_decide_eq_true v2, (h.rise r hm).lo v v1, hin, r, hm, rfl⟩
theorem span_rise {R : List Rw} (h : Sorted R) (a c : ByteArray) (t : Int) : (span R a c t).Pairwise (fun x y => cb x.key y.key < 0) := by
  unfold span
  refine List.Pairwise.filterMap (hit t) (R := fun a b : Rw => cb a.key b.key < 0) (fun r r' hq x hx y hy => ?_) (h.sublist List.filter_sublist)
  have key : ∀ r x, hit t r = some x → x.key = r.key := fun r x e => by
    rw [hit_is] at e
    unfold hitO at e
    split at e
    · split at e
      · cases e
      · cases e; rfl
    · cases e
  rw [key r x hx, key r' y hy]
  exact hq
theorem put_keys {R : List Rw} (h : ∀ r ∈ R, r.key.size ≤ maxLen) {k : ByteArray} (hk : k.size ≤ maxLen) (v : Ve) : ∀ r ∈ putR R k v, r.key.size ≤ maxLen := by
  have hinn : ∀ i, ∀ r ∈ inn R i ⟨k, [v]⟩, r.key.size ≤ maxLen := fun i r hr => by
    rcases inn_mem hr with rfl | hr
    · exact hk
    · exact h r hr
  unfold putR
  split
  · exact h
  · split
    · split
      · split
        · exact h
        · intro r hr
          rcases List.mem_or_eq_of_mem_set hr with q | q
          · exact h r q
          · rw [q]
            exact hk
      · exact hinn _
    · exact hinn _
end Go.Proofs.Ytcoaahlakkghhaa
/- A region whose order is drawn, with conditions and with marks of what has come up. -/
namespace Go.Proofs.Ytcoaahlakkghhaa
section
variable {P : Program} {ops : Array Oper} {Q : Exit → Act → World → Prop}
/-- One mark more. -/
def upd (fl : Nat → Bool) (i : Nat) : Nat → Bool := fun k => cond (Nat.beq k i) true (fl k)
/-- Whatever has come up, what it waits for has come up. -/
def Led (ops : Array Oper) (fl : Nat → Bool) : Prop := ∀ k o j, ops[k]? = some o → depOn o j = true → fl k = true → fl j = true
/-- What is asked of an operation: it is carried out, and leaves what it leaves; or its condition is against it. -/
def OpFl (P : Program) (ops : Array Oper) (a0 : Act) (G : (Nat → Bool) → World → Prop) (S : World → World → Prop) (R : List (Value → World → Prop)) (i : Nat) (o : Oper) : Prop :=
  ∀ ρ w fl, G fl w → fl i = false → Led ops fl → (∀ j, depOn o j = true → fl j = true) → (∀ t, outer ops t = true → ρ (.tmp t) = a0.eval (.tmp t)) → (∀ x, ρ (.const x) = x) → (∀ f, ρ (.func f) = .func (.func f) #[] #[]) →
    (∀ j t, depOn o j = true → dstOf ops j = some t → R.getD j (fun _ _ => True) (ρ (.tmp t)) w) →
    (plainOp o ∧ Runs P o ρ w fun v w' => G (upd fl i) w' ∧ S w w' ∧ R.getD i (fun _ _ => True) v w') ∨
    (∃ j t c, onlyIf o j c ∧ dstOf ops j = some t ∧ ρ (.tmp t) = .bool c ∧ Runs P o ρ w fun v w' => G (upd fl i) w' ∧ S w w' ∧ R.getD i (fun _ _ => True) v w') ∨
    (∃ j t c, onlyIf o j c ∧ dstOf ops j = some t ∧ ρ (.tmp t) ≠ .bool c ∧ G (upd fl i) w ∧ S w w ∧ R.getD i (fun _ _ => True) undef w)
theorem yield_isnt {a : Act} {j t : Nat} {c : Bool} (h : dstOf ops j = some t) (e : a.eval (.tmp t) ≠ .bool c) : yielded ops a.tmps j ≠ some c := by
  unfold dstOf at h
  unfold yielded
  rw [h]
  rw [eval_tmp] at e
  intro q
  cases hx : a.tmps[t]? with
  | none =>
    simp [hx] at q
  | some v =>
    rw [Array.getD_eq_getD_getElem?, hx] at e
    simp only [Option.getD_some] at e
    simp only [Option.bind_some, hx] at q
    cases v <;> simp at q
    subst q
    exact e rfl
theorem upd_is {l : Array Bool} {i : Nat} (hi : i < l.size) : (fun j => (l.setIfInBounds i true).getD j false) = upd (fun j => l.getD j false) i := by
  funext j
  unfold upd
  by_cases e : j = i
  · subst e
    rw [Array.getD_eq_getD_getElem?, Array.getElem?_setIfInBounds_self_of_lt hi]
    simp
  · rw [Array.getD_eq_getD_getElem?, Array.getElem?_setIfInBounds_ne (fun q => e q.symm), ← Array.getD_eq_getD_getElem?]
    have : Nat.beq j i = false := by
      cases h : Nat.beq j i with
      | false => rfl
      | true => exact absurd (Nat.eq_of_beq_eq_true h) e
    rw [this]
    rfl
/-- **Whatever order is drawn**: each operation has left what it leaves. -/
theorem wp_region_fc {id : Nat} {a0 : Act} {w0 : World} (G : (Nat → Bool) → World → Prop) (S : World → World → Prop) (R : List (Value → World → Prop))
    (hm : P.follows .mixedOrders = true) (hd : dstsOk ops a0.tmps.size = true) (haf : ∀ l : Array Bool, l.size = ops.size → Region.ready .any ops l = [] → ∀ j, j < ops.size → l.getD j false = true) (hst : Stable S R) (hg : G (fun _ => false) w0.drew)
    (hops : AllOps (OpFl P ops a0 G S R) 0 ops.toList)
    (he : ∀ (a : Act) (w : World) (fl : Nat → Bool), (∀ j, j < ops.size → fl j = true) → G fl w → a.tmps.size = a0.tmps.size → a.defers = a0.defers → (∀ t, outer ops t = true → a.tmps.getD t undef = a0.tmps.getD t undef) →
      (∀ j t, dstOf ops j = some t → R.getD j (fun _ _ => True) (a.tmps.getD t undef) w) → Q .normal a w) :
    (Code.region id ops true).wp P Q a0 w0 := by
  refine wp_region_any hm (wpAny_kept (fun l a w => G (fun j => l.getD j false) w ∧ KeptIn ops a0 (fun _ => True) R l a w) ?_ ?_ _ _ _ _ (left_replicate _) ?_)
  · intro l a w i ⟨hG, hk⟩ hi
    obtain ⟨hl, o, ho, hall⟩ := mem_ready.1 hi
    have hok : OpFl P ops a0 G S R i o := by
      have := hops.get (k := i) (o := o) (by rw [Array.getElem?_toList]; exact ho)
      rwa [Nat.zero_add] at this
    have hun := unlisted hk.sz ho hl
    have hil : i < l.size := by rw [hk.sz]; exact (Array.getElem?_eq_some_iff.1 ho).1
    have hrun := hok a.eval w (fun j => l.getD j false) hG hun (fun k ok j hok hdep hfl => by
      obtain ⟨e, he, rfl, hb⟩ := depOn_some hdep
      exact hk.dn k ok hok hfl e he hb) (fun j hdep => by
      obtain ⟨e, he, rfl, hb⟩ := depOn_some hdep
      exact hall e he hb) (fun t ht => by
      rw [eval_tmp, eval_tmp]
      exact hk.out t fun j oj hj _ q => outer_not ht hj q) (fun _ => rfl) (fun _ => rfl) (fun j t hj hdj => by
      obtain ⟨e, he, rfl, hb⟩ := depOn_some hj
      obtain ⟨oj, hoj, hdj⟩ := dstOf_some hdj
      rw [eval_tmp]
      exact hk.is _ oj t hoj (hall e he hb) hdj)
    have hK : ∀ v w', G (upd (fun j => l.getD j false) i) w' ∧ S w w' ∧ R.getD i (fun _ _ => True) v w' → G (fun j => (l.setIfInBounds i true).getD j false) w' ∧ KeptIn ops a0 (fun _ => True) R (l.setIfInBounds i true) (a.put o.dst v) w' := fun v w' ⟨h1, h2, h3⟩ => by
      rw [upd_is hil]
      exact ⟨h1, hk.next hd hst ho hall trivial h2 h3⟩
    unfold wpOp
    simp only [ho]
    have go : (Runs P o a.eval w fun v w' => G (upd (fun j => l.getD j false) i) w' ∧ S w w' ∧ R.getD i (fun _ _ => True) v w') → o.wp P a w (fun a' w' => G (fun j => (l.setIfInBounds i true).getD j false) w' ∧ KeptIn ops a0 (fun _ => True) R (l.setIfInBounds i true) a' w') Q := fun hrun => by
      unfold Oper.wp
      rcases hrun with ⟨v, w', hv, h⟩ | ⟨w', hv, h⟩ | ⟨f, args, w1, hv, hc⟩
      · rw [hv]
        exact hK _ _ h
      · rw [hv]
        exact hK _ _ h
      · rw [hv]
        refine hc.mono ?_
        rintro e w' ⟨v, rfl, h⟩
        exact hK _ _ h
    rcases hrun with ⟨hgd, hrun⟩ | ⟨j, t, c, hgd, hdj, hv, hrun⟩ | ⟨j, t, c, hgd, hdj, hv, h⟩
    · rw [if_pos (wanted_none hgd _)]
      exact .inl (go hrun)
    · rw [if_pos (by rw [hgd]; simp only [yield_is hdj hv, beq_self_eq_true])]
      exact .inl (go hrun)
    · rw [if_neg (by rw [hgd]; simp only [beq_iff_eq]; exact yield_isnt hdj hv)]
      exact hK _ _ h
  · intro l a w ⟨hG, hk⟩ hr
    have hall := haf l hk.sz hr
    refine he a w _ hall hG hk.size hk.defers (fun t ht => hk.out t fun j oj hj _ q => outer_not ht hj q) (fun j t hdj => ?_)
    obtain ⟨oj, hj, hdj⟩ := dstOf_some hdj
    exact hk.is j oj t hj (hall j (Array.getElem?_eq_some_iff.1 hj).1) hdj
  · have hz : (fun m => (Array.replicate ops.size false).getD m false) = fun _ => false := by
      funext m
      cases hc : (Array.replicate ops.size false).getD m false with
      | false => rfl
      | true => exact absurd hc (none_listed _ _)
    refine ⟨?_, ⟨trivial, fun j _ _ hl => absurd hl (none_listed _ j), by simp, rfl, rfl, fun _ _ => rfl, fun j o t hj hl _ => absurd hl (none_listed _ j)⟩⟩
    rw [hz]
    exact hg
/-- Every operation waits for earlier ones alone. -/
theorem wp_region_fl {id : Nat} {a0 : Act} {w0 : World} (G : (Nat → Bool) → World → Prop) (S : World → World → Prop) (R : List (Value → World → Prop))
    (hm : P.follows .mixedOrders = true) (hd : dstsOk ops a0.tmps.size = true) (haf : afterOk ops = true) (hst : Stable S R) (hg : G (fun _ => false) w0.drew)
    (hops : AllOps (OpFl P ops a0 G S R) 0 ops.toList)
    (he : ∀ (a : Act) (w : World) (fl : Nat → Bool), (∀ j, j < ops.size → fl j = true) → G fl w → a.tmps.size = a0.tmps.size → a.defers = a0.defers → (∀ t, outer ops t = true → a.tmps.getD t undef = a0.tmps.getD t undef) →
      (∀ j t, dstOf ops j = some t → R.getD j (fun _ _ => True) (a.tmps.getD t undef) w) → Q .normal a w) :
    (Code.region id ops true).wp P Q a0 w0 := wp_region_fc G S R hm hd (fun l hl hr => all_listed haf l hl hr) hst hg hops he
/-- Where it waits for a later one that wait binds nobody. -/
def afterOkB (ops : Array Oper) : Bool := (List.range ops.size).all fun i => match ops[i]? with | some o => o.after.all (fun e => !Region.binds .any e || decide (e.on < i)) | none => true
theorem all_listedB (h : afterOkB ops = true) (l : Array Bool) (hl : l.size = ops.size) (hr : Region.ready .any ops l = []) : ∀ j, j < ops.size → l.getD j false = true := by
  intro j
  induction j using Nat.strongRecOn with
  | _ j ih =>
    intro hj
    cases hc : l.getD j false with
    | true => rfl
    | false =>
      exfalso
      have ho : ops[j]? = some ops[j] := Array.getElem?_eq_getElem hj
      have hm : j ∈ Region.ready .any ops l := by
        refine mem_ready.2 ⟨?_, ops[j], ho, fun e he hbd => ?_⟩
        · rw [Array.getD_eq_getD_getElem?, Array.getElem?_eq_getElem (by omega)] at hc ⊢
          simpa using hc
        · unfold afterOkB at h
          rw [List.all_eq_true] at h
          have := h j (List.mem_range.2 hj)
          rw [ho] at this
          simp only at this
          have := Array.all_eq_true_iff_forall_mem.1 this e he
          rw [hbd] at this
          simp only [Bool.not_true, Bool.false_or, decide_eq_true_eq] at this
          exact ih e.on this (by omega)
      rw [hr] at hm
      cases hm
theorem wp_region_fb {id : Nat} {a0 : Act} {w0 : World} (G : (Nat → Bool) → World → Prop) (S : World → World → Prop) (R : List (Value → World → Prop))
    (hm : P.follows .mixedOrders = true) (hd : dstsOk ops a0.tmps.size = true) (haf : afterOkB ops = true) (hst : Stable S R) (hg : G (fun _ => false) w0.drew)
    (hops : AllOps (OpFl P ops a0 G S R) 0 ops.toList)
    (he : ∀ (a : Act) (w : World) (fl : Nat → Bool), (∀ j, j < ops.size → fl j = true) → G fl w → a.tmps.size = a0.tmps.size → a.defers = a0.defers → (∀ t, outer ops t = true → a.tmps.getD t undef = a0.tmps.getD t undef) →
      (∀ j t, dstOf ops j = some t → R.getD j (fun _ _ => True) (a.tmps.getD t undef) w) → Q .normal a w) :
    (Code.region id ops true).wp P Q a0 w0 := wp_region_fc G S R hm hd (fun l hl hr => all_listedB haf l hl hr) hst hg hops he
end
end Go.Proofs.Ytcoaahlakkghhaa
