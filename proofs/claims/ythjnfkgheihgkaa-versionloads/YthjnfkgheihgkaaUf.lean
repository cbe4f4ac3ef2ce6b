/- A drawn region with two marked operations, one behind the other; two stores in one memory. -/
import Derived.Test.YthjnfkgheihgkaaUe
import Derived.Test.YthjnfkgheihgkaaUa
namespace Go.Proofs.Ythjnfkgheihgkaa
section
variable {P : Program} {ops : Array Oper} {Q : Exit → Act → World → Prop}
/-- It is carried out. -/
def Does (P : Program) (ops : Array Oper) (o : Oper) (ρ : Operand → Value) (w : World) (K : Value → World → Prop) : Prop :=
  (plainOp o ∧ Runs P o ρ w K) ∨ (∃ j t c, onlyIf o j c ∧ dstOf ops j = some t ∧ ρ (.tmp t) = .bool c ∧ Runs P o ρ w K)
/-- What is asked of an operation. -/
def OpG2 (P : Program) (ops : Array Oper) (a0 : Act) (m1 m2 : Nat) (G : Bool → Bool → World → Prop) (R : List (Value → World → Prop)) (i : Nat) (o : Oper) : Prop :=
  ∀ ρ w d e, (i = m1 → d = false ∧ e = false) → (i = m2 → d = true ∧ e = false) → G d e w → (∀ t, outer ops t = true → ρ (.tmp t) = a0.eval (.tmp t)) → (∀ x, ρ (.const x) = x) → (∀ f, ρ (.func f) = .func (.func f) #[] #[]) →
    (∀ j t, depOn o j = true → dstOf ops j = some t → R.getD j (fun _ _ => True) (ρ (.tmp t)) w) →
    Does P ops o ρ w fun v w' => G (if i = m1 then true else d) (if i = m2 then true else e) w' ∧ R.getD i (fun _ _ => True) v w'
theorem set_flag {l : Array Bool} {i m : Nat} (hi : i < l.size) : (l.setIfInBounds i true).getD m false = if i = m then true else l.getD m false := by
  by_cases e : i = m
  · subst e
    rw [if_pos rfl, Array.getD_eq_getD_getElem?, Array.getElem?_setIfInBounds_self_of_lt hi]
    rfl
  · rw [if_neg e, Array.getD_eq_getD_getElem?, Array.getElem?_setIfInBounds_ne e, Array.getD_eq_getD_getElem?]
theorem wp_region_g2 {id : Nat} {a0 : Act} {w0 : World} (m1 m2 : Nat) (G : Bool → Bool → World → Prop) (R : List (Value → World → Prop)) (hne : m1 ≠ m2) (h21 : ∀ o, ops[m2]? = some o → depOn o m1 = true) (hl1 : m1 < ops.size) (hl2 : m2 < ops.size)
    (hm : P.follows .mixedOrders = true) (hd : dstsOk ops a0.tmps.size = true) (haf : afterOk ops = true) (hst : Stable (fun _ _ => True) R) (hg : G false false w0.drew)
    (hops : AllOps (OpG2 P ops a0 m1 m2 G R) 0 ops.toList)
    (he : ∀ (a : Act) (w : World), G true true w → a.tmps.size = a0.tmps.size → a.defers = a0.defers → (∀ t, outer ops t = true → a.tmps.getD t undef = a0.tmps.getD t undef) →
      (∀ j t, dstOf ops j = some t → R.getD j (fun _ _ => True) (a.tmps.getD t undef) w) → Q .normal a w) :
    (Code.region id ops true).wp P Q a0 w0 := by
  refine wp_region_any hm (wpAny_kept (fun l a w => G (l.getD m1 false) (l.getD m2 false) w ∧ KeptIn ops a0 (fun _ => True) R l a w) ?_ ?_ _ _ _ _ (left_replicate _) ?_)
  · intro l a w i ⟨hG, hk⟩ hi
    obtain ⟨hl, o, ho, hall⟩ := mem_ready.1 hi
    have hok : OpG2 P ops a0 m1 m2 G R i o := by
      have := hops.get (k := i) (o := o) (by rw [Array.getElem?_toList]; exact ho)
      rwa [Nat.zero_add] at this
    have hun := unlisted hk.sz ho hl
    have hil : i < l.size := by rw [hk.sz]; exact (Array.getElem?_eq_some_iff.1 ho).1
    have hrun := hok a.eval w (l.getD m1 false) (l.getD m2 false) (fun e => by
      subst e
      refine ⟨hun, ?_⟩
      cases hc : l.getD m2 false with
      | false => rfl
      | true =>
        obtain ⟨o2, ho2⟩ : ∃ o2, ops[m2]? = some o2 := ⟨_, Array.getElem?_eq_getElem hl2⟩
        obtain ⟨e, he, heq, hb⟩ := depOn_some (h21 o2 ho2)
        have := hk.dn m2 o2 ho2 hc e he hb
        rw [heq, hun] at this
        cases this) (fun e => by
      subst e
      refine ⟨?_, hun⟩
      obtain ⟨e, he, heq, hb⟩ := depOn_some (h21 o ho)
      have := hall e he hb
      rwa [heq] at this) hG (fun t ht => by
      rw [eval_tmp, eval_tmp]
      exact hk.out t fun j oj hj _ q => outer_not ht hj q) (fun _ => rfl) (fun _ => rfl) (fun j t hj hdj => by
      obtain ⟨e, he, rfl, hb⟩ := depOn_some hj
      obtain ⟨oj, hoj, hdj⟩ := dstOf_some hdj
      rw [eval_tmp]
      exact hk.is _ oj t hoj (hall e he hb) hdj)
    have hK : ∀ v w', (G (if i = m1 then true else l.getD m1 false) (if i = m2 then true else l.getD m2 false) w' ∧ R.getD i (fun _ _ => True) v w') → G ((l.setIfInBounds i true).getD m1 false) ((l.setIfInBounds i true).getD m2 false) w' ∧ KeptIn ops a0 (fun _ => True) R (l.setIfInBounds i true) (a.put o.dst v) w' := fun v w' ⟨h1, h2⟩ => by
      rw [set_flag hil, set_flag hil]
      exact ⟨h1, hk.next hd hst ho hall trivial trivial h2⟩
    unfold wpOp
    simp only [ho]
    have go : (Runs P o a.eval w fun v w' => G (if i = m1 then true else l.getD m1 false) (if i = m2 then true else l.getD m2 false) w' ∧ R.getD i (fun _ _ => True) v w') → o.wp P a w (fun a' w' => G ((l.setIfInBounds i true).getD m1 false) ((l.setIfInBounds i true).getD m2 false) w' ∧ KeptIn ops a0 (fun _ => True) R (l.setIfInBounds i true) a' w') Q := fun hrun => by
      unfold Oper.wp
      rcases hrun with ⟨v, w', hv, h⟩ | ⟨w', hv, h⟩ | ⟨f, args, w1, hv, hc⟩
      · rw [hv]
        exact hK _ _ h
      · rw [hv]
        exact hK _ _ h
      · rw [hv]
        refine hc.mono ?_
        rintro e w' ⟨v, rfl, h⟩
        exact hK _ _ h
    rcases hrun with ⟨hgd, hrun⟩ | ⟨j, t, c, hgd, hdj, hv, hrun⟩
    · rw [if_pos (wanted_none hgd _)]
      exact .inl (go hrun)
    · rw [if_pos (by rw [hgd]; simp only [yield_is hdj hv, beq_self_eq_true])]
      exact .inl (go hrun)
  · intro l a w ⟨hG, hk⟩ hr
    have hall := all_listed haf l hk.sz hr
    rw [hall m1 hl1, hall m2 hl2] at hG
    refine he a w hG hk.size hk.defers (fun t ht => hk.out t fun j oj hj _ q => outer_not ht hj q) (fun j t hdj => ?_)
    obtain ⟨oj, hj, hdj⟩ := dstOf_some hdj
    exact hk.is j oj t hj (hall j (Array.getElem?_eq_some_iff.1 hj).1) hdj
  · have hz : ∀ m, (Array.replicate ops.size false).getD m false = false := fun m => by
      cases hc : (Array.replicate ops.size false).getD m false with
      | false => rfl
      | true => exact absurd hc (none_listed _ _)
    refine ⟨?_, ⟨trivial, fun j _ _ hl => absurd hl (none_listed _ j), by simp, rfl, rfl, fun _ _ => rfl, fun j o t hj hl _ => absurd hl (none_listed _ j)⟩⟩
    rw [hz, hz]
    exact hg
end
open Go.RowKit
/-- The program's store at A and the document's at E, in one memory, behind n puts. -/
structure Both (V0 X : World) (A E n : Nat) (S T : Nat → Prop) (R : List Rw) (D : List On) (lv : Value) : Prop where
  pj : Pj V0 X A n S R
  rs : Rs X E T D lv
  len : D.length ≤ n
  sz : ∀ p ∈ D, p.1.size ≤ maxLen
  off : ∀ j, S j → ¬ T j
  lo : ∀ j, T j → V0.heap.size ≤ j
section
variable {V0 X X' : World} {A E n : Nat} {S T U : Nat → Prop} {R : List Rw} {D : List On} {lv : Value} {k : ByteArray} {v : Ve} {e : Ending}
theorem Both.on (h : Both V0 X A E n S T R D lv) (hb : Below X.heap.size X X') : Both V0 X' A E n S T R D lv := ⟨h.pj.on hb, h.rs.on hb, h.len, h.sz, h.off, h.lo⟩
theorem Both.stays (h : Both V0 X A E n S T R D lv) (hf : Fr X X' U) (h1 : ∀ j, S j → ¬ U j) (h2 : ∀ j, T j → ¬ U j) (h3 : ∀ j, U j → V0.heap.size ≤ j) : Both V0 X' A E n S T R D lv :=
  ⟨⟨h.pj.sb.stays hf h1, h.pj.len, h.pj.each, h.pj.lo, fr_below h3 h.pj.bel hf⟩, h.rs.stays hf h2, h.len, h.sz, h.off, h.lo⟩
theorem Both.more (h : Both V0 X A E n S T R D lv) : Both V0 X A E (n + 1) S T R D lv :=
  ⟨⟨h.pj.sb, Nat.le_succ_of_le h.pj.len, fun r hr => Nat.le_succ_of_le (h.pj.each r hr), h.pj.lo, h.pj.bel⟩, h.rs, Nat.le_succ_of_le h.len, h.sz, h.off, h.lo⟩
/-- The program's Put is done, the document's is not. -/
theorem Both.put1 (h : Both V0 X A E n S T R D lv) (hp : PutAns X A S R k v e X') : ∃ S', Both V0 X' A E (n + 1) S' T (putR R k v) D lv := by
  obtain ⟨S', hj, hg, hf⟩ := h.pj.put hp
  refine ⟨S', hj, h.rs.stays hf (fun j q q' => h.off j q' q), Nat.le_succ_of_le h.len, h.sz, fun j q q' => ?_, h.lo⟩
  rcases hg j q with z | z
  · exact h.off j z q'
  · have := h.rs.lt j q'
    omega
/-- The document's Put is done too. -/
theorem Both.put2 (h : Both V0 X A E (n + 1) S T R D lv) (hl : D.length ≤ n) (hk : k.size ≤ maxLen) (hp : PutDAns X E T D k v e X') : ∃ T' lv', Both V0 X' A E (n + 1) S T' R (putD D k v) lv' := by
  obtain ⟨_, T', lv', hr, hg, hf⟩ := hp
  have hoff : ∀ j, S j → ¬ T j := h.off
  refine ⟨T', lv', ⟨h.pj.sb.stays hf hoff, h.pj.len, h.pj.each, h.pj.lo, fr_below h.lo h.pj.bel hf⟩, hr, ?_, ?_, fun j q q' => ?_, fun j q => ?_⟩
  · unfold putD
    split
    · omega
    · split
      · omega
      · rw [List.length_append]
        simp only [List.length_cons, List.length_nil]
        omega
  · unfold putD
    split
    · exact h.sz
    · split
      · exact h.sz
      · intro p hp
        rcases List.mem_append.1 hp with q | q
        · exact h.sz p q
        · rw [List.mem_singleton.1 q]
          exact hk
  · rcases hg j q' with z | z
    · exact h.off j q z
    · have := h.pj.sb.lt j q
      omega
  · rcases hg j q with z | z
    · exact h.lo j z
    · exact Nat.le_trans h.pj.bel.size z.1
end
end Go.Proofs.Ythjnfkgheihgkaa
