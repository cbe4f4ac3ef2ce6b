/- A drawn region with two marked operations, one behind the other. -/
import Derived.Test.YtcoaahlakkghhaaGf
import Derived.Test.YtcoaahlakkghhaaGw
namespace Go.Proofs.Ytcoaahlakkghhaa
section
variable {P : Program} {ops : Array Oper} {Q : Exit → Act → World → Prop}
/-- It is carried out. -/
def Does (P : Program) (ops : Array Oper) (o : Oper) (ρ : Operand → Value) (w : World) (K : Value → World → Prop) : Prop :=
  (plainOp o ∧ Runs P o ρ w K) ∨ (∃ j t c, onlyIf o j c ∧ dstOf ops j = some t ∧ ρ (.tmp t) = .bool c ∧ Runs P o ρ w K)
/-- What is asked of an operation. -/
def OpG2 (P : Program) (ops : Array Oper) (a0 : Act) (m1 m2 : Nat) (G : Bool → Bool → World → Prop) (R : List (Value → World → Prop)) (i : Nat) (o : Oper) : Prop :=
  ∀ ρ w d e, (i = m1 → d = false ∧ e = false) → (i = m2 → d = true ∧ e = false) → G d e w → (∀ t, outer ops t = true → ρ (.tmp t) = a0.eval (.tmp t)) → (∀ x, ρ (.const x) = x) → (∀ f, ρ (.func f) = .func (.func f) #[] #[]) →
    (∀ j t, depOn o j = true → dstOf ops j = some t → R.getD j (fun _ _ => True) (ρ (.tmp t)) w) →
    Does P ops o ρ w fun v w' => G (if i = m1 then true else d) (if i = m2 then true else e) w' ∧ R.getD i (fun _ _ => True) v w'
theorem set_flag {l : Array Bool} {i m : Nat} (hi : i < l.size) : (l.setIfInBounds i true).getD m false = if i = m then true else l.getD m false := by
  by_cases e : i = m
  · subst e
    rw [if_pos rfl, Array.getD_eq_getD_getElem?, Array.getElem?_setIfInBounds_self_of_lt hi]
    rfl
  · rw [if_neg e, Array.getD_eq_getD_getElem?, Array.getElem?_setIfInBounds_ne e, Array.getD_eq_getD_getElem?]
theorem wp_region_g2 {id : Nat} {a0 : Act} {w0 : World} (m1 m2 : Nat) (G : Bool → Bool → World → Prop) (R : List (Value → World → Prop)) (hne : m1 ≠ m2) (h21 : ∀ o, ops[m2]? = some o → depOn o m1 = true) (hl1 : m1 < ops.size) (hl2 : m2 < ops.size)
    (hm : P.follows .mixedOrders = true) (hd : dstsOk ops a0.tmps.size = true) (haf : afterOk ops = true) (hst : Stable (fun _ _ => True) R) (hg : G false false w0.drew)
    (hops : AllOps (OpG2 P ops a0 m1 m2 G R) 0 ops.toList)
    (he : ∀ (a : Act) (w : World), G true true w → a.tmps.size = a0.tmps.size → a.defers = a0.defers → (∀ t, outer ops t = true → a.tmps.getD t undef = a0.tmps.getD t undef) →
      (∀ j t, dstOf ops j = some t → R.getD j (fun _ _ => True) (a.tmps.getD t undef) w) → Q .normal a w) :
    (Code.region id ops true).wp P Q a0 w0 := by
  refine wp_region_any hm (wpAny_kept (fun l a w => G (l.getD m1 false) (l.getD m2 false) w ∧ KeptIn ops a0 (fun _ => True) R l a w) ?_ ?_ _ _ _ _ (left_replicate _) ?_)
  · intro l a w i ⟨hG, hk⟩ hi
    obtain ⟨hl, o, ho, hall⟩ := mem_ready.1 hi
    have hok : OpG2 P ops a0 m1 m2 G R i o := by
      have := hops.get (k := i) (o := o) (by rw [Array.getElem?_toList]; exact ho)
      rwa [Nat.zero_add] at this
    have hun := unlisted hk.sz ho hl
    have hil : i < l.size := by rw [hk.sz]; exact (Array.getElem?_eq_some_iff.1 ho).1
    have hrun := hok a.eval w (l.getD m1 false) (l.getD m2 false) (fun e => by
      subst e
      refine ⟨hun, ?_⟩
      cases hc : l.getD m2 false with
      | false => rfl
      | true =>
        obtain ⟨o2, ho2⟩ : ∃ o2, ops[m2]? = some o2 := ⟨_, Array.getElem?_eq_getElem hl2⟩
        obtain ⟨e, he, heq, hb⟩ := depOn_some (h21 o2 ho2)
        have := hk.dn m2 o2 ho2 hc e he hb
        rw [heq, hun] at this
        cases this) (fun e => by
      subst e
      refine ⟨?_, hun⟩
      obtain ⟨e, he, heq, hb⟩ := depOn_some (h21 o ho)
      have := hall e he hb
      rwa [heq] at this) hG (fun t ht => by
      rw [eval_tmp, eval_tmp]
      exact hk.out t fun j oj hj _ q => outer_not ht hj q) (fun _ => rfl) (fun _ => rfl) (fun j t hj hdj => by
      obtain ⟨e, he, rfl, hb⟩ := depOn_some hj
      obtain ⟨oj, hoj, hdj⟩ := dstOf_some hdj
      rw [eval_tmp]
      exact hk.is _ oj t hoj (hall e he hb) hdj)
    have hK : ∀ v w', (G (if i = m1 then true else l.getD m1 false) (if i = m2 then true else l.getD m2 false) w' ∧ R.getD i (fun _ _ => True) v w') → G ((l.setIfInBounds i true).getD m1 false) ((l.setIfInBounds i true).getD m2 false) w' ∧ KeptIn ops a0 (fun _ => True) R (l.setIfInBounds i true) (a.put o.dst v) w' := fun v w' ⟨h1, h2⟩ => by
      rw [set_flag hil, set_flag hil]
      exact ⟨h1, hk.next hd hst ho hall trivial trivial h2⟩
    unfold wpOp
    simp only [ho]
    have go : (Runs P o a.eval w fun v w' => G (if i = m1 then true else l.getD m1 false) (if i = m2 then true else l.getD m2 false) w' ∧ R.getD i (fun _ _ => True) v w') → o.wp P a w (fun a' w' => G ((l.setIfInBounds i true).getD m1 false) ((l.setIfInBounds i true).getD m2 false) w' ∧ KeptIn ops a0 (fun _ => True) R (l.setIfInBounds i true) a' w') Q := fun hrun => by
      unfold Oper.wp
      rcases hrun with ⟨v, w', hv, h⟩ | ⟨w', hv, h⟩ | ⟨f, args, w1, hv, hc⟩
      · rw [hv]
        exact hK _ _ h
      · rw [hv]
        exact hK _ _ h
      · rw [hv]
        refine hc.mono ?_
        rintro e w' ⟨v, rfl, h⟩
        exact hK _ _ h
    rcases hrun with ⟨hgd, hrun⟩ | ⟨j, t, c, hgd, hdj, hv, hrun⟩
    · rw [if_pos (wanted_none hgd _)]
      exact .inl (go hrun)
    · rw [if_pos (by rw [hgd]; simp only [yield_is hdj hv, beq_self_eq_true])]
      exact .inl (go hrun)
  · intro l a w ⟨hG, hk⟩ hr
    have hall := all_listed haf l hk.sz hr
    rw [hall m1 hl1, hall m2 hl2] at hG
    refine he a w hG hk.size hk.defers (fun t ht => hk.out t fun j oj hj _ q => outer_not ht hj q) (fun j t hdj => ?_)
    obtain ⟨oj, hj, hdj⟩ := dstOf_some hdj
    exact hk.is j oj t hj (hall j (Array.getElem?_eq_some_iff.1 hj).1) hdj
  · have hz : ∀ m, (Array.replicate ops.size false).getD m false = false := fun m => by
      cases hc : (Array.replicate ops.size false).getD m false with
      | false => rfl
      | true => exact absurd hc (none_listed _ _)
    refine ⟨?_, ⟨trivial, fun j _ _ hl => absurd hl (none_listed _ j), by simp, rfl, rfl, fun _ _ => rfl, fun j o t hj hl _ => absurd hl (none_listed _ j)⟩⟩
    rw [hz, hz]
    exact hg
end
end Go.Proofs.Ytcoaahlakkghhaa
/- The walk of Load. -/
namespace Go.Proofs.Ytcoaahlakkghhaa
open Go.RowKit
section
variable {ρ : Operand → Value} {X : World} {d : Option Tmp} {ty : TypeId} {ps : String} {af : Array Edge} {g : Option (Nat × Bool)}
theorem op_less1 {x y : Operand} {i : Nat} (e : ρ x = .int .i64 (i : Int)) (e2 : ρ y = .int .i64 1) (h0 : 0 < i) (h : (i : Int) ≤ 9223372036854775807) : (execOp ρ ⟨d, .binOp .sub 3 x y 3, ty, ps, af, g⟩).run Try.prog X = .ok (.value (.int .i64 ((i - 1 : Nat) : Int))) X := by
  obtain ⟨n, rfl⟩ : ∃ n, i = n + 1 := ⟨i - 1, by omega⟩
  exact op_sub3 e e2 h
theorem op_i61o {x y : Operand} {B o n m i : Nat} (e : ρ x = .slice (some ⟨B, o, none⟩) n m) (e2 : ρ y = .int .i64 (i : Int)) (h : i < n) : (execOp ρ ⟨d, .indexAddr 61 x y, ty, ps, af, g⟩).run Try.prog X = .ok (.value (.pointer (some ⟨B, o + i * 2, none⟩))) X := by
  have k0 : (0 : Int) ≤ (i : Int) := by omega
  have k1 : (i : Int) < (n : Int) := by omega
  simp only [execOp, e, e2]
  go_simp
theorem op_leq9 {x y : Operand} {s t : ByteArray} {b : Bool} (e : ρ x = .string s) (e2 : ρ y = .string t) (h : decide (cb t s < 0) = b) : (execOp ρ ⟨d, .binOp .leq 9 x y 9, ty, ps, af, g⟩).run Try.prog X = .ok (.value (.bool (!b))) X := by
  have h' : (Op.bytesLess s.toList t.toList || s.toList == t.toList) = !b := by
    rw [less_eq, same_eq, ← h]
    have h1 := cb_turn s t
    by_cases q : s = t
    · subst q
      rw [cb_self]
      simp
    · have h2 : cb s t ≠ 0 := fun z => q (cb_is.1 z)
      by_cases q1 : cb s t < 0
      · have q2 : ¬ cb t s < 0 := by omega
        simp [q1, q2]
      · have q2 : cb t s < 0 := by omega
        simp [q1, q2, q]
  simp only [execOp, e, e2]
  go_simp
theorem call70 {v : Value} : Sem.run Try.prog (callFunc 70 #[v]) X = .ok (.enter 70 #[v]) X := by go_simp
end
theorem lowR_pos {L : List Rw} {i : Nat} (h : i < L.length) (h0 : 0 < i) : lowR L i = !decide (cb (L[i - 1]'(by omega)).key L[i].key < 0) := by
  obtain ⟨n, rfl⟩ : ∃ n, i = n + 1 := ⟨i - 1, by omega⟩
  exact lowR_at h
theorem lowR_zero {L : List Rw} {i : Nat} (h0 : ¬ 0 < i) : lowR L i = false := by
  obtain rfl : i = 0 := by omega
  rfl
theorem good_next {L : List Rw} {i : Nat} (h : GoodTo L i) (hi : badR L i = false) : GoodTo L (i + 1) := fun j hj => by
  by_cases e : j = i
  · rw [e]; exact hi
  · exact h j (by omega)
def LoadAns (w : World) (L : List Rw) (e : Ending) (w' : World) : Prop := Below w.heap.size w w' ∧ ((Okr L ∧ ∃ A S, e = .returned (.tuple #[.pointer (some ⟨A, 0, none⟩), .int .i64 0]) ∧ Sb w' A S L ∧ ∀ j, S j → w.heap.size ≤ j) ∨ (¬ Okr L ∧ e = .returned (.tuple #[.pointer none, .int .i64 100])))
def LJ (w : World) (L : List Rw) (A : Nat) (wr : World) (iv : Value) : Prop := ∃ (j : Nat) (S : Nat → Prop) (G : List Gw) (rv : Value), j ≤ L.length ∧ iv = .int .i64 (j : Int) ∧ Sv wr A S G rv ∧ G.map Gw.r = L.take j ∧ (∀ k, S k → w.heap.size ≤ k) ∧ Below w.heap.size w wr
def LoadAnsNo (w : World) (L : List Rw) : Prop := ∀ X, Below w.heap.size w X → LoadAns w L (.returned (.tuple #[.pointer none, .int .i64 100])) X
section
variable {w : World} {L : List Rw} {v : Value}
set_option maxHeartbeats 16000000 in
set_option maxRecDepth 100000 in
theorem load_any (hL : Rd w L v) (hz : L.length ≤ 700000) (hzs : ∀ r ∈ L, r.list.length ≤ 700000) : Calls Try.prog 44 #[v] w fun e w' => LoadAns w L e w' := by
  obtain ⟨ad, cap, rfl, _, z1, z2, hX⟩ := hL
  have hmx : (L.length : Int) ≤ 9223372036854775807 := by omega
  have HX := Lib.hid hX
  clear hX z1 z2
  go_enter Try.func44, Try.ntmps44
  go_wp2
  go_loopw [11] (fun iv wr => ∃ i : Nat, i ≤ L.length ∧ iv = .int .i64 (i : Int) ∧ GoodTo L i ∧ Below w.heap.size w wr) (fun iv _ => L.length - (intOf iv).toNat)
  case atStart => exact ⟨0, Nat.zero_le _, rfl, fun i hi => by omega, Below.refl _ _⟩
  case round =>
    obtain ⟨i, hi, rfl, hgood, hb⟩ := hrel
    obtain ⟨V, rfl⟩ : ∃ V, V = wr := ⟨_, rfl⟩
    have HG := Lib.hid hgood
    have HB := Lib.hid hb
    by_cases hlt : i < L.length
    · obtain ⟨b, o, lv, rfl, _, c0, c1, hv⟩ := HX.out i hlt
      have c0 := cell_on hb c0
      have c1 := cell_on hb c1
      have hv := hv.on hb
      have hmy := fun X (hX : Below V.heap.size V X) => mayBe_any (hv.on hX)
      obtain ⟨la, lc, rfl, _, x1, x2, _⟩ := hv
      have k0 : (0 : Int) ≤ i := by omega
      have k1 : (i : Int) < L.length := by omega
      have hbad := badR_at hlt
      have hpos := lowR_pos hlt
      have hzero := lowR_zero (L := L) (i := i)
      have hprev : 0 < i → ∀ X, Below V.heap.size V X → X.cell? ⟨b, o + (i - 1) * 2, none⟩ = some (.string (L[i - 1]'(by omega)).key) := fun h0 X hX => by
        obtain ⟨b', o', lv', e, _, d0, _, _⟩ := HX.out (i - 1) (by omega)
        cases e
        exact cell_on hX (cell_on hb d0)
      obtain ⟨kp, hkp⟩ : ∃ kp : ByteArray, ∀ h : i - 1 < L.length, (L[i - 1]'h).key = kp := ⟨(L[i - 1]'(by omega)).key, fun _ => rfl⟩
      simp only [hkp] at hprev hpos
      obtain ⟨kk, hkk⟩ : ∃ kk, L[i].key = kk := ⟨_, rfl⟩
      rw [hkk] at c0 hpos
      obtain ⟨l, hl⟩ : ∃ l, L[i].list = l := ⟨_, rfl⟩
      rw [hl] at c1 hmy hbad x1
      obtain ⟨mb, hmb⟩ : ∃ mb, mayB l = mb := ⟨_, rfl⟩
      rw [hmb] at hmy hbad
      obtain ⟨V2, hV2⟩ : ∃ V2, V2 = V.alloc (.cells #[.string kk, .slice la l.length lc] 129) := ⟨_, rfl⟩
      obtain ⟨Z, hZ⟩ : ∃ Z, V.heap.size = Z := ⟨_, rfl⟩
      have b2 : Below V.heap.size V V2 := by rw [hV2]; exact (Below.refl _ V).alloc (Nat.le_refl _) _
      have jZ : V2.heap[Z]? = some (.cells #[.string kk, .slice la l.length lc] 129 (0, 0)) := by rw [hV2, ← hZ]; exact heap_alloc_new V _
      have s0 : V2.cell? ⟨Z, 0, none⟩ = some (.string kk) := cell_blk jZ 0
      have s1 : V2.cell? ⟨Z, 1, none⟩ = some (.slice la l.length lc) := cell_blk jZ 1
      have HV2 := Lib.hid hV2
      have HZ := Lib.hid hZ
      have HB2 := Lib.hid b2
      have HMY := Lib.hid hmy
      have HPV := Lib.hid hprev
      have HBD := Lib.hid hbad
      clear hV2 hZ b2 hmy hbad hb hgood jZ hkk hl hmb hkp hprev x1 x2
      by_cases h0 : 0 < i
      · have hlow := hpos h0
        obtain ⟨q, hq⟩ : ∃ q, decide (cb kp kk < 0) = q := ⟨_, rfl⟩
        rw [hq] at hlow
        have HLOW := Lib.hid hlow
        have i0 : (0 : Int) < i := by omega
        have hi0 : decide ((0 : Int) < (i : Int)) = true := decide_eq_true i0
        have him : i - 1 < L.length := by omega
        have hiM : (i : Int) ≤ 9223372036854775807 := by omega
        clear hpos hlow hzero
        cases q with
        | false =>
          have HR : Hid (LoadAnsNo w L) := fun X hX => ⟨hX, .inr ⟨bad_not hlt (by rw [HBD.out, HLOW.out]; rfl), rfl⟩⟩
          go_upto_region 4 with fail
          rw [← HV2.out, HZ.out]
          refine wp_region_gd (fun X9 => Below V2.heap.size V2 X9) (fun _ _ => True) [
            fun v9 _ => v9 = .int .i64 (i : Int),
            fun v9 _ => v9 = .bool true,
            fun v9 _ => v9 = .bool true,
            fun v9 _ => v9 = .pointer (some ⟨Z, 0, none⟩),
            fun v9 _ => v9 = .string kk,
            fun v9 _ => v9 = (.slice (some ⟨b, o, none⟩) L.length cap),
            fun v9 _ => v9 = .int .i64 (i : Int),
            fun v9 _ => v9 = .int .i64 ((i - 1 : Nat) : Int),
            fun v9 _ => v9 = .pointer (some ⟨b, o + (i - 1) * 2, none⟩),
            fun v9 _ => v9 = .pointer (some ⟨b, o + (i - 1) * 2, none⟩),
            fun v9 _ => v9 = .string kp,
            fun v9 _ => v9 = .bool true,
            fun v9 _ => v9 = .bool true,
            fun v9 _ => v9 = .bool true,
            fun _ _ => True,
            fun _ _ => True,
            fun _ _ => True,
            fun _ _ => True,
            fun v9 _ => v9 = .bool true]
            (by kernel_rfl) (by kernel_rfl) (by kernel_rfl) ?st ?g0 ?os ?en
          case st => exact ⟨fun _ _ _ _ h => h, fun _ _ _ _ h => h, fun _ _ _ _ h => h, fun _ _ _ _ h => h, fun _ _ _ _ h => h, fun _ _ _ _ h => h, fun _ _ _ _ h => h, fun _ _ _ _ h => h, fun _ _ _ _ h => h, fun _ _ _ _ h => h, fun _ _ _ _ h => h, fun _ _ _ _ h => h, fun _ _ _ _ h => h, fun _ _ _ _ h => h, fun _ _ _ _ h => h, fun _ _ _ _ h => h, fun _ _ _ _ h => h, fun _ _ _ _ h => h, fun _ _ _ _ h => h, trivial⟩
          case g0 => exact ⟨rfl, rfl, rfl, Nat.le_refl _, fun _ _ => rfl⟩
          case os =>
            refine ⟨?_, ?_, ?_, ?_, ?_, ?_, ?_, ?_, ?_, ?_, ?_, ?_, ?_, ?_, ?_, ?_, ?_, ?_, ?_, trivial⟩
            · exact fun ρ X9 hg ho hc hf hr => .inl ⟨rfl, Runs.val _ (op_move (show ρ (.tmp 4) = .int .i64 (i : Int) from ho 4 rfl)) ⟨hg, trivial, rfl⟩⟩
            · exact fun ρ X9 hg ho hc hf hr => .inl ⟨rfl, Runs.val _ (op_gtr3 (show ρ (.tmp 16) = .int .i64 (i : Int) from hr 0 16 rfl rfl) (hc _) hi0) ⟨hg, trivial, rfl⟩⟩
            · exact fun ρ X9 hg ho hc hf hr => .inl ⟨rfl, Runs.val _ (op_move (show ρ (.tmp 17) = .bool true from hr 1 17 rfl rfl)) ⟨hg, trivial, rfl⟩⟩
            · exact fun ρ X9 hg ho hc hf hr => .inr (.inl ⟨2, 18, true, fun _ => rfl, rfl, hr 2 18 rfl rfl, Runs.val _ (op_f129_0 (show ρ (.tmp 5) = .pointer (some ⟨Z, 0, none⟩) from ho 5 rfl)) ⟨hg, trivial, rfl⟩⟩)
            · exact fun ρ X9 hg ho hc hf hr => .inr (.inl ⟨2, 18, true, fun _ => rfl, rfl, hr 2 18 rfl rfl, Runs.val _ (op_load9 (show ρ (.tmp 19) = .pointer (some ⟨Z, 0, none⟩) from hr 3 19 rfl rfl) (cell_on hg s0)) ⟨hg, trivial, rfl⟩⟩)
            · exact fun ρ X9 hg ho hc hf hr => .inr (.inl ⟨2, 18, true, fun _ => rfl, rfl, hr 2 18 rfl rfl, Runs.val _ (op_move (show ρ (.tmp 0) = (.slice (some ⟨b, o, none⟩) L.length cap) from ho 0 rfl)) ⟨hg, trivial, rfl⟩⟩)
            · exact fun ρ X9 hg ho hc hf hr => .inr (.inl ⟨2, 18, true, fun _ => rfl, rfl, hr 2 18 rfl rfl, Runs.val _ (op_move (show ρ (.tmp 4) = .int .i64 (i : Int) from ho 4 rfl)) ⟨hg, trivial, rfl⟩⟩)
            · exact fun ρ X9 hg ho hc hf hr => .inr (.inl ⟨2, 18, true, fun _ => rfl, rfl, hr 2 18 rfl rfl, Runs.val _ (op_less1 (show ρ (.tmp 22) = .int .i64 (i : Int) from hr 6 22 rfl rfl) (hc _) h0 hiM) ⟨hg, trivial, rfl⟩⟩)
            · exact fun ρ X9 hg ho hc hf hr => .inr (.inl ⟨2, 18, true, fun _ => rfl, rfl, hr 2 18 rfl rfl, Runs.val _ (op_i61o (show ρ (.tmp 21) = (.slice (some ⟨b, o, none⟩) L.length cap) from hr 5 21 rfl rfl) (show ρ (.tmp 23) = .int .i64 ((i - 1 : Nat) : Int) from hr 7 23 rfl rfl) him) ⟨hg, trivial, rfl⟩⟩)
            · exact fun ρ X9 hg ho hc hf hr => .inr (.inl ⟨2, 18, true, fun _ => rfl, rfl, hr 2 18 rfl rfl, Runs.val _ (op_f129_0 (show ρ (.tmp 24) = .pointer (some ⟨b, o + (i - 1) * 2, none⟩) from hr 8 24 rfl rfl)) ⟨hg, trivial, rfl⟩⟩)
            · exact fun ρ X9 hg ho hc hf hr => .inr (.inl ⟨2, 18, true, fun _ => rfl, rfl, hr 2 18 rfl rfl, Runs.val _ (op_load9 (show ρ (.tmp 25) = .pointer (some ⟨b, o + (i - 1) * 2, none⟩) from hr 9 25 rfl rfl) (HPV.out h0 X9 (HB2.out.trans (hg.mono HB2.out.size)))) ⟨hg, trivial, rfl⟩⟩)
            · exact fun ρ X9 hg ho hc hf hr => .inr (.inl ⟨2, 18, true, fun _ => rfl, rfl, hr 2 18 rfl rfl, Runs.val _ (op_leq9 (show ρ (.tmp 20) = .string kk from hr 4 20 rfl rfl) (show ρ (.tmp 26) = .string kp from hr 10 26 rfl rfl) hq) ⟨hg, trivial, rfl⟩⟩)
            · exact fun ρ X9 hg ho hc hf hr => .inl ⟨rfl, Runs.val _ (op_pick (show ρ (.tmp 18) = .bool true from hr 2 18 rfl rfl) (show ρ (.tmp 27) = .bool true from hr 11 27 rfl rfl)) ⟨hg, trivial, rfl⟩⟩
            · exact fun ρ X9 hg ho hc hf hr => .inl ⟨rfl, Runs.val _ (op_move (show ρ (.tmp 28) = .bool true from hr 12 28 rfl rfl)) ⟨hg, trivial, rfl⟩⟩
            · exact fun ρ X9 hg ho hc hf hr => .inr (.inr ⟨13, 29, false, fun _ => rfl, rfl, hr 13 29 rfl rfl, hg, trivial, trivial⟩)
            · exact fun ρ X9 hg ho hc hf hr => .inr (.inr ⟨13, 29, false, fun _ => rfl, rfl, hr 13 29 rfl rfl, hg, trivial, trivial⟩)
            · exact fun ρ X9 hg ho hc hf hr => .inr (.inr ⟨13, 29, false, fun _ => rfl, rfl, hr 13 29 rfl rfl, hg, trivial, trivial⟩)
            · exact fun ρ X9 hg ho hc hf hr => .inr (.inr ⟨13, 29, false, fun _ => rfl, rfl, hr 13 29 rfl rfl, hg, trivial, trivial⟩)
            · exact fun ρ X9 hg ho hc hf hr => .inl ⟨rfl, Runs.val _ (op_pick (show ρ (.tmp 29) = .bool true from hr 13 29 rfl rfl) (hc _)) ⟨hg, trivial, rfl⟩⟩
          case en =>
            intro a X9 hG hs hd ho hr
            obtain ⟨x, hx, hxt⟩ := act_put hs hd ho
            have x34 : x 34 = .bool true := (hxt 34).symm.trans (hr 18 34 rfl)
            change a = putAll _ x [16, 17, 18, 19, 20, 21, 22, 23, 24, 25, 26, 27, 28, 29, 30, 31, 32, 33, 34] at hx
            simp only [putAll, Act.put, List.setIfInBounds_toArray, List.set_cons_zero, List.set_cons_succ, x34] at hx
            have HBX := Lib.hid (HB.out.trans ((HB2.out.trans (hG.mono HB2.out.size)).mono HB.out.size))
            clear hG hs hd ho hr hxt x34
            subst hx
            go_wp2
            refine bodyPost_ret (v := .tuple #[.pointer none, .int .i64 100]) (by simp [results, Try.results44, go_sem]) rfl ?_
            exact HR.out _ HBX.out
        | true =>
          have HBD2 : Hid (badR L i = !mb) := by show _ = _; rw [HBD.out, HLOW.out]; rfl
          go_upto_region 4 with fail
          rw [← HV2.out, HZ.out]
          refine wp_region_gd (fun X9 => Below V2.heap.size V2 X9) (fun _ _ => True) [
            fun v9 _ => v9 = .int .i64 (i : Int),
            fun v9 _ => v9 = .bool true,
            fun v9 _ => v9 = .bool true,
            fun v9 _ => v9 = .pointer (some ⟨Z, 0, none⟩),
            fun v9 _ => v9 = .string kk,
            fun v9 _ => v9 = (.slice (some ⟨b, o, none⟩) L.length cap),
            fun v9 _ => v9 = .int .i64 (i : Int),
            fun v9 _ => v9 = .int .i64 ((i - 1 : Nat) : Int),
            fun v9 _ => v9 = .pointer (some ⟨b, o + (i - 1) * 2, none⟩),
            fun v9 _ => v9 = .pointer (some ⟨b, o + (i - 1) * 2, none⟩),
            fun v9 _ => v9 = .string kp,
            fun v9 _ => v9 = .bool false,
            fun v9 _ => v9 = .bool false,
            fun v9 _ => v9 = .bool false,
            fun v9 _ => v9 = .pointer (some ⟨Z, 1, none⟩),
            fun v9 _ => v9 = .slice la l.length lc,
            fun v9 _ => v9 = .bool mb,
            fun v9 _ => v9 = .bool (!mb),
            fun v9 _ => v9 = .bool (!mb)]
            (by kernel_rfl) (by kernel_rfl) (by kernel_rfl) ?st ?g0 ?os ?en
          case st => exact ⟨fun _ _ _ _ h => h, fun _ _ _ _ h => h, fun _ _ _ _ h => h, fun _ _ _ _ h => h, fun _ _ _ _ h => h, fun _ _ _ _ h => h, fun _ _ _ _ h => h, fun _ _ _ _ h => h, fun _ _ _ _ h => h, fun _ _ _ _ h => h, fun _ _ _ _ h => h, fun _ _ _ _ h => h, fun _ _ _ _ h => h, fun _ _ _ _ h => h, fun _ _ _ _ h => h, fun _ _ _ _ h => h, fun _ _ _ _ h => h, fun _ _ _ _ h => h, fun _ _ _ _ h => h, trivial⟩
          case g0 => exact ⟨rfl, rfl, rfl, Nat.le_refl _, fun _ _ => rfl⟩
          case os =>
            refine ⟨?_, ?_, ?_, ?_, ?_, ?_, ?_, ?_, ?_, ?_, ?_, ?_, ?_, ?_, ?_, ?_, ?_, ?_, ?_, trivial⟩
            · exact fun ρ X9 hg ho hc hf hr => .inl ⟨rfl, Runs.val _ (op_move (show ρ (.tmp 4) = .int .i64 (i : Int) from ho 4 rfl)) ⟨hg, trivial, rfl⟩⟩
            · exact fun ρ X9 hg ho hc hf hr => .inl ⟨rfl, Runs.val _ (op_gtr3 (show ρ (.tmp 16) = .int .i64 (i : Int) from hr 0 16 rfl rfl) (hc _) hi0) ⟨hg, trivial, rfl⟩⟩
            · exact fun ρ X9 hg ho hc hf hr => .inl ⟨rfl, Runs.val _ (op_move (show ρ (.tmp 17) = .bool true from hr 1 17 rfl rfl)) ⟨hg, trivial, rfl⟩⟩
            · exact fun ρ X9 hg ho hc hf hr => .inr (.inl ⟨2, 18, true, fun _ => rfl, rfl, hr 2 18 rfl rfl, Runs.val _ (op_f129_0 (show ρ (.tmp 5) = .pointer (some ⟨Z, 0, none⟩) from ho 5 rfl)) ⟨hg, trivial, rfl⟩⟩)
            · exact fun ρ X9 hg ho hc hf hr => .inr (.inl ⟨2, 18, true, fun _ => rfl, rfl, hr 2 18 rfl rfl, Runs.val _ (op_load9 (show ρ (.tmp 19) = .pointer (some ⟨Z, 0, none⟩) from hr 3 19 rfl rfl) (cell_on hg s0)) ⟨hg, trivial, rfl⟩⟩)
            · exact fun ρ X9 hg ho hc hf hr => .inr (.inl ⟨2, 18, true, fun _ => rfl, rfl, hr 2 18 rfl rfl, Runs.val _ (op_move (show ρ (.tmp 0) = (.slice (some ⟨b, o, none⟩) L.length cap) from ho 0 rfl)) ⟨hg, trivial, rfl⟩⟩)
            · exact fun ρ X9 hg ho hc hf hr => .inr (.inl ⟨2, 18, true, fun _ => rfl, rfl, hr 2 18 rfl rfl, Runs.val _ (op_move (show ρ (.tmp 4) = .int .i64 (i : Int) from ho 4 rfl)) ⟨hg, trivial, rfl⟩⟩)
            · exact fun ρ X9 hg ho hc hf hr => .inr (.inl ⟨2, 18, true, fun _ => rfl, rfl, hr 2 18 rfl rfl, Runs.val _ (op_less1 (show ρ (.tmp 22) = .int .i64 (i : Int) from hr 6 22 rfl rfl) (hc _) h0 hiM) ⟨hg, trivial, rfl⟩⟩)
            · exact fun ρ X9 hg ho hc hf hr => .inr (.inl ⟨2, 18, true, fun _ => rfl, rfl, hr 2 18 rfl rfl, Runs.val _ (op_i61o (show ρ (.tmp 21) = (.slice (some ⟨b, o, none⟩) L.length cap) from hr 5 21 rfl rfl) (show ρ (.tmp 23) = .int .i64 ((i - 1 : Nat) : Int) from hr 7 23 rfl rfl) him) ⟨hg, trivial, rfl⟩⟩)
            · exact fun ρ X9 hg ho hc hf hr => .inr (.inl ⟨2, 18, true, fun _ => rfl, rfl, hr 2 18 rfl rfl, Runs.val _ (op_f129_0 (show ρ (.tmp 24) = .pointer (some ⟨b, o + (i - 1) * 2, none⟩) from hr 8 24 rfl rfl)) ⟨hg, trivial, rfl⟩⟩)
            · exact fun ρ X9 hg ho hc hf hr => .inr (.inl ⟨2, 18, true, fun _ => rfl, rfl, hr 2 18 rfl rfl, Runs.val _ (op_load9 (show ρ (.tmp 25) = .pointer (some ⟨b, o + (i - 1) * 2, none⟩) from hr 9 25 rfl rfl) (HPV.out h0 X9 (HB2.out.trans (hg.mono HB2.out.size)))) ⟨hg, trivial, rfl⟩⟩)
            · exact fun ρ X9 hg ho hc hf hr => .inr (.inl ⟨2, 18, true, fun _ => rfl, rfl, hr 2 18 rfl rfl, Runs.val _ (op_leq9 (show ρ (.tmp 20) = .string kk from hr 4 20 rfl rfl) (show ρ (.tmp 26) = .string kp from hr 10 26 rfl rfl) hq) ⟨hg, trivial, rfl⟩⟩)
            · exact fun ρ X9 hg ho hc hf hr => .inl ⟨rfl, Runs.val _ (op_pick (show ρ (.tmp 18) = .bool true from hr 2 18 rfl rfl) (show ρ (.tmp 27) = .bool false from hr 11 27 rfl rfl)) ⟨hg, trivial, rfl⟩⟩
            · exact fun ρ X9 hg ho hc hf hr => .inl ⟨rfl, Runs.val _ (op_move (show ρ (.tmp 28) = .bool false from hr 12 28 rfl rfl)) ⟨hg, trivial, rfl⟩⟩
            · exact fun ρ X9 hg ho hc hf hr => .inr (.inl ⟨13, 29, false, fun _ => rfl, rfl, hr 13 29 rfl rfl, Runs.val _ (op_f129_1 (show ρ (.tmp 5) = .pointer (some ⟨Z, 0, none⟩) from ho 5 rfl)) ⟨hg, trivial, rfl⟩⟩)
            · exact fun ρ X9 hg ho hc hf hr => .inr (.inl ⟨13, 29, false, fun _ => rfl, rfl, hr 13 29 rfl rfl, Runs.val _ (op_load127 (show ρ (.tmp 30) = .pointer (some ⟨Z, 1, none⟩) from hr 14 30 rfl rfl) (cell_on hg s1)) ⟨hg, trivial, rfl⟩⟩)
            · refine fun ρ X9 hg ho hc hf hr => .inr (.inl ⟨13, 29, false, fun _ => rfl, rfl, hr 13 29 rfl rfl, ?_⟩)
              refine Runs.goes 70 #[.slice la l.length lc] (op_call1 hf call70 (show ρ (.tmp 31) = .slice la l.length lc from hr 15 31 rfl rfl)) ((HMY.out X9 (HB2.out.trans (hg.mono HB2.out.size))).mono ?_)
              rintro e7 w7 ⟨rfl, b7⟩
              exact ⟨_, rfl, hg.trans (b7.mono hg.size), trivial, rfl⟩
            · exact fun ρ X9 hg ho hc hf hr => .inr (.inl ⟨13, 29, false, fun _ => rfl, rfl, hr 13 29 rfl rfl, Runs.val _ (op_not (show ρ (.tmp 32) = .bool mb from hr 16 32 rfl rfl) ) ⟨hg, trivial, rfl⟩⟩)
            · exact fun ρ X9 hg ho hc hf hr => .inl ⟨rfl, Runs.val _ (op_pick (show ρ (.tmp 29) = .bool false from hr 13 29 rfl rfl) (show ρ (.tmp 33) = .bool (!mb) from hr 17 33 rfl rfl)) ⟨hg, trivial, rfl⟩⟩
          case en =>
            intro a X9 hG hs hd ho hr
            obtain ⟨x, hx, hxt⟩ := act_put hs hd ho
            have x34 : x 34 = .bool (!mb) := (hxt 34).symm.trans (hr 18 34 rfl)
            change a = putAll _ x [16, 17, 18, 19, 20, 21, 22, 23, 24, 25, 26, 27, 28, 29, 30, 31, 32, 33, 34] at hx
            simp only [putAll, Act.put, List.setIfInBounds_toArray, List.set_cons_zero, List.set_cons_succ, x34] at hx
            have HBX := Lib.hid (HB.out.trans ((HB2.out.trans (hG.mono HB2.out.size)).mono HB.out.size))
            clear hG hs hd ho hr hxt x34
            subst hx
            cases mb with
            | false =>
              have HR : Hid (LoadAnsNo w L) := fun X hX => ⟨hX, .inr ⟨bad_not hlt (by rw [HBD2.out]; rfl), rfl⟩⟩
              go_wp2
              refine bodyPost_ret (v := .tuple #[.pointer none, .int .i64 100]) (by simp [results, Try.results44, go_sem]) rfl ?_
              exact HR.out _ HBX.out
            | true =>
              have HNG := Lib.hid (good_next HG.out (by rw [HBD2.out]; rfl))
              go_wp2
              go_roundw
              case rel => exact ⟨i + 1, hlt, by go_num, HNG.out, HBX.out⟩
              case measure => simp [intOf]; omega
      · have hlow := hzero h0
        have HBD2 : Hid (badR L i = !mb) := by show _ = _; rw [HBD.out, hlow]; rfl
        have i0 : ¬ (0 : Int) < i := by omega
        have hi0 : decide ((0 : Int) < (i : Int)) = false := decide_eq_false i0
        clear hpos hlow hzero
        go_upto_region 4 with fail
        rw [← HV2.out, HZ.out]
        refine wp_region_gd (fun X9 => Below V2.heap.size V2 X9) (fun _ _ => True) [
          fun v9 _ => v9 = .int .i64 (i : Int),
          fun v9 _ => v9 = .bool false,
          fun v9 _ => v9 = .bool false,
          fun _ _ => True,
          fun _ _ => True,
          fun _ _ => True,
          fun _ _ => True,
          fun _ _ => True,
          fun _ _ => True,
          fun _ _ => True,
          fun _ _ => True,
          fun _ _ => True,
          fun v9 _ => v9 = .bool false,
          fun v9 _ => v9 = .bool false,
          fun v9 _ => v9 = .pointer (some ⟨Z, 1, none⟩),
          fun v9 _ => v9 = .slice la l.length lc,
          fun v9 _ => v9 = .bool mb,
          fun v9 _ => v9 = .bool (!mb),
          fun v9 _ => v9 = .bool (!mb)]
          (by kernel_rfl) (by kernel_rfl) (by kernel_rfl) ?st ?g0 ?os ?en
        case st => exact ⟨fun _ _ _ _ h => h, fun _ _ _ _ h => h, fun _ _ _ _ h => h, fun _ _ _ _ h => h, fun _ _ _ _ h => h, fun _ _ _ _ h => h, fun _ _ _ _ h => h, fun _ _ _ _ h => h, fun _ _ _ _ h => h, fun _ _ _ _ h => h, fun _ _ _ _ h => h, fun _ _ _ _ h => h, fun _ _ _ _ h => h, fun _ _ _ _ h => h, fun _ _ _ _ h => h, fun _ _ _ _ h => h, fun _ _ _ _ h => h, fun _ _ _ _ h => h, fun _ _ _ _ h => h, trivial⟩
        case g0 => exact ⟨rfl, rfl, rfl, Nat.le_refl _, fun _ _ => rfl⟩
        case os =>
          refine ⟨?_, ?_, ?_, ?_, ?_, ?_, ?_, ?_, ?_, ?_, ?_, ?_, ?_, ?_, ?_, ?_, ?_, ?_, ?_, trivial⟩
          · exact fun ρ X9 hg ho hc hf hr => .inl ⟨rfl, Runs.val _ (op_move (show ρ (.tmp 4) = .int .i64 (i : Int) from ho 4 rfl)) ⟨hg, trivial, rfl⟩⟩
          · exact fun ρ X9 hg ho hc hf hr => .inl ⟨rfl, Runs.val _ (op_gtr3 (show ρ (.tmp 16) = .int .i64 (i : Int) from hr 0 16 rfl rfl) (hc _) hi0) ⟨hg, trivial, rfl⟩⟩
          · exact fun ρ X9 hg ho hc hf hr => .inl ⟨rfl, Runs.val _ (op_move (show ρ (.tmp 17) = .bool false from hr 1 17 rfl rfl)) ⟨hg, trivial, rfl⟩⟩
          · exact fun ρ X9 hg ho hc hf hr => .inr (.inr ⟨2, 18, true, fun _ => rfl, rfl, hr 2 18 rfl rfl, hg, trivial, trivial⟩)
          · exact fun ρ X9 hg ho hc hf hr => .inr (.inr ⟨2, 18, true, fun _ => rfl, rfl, hr 2 18 rfl rfl, hg, trivial, trivial⟩)
          · exact fun ρ X9 hg ho hc hf hr => .inr (.inr ⟨2, 18, true, fun _ => rfl, rfl, hr 2 18 rfl rfl, hg, trivial, trivial⟩)
          · exact fun ρ X9 hg ho hc hf hr => .inr (.inr ⟨2, 18, true, fun _ => rfl, rfl, hr 2 18 rfl rfl, hg, trivial, trivial⟩)
          · exact fun ρ X9 hg ho hc hf hr => .inr (.inr ⟨2, 18, true, fun _ => rfl, rfl, hr 2 18 rfl rfl, hg, trivial, trivial⟩)
          · exact fun ρ X9 hg ho hc hf hr => .inr (.inr ⟨2, 18, true, fun _ => rfl, rfl, hr 2 18 rfl rfl, hg, trivial, trivial⟩)
          · exact fun ρ X9 hg ho hc hf hr => .inr (.inr ⟨2, 18, true, fun _ => rfl, rfl, hr 2 18 rfl rfl, hg, trivial, trivial⟩)
          · exact fun ρ X9 hg ho hc hf hr => .inr (.inr ⟨2, 18, true, fun _ => rfl, rfl, hr 2 18 rfl rfl, hg, trivial, trivial⟩)
          · exact fun ρ X9 hg ho hc hf hr => .inr (.inr ⟨2, 18, true, fun _ => rfl, rfl, hr 2 18 rfl rfl, hg, trivial, trivial⟩)
          · exact fun ρ X9 hg ho hc hf hr => .inl ⟨rfl, Runs.val _ (op_pick (show ρ (.tmp 18) = .bool false from hr 2 18 rfl rfl) (hc _)) ⟨hg, trivial, rfl⟩⟩
          · exact fun ρ X9 hg ho hc hf hr => .inl ⟨rfl, Runs.val _ (op_move (show ρ (.tmp 28) = .bool false from hr 12 28 rfl rfl)) ⟨hg, trivial, rfl⟩⟩
          · exact fun ρ X9 hg ho hc hf hr => .inr (.inl ⟨13, 29, false, fun _ => rfl, rfl, hr 13 29 rfl rfl, Runs.val _ (op_f129_1 (show ρ (.tmp 5) = .pointer (some ⟨Z, 0, none⟩) from ho 5 rfl)) ⟨hg, trivial, rfl⟩⟩)
          · exact fun ρ X9 hg ho hc hf hr => .inr (.inl ⟨13, 29, false, fun _ => rfl, rfl, hr 13 29 rfl rfl, Runs.val _ (op_load127 (show ρ (.tmp 30) = .pointer (some ⟨Z, 1, none⟩) from hr 14 30 rfl rfl) (cell_on hg s1)) ⟨hg, trivial, rfl⟩⟩)
          · refine fun ρ X9 hg ho hc hf hr => .inr (.inl ⟨13, 29, false, fun _ => rfl, rfl, hr 13 29 rfl rfl, ?_⟩)
            refine Runs.goes 70 #[.slice la l.length lc] (op_call1 hf call70 (show ρ (.tmp 31) = .slice la l.length lc from hr 15 31 rfl rfl)) ((HMY.out X9 (HB2.out.trans (hg.mono HB2.out.size))).mono ?_)
            rintro e7 w7 ⟨rfl, b7⟩
            exact ⟨_, rfl, hg.trans (b7.mono hg.size), trivial, rfl⟩
          · exact fun ρ X9 hg ho hc hf hr => .inr (.inl ⟨13, 29, false, fun _ => rfl, rfl, hr 13 29 rfl rfl, Runs.val _ (op_not (show ρ (.tmp 32) = .bool mb from hr 16 32 rfl rfl) ) ⟨hg, trivial, rfl⟩⟩)
          · exact fun ρ X9 hg ho hc hf hr => .inl ⟨rfl, Runs.val _ (op_pick (show ρ (.tmp 29) = .bool false from hr 13 29 rfl rfl) (show ρ (.tmp 33) = .bool (!mb) from hr 17 33 rfl rfl)) ⟨hg, trivial, rfl⟩⟩
        case en =>
          intro a X9 hG hs hd ho hr
          obtain ⟨x, hx, hxt⟩ := act_put hs hd ho
          have x34 : x 34 = .bool (!mb) := (hxt 34).symm.trans (hr 18 34 rfl)
          change a = putAll _ x [16, 17, 18, 19, 20, 21, 22, 23, 24, 25, 26, 27, 28, 29, 30, 31, 32, 33, 34] at hx
          simp only [putAll, Act.put, List.setIfInBounds_toArray, List.set_cons_zero, List.set_cons_succ, x34] at hx
          have HBX := Lib.hid (HB.out.trans ((HB2.out.trans (hG.mono HB2.out.size)).mono HB.out.size))
          clear hG hs hd ho hr hxt x34
          subst hx
          cases mb with
          | false =>
            have HR : Hid (LoadAnsNo w L) := fun X hX => ⟨hX, .inr ⟨bad_not hlt (by rw [HBD2.out]; rfl), rfl⟩⟩
            go_wp2
            refine bodyPost_ret (v := .tuple #[.pointer none, .int .i64 100]) (by simp [results, Try.results44, go_sem]) rfl ?_
            exact HR.out _ HBX.out
          | true =>
            have HNG := Lib.hid (good_next HG.out (by rw [HBD2.out]; rfl))
            go_wp2
            go_roundw
            case rel => exact ⟨i + 1, hlt, by go_num, HNG.out, HBX.out⟩
            case measure => simp [intOf]; omega
    · have k1 : ¬ ((i : Int) < L.length) := by omega
      have e : i = L.length := by omega
      have hok : Okr L := good_ok (by rw [← e]; exact HG.out)
      have HOK := Lib.hid hok
      have hnew := new_any V
      clear hb hgood e hok
      go_wp2_with fail
      refine hnew.mono ?_
      rintro e w1 ⟨rfl, hs1, b1⟩
      obtain ⟨A, hA⟩ : ∃ A, V.heap.size = A := ⟨_, rfl⟩
      have HS : Hid (LJ w L A w1 (.int .i64 0)) := by
        rw [hA] at hs1
        obtain ⟨G, rv, hsv, he⟩ := hs1
        refine ⟨0, _, G, rv, Nat.zero_le _, rfl, hsv, by rw [he]; rfl, fun k e => ?_, HB.out.trans (b1.mono HB.out.size)⟩
        have e' : k = A := e
        have := HB.out.size
        omega
      rw [hA]
      clear hs1 b1 hA hnew
      go_wp2
      go_loopw [39] (fun iv wr => LJ w L A wr iv) (fun iv _ => L.length - (intOf iv).toNat)
      case atStart => exact HS.out
      case round =>
        clear HS HG HB hi hlt k1
        obtain ⟨j, S, G, rv, hj, rfl, hsv, hGL, hlo, hbw⟩ := hrel
        obtain ⟨U, rfl⟩ : ∃ U, U = wr := ⟨_, rfl⟩
        have hGl : G.length = j := by have := congrArg List.length hGL; simp at this; omega
        by_cases hlt : j < L.length
        · obtain ⟨b, o, lv, rfl, _, c0, c1, hv⟩ := HX.out j hlt
          have c0 := cell_on hbw c0
          have c1 := cell_on hbw c1
          have hnx : G.map Gw.r ++ [L[j]] = L.take (j + 1) := by
            rw [hGL, List.take_add_one, List.getElem?_eq_getElem hlt]
            rfl
          have hokn : Okr (G.map Gw.r ++ [L[j]]) := by rw [hnx]; exact ok_take HOK.out _
          have hll : L[j].list.length ≤ 700000 := hzs _ (List.getElem_mem hlt)
          obtain ⟨r, hr⟩ : ∃ r, L[j] = r := ⟨_, rfl⟩
          rw [hr] at c0 hv hnx hokn hll
          have hv0 := hv
          obtain ⟨la, lc, rfl, _, x1, x2, _⟩ := hv
          have HVS := Lib.hid hv0
          have k0 : (0 : Int) ≤ j := by omega
          have k1 : (j : Int) < L.length := by omega
          obtain ⟨V, hV⟩ : ∃ V, V = U.alloc (.cells #[.string r.key, .slice la r.list.length lc] 129) := ⟨_, rfl⟩
          obtain ⟨Z, hZ⟩ : ∃ Z, U.heap.size = Z := ⟨_, rfl⟩
          have b2 : Below U.heap.size U V := by rw [hV]; exact (Below.refl _ U).alloc (Nat.le_refl _) _
          have jZ : V.heap[Z]? = some (.cells #[.string r.key, .slice la r.list.length lc] 129 (0, 0)) := by rw [hV, ← hZ]; exact heap_alloc_new U _
          have s0 : V.cell? ⟨Z, 0, none⟩ = some (.string r.key) := cell_blk jZ 0
          have s1 : V.cell? ⟨Z, 1, none⟩ = some (.slice la r.list.length lc) := cell_blk jZ 1
          have hsv2 := hsv.on b2
          obtain ⟨rad, rcap, rfl, hc1, hc2, _⟩ := hsv2.shape
          have a0 : V.cell? ⟨A, 0, none⟩ = some (.slice rad G.length rcap) := cell_blk hsv2.ob 0
          have hrl : ∀ k, (Value.slice rad G.length rcap).ownBlock = some k → k < U.heap.size := fun k e => hsv.lt k (hsv.cov k e)
          have hU := b2.size
          have hnA : ¬ (Value.slice rad G.length rcap).ownBlock = some A := fun e => by
            obtain ⟨cs, t⟩ := own_tag hsv2.rows A e
            exact tag_ne t hsv2.ob (by decide) rfl
          have hnZ : ¬ (Value.slice rad G.length rcap).ownBlock = some Z := fun e => by have := hrl Z e; omega
          have hfew : G.length < 800000 := by omega
          have HSV := Lib.hid hsv2
          have HV2 := Lib.hid hV
          have HZ := Lib.hid hZ
          have hlb : ∀ k, (Value.slice rad G.length rcap).ownBlock = some k → w.heap.size ≤ k := fun k e => hlo k (hsv.cov k e)
          have HLB := Lib.hid hlb
          have HRL := Lib.hid hrl
          have HNX := Lib.hid hnx
          have HOKN := Lib.hid hokn
          have HLO := Lib.hid hlo
          have HBW := Lib.hid (hbw.trans (b2.mono hbw.size))
          clear hsv hGL hlo hbw hV hZ b2 jZ hsv2 hlb hrl hnx hokn hGl hr x1 x2 hv0
          go_upto_region 11 with fail
          rw [← HV2.out, HZ.out]
          refine wp_region_once 13 (fun d X9 => Fr V X9 (fun j => (Value.slice rad G.length rcap).ownBlock = some j) ∧ (d = false → Below V.heap.size V X9)) (fun X9 X' => Below X9.heap.size X9 X') (fun X9 X' => Fr X9 X' (fun j => (Value.slice rad G.length rcap).ownBlock = some j)) [
            fun v9 _ => v9 = .pointer (some ⟨A, 0, none⟩),
            fun v9 _ => v9 = .pointer (some ⟨A, 0, none⟩),
            fun v9 _ => v9 = .pointer (some ⟨A, 0, none⟩),
            fun v9 _ => v9 = .pointer (some ⟨A, 0, none⟩),
            fun v9 _ => v9 = (.slice rad G.length rcap),
            fun v9 _ => v9 = .pointer (some ⟨Z, 0, none⟩),
            fun v9 _ => v9 = .string r.key,
            fun v9 _ => v9 = .pointer (some ⟨Z, 1, none⟩),
            fun v9 _ => v9 = .slice la r.list.length lc,
            fun v9 X9 => ∃ cad ccap, v9 = .slice cad r.list.length ccap ∧ X9.ownsRow V.heap.size 125 3 (.slice cad r.list.length ccap) r.list.length (veC r.list),
            fun v9 X9 => ∃ cad ccap, v9 = .agg #[.string r.key, .slice cad r.list.length ccap] ∧ X9.ownsRow V.heap.size 125 3 (.slice cad r.list.length ccap) r.list.length (veC r.list),
            fun v9 X9 => ∃ Y cad ccap, v9 = .pointer (some ⟨Y, 0, none⟩) ∧ V.heap.size ≤ Y ∧ X9.heap[Y]? = some (.cells #[.string r.key, .slice cad r.list.length ccap] 129 (0, 0)) ∧ X9.ownsRow V.heap.size 125 3 (.slice cad r.list.length ccap) r.list.length (veC r.list),
            fun v9 X9 => ∃ Y3 Y cad ccap, v9 = lv1 Y3 ∧ V.heap.size ≤ Y3 ∧ X9.heap[Y3]? = some (.cells #[.pointer (some ⟨Y, 0, none⟩)] 126 (0, 0)) ∧ V.heap.size ≤ Y ∧ X9.heap[Y]? = some (.cells #[.string r.key, .slice cad r.list.length ccap] 129 (0, 0)) ∧ X9.ownsRow V.heap.size 125 3 (.slice cad r.list.length ccap) r.list.length (veC r.list),
            fun v9 X9 => ∃ ad9 cap9 Y cad ccap, v9 = .slice ad9 (G.length + 1) cap9 ∧ X9.ownsRow 0 126 1 v9 (G.length + 1) (G.map gP ++ [Value.pointer (some ⟨Y, 0, none⟩)]) ∧ (∀ j, (v9).ownBlock = some j → (Value.slice rad G.length rcap).ownBlock = some j ∨ V.heap.size ≤ j) ∧ Fr V X9 (fun j => (Value.slice rad G.length rcap).ownBlock = some j) ∧ V.heap.size ≤ Y ∧ X9.heap[Y]? = some (.cells #[.string r.key, .slice cad r.list.length ccap] 129 (0, 0)) ∧ X9.ownsRow V.heap.size 125 3 (.slice cad r.list.length ccap) r.list.length (veC r.list),
            fun v9 _ => v9 = .pointer (some ⟨A, 0, none⟩),
            fun v9 _ => v9 = .pointer (some ⟨A, 0, none⟩)]
            (fun _ X8 => ∃ ad9 cap9 Y cad ccap X9, X8 = X9.setCell ⟨A, 0, none⟩ (.slice ad9 (G.length + 1) cap9) ∧ X9.ownsRow 0 126 1 (.slice ad9 (G.length + 1) cap9) (G.length + 1) (G.map gP ++ [Value.pointer (some ⟨Y, 0, none⟩)]) ∧ (∀ j, (Value.slice ad9 (G.length + 1) cap9).ownBlock = some j → (Value.slice rad G.length rcap).ownBlock = some j ∨ V.heap.size ≤ j) ∧ Fr V X9 (fun j => (Value.slice rad G.length rcap).ownBlock = some j) ∧ V.heap.size ≤ Y ∧ X9.heap[Y]? = some (.cells #[.string r.key, .slice cad r.list.length ccap] 129 (0, 0)) ∧ X9.ownsRow V.heap.size 125 3 (.slice cad r.list.length ccap) r.list.length (veC r.list)) rfl (by kernel_rfl) (by kernel_rfl) (by kernel_rfl) (by kernel_rfl) ?st ?stm ?g0 (by decide) ?os ?la ?en
          case st => exact ⟨fun _ _ _ _ h => h, fun _ _ _ _ h => h, fun _ _ _ _ h => h, fun _ _ _ _ h => h, fun _ _ _ _ h => h, fun _ _ _ _ h => h, fun _ _ _ _ h => h, fun _ _ _ _ h => h, fun _ _ _ _ h => h, fun _ _ _ hs ⟨x, y, e, z⟩ => ⟨x, y, e, own_below z hs⟩, fun _ _ _ hs ⟨x, y, e, z⟩ => ⟨x, y, e, own_below z hs⟩, fun _ _ _ hs ⟨Y, x, y, e, z1, z2, z⟩ => ⟨Y, x, y, e, z1, (hs.block _ (blk_lt z2)).trans z2, own_below z hs⟩, fun _ _ _ hs ⟨Y3, Y, x, y, e, q1, q2, z1, z2, z⟩ => ⟨Y3, Y, x, y, e, q1, (hs.block _ (blk_lt q2)).trans q2, z1, (hs.block _ (blk_lt z2)).trans z2, own_below z hs⟩, fun _ _ _ hs ⟨x1, x2, Y, x, y, e, o1, o2, o3, z1, z2, z⟩ => ⟨x1, x2, Y, x, y, e, own_below o1 hs, o2, o3.below hs, z1, (hs.block _ (blk_lt z2)).trans z2, own_below z hs⟩, fun _ _ _ _ h => h, fun _ _ _ _ h => h, trivial⟩
          case stm => exact ⟨fun _ _ _ _ h => h, fun _ _ _ _ h => h, fun _ _ _ _ h => h, fun _ _ _ _ h => h, fun _ _ _ _ h => h, fun _ _ _ _ h => h, fun _ _ _ _ h => h, fun _ _ _ _ h => h, fun _ _ _ _ h => h, fun _ _ _ hs ⟨x, y, e, z⟩ => ⟨x, y, e, row_keep z hs (fun k hk e => by have z8 := (z.lt k hk).1; have z9 := HRL.out k e; omega)⟩, fun _ _ _ hs ⟨x, y, e, z⟩ => ⟨x, y, e, row_keep z hs (fun k hk e => by have z8 := (z.lt k hk).1; have z9 := HRL.out k e; omega)⟩, fun _ _ _ hs ⟨Y, x, y, e, z1, z2, z⟩ => ⟨Y, x, y, e, z1, (hs.block _ (blk_lt z2) (fun e => by have z9 := HRL.out _ e; omega)).trans z2, row_keep z hs (fun k hk e => by have z8 := (z.lt k hk).1; have z9 := HRL.out k e; omega)⟩, fun _ _ _ hs ⟨Y3, Y, x, y, e, q1, q2, z1, z2, z⟩ => ⟨Y3, Y, x, y, e, q1, (hs.block _ (blk_lt q2) (fun e => by have z9 := HRL.out _ e; omega)).trans q2, z1, (hs.block _ (blk_lt z2) (fun e => by have z9 := HRL.out _ e; omega)).trans z2, row_keep z hs (fun k hk e => by have z8 := (z.lt k hk).1; have z9 := HRL.out k e; omega)⟩, fun _ _ _ _ h => h, fun _ _ _ _ h => h, fun _ _ _ _ h => h, trivial⟩
          case g0 => exact ⟨⟨rfl, rfl, rfl, Nat.le_refl _, fun _ _ _ => rfl⟩, fun _ => ⟨rfl, rfl, rfl, Nat.le_refl _, fun _ _ => rfl⟩⟩
          case os =>
            refine ⟨?_, ?_, ?_, ?_, ?_, ?_, ?_, ?_, ?_, ?_, ?_, ?_, ?_, ?_, ?_, ?_, trivial⟩
            · exact ⟨rfl, fun _ ρ X9 d hg ho hc hf hr => Runs.val _ (op_move (show ρ (.tmp 6) = .pointer (some ⟨A, 0, none⟩) from ho 6 rfl)) ⟨hg, Below.refl _ _, rfl⟩, fun e => absurd e (by decide)⟩
            · exact ⟨rfl, fun _ ρ X9 d hg ho hc hf hr => Runs.val _ (op_move (show ρ (.tmp 6) = .pointer (some ⟨A, 0, none⟩) from ho 6 rfl)) ⟨hg, Below.refl _ _, rfl⟩, fun e => absurd e (by decide)⟩
            · exact ⟨rfl, fun _ ρ X9 d hg ho hc hf hr => Runs.val _ (op_nil (show ρ (.tmp 44) = .pointer (some ⟨A, 0, none⟩) from hr 1 44 rfl rfl)) ⟨hg, Below.refl _ _, rfl⟩, fun e => absurd e (by decide)⟩
            · exact ⟨rfl, fun _ ρ X9 d hg ho hc hf hr => Runs.val _ (op_f116_0 (show ρ (.tmp 45) = .pointer (some ⟨A, 0, none⟩) from hr 2 45 rfl rfl)) ⟨hg, Below.refl _ _, rfl⟩, fun e => absurd e (by decide)⟩
            · exact ⟨rfl, fun _ ρ X9 d hg ho hc hf hr => Runs.val _ (op_load114 (show ρ (.tmp 46) = .pointer (some ⟨A, 0, none⟩) from hr 3 46 rfl rfl) (cell_fr hg.1 hnA a0)) ⟨hg, Below.refl _ _, rfl⟩, fun e => absurd e (by decide)⟩
            · exact ⟨rfl, fun _ ρ X9 d hg ho hc hf hr => Runs.val _ (op_f129_0 (show ρ (.tmp 8) = .pointer (some ⟨Z, 0, none⟩) from ho 8 rfl)) ⟨hg, Below.refl _ _, rfl⟩, fun e => absurd e (by decide)⟩
            · exact ⟨rfl, fun _ ρ X9 d hg ho hc hf hr => Runs.val _ (op_load9 (show ρ (.tmp 48) = .pointer (some ⟨Z, 0, none⟩) from hr 5 48 rfl rfl) (cell_fr hg.1 hnZ s0)) ⟨hg, Below.refl _ _, rfl⟩, fun e => absurd e (by decide)⟩
            · exact ⟨rfl, fun _ ρ X9 d hg ho hc hf hr => Runs.val _ (op_f129_1 (show ρ (.tmp 8) = .pointer (some ⟨Z, 0, none⟩) from ho 8 rfl)) ⟨hg, Below.refl _ _, rfl⟩, fun e => absurd e (by decide)⟩
            · exact ⟨rfl, fun _ ρ X9 d hg ho hc hf hr => Runs.val _ (op_load127 (show ρ (.tmp 50) = .pointer (some ⟨Z, 1, none⟩) from hr 7 50 rfl rfl) (cell_fr hg.1 hnZ s1)) ⟨hg, Below.refl _ _, rfl⟩, fun e => absurd e (by decide)⟩
            · refine ⟨rfl, fun _ ρ X9 d hg ho hc hf hr => ?_, fun e => absurd e (by decide)⟩
              refine Runs.goes 61 #[.slice la r.list.length lc] (op_call1 hf call61 (show ρ (.tmp 51) = .slice la r.list.length lc from hr 8 51 rfl rfl)) ((clone_any (HVS.out.on (HBW.out.trans (hg.1.toBelow (fun k hk e => by have z9 := HLB.out k e; omega) HBW.out.size))) (by omega)).mono ?_)
              rintro e7 w7 ⟨cad, ccap, rfl, ho7, hb7⟩
              exact ⟨_, rfl, ⟨hg.1.below hb7, fun z => (hg.2 z).trans (hb7.mono (hg.2 z).size)⟩, hb7, cad, ccap, rfl, own_mono ho7 hg.1.size⟩
            · refine ⟨rfl, fun _ ρ X9 d hg ho hc hf hr => ?_, fun e => absurd e (by decide)⟩
              obtain ⟨cad, ccap, e, z⟩ : ∃ cad ccap, (ρ (.tmp 52)) = .slice cad r.list.length ccap ∧ X9.ownsRow V.heap.size 125 3 (.slice cad r.list.length ccap) r.list.length (veC r.list) := hr 9 52 rfl rfl
              exact Runs.val _ (op_b129 (show ρ (.tmp 49) = .string r.key from hr 6 49 rfl rfl) e) ⟨hg, Below.refl _ _, cad, ccap, rfl, z⟩
            · refine ⟨rfl, fun _ ρ X9 d hg ho hc hf hr => ?_, fun e => absurd e (by decide)⟩
              obtain ⟨cad, ccap, e, z⟩ : ∃ cad ccap, (ρ (.tmp 53)) = .agg #[.string r.key, .slice cad r.list.length ccap] ∧ X9.ownsRow V.heap.size 125 3 (.slice cad r.list.length ccap) r.list.length (veC r.list) := hr 10 53 rfl rfl
              have hb7 : Below X9.heap.size X9 (X9.alloc (.cells #[.string r.key, .slice cad r.list.length ccap] 129)) := (Below.refl _ X9).alloc (Nat.le_refl _) _
              exact Runs.val _ (op_x129 e) ⟨⟨hg.1.below hb7, fun z => (hg.2 z).trans (hb7.mono (hg.2 z).size)⟩, hb7, X9.heap.size, cad, ccap, rfl, hg.1.size, heap_alloc_new X9 _, own_below z hb7⟩
            · refine ⟨rfl, fun _ ρ X9 d hg ho hc hf hr => ?_, fun e => absurd e (by decide)⟩
              obtain ⟨Y, cad, ccap, e, z1, z2, z⟩ : ∃ Y cad ccap, (ρ (.tmp 54)) = .pointer (some ⟨Y, 0, none⟩) ∧ V.heap.size ≤ Y ∧ X9.heap[Y]? = some (.cells #[.string r.key, .slice cad r.list.length ccap] 129 (0, 0)) ∧ X9.ownsRow V.heap.size 125 3 (.slice cad r.list.length ccap) r.list.length (veC r.list) := hr 11 54 rfl rfl
              have hb7 : Below X9.heap.size X9 (X9.alloc (.cells #[.pointer (some ⟨Y, 0, none⟩)] 126)) := (Below.refl _ X9).alloc (Nat.le_refl _) _
              exact Runs.val _ (op_s114 e) ⟨⟨hg.1.below hb7, fun z => (hg.2 z).trans (hb7.mono (hg.2 z).size)⟩, hb7, X9.heap.size, Y, cad, ccap, rfl, hg.1.size, heap_alloc_new X9 _, z1, (hb7.block _ (blk_lt z2)).trans z2, own_below z hb7⟩
            · refine ⟨rfl, fun e => absurd rfl e, fun _ ρ X9 hg ho hc hf hr => ?_⟩
              obtain ⟨Y3, Y, cad, ccap, e, q1, q2, z1, z2, z⟩ : ∃ Y3 Y cad ccap, (ρ (.tmp 55)) = lv1 Y3 ∧ V.heap.size ≤ Y3 ∧ X9.heap[Y3]? = some (.cells #[.pointer (some ⟨Y, 0, none⟩)] 126 (0, 0)) ∧ V.heap.size ≤ Y ∧ X9.heap[Y]? = some (.cells #[.string r.key, .slice cad r.list.length ccap] 129 (0, 0)) ∧ X9.ownsRow V.heap.size 125 3 (.slice cad r.list.length ccap) r.list.length (veC r.list) := hr 12 55 rfl rfl
              have hbX := hg.2 rfl
              obtain ⟨ad9, cap9, w9, hrun, o9, g9, t9⟩ := run_pt (m := 1) (c := 1) (news := [.pointer (some ⟨Y, 0, none⟩)]) (own_below HSV.out.rows hbX) (Nat.zero_le _) (.inr ⟨⟨Y3, 0, none⟩, rfl, rfl, fun j u hu => by
                rw [add_at, Nat.zero_add, cell_blk q2]
                simpa using hu⟩) (fun u hu => by rw [List.mem_singleton.1 hu]; rfl) (by omega)
              have f9 : Fr X9 w9 (fun j => (Value.slice rad G.length rcap).ownBlock = some j) := Fr.grown (Fr.refl X9 _) g9 (fun j hj => .inl hj)
              exact Runs.val _ (op_append114 (show ρ (.tmp 47) = (.slice rad G.length rcap) from hr 4 47 rfl rfl) e hrun) ⟨⟨hg.1.trans f9, fun z => by cases z⟩, f9, ad9, cap9, Y, cad, ccap, rfl, o9, fun j e => (by
                rcases t9 with t9 | t9
                · rw [t9] at e; exact .inl e
                · rw [t9] at e; cases e; exact .inr hbX.size), hg.1.trans f9, z1, (f9.block _ (blk_lt z2) (fun e => by have z9 := HRL.out _ e; omega)).trans z2, row_keep z f9 (fun k hk e => by have z8 := (z.lt k hk).1; have z9 := HRL.out k e; omega)⟩
            · exact ⟨rfl, fun _ ρ X9 d hg ho hc hf hr => Runs.val _ (op_nil (show ρ (.tmp 43) = .pointer (some ⟨A, 0, none⟩) from hr 0 43 rfl rfl)) ⟨hg, Below.refl _ _, rfl⟩, fun e => absurd e (by decide)⟩
            · exact ⟨rfl, fun _ ρ X9 d hg ho hc hf hr => Runs.val _ (op_f116_0 (show ρ (.tmp 57) = .pointer (some ⟨A, 0, none⟩) from hr 14 57 rfl rfl)) ⟨hg, Below.refl _ _, rfl⟩, fun e => absurd e (by decide)⟩
          case la =>
            refine ⟨rfl, fun ρ X9 hg ho hc hf hr => ?_⟩
            obtain ⟨ad9, cap9, Y, cad, ccap, e, o1, o2, o3, z1, z2, z⟩ : ∃ ad9 cap9 Y cad ccap, (ρ (.tmp 56)) = .slice ad9 (G.length + 1) cap9 ∧ X9.ownsRow 0 126 1 (ρ (.tmp 56)) (G.length + 1) (G.map gP ++ [Value.pointer (some ⟨Y, 0, none⟩)]) ∧ (∀ j, ((ρ (.tmp 56))).ownBlock = some j → (Value.slice rad G.length rcap).ownBlock = some j ∨ V.heap.size ≤ j) ∧ Fr V X9 (fun j => (Value.slice rad G.length rcap).ownBlock = some j) ∧ V.heap.size ≤ Y ∧ X9.heap[Y]? = some (.cells #[.string r.key, .slice cad r.list.length ccap] 129 (0, 0)) ∧ X9.ownsRow V.heap.size 125 3 (.slice cad r.list.length ccap) r.list.length (veC r.list) := hr 13 56 (by decide) rfl
            rw [e] at o1 o2
            have hA9 := (o3.block A (blk_lt HSV.out.ob) hnA).trans HSV.out.ob
            exact Runs.skips (op_store114 (show ρ (.tmp 58) = .pointer (some ⟨A, 0, none⟩) from hr 15 58 (by decide) rfl) e (cell_blk hA9 0) (frozen_blk hA9 0)) ⟨ad9, cap9, Y, cad, ccap, X9, rfl, o1, o2, o3, z1, z2, z⟩
          case en =>
            intro a X9 Xb v9 hF hs hd ho hv9 hr
            obtain ⟨x, hx, hxt⟩ := act_put hs hd ho
            change a = putAll _ x [43, 44, 45, 46, 47, 48, 49, 50, 51, 52, 53, 54, 55, 56, 57, 58] at hx
            simp only [putAll, Act.put, List.setIfInBounds_toArray, List.set_cons_zero, List.set_cons_succ] at hx
            obtain ⟨ad9, cap9, Y, cad, ccap, X8, rfl, o1, o2, o3, z1, z2, z⟩ := hF
            obtain ⟨q1, q2⟩ := HSV.out.snoc (r := r) o3 o1 o2 z z2 z1 HOKN.out hfew (by omega)
            have HA : Hid (LJ w L A (X8.setCell ⟨A, 0, none⟩ (.slice ad9 (G.length + 1) cap9)) (.int .i64 ((j + 1 : Nat) : Int))) := by
              refine ⟨j + 1, _, _, _, hlt, rfl, q1, ?_, fun k q => ?_, ?_⟩
              · rw [List.map_append]
                exact HNX.out
              · exact gro_fresh HLO.out HBW.out.size k q
              · exact fr_below HLO.out HBW.out q2
            clear hs hd ho hr hv9 hxt o1 o2 o3 z1 z2 z q1 q2
            subst hx
            go_wp2
            go_roundw
            case rel => exact HA.out
            case measure => simp [intOf]; omega
        · have k1 : ¬ ((j : Int) < L.length) := by omega
          have ej : j = L.length := by omega
          have HA : Hid (LoadAns w L (.returned (.tuple #[.pointer (some ⟨A, 0, none⟩), .int .i64 0])) U) := by
            refine ⟨hbw, .inl ⟨HOK.out, A, S, rfl, ⟨G, rv, hsv, ?_⟩, hlo⟩⟩
            rw [hGL, ej, List.take_length]
          clear hsv hGL hlo hbw hGl ej
          go_wp2
          refine bodyPost_ret (v := .tuple #[.pointer (some ⟨A, 0, none⟩), .int .i64 0]) (by simp [results, Try.results44, go_sem]) rfl ?_
          exact HA.out
end
end Go.Proofs.Ytcoaahlakkghhaa
