import Derived.Test.YtongmhfpoopebaaGreatUk
import Derived.Test.YtongmhfpoopebaaGreatBo
import Derived.Test.YtongmhfpoopebaaGreatCk
import Derived.Test.YtongmhfpoopebaaGreatJz
import Derived.Test.YtongmhfpoopebaaGreatHz
import Derived.Test.YtongmhfpoopebaaGreatPw
import Derived.RegionTactic
/- A region whose order is drawn, that reads what it writes behind: whatever has not come up yet has not written. -/
namespace Go.Proofs.YtongmhfpoopebaaGreat
section
variable {P : Program} {ops : Array Oper} {Q : Exit → Act → World → Prop}
/-- What is asked of an operation: it is carried out, and leaves what it leaves; or its condition is against it. -/
def OpFo (P : Program) (ops : Array Oper) (a0 : Act) (G : (Nat → Bool) → World → Prop) (S : World → World → Prop) (R : List (Value → World → Prop)) (i : Nat) (o : Oper) : Prop :=
  ∀ ρ w fl, G fl w → fl i = false → Led ops fl → (∀ j, depOn o j = true → fl j = true) → (∀ t, outer ops t = true → ρ (.tmp t) = a0.eval (.tmp t)) → (∀ j t, dstOf ops j = some t → fl j = false → ρ (.tmp t) = a0.eval (.tmp t)) → (∀ x, ρ (.const x) = x) → (∀ f, ρ (.func f) = .func (.func f) #[] #[]) →
    (∀ j t, depOn o j = true → dstOf ops j = some t → R.getD j (fun _ _ => True) (ρ (.tmp t)) w) →
    (plainOp o ∧ Runs P o ρ w fun v w' => G (upd fl i) w' ∧ S w w' ∧ R.getD i (fun _ _ => True) v w') ∨
    (∃ j t c, onlyIf o j c ∧ dstOf ops j = some t ∧ ρ (.tmp t) = .bool c ∧ Runs P o ρ w fun v w' => G (upd fl i) w' ∧ S w w' ∧ R.getD i (fun _ _ => True) v w') ∨
    (∃ j t c, onlyIf o j c ∧ dstOf ops j = some t ∧ ρ (.tmp t) ≠ .bool c ∧ G (upd fl i) w ∧ S w w ∧ R.getD i (fun _ _ => True) undef w)
/-- **Whatever order is drawn**: each operation has left what it leaves. -/
theorem wp_region_fo {id : Nat} {a0 : Act} {w0 : World} (G : (Nat → Bool) → World → Prop) (S : World → World → Prop) (R : List (Value → World → Prop))
    (hm : P.follows .mixedOrders = true) (hd : dstsOk ops a0.tmps.size = true) (haf : afterOkB ops = true) (hst : Stable S R) (hg : G (fun _ => false) w0.drew)
    (hops : AllOps (OpFo P ops a0 G S R) 0 ops.toList)
    (he : ∀ (a : Act) (w : World) (fl : Nat → Bool), (∀ j, j < ops.size → fl j = true) → G fl w → a.tmps.size = a0.tmps.size → a.defers = a0.defers → (∀ t, outer ops t = true → a.tmps.getD t undef = a0.tmps.getD t undef) →
      (∀ j t, dstOf ops j = some t → R.getD j (fun _ _ => True) (a.tmps.getD t undef) w) → Q .normal a w) :
    (Code.region id ops true).wp P Q a0 w0 := by
  refine wp_region_any hm (wpAny_kept (fun l a w => G (fun j => l.getD j false) w ∧ KeptIn ops a0 (fun _ => True) R l a w) ?_ ?_ _ _ _ _ (left_replicate _) ?_)
  · intro l a w i ⟨hG, hk⟩ hi
    obtain ⟨hl, o, ho, hall⟩ := mem_ready.1 hi
    have hok : OpFo P ops a0 G S R i o := by
      have := hops.get (k := i) (o := o) (by rw [Array.getElem?_toList]; exact ho)
      rwa [Nat.zero_add] at this
    have hun := unlisted hk.sz ho hl
    have hil : i < l.size := by rw [hk.sz]; exact (Array.getElem?_eq_some_iff.1 ho).1
    have hrun := hok a.eval w (fun j => l.getD j false) hG hun (fun k ok j hok hdep hfl => by
      obtain ⟨e, he, rfl, hb⟩ := depOn_some hdep
      exact hk.dn k ok hok hfl e he hb) (fun j hdep => by
      obtain ⟨e, he, rfl, hb⟩ := depOn_some hdep
      exact hall e he hb) (fun t ht => by
      rw [eval_tmp, eval_tmp]
      exact hk.out t fun j oj hj _ q => outer_not ht hj q) (fun j t hdj hfl => by
      rw [eval_tmp, eval_tmp]
      refine hk.out t fun j' oj hj hl' q => ?_
      obtain ⟨oj2, hj2, hdj2⟩ := dstOf_some hdj
      unfold dstsOk at hd
      simp only [Bool.and_eq_true, decide_eq_true_eq] at hd
      have e : j' = j := nodup_filterMap hd.1 (by rw [Array.getElem?_toList]; exact hj) (by rw [Array.getElem?_toList]; exact hj2) q hdj2
      rw [e] at hl'
      rw [hfl] at hl'
      cases hl') (fun _ => rfl) (fun _ => rfl) (fun j t hj hdj => by
      obtain ⟨e, he, rfl, hb⟩ := depOn_some hj
      obtain ⟨oj, hoj, hdj⟩ := dstOf_some hdj
      rw [eval_tmp]
      exact hk.is _ oj t hoj (hall e he hb) hdj)
    have hK : ∀ v w', G (upd (fun j => l.getD j false) i) w' ∧ S w w' ∧ R.getD i (fun _ _ => True) v w' → G (fun j => (l.setIfInBounds i true).getD j false) w' ∧ KeptIn ops a0 (fun _ => True) R (l.setIfInBounds i true) (a.put o.dst v) w' := fun v w' ⟨h1, h2, h3⟩ => by
      rw [upd_is hil]
      exact ⟨h1, hk.next hd hst ho hall trivial h2 h3⟩
    unfold wpOp
    simp only [ho]
    have go : (Runs P o a.eval w fun v w' => G (upd (fun j => l.getD j false) i) w' ∧ S w w' ∧ R.getD i (fun _ _ => True) v w') → o.wp P a w (fun a' w' => G (fun j => (l.setIfInBounds i true).getD j false) w' ∧ KeptIn ops a0 (fun _ => True) R (l.setIfInBounds i true) a' w') Q := fun hrun => by
      unfold Oper.wp
      rcases hrun with ⟨v, w', hv, h⟩ | ⟨w', hv, h⟩ | ⟨f, args, w1, hv, hc⟩
      · rw [hv]
        exact hK _ _ h
      · rw [hv]
        exact hK _ _ h
      · rw [hv]
        refine hc.mono ?_
        rintro e w' ⟨v, rfl, h⟩
        exact hK _ _ h
    rcases hrun with ⟨hgd, hrun⟩ | ⟨j, t, c, hgd, hdj, hv, hrun⟩ | ⟨j, t, c, hgd, hdj, hv, h⟩
    · rw [if_pos (wanted_none hgd _)]
      exact .inl (go hrun)
    · rw [if_pos (by rw [hgd]; simp only [yield_is hdj hv, beq_self_eq_true])]
      exact .inl (go hrun)
    · rw [if_neg (by rw [hgd]; simp only [beq_iff_eq]; exact yield_isnt hdj hv)]
      exact hK _ _ h
  · intro l a w ⟨hG, hk⟩ hr
    have hall := all_listedB haf l hk.sz hr
    refine he a w _ hall hG hk.size hk.defers (fun t ht => hk.out t fun j oj hj _ q => outer_not ht hj q) (fun j t hdj => ?_)
    obtain ⟨oj, hj, hdj⟩ := dstOf_some hdj
    exact hk.is j oj t hj (hall j (Array.getElem?_eq_some_iff.1 hj).1) hdj
  · have hz : (fun m => (Array.replicate ops.size false).getD m false) = fun _ => false := by
      funext m
      cases hc : (Array.replicate ops.size false).getD m false with
      | false => rfl
      | true => exact absurd hc (none_listed _ _)
    refine ⟨?_, ⟨trivial, fun j _ _ hl => absurd hl (none_listed _ j), by simp, rfl, rfl, fun _ _ => rfl, fun j o t hj hl _ => absurd hl (none_listed _ j)⟩⟩
    rw [hz]
    exact hg
end
end Go.Proofs.YtongmhfpoopebaaGreat

/- Check. -/
namespace Go.Proofs.YtongmhfpoopebaaGreat
open Go.RowKit Go.Maps
section
variable {w : World}
set_option maxHeartbeats 1000000 in
set_option maxRecDepth 100000 in
theorem checkS_any {s : Sc} {tv : Value} (hL : Lr tbE 5 w s.tabs tv) (hI : ∀ t ∈ s.tabs, ∀ i ∈ idsT t, I64 i) : Calls Tryz.prog 13 #[scV s tv] w fun e w' => e = .returned (.int .i64 (if rightS s = true then 0 else 100)) ∧ Below w.heap.size w w' := by
  obtain ⟨ta, tc, rfl, hr0⟩ := hL
  have hL : Lr tbE 5 w s.tabs (.slice ta s.tabs.length tc) := ⟨ta, tc, rfl, hr0⟩
  obtain ⟨W, hW⟩ : ∃ W, W = w.alloc (.cells #[.int .i64 s.ver, .int .i64 s.last, .slice ta s.tabs.length tc] 24) := ⟨_, rfl⟩
  have hbW : Below w.heap.size w W := by rw [hW]; exact (Below.refl _ w).alloc (Nat.le_refl _) _
  obtain ⟨Y0, hY0⟩ : ∃ Y0, w.heap.size = Y0 := ⟨_, rfl⟩
  have jY0 : W.heap[Y0]? = some (.cells #[.int .i64 s.ver, .int .i64 s.last, .slice ta s.tabs.length tc] 24 (0, 0)) := by
    have := heap_alloc_new w (.cells #[.int .i64 s.ver, .int .i64 s.last, .slice ta s.tabs.length tc] 24)
    rw [hW, ← hY0]
    exact this
  have hr := right_sch (hL.on tbE_held hbW) hI
  have d0 : W.cell? ⟨Y0, 0, none⟩ = some (.int .i64 s.ver) := cell_blk jY0 0
  have d1 : W.cell? ⟨Y0, 1, none⟩ = some (.int .i64 s.last) := cell_blk jY0 1
  have d2 : W.cell? ⟨Y0, 2, none⟩ = some (.slice ta s.tabs.length tc) := cell_blk jY0 2
  have HW := Lib.hid hW
  have HBW := Lib.hid hbW
  have HY0 := Lib.hid hY0
  clear hW hbW hY0 jY0 hL hr0 hI
  obtain ⟨er, her⟩ : ∃ er : Int, er = (if rightS s = true then 0 else 100) := ⟨_, rfl⟩
  rw [← her]
  have HER := Lib.hid her
  clear her
  go_enter Tryz.func13, Tryz.ntmps13
  go_upto_region 1 with fail
  rw [← HW.out, HY0.out]
  cases q1 : rightS s with
  | false =>
    rw [q1] at hr
    have HE : Hid (er = 100) := by rw [HER.out, q1]; exact Lib.hid rfl
    clear q1
    go_wp2_with (go_at_call 33; refine hr.mono ?_; rintro e w1 ⟨rfl, b1⟩)
    go_ret
    exact ⟨by rw [HE.out]; rfl, bgo HBW.out b1⟩
  | true =>
    rw [q1] at hr
    have HE : Hid (er = 0) := by rw [HER.out, q1]; exact Lib.hid rfl
    clear q1
    go_wp2_with (go_at_call 33; refine hr.mono ?_; rintro e w1 ⟨rfl, b1⟩)
    go_ret
    exact ⟨by rw [HE.out]; rfl, bgo HBW.out b1⟩
end
end Go.Proofs.YtongmhfpoopebaaGreat

/- The law SchemaUndo. -/
namespace Go.Proofs.YtongmhfpoopebaaGreat
open Go.RowKit Go.Maps
section
variable {w : World}
theorem op_slice53hi {ρ : Operand → Value} {X : World} {d : Option Tmp} {ty : TypeId} {ps : String} {af : Array Edge} {g : Option (Nat × Bool)} {x y : Operand} {v1 v2 v' : Value} (hx : ρ x = v1) (hy : ρ y = v2) (hrun : ∀ X : World, (Instr.sliceAt 53 v1 none (some v2) none).run Tryz.prog X = .ok v' X) : (execOp ρ ⟨d, .slice 53 x none (some y) none, ty, ps, af, g⟩).run Tryz.prog X = .ok (.value v') X := by
  simp only [execOp, Option.map_some, Option.map_none, hx, hy, Sem.run_bind, hrun, Result.andThen_ok, Sem.run_pure]
theorem scE_held : Held scE := fun _ _ _ _ hb h => by
  obtain ⟨tv, e, h⟩ := h
  exact ⟨tv, e, h.on tbE_held hb⟩
theorem op_sub3 {ρ : Operand → Value} {X : World} {d : Option Tmp} {ty : TypeId} {ps : String} {af : Array Edge} {g : Option (Nat × Bool)} {x y : Operand} {n m r : Int} (e : ρ x = .int .i64 n) (e2 : ρ y = .int .i64 m) (h : n - m = r) (h1 : -9223372036854775808 ≤ r) (h2 : r ≤ 9223372036854775807) : (execOp ρ ⟨d, .binOp .sub 3 x y 3, ty, ps, af, g⟩).run Tryz.prog X = .ok (.value (.int .i64 r)) X := by
  subst h
  simp only [execOp, e, e2]
  go_simp
  rw [IntKind.wrap_i64]
  omega
theorem last_at {α : Type} {l : List α} {u : α} (h : l.getLast? = some u) : ∃ (q : Nat) (hq : q < l.length), l[q] = u ∧ l.length = q + 1 := by
  rw [List.getLast?_eq_getElem?] at h
  obtain ⟨hq, e⟩ := List.getElem?_eq_some_iff.1 h
  exact ⟨_, hq, e, by omega⟩
theorem wk_len (s : Sc) (d : Dd) : ∀ L : List Mv, (wk s d L).1.length ≤ L.length
  | [] => by rw [wk]; simp
  | m :: r => by
    rw [wk]
    split
    · split
      · simp
      · rename_i s' _
        have := wk_len s' d r
        simpa using this
    · have := wk_len s d r
      simpa using this
/-- Amid the two stores. -/
structure GU (w8 : World) (D : Nat) (v0 v0' v1 v1' zv : Value) (b5 b7 : Bool) (X : World) : Prop where
  b : Below w8.heap.size w8 X
  a : X.heap[D]? = some (.cells #[bif b5 then v0' else v0, bif b7 then v1' else v1, zv] 24 (0, 0))
theorem GU.set0 {w8 : World} {D : Nat} {v0 v0' v1 v1' zv : Value} {b5 b7 : Bool} {X : World} (h : GU w8 D v0 v0' v1 v1' zv b5 b7 X) (hD : w8.heap.size ≤ D) : GU w8 D v0 v0' v1 v1' zv true b7 (X.setCell ⟨D, 0, none⟩ v0') where
  b := ((Fr.ofBelow (fun _ => False) h.b).set (.inr hD) _).fresh (fun _ q => q.elim)
  a := set_blk h.a _
theorem GU.set1 {w8 : World} {D : Nat} {v0 v0' v1 v1' zv : Value} {b5 b7 : Bool} {X : World} (h : GU w8 D v0 v0' v1 v1' zv b5 b7 X) (hD : w8.heap.size ≤ D) : GU w8 D v0 v0' v1 v1' zv b5 true (X.setCell ⟨D, 1, none⟩ v1') where
  b := ((Fr.ofBelow (fun _ => False) h.b).set (.inr hD) _).fresh (fun _ q => q.elim)
  a := set_blk h.a _
/-- The first moves of a path. -/
theorem mv_take {X : World} {L : List Mv} {a : Option Addr} {n c i : Nat} (hn : n = L.length) (h : Lr mvE 2 X L (.slice a n c)) (hi : i ≤ n) : Lr mvE 2 X (L.take i) (.slice a (L.take i).length c) := by
  subst hn
  obtain ⟨a1, c1, e, h0, h1, h2, h3⟩ := h
  cases e
  have hl : (L.take i).length = i := by rw [List.length_take]; omega
  refine ⟨a, c, rfl, h0, by omega, h2, fun j hj => ?_⟩
  obtain ⟨b, o, cs, q1, q2, q3, q4, q5⟩ := h3 j (by omega)
  refine ⟨b, o, cs, q1, q2, ?_, q4, q5⟩
  rw [List.getElem_take]
  exact q3
theorem _root_.Go.Proofs.YtongmhfpoopebaaGreat.Lr.cells {α : Type} {E : World → α → List Value → Prop} {c : Nat} {X : World} {L : List α} {a : Option Addr} {n m : Nat} (h : Lr E c X L (.slice a n m)) : ∀ i (h : i < L.length), ∃ b o cs, a = some ⟨b, o, none⟩ ∧ b < X.heap.size ∧ E X L[i] cs ∧ cs.length = c ∧ ∀ j u, cs[j]? = some u → X.cell? ⟨b, o + i * c + j, none⟩ = some u := by
  obtain ⟨a1, c1, e, h0, h1, h2, h3⟩ := h
  cases e
  exact h3
theorem _root_.Go.Proofs.YtongmhfpoopebaaGreat.Lr.room {α : Type} {E : World → α → List Value → Prop} {c : Nat} {X : World} {L : List α} {a : Option Addr} {n m : Nat} (h : Lr E c X L (.slice a n m)) : n ≤ m := by
  obtain ⟨a1, c1, e, h0, h1, h2, h3⟩ := h
  cases e
  exact h1
set_option maxHeartbeats 16000000 in
set_option maxRecDepth 100000 in
theorem undo_law {s : Sc} {tv : Value} {d : Dd} {da : Option Addr} {dc : Nat} (hL : Lr tbE 5 w s.tabs tv) (hI : ScIn s) (hQ : ScQ s) (hd : Lr colE 7 w d.cols (.slice da d.cols.length dc)) (hdz : d.cols.length * 72 ≤ 140737488355328) : Calls Tryz.prog 6 #[scV s tv, .agg #[.int .i64 d.kind, .string d.table, .string d.name, .string d.column, .string d.parent, .bool d.uq, .int .i64 d.ty, .int .i64 d.df.k, .int .i64 d.df.n, .string d.df.s, .slice da d.cols.length dc]] w fun e w' => e = .returned (.bool true) ∧ Below w.heap.size w w' := by
  obtain ⟨ta, tc, rfl, hr0⟩ := hL
  have hL : Lr tbE 5 w s.tabs (.slice ta s.tabs.length tc) := ⟨ta, tc, rfl, hr0⟩
  obtain ⟨dd, hdd⟩ : ∃ dd : Array Value, dd = #[.int .i64 d.kind, .string d.table, .string d.name, .string d.column, .string d.parent, .bool d.uq, .int .i64 d.ty, .int .i64 d.df.k, .int .i64 d.df.n, .string d.df.s, .slice da d.cols.length dc] := ⟨_, rfl⟩
  obtain ⟨W, hW⟩ : ∃ W, W = (w.alloc (.cells #[.int .i64 s.ver, .int .i64 s.last, .slice ta s.tabs.length tc] 24)).alloc (.cells dd 31) := ⟨_, rfl⟩
  have hbW : Below w.heap.size w W := by rw [hW]; exact ((Below.refl _ w).alloc (Nat.le_refl _) _).alloc (by simp) _
  obtain ⟨Y0, hY0⟩ : ∃ Y0, w.heap.size = Y0 := ⟨_, rfl⟩
  obtain ⟨Y1, hY1⟩ : ∃ Y1, Y0 + 1 = Y1 := ⟨_, rfl⟩
  have j0 : W.heap[Y0]? = some (.cells (scA s (.slice ta s.tabs.length tc)) 24 (0, 0)) := by
    have := heap_alloc_new w (.cells #[.int .i64 s.ver, .int .i64 s.last, .slice ta s.tabs.length tc] 24)
    rw [hW, ← hY0, Below.heap_alloc _ _ _ (by simp only [World.size_alloc]; omega)]
    exact this
  have j1 : W.heap[Y1]? = some (.cells dd 31 (0, 0)) := by
    have := heap_alloc_new (w.alloc (.cells #[.int .i64 s.ver, .int .i64 s.last, .slice ta s.tabs.length tc] 24)) (.cells dd 31)
    simp only [World.size_alloc] at this
    rw [hW, ← hY1, ← hY0]
    exact this
  have haw := awake_any W
  have HGR : Hid (∀ X, Below w.heap.size w X → Calls Tryz.prog 8 #[.agg #[.int .i64 s.ver, .int .i64 s.last, .slice ta s.tabs.length tc], .agg #[.int .i64 d.kind, .string d.table, .string d.name, .string d.column, .string d.parent, .bool d.uq, .int .i64 d.ty, .int .i64 d.df.k, .int .i64 d.df.n, .string d.df.s, .slice da d.cols.length dc]] X (GrAns X (s.tabs.length + d.cols.length + cntN s.tabs ≤ 300))) := Lib.hid fun X hX => by
    refine great_any (hL.on tbE_held hX) (by have := hQ.n; omega) (by omega) (fun t ht => ?_)
    have := hQ.t t ht
    have := this.c
    have := (hQ.t t ht).i
    have := (hQ.t t ht).k
    unfold cntT
    omega
  obtain ⟨rk, hrk⟩ : ∃ rk : Int, (if rightS s = true then (0 : Int) else 100) = rk := ⟨_, rfl⟩
  have HCK : Hid (∀ X, Below w.heap.size w X → Calls Tryz.prog 13 #[.agg #[.int .i64 s.ver, .int .i64 s.last, .slice ta s.tabs.length tc]] X fun e w' => e = .returned (.int .i64 rk) ∧ Below X.heap.size X w') := Lib.hid fun X hX => hrk ▸ checkS_any (hL.on tbE_held hX) (fun t ht i hi => by
    have h := hI.t t ht
    unfold idsT at hi
    rw [List.mem_cons, List.mem_append, List.mem_append] at hi
    rcases hi with rfl | (hi | hi) | hi
    · exact h.id
    · obtain ⟨x, hx, rfl⟩ := List.mem_map.1 hi
      exact (h.c x hx).id
    · obtain ⟨x, hx, rfl⟩ := List.mem_map.1 hi
      exact (h.i x hx).id
    · obtain ⟨x, hx, rfl⟩ := List.mem_map.1 hi
      exact (h.k x hx).id)
  have HST : Hid (∀ X, Below w.heap.size w X → Calls Tryz.prog 17 #[.agg #[.int .i64 s.ver, .int .i64 s.last, .slice ta s.tabs.length tc], .agg #[.int .i64 d.kind, .string d.table, .string d.name, .string d.column, .string d.parent, .bool d.uq, .int .i64 d.ty, .int .i64 d.df.k, .int .i64 d.df.n, .string d.df.s, .slice da d.cols.length dc]] X fun e w' => e = .returned (.int .i64 (stateP s d)) ∧ Below X.heap.size X w') := Lib.hid fun X hX => by
    exact state_ref (hL.on tbE_held hX)
  have HPA : Hid (∀ (X : World) (b : Bool), Calls Tryz.prog 18 #[.agg #[.int .i64 d.kind, .string d.table, .string d.name, .string d.column, .string d.parent, .bool d.uq, .int .i64 d.ty, .int .i64 d.df.k, .int .i64 d.df.n, .string d.df.s, .slice da d.cols.length dc], .bool b] X (MvAns X (pathP d.kind b))) := Lib.hid fun X b => path_any X _ d.kind b rfl
  have HWK : Hid (∀ (X : World) (u : Sc) (uv : Value) (L : List Mv) (pa : Option Addr) (pc : Nat), Below w.heap.size w X → Lr tbE 5 X u.tabs uv → Lr mvE 2 X L (.slice pa L.length pc) → L.length ≤ 100 → wkI u d L → d.cols.length ≤ 1000000 → Calls Tryz.prog 19 #[scV u uv, .agg dd, .slice pa L.length pc] X (WkAns X (u :: (wk u d L).1) (wk u d L).2)) := Lib.hid fun X u uv L pa pc hX h1 h2 h3 h4 h5 => by
    rw [hdd]
    exact walked_any h1 (hd.on colE_held hX) h5 h2 h3 h4
  have HL0 := Lib.hid hL
  have HRK := Lib.hid hrk
  have HI := Lib.hid hI
  have HW := Lib.hid hW
  have HBW := Lib.hid hbW
  have HY0 := Lib.hid hY0
  have HY1 := Lib.hid hY1
  have HDD := Lib.hid hdd
  have JW0 := Lib.hid j0
  have JW1 := Lib.hid j1
  clear hW hbW hY0 hY1 j0 j1 hrk hL hr0 hI hQ hd hdz
  go_enter Tryz.func6, Tryz.ntmps6
  rw [← hdd]
  clear hdd
  go_upto_region 1 with fail
  rw [← HW.out, HY0.out, HY1.out]
  go_wp2_with (go_at_call 7; refine haw.mono ?_; rintro e w1 ⟨rfl, b1⟩; refine Hid.out ?_)
  refine Lib.hid ?_
  have HB1 := Lib.hid (bgo HBW.out b1)
  have JY0 : Hid (w1.heap[Y0]? = some (.cells (scA s (.slice ta s.tabs.length tc)) 24 (0, 0))) := Lib.hid ((b1.block Y0 (blk_lt JW0.out)).trans JW0.out)
  have JY1 : Hid (w1.heap[Y1]? = some (.cells dd 31 (0, 0))) := Lib.hid ((b1.block Y1 (blk_lt JW1.out)).trans JW1.out)
  have c0 : w1.cell? ⟨Y0, 0, none⟩ = some (.int .i64 s.ver) := cell_blk JY0.out 0
  have c1 : w1.cell? ⟨Y0, 1, none⟩ = some (.int .i64 s.last) := cell_blk JY0.out 1
  have c2 : w1.cell? ⟨Y0, 2, none⟩ = some (.slice ta s.tabs.length tc) := cell_blk JY0.out 2
  have yd := JY1.out
  rw [HDD.out] at yd
  have e0 : w1.cell? ⟨Y1, 0, none⟩ = some (.int .i64 d.kind) := cell_blk yd 0
  have e1 : w1.cell? ⟨Y1, 1, none⟩ = some (.string d.table) := cell_blk yd 1
  have e2 : w1.cell? ⟨Y1, 2, none⟩ = some (.string d.name) := cell_blk yd 2
  have e3 : w1.cell? ⟨Y1, 3, none⟩ = some (.string d.column) := cell_blk yd 3
  have e4 : w1.cell? ⟨Y1, 4, none⟩ = some (.string d.parent) := cell_blk yd 4
  have e5 : w1.cell? ⟨Y1, 5, none⟩ = some (.bool d.uq) := cell_blk yd 5
  have e6 : w1.cell? ⟨Y1, 6, none⟩ = some (.int .i64 d.ty) := cell_blk yd 6
  have e7 : w1.cell? ⟨Y1, 7, none⟩ = some (.int .i64 d.df.k) := cell_blk yd 7
  have e8 : w1.cell? ⟨Y1, 8, none⟩ = some (.int .i64 d.df.n) := cell_blk yd 8
  have e9 : w1.cell? ⟨Y1, 9, none⟩ = some (.string d.df.s) := cell_blk yd 9
  have e10 : w1.cell? ⟨Y1, 10, none⟩ = some (.slice da d.cols.length dc) := cell_blk yd 10
  clear yd
  have hgr := HGR.out w1 HB1.out
  clear haw b1 JW0 JW1 HGR
  go_wp2_with (go_at_call 8; refine hgr.mono ?_; rintro e w2 ⟨g, rfl, hP, b2⟩; refine Hid.out ?_)
  refine Lib.hid ?_
  have HB2 := Lib.hid (bgo HB1.out b2)
  have HP := Lib.hid hP
  have JX0 : Hid (w2.heap[Y0]? = some (.cells (scA s (.slice ta s.tabs.length tc)) 24 (0, 0))) := Lib.hid ((b2.block Y0 (blk_lt JY0.out)).trans JY0.out)
  have JX1 : Hid (w2.heap[Y1]? = some (.cells dd 31 (0, 0))) := Lib.hid ((b2.block Y1 (blk_lt JY1.out)).trans JY1.out)
  clear c0 c1 c2 e0 e1 e2 e3 e4 e5 e6 e7 e8 e9 e10 JY0 JY1
  have JY0 := JX0
  have JY1 := JX1
  clear JX0 JX1
  clear hgr hP b2
  cases g with
  | true =>
    have haw := awake_any w2
    go_wp2_with (go_at_call 7; refine haw.mono ?_; rintro e w9 ⟨rfl, b9⟩; refine Hid.out ?_)
    refine Lib.hid ?_
    have HB9 := Lib.hid (bgo HB2.out b9)
    clear haw b9
    go_wp2
    go_ret
    exact ⟨rfl, HB9.out⟩
  | false =>
    have c0 : w2.cell? ⟨Y0, 0, none⟩ = some (.int .i64 s.ver) := cell_blk JY0.out 0
    have c1 : w2.cell? ⟨Y0, 1, none⟩ = some (.int .i64 s.last) := cell_blk JY0.out 1
    have c2 : w2.cell? ⟨Y0, 2, none⟩ = some (.slice ta s.tabs.length tc) := cell_blk JY0.out 2
    have yd := JY1.out
    rw [HDD.out] at yd
    have e0 : w2.cell? ⟨Y1, 0, none⟩ = some (.int .i64 d.kind) := cell_blk yd 0
    have e1 : w2.cell? ⟨Y1, 1, none⟩ = some (.string d.table) := cell_blk yd 1
    have e2 : w2.cell? ⟨Y1, 2, none⟩ = some (.string d.name) := cell_blk yd 2
    have e3 : w2.cell? ⟨Y1, 3, none⟩ = some (.string d.column) := cell_blk yd 3
    have e4 : w2.cell? ⟨Y1, 4, none⟩ = some (.string d.parent) := cell_blk yd 4
    have e5 : w2.cell? ⟨Y1, 5, none⟩ = some (.bool d.uq) := cell_blk yd 5
    have e6 : w2.cell? ⟨Y1, 6, none⟩ = some (.int .i64 d.ty) := cell_blk yd 6
    have e7 : w2.cell? ⟨Y1, 7, none⟩ = some (.int .i64 d.df.k) := cell_blk yd 7
    have e8 : w2.cell? ⟨Y1, 8, none⟩ = some (.int .i64 d.df.n) := cell_blk yd 8
    have e9 : w2.cell? ⟨Y1, 9, none⟩ = some (.string d.df.s) := cell_blk yd 9
    have e10 : w2.cell? ⟨Y1, 10, none⟩ = some (.slice da d.cols.length dc) := cell_blk yd 10
    clear yd
    have hck := HCK.out w2 HB2.out
    go_wp2_with (go_at_call 13; refine hck.mono ?_; rintro e w3 ⟨rfl, b3⟩; refine Hid.out ?_)
    refine Lib.hid ?_
    have HB3 := Lib.hid (bgo HB2.out b3)
    have JX0 : Hid (w3.heap[Y0]? = some (.cells (scA s (.slice ta s.tabs.length tc)) 24 (0, 0))) := Lib.hid ((b3.block Y0 (blk_lt JY0.out)).trans JY0.out)
    have JX1 : Hid (w3.heap[Y1]? = some (.cells dd 31 (0, 0))) := Lib.hid ((b3.block Y1 (blk_lt JY1.out)).trans JY1.out)
    clear c0 c1 c2 e0 e1 e2 e3 e4 e5 e6 e7 e8 e9 e10 JY0 JY1
    have JY0 := JX0
    have JY1 := JX1
    clear JX0 JX1
    clear hck b3 HCK
    cases hR : rightS s with
    | false =>
      have hk0 : rk = 100 := by rw [← HRK.out, hR]; rfl
      subst hk0
      clear hR HRK
      have haw := awake_any w3
      go_wp2_with (go_at_call 7; refine haw.mono ?_; rintro e w9 ⟨rfl, b9⟩; refine Hid.out ?_)
      refine Lib.hid ?_
      have HB9 := Lib.hid (bgo HB3.out b9)
      clear haw b9
      go_wp2
      go_ret
      exact ⟨rfl, HB9.out⟩
    | true =>
      have hk0 : rk = 0 := by rw [← HRK.out, hR]; rfl
      subst hk0
      have HR := Lib.hid hR
      clear hR HRK
      have c0 : w3.cell? ⟨Y0, 0, none⟩ = some (.int .i64 s.ver) := cell_blk JY0.out 0
      have c1 : w3.cell? ⟨Y0, 1, none⟩ = some (.int .i64 s.last) := cell_blk JY0.out 1
      have c2 : w3.cell? ⟨Y0, 2, none⟩ = some (.slice ta s.tabs.length tc) := cell_blk JY0.out 2
      have yd := JY1.out
      rw [HDD.out] at yd
      have e0 : w3.cell? ⟨Y1, 0, none⟩ = some (.int .i64 d.kind) := cell_blk yd 0
      have e1 : w3.cell? ⟨Y1, 1, none⟩ = some (.string d.table) := cell_blk yd 1
      have e2 : w3.cell? ⟨Y1, 2, none⟩ = some (.string d.name) := cell_blk yd 2
      have e3 : w3.cell? ⟨Y1, 3, none⟩ = some (.string d.column) := cell_blk yd 3
      have e4 : w3.cell? ⟨Y1, 4, none⟩ = some (.string d.parent) := cell_blk yd 4
      have e5 : w3.cell? ⟨Y1, 5, none⟩ = some (.bool d.uq) := cell_blk yd 5
      have e6 : w3.cell? ⟨Y1, 6, none⟩ = some (.int .i64 d.ty) := cell_blk yd 6
      have e7 : w3.cell? ⟨Y1, 7, none⟩ = some (.int .i64 d.df.k) := cell_blk yd 7
      have e8 : w3.cell? ⟨Y1, 8, none⟩ = some (.int .i64 d.df.n) := cell_blk yd 8
      have e9 : w3.cell? ⟨Y1, 9, none⟩ = some (.string d.df.s) := cell_blk yd 9
      have e10 : w3.cell? ⟨Y1, 10, none⟩ = some (.slice da d.cols.length dc) := cell_blk yd 10
      clear yd
      have hst := HST.out w3 HB3.out
      go_wp2_with (go_at_call 17; refine hst.mono ?_; rintro e w4 ⟨rfl, b4⟩; refine Hid.out ?_)
      refine Lib.hid ?_
      have HB4 := Lib.hid (bgo HB3.out b4)
      have JX0 : Hid (w4.heap[Y0]? = some (.cells (scA s (.slice ta s.tabs.length tc)) 24 (0, 0))) := Lib.hid ((b4.block Y0 (blk_lt JY0.out)).trans JY0.out)
      have JX1 : Hid (w4.heap[Y1]? = some (.cells dd 31 (0, 0))) := Lib.hid ((b4.block Y1 (blk_lt JY1.out)).trans JY1.out)
      clear c0 c1 c2 e0 e1 e2 e3 e4 e5 e6 e7 e8 e9 e10 JY0 JY1
      have JY0 := JX0
      have JY1 := JX1
      clear JX0 JX1
      clear hst b4 HST
      obtain ⟨sp, hsp⟩ : ∃ sp, stateP s d = sp := ⟨_, rfl⟩
      rw [hsp]
      have HSP := Lib.hid hsp
      clear hsp
      by_cases z0 : sp = 0
      · subst z0
        have c0 : w4.cell? ⟨Y0, 0, none⟩ = some (.int .i64 s.ver) := cell_blk JY0.out 0
        have c1 : w4.cell? ⟨Y0, 1, none⟩ = some (.int .i64 s.last) := cell_blk JY0.out 1
        have c2 : w4.cell? ⟨Y0, 2, none⟩ = some (.slice ta s.tabs.length tc) := cell_blk JY0.out 2
        have yd := JY1.out
        rw [HDD.out] at yd
        have e0 : w4.cell? ⟨Y1, 0, none⟩ = some (.int .i64 d.kind) := cell_blk yd 0
        have e1 : w4.cell? ⟨Y1, 1, none⟩ = some (.string d.table) := cell_blk yd 1
        have e2 : w4.cell? ⟨Y1, 2, none⟩ = some (.string d.name) := cell_blk yd 2
        have e3 : w4.cell? ⟨Y1, 3, none⟩ = some (.string d.column) := cell_blk yd 3
        have e4 : w4.cell? ⟨Y1, 4, none⟩ = some (.string d.parent) := cell_blk yd 4
        have e5 : w4.cell? ⟨Y1, 5, none⟩ = some (.bool d.uq) := cell_blk yd 5
        have e6 : w4.cell? ⟨Y1, 6, none⟩ = some (.int .i64 d.ty) := cell_blk yd 6
        have e7 : w4.cell? ⟨Y1, 7, none⟩ = some (.int .i64 d.df.k) := cell_blk yd 7
        have e8 : w4.cell? ⟨Y1, 8, none⟩ = some (.int .i64 d.df.n) := cell_blk yd 8
        have e9 : w4.cell? ⟨Y1, 9, none⟩ = some (.string d.df.s) := cell_blk yd 9
        have e10 : w4.cell? ⟨Y1, 10, none⟩ = some (.slice da d.cols.length dc) := cell_blk yd 10
        clear yd
        by_cases zv : 562949953421312 < s.ver
        · have zv' : decide (562949953421312 < s.ver) = true := decide_eq_true zv
          have haw := awake_any w4
          go_wp2_with (go_at_call 7; refine haw.mono ?_; rintro e w9 ⟨rfl, b9⟩; refine Hid.out ?_)
          refine Lib.hid ?_
          have HB9 := Lib.hid (bgo HB4.out b9)
          clear haw b9
          go_wp2
          go_ret
          exact ⟨rfl, HB9.out⟩
        · have zv' : decide (562949953421312 < s.ver) = false := decide_eq_false zv
          by_cases zl : 562949953421312 < s.last
          · have zl' : decide (562949953421312 < s.last) = true := decide_eq_true zl
            have haw := awake_any w4
            go_wp2_with (go_at_call 7; refine haw.mono ?_; rintro e w9 ⟨rfl, b9⟩; refine Hid.out ?_)
            refine Lib.hid ?_
            have HB9 := Lib.hid (bgo HB4.out b9)
            clear haw b9
            go_wp2
            go_ret
            exact ⟨rfl, HB9.out⟩
          · have zl' : decide (562949953421312 < s.last) = false := decide_eq_false zl
            have HDC : Hid (d.cols.length ≤ 300) := Lib.hid (by have := HP.out trivial; omega)
            have HV : Hid (s.ver ≤ 562949953421312 ∧ s.last ≤ 562949953421312) := Lib.hid ⟨by omega, by omega⟩
            have hpa := HPA.out w4 false
            go_wp2_with (go_at_call 18; refine hpa.mono ?_; rintro e w5 ⟨pa, pc, rfl, hrow, b5⟩; refine Hid.out ?_)
            refine Lib.hid ?_
            have HB5 := Lib.hid (bgo HB4.out b5)
            have JX0 : Hid (w5.heap[Y0]? = some (.cells (scA s (.slice ta s.tabs.length tc)) 24 (0, 0))) := Lib.hid ((b5.block Y0 (blk_lt JY0.out)).trans JY0.out)
            have JX1 : Hid (w5.heap[Y1]? = some (.cells dd 31 (0, 0))) := Lib.hid ((b5.block Y1 (blk_lt JY1.out)).trans JY1.out)
            clear c0 c1 c2 e0 e1 e2 e3 e4 e5 e6 e7 e8 e9 e10 JY0 JY1
            have JY0 := JX0
            have JY1 := JX1
            clear JX0 JX1
            obtain ⟨n, hn⟩ : ∃ n, (pathP d.kind false).length = n := ⟨_, rfl⟩
            have hLm : Lr mvE 2 w5 (onP d.kind) (.slice pa n pc) := by rw [← hn]; exact Lr.own mvL_len hrow
            rw [hn]
            have hn : (onP d.kind).length = n := hn
            have hn5 : n ≤ 5 := by
              rw [← hn]
              unfold onP
              repeat' split
              all_goals simp
            have HLM := Lib.hid hLm
            have HN := Lib.hid hn
            have HX := Lib.hid hLm.cells
            have hcap := hLm.room
            have hnm : (n : Int) ≤ 9223372036854775807 := by omega
            clear hpa hrow b5 hLm hn zv zl zv' zl' HP
            go_wp2
            go_loopw [6] (fun iv wr => ∃ i : Nat, i ≤ n ∧ iv = .int .i64 (i : Int) ∧ (∀ j (hj : j < (onP d.kind).length), j < i → (onP d.kind)[j].1 ≠ 4) ∧ wr = w5) (fun iv _ => n - (intOf iv).toNat)
            case atStart => exact ⟨0, Nat.zero_le _, rfl, fun j _ hj => absurd hj (Nat.not_lt_zero _), by first | rfl | trivial⟩
            case round =>
              obtain ⟨i, hi, rfl, hno, hwr⟩ := hrel
              have hV : w5 = wr := hwr.symm
              clear hwr
              subst hV
              have HNO := Lib.hid hno
              have hpb := HPA.out w5 true
              clear hno
              have c0 : w5.cell? ⟨Y0, 0, none⟩ = some (.int .i64 s.ver) := cell_blk JY0.out 0
              have c1 : w5.cell? ⟨Y0, 1, none⟩ = some (.int .i64 s.last) := cell_blk JY0.out 1
              have c2 : w5.cell? ⟨Y0, 2, none⟩ = some (.slice ta s.tabs.length tc) := cell_blk JY0.out 2
              have yd := JY1.out
              rw [HDD.out] at yd
              have e0 : w5.cell? ⟨Y1, 0, none⟩ = some (.int .i64 d.kind) := cell_blk yd 0
              have e1 : w5.cell? ⟨Y1, 1, none⟩ = some (.string d.table) := cell_blk yd 1
              have e2 : w5.cell? ⟨Y1, 2, none⟩ = some (.string d.name) := cell_blk yd 2
              have e3 : w5.cell? ⟨Y1, 3, none⟩ = some (.string d.column) := cell_blk yd 3
              have e4 : w5.cell? ⟨Y1, 4, none⟩ = some (.string d.parent) := cell_blk yd 4
              have e5 : w5.cell? ⟨Y1, 5, none⟩ = some (.bool d.uq) := cell_blk yd 5
              have e6 : w5.cell? ⟨Y1, 6, none⟩ = some (.int .i64 d.ty) := cell_blk yd 6
              have e7 : w5.cell? ⟨Y1, 7, none⟩ = some (.int .i64 d.df.k) := cell_blk yd 7
              have e8 : w5.cell? ⟨Y1, 8, none⟩ = some (.int .i64 d.df.n) := cell_blk yd 8
              have e9 : w5.cell? ⟨Y1, 9, none⟩ = some (.string d.df.s) := cell_blk yd 9
              have e10 : w5.cell? ⟨Y1, 10, none⟩ = some (.slice da d.cols.length dc) := cell_blk yd 10
              clear yd
              by_cases hlt : i < n
              · have hiL : i < (onP d.kind).length := by rw [HN.out]; exact hlt
                have k0 : (0 : Int) ≤ i := by omega
                have k1 : (i : Int) < n := by omega
                obtain ⟨b, p, cs, rfl, hbl, hE, _, hcell⟩ := HX.out i hiL
                cases hE
                obtain ⟨mk, hmk⟩ : ∃ m, (onP d.kind)[i].1 = m := ⟨_, rfl⟩
                have q0 : w5.cell? ⟨b, p + i * 2, none⟩ = some (.int .i64 mk) := by rw [← hmk]; exact hcell 0 _ rfl
                have HMK := Lib.hid hmk
                clear hcell hbl hmk
                by_cases h4 : mk = 4
                · subst h4
                  have HFA := Lib.hid (fill_at hiL HMK.out HNO.out)
                  go_wp2_with (go_at_call 18; refine hpb.mono ?_; rintro e w6 ⟨qa, qc, rfl, hrow, b6⟩; refine Hid.out ?_)
                  refine Lib.hid ?_
                  have HB6 := Lib.hid (bgo HB5.out b6)
                  have JX0 : Hid (w6.heap[Y0]? = some (.cells (scA s (.slice ta s.tabs.length tc)) 24 (0, 0))) := Lib.hid ((b6.block Y0 (blk_lt JY0.out)).trans JY0.out)
                  have JX1 : Hid (w6.heap[Y1]? = some (.cells dd 31 (0, 0))) := Lib.hid ((b6.block Y1 (blk_lt JY1.out)).trans JY1.out)
                  clear c0 c1 c2 e0 e1 e2 e3 e4 e5 e6 e7 e8 e9 e10 JY0 JY1
                  have JY0 := JX0
                  have JY1 := JX1
                  clear JX0 JX1
                  obtain ⟨m, hm⟩ : ∃ m, (pathP d.kind true).length = m := ⟨_, rfl⟩
                  have hLb : Lr mvE 2 w6 (backP d.kind) (.slice qa m qc) := by rw [← hm]; exact Lr.own mvL_len hrow
                  rw [hm]
                  have hm : (backP d.kind).length = m := hm
                  have hm0 : m ≠ 0 ∧ m ≤ 4 := by
                    rw [← hm]
                    rcases HFA.out.1 with q | q | q <;> rw [q] <;> decide
                  have k3 : ¬ (i : Int) = n := by omega
                  have k4 : ((i : Int) == (n : Int)) = false := by simp; omega
                  have k5 : ¬ (m : Int) = 0 := by omega
                  have k6 : ((m : Int) == 0) = false := by simp; omega
                  have k7 : (m : Int) ≤ 9223372036854775807 := by omega
                  have HLB := Lib.hid hLb
                  have HM := Lib.hid hm
                  have HM0 := Lib.hid hm0
                  have HLT : Hid (Lr mvE 2 w6 (fwP d.kind) (.slice (some ⟨b, p, none⟩) (fwP d.kind).length pc)) := Lib.hid (by
                    have q := mv_take HN.out.symm (HLM.out.on mvE_held b6) hi
                    rwa [HFA.out.2] at q)
                  have hfl : (fwP d.kind).length = i := by rw [← HFA.out.2, List.length_take, HN.out]; omega
                  have HUN := Lib.hid (undo_plain HFA.out.1 HR.out HSP.out HV.out.1 HV.out.2)
                  obtain ⟨l, hl⟩ : ∃ l, s :: (wk s d (fwP d.kind)).1 = l := ⟨_, rfl⟩
                  obtain ⟨fb, hfb⟩ : ∃ fb, (wk s d (fwP d.kind)).2 = fb := ⟨_, rfl⟩
                  obtain ⟨k, hk⟩ : ∃ k, l.length = k := ⟨_, rfl⟩
                  have HC10 : Hid (∀ X, Below w6.heap.size w6 X → Calls Tryz.prog 19 #[scV s (.slice ta s.tabs.length tc), .agg dd, .slice (some ⟨b, p, none⟩) i pc] X fun e w' => ∃ ad cap, e = .returned (.tuple #[.slice ad k cap, .bool fb]) ∧ Lr scE 3 w' l (.slice ad k cap) ∧ Below X.heap.size X w') := Lib.hid fun X hX => by
                    have q := HWK.out X s (.slice ta s.tabs.length tc) (fwP d.kind) (some ⟨b, p, none⟩) pc (bgo HB6.out hX) (HL0.out.on tbE_held (bgo HB6.out hX)) (HLT.out.on mvE_held hX) (by omega) HUN.out.ids (by have := HDC.out; omega)
                    rw [hl, hfb] at q
                    unfold WkAns at q
                    rw [hk, hfl] at q
                    exact q
                  have hsl : ∀ X : World, (Instr.sliceAt 53 (.slice (some ⟨b, p, none⟩) n pc) none (some (.int .i64 (i : Int))) none).run Tryz.prog X = .ok (.slice (some ⟨b, p, none⟩) i pc) X := fun X => by
                    have z : (i : Int) ≤ (pc : Int) := by omega
                    have z2 : ¬ pc = 0 := by omega
                    go_simp
                  have HSL := Lib.hid hsl
                  have HLL := Lib.hid hl
                  have HFB := Lib.hid hfb
                  have HK := Lib.hid hk
                  clear hpb hrow b6 hLb hm q0 hm0 hfl hl hfb hk hsl
                  go_upto_region 10 with fail
                  refine wp_region_fb (fun _ X9 => Below w6.heap.size w6 X9) (fun X9 X' => Below X9.heap.size X9 X') [
                    fun v9 _ => v9 = scV s (.slice ta s.tabs.length tc),
                    fun v9 _ => v9 = .agg dd,
                    fun v9 _ => v9 = .slice (some ⟨b, p, none⟩) n pc,
                    fun v9 _ => v9 = .int .i64 (i : Int),
                    fun v9 _ => v9 = .slice (some ⟨b, p, none⟩) i pc,
                    fun v9 X9 => ∃ ad cap, v9 = .tuple #[.slice ad k cap, .bool fb] ∧ Lr scE 3 X9 l (.slice ad k cap),
                    fun v9 X9 => ∃ ad cap, v9 = .tuple #[.slice ad k cap, .bool fb] ∧ Lr scE 3 X9 l (.slice ad k cap),
                    fun v9 X9 => ∃ ad cap, v9 = .slice ad k cap ∧ Lr scE 3 X9 l (.slice ad k cap),
                    fun v9 _ => v9 = .bool fb,
                    fun v9 X9 => ∃ ad cap, v9 = .slice ad k cap ∧ Lr scE 3 X9 l (.slice ad k cap),
                    fun v9 _ => v9 = .bool fb]
                    (by kernel_rfl) (by kernel_rfl) (by kernel_rfl) ?st ?g0 ?os ?en
                  case st => exact ⟨fun _ _ _ _ h => h, fun _ _ _ _ h => h, fun _ _ _ _ h => h, fun _ _ _ _ h => h, fun _ _ _ _ h => h, (fun _ _ _ hb h => by obtain ⟨a9, c9, e9, h9⟩ := h; exact ⟨a9, c9, e9, h9.on scE_held hb⟩), (fun _ _ _ hb h => by obtain ⟨a9, c9, e9, h9⟩ := h; exact ⟨a9, c9, e9, h9.on scE_held hb⟩), (fun _ _ _ hb h => by obtain ⟨a9, c9, e9, h9⟩ := h; exact ⟨a9, c9, e9, h9.on scE_held hb⟩), fun _ _ _ _ h => h, (fun _ _ _ hb h => by obtain ⟨a9, c9, e9, h9⟩ := h; exact ⟨a9, c9, e9, h9.on scE_held hb⟩), fun _ _ _ _ h => h, trivial⟩
                  case g0 => exact ⟨rfl, rfl, rfl, Nat.le_refl _, fun _ _ => rfl⟩
                  case os =>
                    refine ⟨?_, ?_, ?_, ?_, ?_, ?_, ?_, ?_, ?_, ?_, ?_, trivial⟩
                    · exact fun ρ X9 fl hg hn hl hp ho hc hf hr => .inl ⟨rfl, Runs.val _ (op_loadAt (show ρ (.tmp 2) = .pointer (some ⟨Y0, 0, none⟩) from ho 2 rfl) (load_row ((hg.block Y0 (blk_lt JY0.out)).trans JY0.out) Tryz.underlying24 rfl size24)) ⟨hg, Below.refl _ _, rfl⟩⟩
                    · exact fun ρ X9 fl hg hn hl hp ho hc hf hr => .inl ⟨rfl, Runs.val _ (op_loadAt (show ρ (.tmp 3) = .pointer (some ⟨Y1, 0, none⟩) from ho 3 rfl) (load_row ((hg.block Y1 (blk_lt JY1.out)).trans JY1.out) Tryz.underlying31 rfl (by rw [HDD.out]; exact size31))) ⟨hg, Below.refl _ _, rfl⟩⟩
                    · exact fun ρ X9 fl hg hn hl hp ho hc hf hr => .inl ⟨rfl, Runs.val _ (op_move (show ρ (.tmp 5) = .slice (some ⟨b, p, none⟩) n pc from ho 5 rfl)) ⟨hg, Below.refl _ _, rfl⟩⟩
                    · exact fun ρ X9 fl hg hn hl hp ho hc hf hr => .inl ⟨rfl, Runs.val _ (op_move (show ρ (.tmp 6) = .int .i64 (i : Int) from ho 6 rfl)) ⟨hg, Below.refl _ _, rfl⟩⟩
                    · exact fun ρ X9 fl hg hn hl hp ho hc hf hr => .inl ⟨rfl, Runs.val _ (op_slice53hi (show ρ (.tmp 70) = .slice (some ⟨b, p, none⟩) n pc from hr 2 70 rfl rfl) (show ρ (.tmp 71) = .int .i64 (i : Int) from hr 3 71 rfl rfl) HSL.out) ⟨hg, Below.refl _ _, rfl⟩⟩
                    · refine fun ρ X9 fl hg hn hl hp ho hc hf hr => .inl ⟨rfl, ?_⟩
                      refine Runs.goes 19 #[scV s (.slice ta s.tabs.length tc), .agg dd, .slice (some ⟨b, p, none⟩) i pc] (op_call3 hf (by go_simp) (show ρ (.tmp 68) = scV s (.slice ta s.tabs.length tc) from hr 0 68 rfl rfl) (show ρ (.tmp 69) = .agg dd from hr 1 69 rfl rfl) (show ρ (.tmp 72) = .slice (some ⟨b, p, none⟩) i pc from hr 4 72 rfl rfl)) ((HC10.out X9 hg).mono ?_)
                      rintro e7 w7 ⟨a7, c7, rfl, h7, b7⟩
                      exact ⟨_, rfl, bgo hg b7, b7, a7, c7, rfl, h7⟩
                    · intro ρ X9 fl hg hn hl hp ho hc hf hr
                      obtain ⟨a9, c9, e9, h9⟩ : ∃ ad cap, ρ (.tmp 73) = .tuple #[.slice ad k cap, .bool fb] ∧ Lr scE 3 X9 l (.slice ad k cap) := hr 5 73 rfl rfl
                      exact .inl ⟨rfl, Runs.val _ (op_move e9) ⟨hg, Below.refl _ _, a9, c9, rfl, h9⟩⟩
                    · intro ρ X9 fl hg hn hl hp ho hc hf hr
                      obtain ⟨a9, c9, e9, h9⟩ : ∃ ad cap, ρ (.tmp 67) = .tuple #[.slice ad k cap, .bool fb] ∧ Lr scE 3 X9 l (.slice ad k cap) := hr 6 67 rfl rfl
                      exact .inl ⟨rfl, Runs.val _ (op_extract0 e9) ⟨hg, Below.refl _ _, a9, c9, rfl, h9⟩⟩
                    · intro ρ X9 fl hg hn hl hp ho hc hf hr
                      obtain ⟨a9, c9, e9, h9⟩ : ∃ ad cap, ρ (.tmp 67) = .tuple #[.slice ad k cap, .bool fb] ∧ Lr scE 3 X9 l (.slice ad k cap) := hr 6 67 rfl rfl
                      exact .inl ⟨rfl, Runs.val _ (op_extract1 e9) ⟨hg, Below.refl _ _, rfl⟩⟩
                    · intro ρ X9 fl hg hn hl hp ho hc hf hr
                      obtain ⟨a9, c9, e9, h9⟩ : ∃ ad cap, ρ (.tmp 74) = .slice ad k cap ∧ Lr scE 3 X9 l (.slice ad k cap) := hr 7 74 rfl rfl
                      exact .inl ⟨rfl, Runs.val _ (op_assign e9) ⟨hg, Below.refl _ _, a9, c9, rfl, h9⟩⟩
                    · exact fun ρ X9 fl hg hn hl hp ho hc hf hr => .inl ⟨rfl, Runs.val _ (op_assign (show ρ (.tmp 75) = .bool fb from hr 8 75 rfl rfl)) ⟨hg, Below.refl _ _, rfl⟩⟩
                  case en =>
                    intro a9 w7 fl hfl b7 hs9 hd9 ho9 hr9
                    obtain ⟨x9, hx, hxt⟩ := act_put hs9 hd9 ho9
                    obtain ⟨va, vc, e8, h8⟩ : ∃ ad cap, a9.tmps.getD 8 undef = .slice ad k cap ∧ Lr scE 3 w7 l (.slice ad k cap) := hr9 9 8 rfl
                    have x8 : x9 8 = .slice va k vc := (hxt 8).symm.trans e8
                    have x9' : x9 9 = .bool fb := (hxt 9).symm.trans (hr9 10 9 rfl)
                    change a9 = putAll _ x9 [68, 69, 70, 71, 72, 73, 67, 74, 75, 8, 9] at hx
                    simp only [putAll, Act.put, List.setIfInBounds_toArray, List.set_cons_zero, List.set_cons_succ, x8, x9'] at hx
                    have HB7 := Lib.hid (bgo HB6.out b7)
                    have HS8 := Lib.hid h8
                    clear hs9 hd9 ho9 hr9 hxt x8 x9' e8 h8 hfl
                    subst hx
                    generalize x9 68 = z68, x9 69 = z69, x9 70 = z70, x9 71 = z71, x9 72 = z72, x9 73 = z73, x9 67 = z67, x9 74 = z74, x9 75 = z75
                    have JX0 : Hid (w7.heap[Y0]? = some (.cells (scA s (.slice ta s.tabs.length tc)) 24 (0, 0))) := Lib.hid ((b7.block Y0 (blk_lt JY0.out)).trans JY0.out)
                    have JX1 : Hid (w7.heap[Y1]? = some (.cells dd 31 (0, 0))) := Lib.hid ((b7.block Y1 (blk_lt JY1.out)).trans JY1.out)
                    clear JY0 JY1
                    have JY0 := JX0
                    have JY1 := JX1
                    clear JX0 JX1
                    rcases HUN.out.all with h | ⟨u, z, lb, hu, hT, hI2, hW2, hz, hzt⟩
                    · have e1 : fb = false := by rw [← HFB.out, h]
                      have e2 : k = 1 := by rw [← HK.out, ← HLL.out, h]; rfl
                      subst e1 e2
                      clear b7
                      go_wp2
                      go_ret
                      exact ⟨rfl, HB7.out⟩
                    · have e1 : fb = true := by rw [← HFB.out, hT]
                      subst e1
                      have hu : l.getLast? = some u := by rw [← HLL.out]; exact hu
                      obtain ⟨q, hq, hqu, hqk⟩ := last_at hu
                      obtain ⟨vb, vp, cs, rfl, hvb, hE, hcl, hcell⟩ := HS8.out.cells q hq
                      obtain ⟨uv, rfl, hUL⟩ := hE
                      rw [hqu] at hcell hUL
                      have g0 : w7.cell? ⟨vb, vp + q * 3, none⟩ = some (.int .i64 u.ver) := hcell 0 _ rfl
                      have g1 : w7.cell? ⟨vb, vp + q * 3 + 1, none⟩ = some (.int .i64 u.last) := hcell 1 _ rfl
                      have g2 : w7.cell? ⟨vb, vp + q * 3 + 2, none⟩ = some uv := hcell 2 _ rfl
                      obtain ⟨ua, uc, huv, hsh⟩ := hUL.shape
                      subst huv
                      have HLO : Hid (∀ X, Below w7.heap.size w7 X → (Instr.loadAt 24 (.pointer (some ⟨vb, vp + q * 3, none⟩))).run Tryz.prog X = .ok (scV u (.slice ua u.tabs.length uc)) X) := Lib.hid fun X hX => by
                        have g0 := cell_on hX g0
                        have g1 := cell_on hX g1
                        have g2 := cell_on hX g2
                        unfold scV
                        go_simp
                      obtain ⟨k2, hk2⟩ : ∃ k2, (u :: lb).length = k2 := ⟨_, rfl⟩
                      have hkq : k = q + 1 := by rw [← HK.out, hqk]
                      have hk300 : k ≤ 10 := by
                        have hh := HUN.out
                        have e3 : l.length ≤ 4 := by
                          rw [← HLL.out, List.length_cons]
                          have := wk_len s d (fwP d.kind)
                          have : (fwP d.kind).length ≤ 3 := by unfold fwP; split <;> simp
                          omega
                        rw [← HK.out]; omega
                      have HC13 : Hid (∀ X, Below w7.heap.size w7 X → Calls Tryz.prog 19 #[scV u (.slice ua u.tabs.length uc), .agg dd, .slice qa m qc] X fun e w' => ∃ ad cap, e = .returned (.tuple #[.slice ad k2 cap, .bool true]) ∧ Lr scE 3 w' (u :: lb) (.slice ad k2 cap) ∧ Below X.heap.size X w') := Lib.hid fun X hX => by
                        have hb6X : Below w6.heap.size w6 X := bgo b7 hX
                        have q9 := HWK.out X u (.slice ua u.tabs.length uc) (backP d.kind) qa qc (bgo HB6.out hb6X) (hUL.on tbE_held hX) (by rw [HM.out]; exact HLB.out.on mvE_held hb6X) (by rw [HM.out]; have := HM0.out; omega) hI2 (by have := HDC.out; omega)
                        rw [hW2] at q9
                        unfold WkAns at q9
                        rw [hk2, HM.out] at q9
                        exact q9
                      have HZ := Lib.hid hz
                      have HZT := Lib.hid hzt
                      have HK2 := Lib.hid hk2
                      have HLBK : Hid (k2 ≤ 10) := Lib.hid (by
                        have := wk_len u d (backP d.kind)
                        rw [hW2] at this
                        have h4 := HM0.out.2
                        have h5 := HM.out
                        simp only at this
                        rw [← hk2, List.length_cons]
                        omega)
                      clear hsh hcl hu hT hI2 hW2 hz hzt hcell hqk hvb g0 g1 g2 hUL hk2 b7
                      go_upto_region 13 with fail
                      refine wp_region_fo (fun _ X9 => Below w7.heap.size w7 X9) (fun X9 X' => Below X9.heap.size X9 X') [
                        fun v9 _ => v9 = .slice (some ⟨vb, vp, none⟩) k vc,
                        fun v9 _ => v9 = .slice (some ⟨vb, vp, none⟩) k vc,
                        fun v9 _ => v9 = .int .i64 (k : Int),
                        fun v9 _ => v9 = .int .i64 (q : Int),
                        fun v9 _ => v9 = .pointer (some ⟨vb, vp + q * 3, none⟩),
                        fun v9 _ => v9 = scV u (.slice ua u.tabs.length uc),
                        fun v9 _ => v9 = .agg dd,
                        fun v9 _ => v9 = .slice qa m qc,
                        fun v9 X9 => ∃ ad cap, v9 = .tuple #[.slice ad k2 cap, .bool true] ∧ Lr scE 3 X9 (u :: lb) (.slice ad k2 cap),
                        fun v9 X9 => ∃ ad cap, v9 = .tuple #[.slice ad k2 cap, .bool true] ∧ Lr scE 3 X9 (u :: lb) (.slice ad k2 cap),
                        fun v9 X9 => ∃ ad cap, v9 = .slice ad k2 cap ∧ Lr scE 3 X9 (u :: lb) (.slice ad k2 cap),
                        fun v9 _ => v9 = .bool true,
                        fun v9 X9 => ∃ ad cap, v9 = .slice ad k2 cap ∧ Lr scE 3 X9 (u :: lb) (.slice ad k2 cap),
                        fun v9 _ => v9 = .bool true]
                        (by kernel_rfl) (by kernel_rfl) (by kernel_rfl) ?st ?g0 ?os ?en
                      case st => exact ⟨fun _ _ _ _ h => h, fun _ _ _ _ h => h, fun _ _ _ _ h => h, fun _ _ _ _ h => h, fun _ _ _ _ h => h, fun _ _ _ _ h => h, fun _ _ _ _ h => h, fun _ _ _ _ h => h, (fun _ _ _ hb h => by obtain ⟨a9, c9, e9, h9⟩ := h; exact ⟨a9, c9, e9, h9.on scE_held hb⟩), (fun _ _ _ hb h => by obtain ⟨a9, c9, e9, h9⟩ := h; exact ⟨a9, c9, e9, h9.on scE_held hb⟩), (fun _ _ _ hb h => by obtain ⟨a9, c9, e9, h9⟩ := h; exact ⟨a9, c9, e9, h9.on scE_held hb⟩), fun _ _ _ _ h => h, (fun _ _ _ hb h => by obtain ⟨a9, c9, e9, h9⟩ := h; exact ⟨a9, c9, e9, h9.on scE_held hb⟩), fun _ _ _ _ h => h, trivial⟩
                      case g0 => exact ⟨rfl, rfl, rfl, Nat.le_refl _, fun _ _ => rfl⟩
                      case os =>
                        refine ⟨?_, ?_, ?_, ?_, ?_, ?_, ?_, ?_, ?_, ?_, ?_, ?_, ?_, ?_, trivial⟩
                        · intro ρ X9 fl hg hn hl hp ho ho2 hc hf hr
                          have h12 : fl 12 = false := by
                            cases h : fl 12 with
                            | false => rfl
                            | true => exact absurd (hl 4 _ 0 rfl rfl (hl 5 _ 4 rfl rfl (hl 8 _ 5 rfl rfl (hl 9 _ 8 rfl rfl (hl 10 _ 9 rfl rfl (hl 12 _ 10 rfl rfl h)))))) (by rw [hn]; decide)
                          exact .inl ⟨rfl, Runs.val _ (op_move (show ρ (.tmp 8) = .slice (some ⟨vb, vp, none⟩) k vc from ho2 12 8 rfl h12)) ⟨hg, Below.refl _ _, rfl⟩⟩
                        · intro ρ X9 fl hg hn hl hp ho ho2 hc hf hr
                          have h12 : fl 12 = false := by
                            cases h : fl 12 with
                            | false => rfl
                            | true => exact absurd (hl 2 _ 1 rfl rfl (hl 3 _ 2 rfl rfl (hl 4 _ 3 rfl rfl (hl 5 _ 4 rfl rfl (hl 8 _ 5 rfl rfl (hl 9 _ 8 rfl rfl (hl 10 _ 9 rfl rfl (hl 12 _ 10 rfl rfl h)))))))) (by rw [hn]; decide)
                          exact .inl ⟨rfl, Runs.val _ (op_move (show ρ (.tmp 8) = .slice (some ⟨vb, vp, none⟩) k vc from ho2 12 8 rfl h12)) ⟨hg, Below.refl _ _, rfl⟩⟩
                        · exact fun ρ X9 fl hg hn hl hp ho ho2 hc hf hr => .inl ⟨rfl, Runs.val _ (op_len55 (show ρ (.tmp 83) = .slice (some ⟨vb, vp, none⟩) k vc from hr 1 83 rfl rfl)) ⟨hg, Below.refl _ _, rfl⟩⟩
                        · exact fun ρ X9 fl hg hn hl hp ho ho2 hc hf hr => .inl ⟨rfl, Runs.val _ (op_sub3 (show ρ (.tmp 84) = .int .i64 (k : Int) from hr 2 84 rfl rfl) (hc _) (r := (q : Int)) (by omega) (by omega) (by omega)) ⟨hg, Below.refl _ _, rfl⟩⟩
                        · exact fun ρ X9 fl hg hn hl hp ho ho2 hc hf hr => .inl ⟨rfl, Runs.val _ (op_i55 (show ρ (.tmp 82) = .slice (some ⟨vb, vp, none⟩) k vc from hr 0 82 rfl rfl) (show ρ (.tmp 85) = .int .i64 (q : Int) from hr 3 85 rfl rfl) (by omega)) ⟨hg, Below.refl _ _, rfl⟩⟩
                        · exact fun ρ X9 fl hg hn hl hp ho ho2 hc hf hr => .inl ⟨rfl, Runs.val _ (op_loadAt (show ρ (.tmp 86) = .pointer (some ⟨vb, vp + q * 3, none⟩) from hr 4 86 rfl rfl) (HLO.out X9 hg)) ⟨hg, Below.refl _ _, rfl⟩⟩
                        · exact fun ρ X9 fl hg hn hl hp ho ho2 hc hf hr => .inl ⟨rfl, Runs.val _ (op_loadAt (show ρ (.tmp 3) = .pointer (some ⟨Y1, 0, none⟩) from ho 3 rfl) (load_row ((hg.block Y1 (blk_lt JY1.out)).trans JY1.out) Tryz.underlying31 rfl (by rw [HDD.out]; exact size31))) ⟨hg, Below.refl _ _, rfl⟩⟩
                        · exact fun ρ X9 fl hg hn hl hp ho ho2 hc hf hr => .inl ⟨rfl, Runs.val _ (op_move (show ρ (.tmp 7) = .slice qa m qc from ho 7 rfl)) ⟨hg, Below.refl _ _, rfl⟩⟩
                        · refine fun ρ X9 fl hg hn hl hp ho ho2 hc hf hr => .inl ⟨rfl, ?_⟩
                          refine Runs.goes 19 #[scV u (.slice ua u.tabs.length uc), .agg dd, .slice qa m qc] (op_call3 hf (by go_simp) (show ρ (.tmp 87) = scV u (.slice ua u.tabs.length uc) from hr 5 87 rfl rfl) (show ρ (.tmp 88) = .agg dd from hr 6 88 rfl rfl) (show ρ (.tmp 89) = .slice qa m qc from hr 7 89 rfl rfl)) ((HC13.out X9 hg).mono ?_)
                          rintro e7 w7 ⟨a7, c7, rfl, h7, b7⟩
                          exact ⟨_, rfl, bgo hg b7, b7, a7, c7, rfl, h7⟩
                        · intro ρ X9 fl hg hn hl hp ho ho2 hc hf hr
                          obtain ⟨a9, c9, e9, h9⟩ : ∃ ad cap, ρ (.tmp 90) = .tuple #[.slice ad k2 cap, .bool true] ∧ Lr scE 3 X9 (u :: lb) (.slice ad k2 cap) := hr 8 90 rfl rfl
                          exact .inl ⟨rfl, Runs.val _ (op_move e9) ⟨hg, Below.refl _ _, a9, c9, rfl, h9⟩⟩
                        · intro ρ X9 fl hg hn hl hp ho ho2 hc hf hr
                          obtain ⟨a9, c9, e9, h9⟩ : ∃ ad cap, ρ (.tmp 81) = .tuple #[.slice ad k2 cap, .bool true] ∧ Lr scE 3 X9 (u :: lb) (.slice ad k2 cap) := hr 9 81 rfl rfl
                          exact .inl ⟨rfl, Runs.val _ (op_extract0 e9) ⟨hg, Below.refl _ _, a9, c9, rfl, h9⟩⟩
                        · intro ρ X9 fl hg hn hl hp ho ho2 hc hf hr
                          obtain ⟨a9, c9, e9, h9⟩ : ∃ ad cap, ρ (.tmp 81) = .tuple #[.slice ad k2 cap, .bool true] ∧ Lr scE 3 X9 (u :: lb) (.slice ad k2 cap) := hr 9 81 rfl rfl
                          exact .inl ⟨rfl, Runs.val _ (op_extract1 e9) ⟨hg, Below.refl _ _, rfl⟩⟩
                        · intro ρ X9 fl hg hn hl hp ho ho2 hc hf hr
                          obtain ⟨a9, c9, e9, h9⟩ : ∃ ad cap, ρ (.tmp 91) = .slice ad k2 cap ∧ Lr scE 3 X9 (u :: lb) (.slice ad k2 cap) := hr 10 91 rfl rfl
                          exact .inl ⟨rfl, Runs.val _ (op_assign e9) ⟨hg, Below.refl _ _, a9, c9, rfl, h9⟩⟩
                        · exact fun ρ X9 fl hg hn hl hp ho ho2 hc hf hr => .inl ⟨rfl, Runs.val _ (op_assign (show ρ (.tmp 92) = .bool true from hr 11 92 rfl rfl)) ⟨hg, Below.refl _ _, rfl⟩⟩
                      case en =>
                        intro a9 w8 fl hfl b8 hs9 hd9 ho9 hr9
                        obtain ⟨x9, hx, hxt⟩ := act_put hs9 hd9 ho9
                        obtain ⟨ra, rc, e8, h8⟩ : ∃ ad cap, a9.tmps.getD 8 undef = .slice ad k2 cap ∧ Lr scE 3 w8 (u :: lb) (.slice ad k2 cap) := hr9 12 8 rfl
                        have x8 : x9 8 = .slice ra k2 rc := (hxt 8).symm.trans e8
                        have x9' : x9 9 = .bool true := (hxt 9).symm.trans (hr9 13 9 rfl)
                        change a9 = putAll _ x9 [82, 83, 84, 85, 86, 87, 88, 89, 90, 81, 91, 92, 8, 9] at hx
                        simp only [putAll, Act.put, List.setIfInBounds_toArray, List.set_cons_zero, List.set_cons_succ, x8, x9'] at hx
                        have HB8 := Lib.hid (bgo HB7.out b8)
                        clear hs9 hd9 ho9 hr9 hxt x8 x9' e8 hfl
                        subst hx
                        generalize x9 82 = y82, x9 83 = y83, x9 84 = y84, x9 85 = y85, x9 86 = y86, x9 87 = y87, x9 88 = y88, x9 89 = y89, x9 90 = y90, x9 81 = y81, x9 91 = y91, x9 92 = y92
                        have JX0 : Hid (w8.heap[Y0]? = some (.cells (scA s (.slice ta s.tabs.length tc)) 24 (0, 0))) := Lib.hid ((b8.block Y0 (blk_lt JY0.out)).trans JY0.out)
                        have JX1 : Hid (w8.heap[Y1]? = some (.cells dd 31 (0, 0))) := Lib.hid ((b8.block Y1 (blk_lt JY1.out)).trans JY1.out)
                        clear JY0 JY1
                        have JY0 := JX0
                        have JY1 := JX1
                        clear JX0 JX1
                        obtain ⟨r, hr, hrz, hrk⟩ := last_at HZ.out
                        obtain ⟨rb, rp, cs, rfl, hrb, hE, hcl, hcell⟩ := h8.cells r hr
                        obtain ⟨zv, rfl, hZL⟩ := hE
                        rw [hrz] at hcell hZL
                        obtain ⟨za, zc, hzv, hsh⟩ := hZL.shape
                        subst hzv
                        have HZL := Lib.hid hZL
                        have hkr : k2 = r + 1 := by rw [← HK2.out, hrk]
                        have g0 : w8.cell? ⟨rb, rp + r * 3, none⟩ = some (.int .i64 z.ver) := hcell 0 _ rfl
                        have g1 : w8.cell? ⟨rb, rp + r * 3 + 1, none⟩ = some (.int .i64 z.last) := hcell 1 _ rfl
                        have g2 : w8.cell? ⟨rb, rp + r * 3 + 2, none⟩ = some (.slice za z.tabs.length zc) := hcell 2 _ rfl
                        have k1 : (k2 : Int) - 1 = (r : Int) := by omega
                        have k0 : (0 : Int) ≤ (r : Int) := by omega
                        have k3 : (r : Int) < (k2 : Int) := by omega
                        have k4 : (k2 : Int) ≤ 10 := by have := HLBK.out; omega
                        obtain ⟨U, hU⟩ : ∃ U, U = w8.alloc (.cells #[.int .i64 z.ver, .int .i64 z.last, .slice za z.tabs.length zc] 24) := ⟨_, rfl⟩
                        obtain ⟨D, hD⟩ : ∃ D, w8.heap.size = D := ⟨_, rfl⟩
                        have HU := Lib.hid hU
                        have HD := Lib.hid hD
                        clear hsh hcl hU hD hcell hZL hrb hrk hkr b8 hkq hk300
                        go_upto_region 15 with fail
                        rw [← HU.out, HD.out]
                        have hDU : U.heap[D]? = some (.cells #[.int .i64 z.ver, .int .i64 z.last, .slice za z.tabs.length zc] 24 (0, 0)) := by rw [HU.out, ← HD.out]; exact heap_alloc_new w8 _
                        have hGU : GU w8 D (.int .i64 z.ver) (.int .i64 s.ver) (.int .i64 z.last) (.int .i64 s.last) (.slice za z.tabs.length zc) false false U := ⟨by rw [HU.out]; exact bnew _ _, hDU⟩
                        have HGU := Lib.hid hGU
                        have hDle : w8.heap.size ≤ D := by rw [HD.out]; exact Nat.le_refl _
                        have HDL := Lib.hid hDle
                        clear hDU hGU hDle
                        refine wp_region_fb (fun fl X9 => GU w8 D (.int .i64 z.ver) (.int .i64 s.ver) (.int .i64 z.last) (.int .i64 s.last) (.slice za z.tabs.length zc) (fl 5) (fl 7) X9) (fun _ _ => True) [
                          fun v9 _ => v9 = .pointer (some ⟨Y0, 0, none⟩),
                          fun v9 _ => v9 = .int .i64 s.ver,
                          fun v9 _ => v9 = .pointer (some ⟨Y0, 1, none⟩),
                          fun v9 _ => v9 = .int .i64 s.last,
                          fun v9 _ => v9 = .pointer (some ⟨D, 0, none⟩),
                          fun _ _ => True,
                          fun v9 _ => v9 = .pointer (some ⟨D, 1, none⟩),
                          fun _ _ => True]
                          (by kernel_rfl) (by kernel_rfl) (by kernel_rfl) ?st ?g0 ?os ?en
                        case st => exact ⟨fun _ _ _ _ h => h, fun _ _ _ _ h => h, fun _ _ _ _ h => h, fun _ _ _ _ h => h, fun _ _ _ _ h => h, fun _ _ _ _ h => h, fun _ _ _ _ h => h, fun _ _ _ _ h => h, trivial⟩
                        case g0 => exact ⟨⟨HGU.out.b.os, HGU.out.b.tape, HGU.out.b.output, HGU.out.b.size, HGU.out.b.block⟩, HGU.out.a⟩
                        case os =>
                          refine ⟨?_, ?_, ?_, ?_, ?_, ?_, ?_, ?_, trivial⟩
                          · exact fun ρ X9 fl hg hn hl hp ho hc hf hr => .inl ⟨rfl, Runs.val _ (op_f24_0 (show ρ (.tmp 2) = .pointer (some ⟨Y0, 0, none⟩) from ho 2 rfl)) ⟨hg, trivial, rfl⟩⟩
                          · exact fun ρ X9 fl hg hn hl hp ho hc hf hr => .inl ⟨rfl, Runs.val _ (op_load3 (show ρ (.tmp 99) = .pointer (some ⟨Y0, 0, none⟩) from hr 0 99 rfl rfl) (cell_on hg.b (cell_blk JY0.out 0))) ⟨hg, trivial, rfl⟩⟩
                          · exact fun ρ X9 fl hg hn hl hp ho hc hf hr => .inl ⟨rfl, Runs.val _ (op_f24_1 (show ρ (.tmp 2) = .pointer (some ⟨Y0, 0, none⟩) from ho 2 rfl)) ⟨hg, trivial, rfl⟩⟩
                          · exact fun ρ X9 fl hg hn hl hp ho hc hf hr => .inl ⟨rfl, Runs.val _ (op_load3 (show ρ (.tmp 101) = .pointer (some ⟨Y0, 1, none⟩) from hr 2 101 rfl rfl) (cell_on hg.b (cell_blk JY0.out 1))) ⟨hg, trivial, rfl⟩⟩
                          · exact fun ρ X9 fl hg hn hl hp ho hc hf hr => .inl ⟨rfl, Runs.val _ (op_f24_0 (show ρ (.tmp 10) = .pointer (some ⟨D, 0, none⟩) from ho 10 rfl)) ⟨hg, trivial, rfl⟩⟩
                          · exact fun ρ X9 fl hg hn hl hp ho hc hf hr => .inl ⟨rfl, Runs.skips (op_store3 (show ρ (.tmp 103) = .pointer (some ⟨D, 0, none⟩) from hr 4 103 rfl rfl) (show ρ (.tmp 100) = .int .i64 s.ver from hr 1 100 rfl rfl) (cell_blk hg.a 0) (frozen_blk hg.a 0)) ⟨hg.set0 HDL.out, trivial, trivial⟩⟩
                          · exact fun ρ X9 fl hg hn hl hp ho hc hf hr => .inl ⟨rfl, Runs.val _ (op_f24_1 (show ρ (.tmp 10) = .pointer (some ⟨D, 0, none⟩) from ho 10 rfl)) ⟨hg, trivial, rfl⟩⟩
                          · exact fun ρ X9 fl hg hn hl hp ho hc hf hr => .inl ⟨rfl, Runs.skips (op_store3 (show ρ (.tmp 104) = .pointer (some ⟨D, 1, none⟩) from hr 6 104 rfl rfl) (show ρ (.tmp 102) = .int .i64 s.last from hr 3 102 rfl rfl) (cell_blk hg.a 1) (frozen_blk hg.a 1)) ⟨hg.set1 HDL.out, trivial, trivial⟩⟩
                        case en =>
                          intro a9 w9 fl hfl hg hs9 hd9 ho9 hr9
                          obtain ⟨x9, hx, hxt⟩ := act_put hs9 hd9 ho9
                          change a9 = putAll _ x9 [99, 100, 101, 102, 103, 104] at hx
                          simp only [putAll, Act.put, List.setIfInBounds_toArray, List.set_cons_zero, List.set_cons_succ] at hx
                          have b9 := hg.b
                          have y9 := hg.a
                          rw [hfl 5 (by decide), hfl 7 (by decide)] at y9
                          have c0 : w9.cell? ⟨D, 0, none⟩ = some (.int .i64 s.ver) := cell_blk y9 0
                          have c1 : w9.cell? ⟨D, 1, none⟩ = some (.int .i64 s.last) := cell_blk y9 1
                          have c2 : w9.cell? ⟨D, 2, none⟩ = some (.slice za z.tabs.length zc) := cell_blk y9 2
                          have yy := (b9.block Y0 (blk_lt JY0.out)).trans JY0.out
                          have s0 : w9.cell? ⟨Y0, 0, none⟩ = some (.int .i64 s.ver) := cell_blk yy 0
                          have s1 : w9.cell? ⟨Y0, 1, none⟩ = some (.int .i64 s.last) := cell_blk yy 1
                          have s2 : w9.cell? ⟨Y0, 2, none⟩ = some (.slice ta s.tabs.length tc) := cell_blk yy 2
                          have HB9 := Lib.hid (bgo HB8.out b9)
                          have hsame : Calls Tryz.prog 11 #[.agg #[.int .i64 s.ver, .int .i64 s.last, .slice za z.tabs.length zc], .agg #[.int .i64 s.ver, .int .i64 s.last, .slice ta s.tabs.length tc]] w9 fun e w' => e = .returned (.bool true) ∧ Below w9.heap.size w9 w' := same_any (s := s) (by
                              have h9 := HZL.out.on tbE_held b9
                              rwa [HZT.out] at h9 ⊢) (HL0.out.on tbE_held HB9.out) HI.out (by
                              have h1 := schL_len s
                              have h2 := right_B HR.out
                              omega)
                          clear hfl hg hs9 hd9 ho9 hr9 hxt b9 y9 yy g0 g1 g2
                          subst hx
                          generalize x9 99 = v99, x9 100 = v100, x9 101 = v101, x9 102 = v102, x9 103 = v103, x9 104 = v104
                          go_wp2_with (go_at_call 11; refine hsame.mono ?_; rintro e w10 ⟨rfl, b10⟩; refine Hid.out ?_)
                          refine Lib.hid ?_
                          have HB10 := Lib.hid (bgo HB9.out b10)
                          clear hsame b10
                          go_wp2
                          go_ret
                          exact ⟨rfl, HB10.out⟩
                · have h5 : (mk == 4) = false := by simpa using h4
                  have h6 : decide (mk = 4) = false := decide_eq_false h4
                  go_wp2
                  go_roundw
                  case rel =>
                    refine ⟨i + 1, hlt, by go_num, fun j hj hji => ?_, by first | rfl | trivial⟩
                    by_cases e : j = i
                    · subst e
                      rw [HMK.out]
                      exact h4
                    · exact HNO.out j hj (by omega)
                  case measure => simp [intOf]; omega
              · have k1 : ¬ (i : Int) < n := by omega
                obtain rfl : i = n := by omega
                go_wp2_with (go_at_call 18; refine hpb.mono ?_; rintro e w6 ⟨qa, qc, rfl, hrow, b6⟩; refine Hid.out ?_)
                refine Lib.hid ?_
                have HB6 := Lib.hid (bgo HB5.out b6)
                clear hpb hrow b6
                go_wp2
                go_ret
                exact ⟨rfl, HB6.out⟩
      · have z1 : (sp == 0) = false := by simpa using z0
        have z2 : decide (sp = 0) = false := decide_eq_false z0
        have haw := awake_any w4
        go_wp2_with (go_at_call 7; refine haw.mono ?_; rintro e w9 ⟨rfl, b9⟩; refine Hid.out ?_)
        refine Lib.hid ?_
        have HB9 := Lib.hid (bgo HB4.out b9)
        clear haw b9
        go_wp2
        go_ret
        exact ⟨rfl, HB9.out⟩
theorem undo_any {s : Sc} {tv cv : Value} {d : Dd} (hL : Lr tbE 5 w s.tabs tv) (hI : ScIn s) (hQ : ScQ s) (hd : Lr colE 7 w d.cols cv) (hdz : d.cols.length * 72 ≤ 140737488355328) : Calls Tryz.prog 6 #[scV s tv, ddV d cv] w fun e w' => e = .returned (.bool true) ∧ Below w.heap.size w w' := by
  obtain ⟨da, dc, e, _⟩ := hd.shape
  subst e
  exact undo_law hL hI hQ hd hdz
end
end Go.Proofs.YtongmhfpoopebaaGreat
