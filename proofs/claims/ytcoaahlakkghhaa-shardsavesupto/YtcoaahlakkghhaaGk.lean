/- The walks of commit and abort. -/
import Derived.Test.YtcoaahlakkghhaaGj
namespace Go.Proofs.Ytcoaahlakkghhaa
open Go.RowKit
/-! ### Plain -/
def mx3 (m a : Int) : Int := if (if m < a then a else m) < 1 then 1 else if m < a then a else m
def Sh.enter (s : Sh) (r : Rc) : Sh := { s with recs := s.recs ++ [r] }
def Sh.commit (s : Sh) (a : Int) (c : Cm) : Sh × Rz := match recOf s.recs c.txn with
  | some ts => (s, if ts = 0 then ⟨132, 0, td0, 0, false⟩ else ⟨0, ts, td0, 0, false⟩)
  | none => if c.til < mx3 c.mn a then (s.enter (c.txn, 0), ⟨133, 0, td0, 0, true⟩) else (s.enter (c.txn, mx3 c.mn a), ⟨0, mx3 c.mn a, td0, 0, true⟩)
def Sh.abort (s : Sh) (c : Cm) : Sh × Rz := match recOf s.recs c.txn with
  | some ts => (s, if ts = 0 then rz0 else ⟨132, ts, td0, 0, false⟩)
  | none => (s.enter (c.txn, 0), ⟨0, 0, td0, 0, true⟩)
section
variable {w w1 w2 X : World} {A Z : Nat} {S : Nat → Prop} {s s' : Sh}
theorem Step.same (h : Sy w A S s) (hb : Below w.heap.size w X) : Step w A S s X := ⟨S, h.on hb, fun _ q => .inl q, Fr.ofBelow S hb⟩
theorem Step.close (hb : Below w.heap.size w w1) (st : Step w1 A S s' w2) (hS : ∀ k, S k → k < w.heap.size) (f : Fr w2 X (fun k => k = Z)) (hZ1 : w.heap.size ≤ Z) (hZ2 : Z < w1.heap.size) : Step w A S s' X := by
  obtain ⟨S', hy, hg, hf⟩ := st
  refine ⟨S', hy.stays f (fun k hk e => ?_), fun k hk => ?_, ?_⟩
  · have e' : k = Z := e
    subst e'
    rcases hg k hk with q | q
    · have := hS k q
      omega
    · omega
  · rcases hg k hk with q | q
    · exact .inl q
    · have h1 := hb.size
      have h2 := f.size
      exact .inr ⟨by omega, by omega⟩
  · have h1 : Fr w w2 S := ⟨hf.os.trans hb.os, hf.tape.trans hb.tape, hf.output.trans hb.output, Nat.le_trans hb.size hf.size, fun k hk hn => (hf.block k (Nat.lt_of_lt_of_le hk hb.size) hn).trans (hb.block k hk)⟩
    exact h1.step f (fun k hk => .inr (by have e' : k = Z := hk; omega))
end
theorem box47 {w W : World} {cs : Array Value} (hW : W = (w.alloc (.cells cs 47)).alloc (.cells #[.int .i64 0, .int .i64 0, .int .i64 0, .int .i64 0, .int .i64 0, .int .i64 0, .int .i64 0, .int .i64 0, .bool false] 52)) : Below w.heap.size w W ∧ W.heap[w.heap.size]? = some (.cells cs 47 (0, 0)) ∧ W.heap[w.heap.size + 1]? = some (.cells #[.int .i64 0, .int .i64 0, .int .i64 0, .int .i64 0, .int .i64 0, .int .i64 0, .int .i64 0, .int .i64 0, .bool false] 52 (0, 0)) ∧ w.heap.size + 1 < W.heap.size := by
  subst hW
  refine ⟨((Below.refl _ w).alloc (Nat.le_refl _) _).alloc (by simp) _, ?_, ?_, by simp⟩
  · rw [Below.heap_alloc _ _ _ (by simp)]
    exact heap_alloc_new w _
  · have := heap_alloc_new (w.alloc (.cells cs 47)) (.cells #[.int .i64 0, .int .i64 0, .int .i64 0, .int .i64 0, .int .i64 0, .int .i64 0, .int .i64 0, .int .i64 0, .bool false] 52)
    simp only [World.size_alloc] at this
    exact this
section
variable {w w' : World} {A : Nat} {S : Nat → Prop} {s : Sh} {c : Cm} {cs : Array Value} {ra wa : Option Addr} {rc wc : Nat}
set_option maxHeartbeats 4000000 in
set_option maxRecDepth 100000 in
theorem commit_any (hy : Sy w A S s) (hc : Cc w c cs ra rc wa wc) (ht : TdOk c.txn) (hfew : s.recs.length < 800000) (a0 : Int) : Calls Try.prog 28 #[.pointer (some ⟨A, 0, none⟩), .int .i64 a0, .agg cs] w fun e w' => e = .returned (rzV (s.commit a0 c).2) ∧ Step w A S (s.commit a0 c).1 w' := by
  obtain ⟨W, hW⟩ : ∃ W, W = (w.alloc (.cells cs 47)).alloc (.cells #[.int .i64 0, .int .i64 0, .int .i64 0, .int .i64 0, .int .i64 0, .int .i64 0, .int .i64 0, .int .i64 0, .bool false] 52) := ⟨_, rfl⟩
  obtain ⟨hb, jY, jZ, hZW⟩ := box47 hW
  obtain ⟨Y, hY⟩ : ∃ Y, w.heap.size = Y := ⟨_, rfl⟩
  obtain ⟨Z, hZ⟩ : ∃ Z, Y + 1 = Z := ⟨_, rfl⟩
  rw [hY] at jY jZ hZW
  rw [hZ] at jZ hZW
  have b4 : W.cell? ⟨Y, 4, none⟩ = some (.int .i64 c.txn.1) := (cell_blk jY 4).trans hc.t0
  have b5 : W.cell? ⟨Y, 5, none⟩ = some (.int .i64 c.txn.2.1) := (cell_blk jY 5).trans hc.t1
  have b6 : W.cell? ⟨Y, 6, none⟩ = some (.int .i64 c.txn.2.2) := (cell_blk jY 6).trans hc.t2
  have hZw : w.heap.size ≤ Z := by omega
  have hyl := hy.lt
  have HSY := Lib.hid hy
  have HYW := Lib.hid (hy.on hb)
  have HSL := Lib.hid hyl
  obtain ⟨S1, S2, P, M, N, G, lv, rv, ov, hx, hS⟩ := hy.on hb
  have HW := Lib.hid hW
  have HY := Lib.hid hY
  have HZ := Lib.hid hZ
  have HB := Lib.hid hb
  have HJZ := Lib.hid jZ
  have HJY := Lib.hid jY
  have HX := Lib.hid hx
  have HSS := Lib.hid hS
  have hrec := record_any hx ht
  obtain ⟨ro, hro⟩ : ∃ ro, recOf s.recs c.txn = ro := ⟨_, rfl⟩
  rw [hro] at hrec
  have HRO := Lib.hid hro
  have HMN : Hid (cs[10]? = some (.int .i64 c.mn)) := hc.mn
  have HTL : Hid (cs[11]? = some (.int .i64 c.til)) := hc.til
  clear hW hY hZ hb jY jZ hx hS hro hy hc hyl
  go_enter Try.func28, Try.ntmps28
  go_upto_region 1 with fail
  rw [← HW.out, HY.out, HZ.out]
  go_wp2_with fail
  refine hrec.mono ?_
  rintro e w1 ⟨rfl, b1⟩
  have jZ1 := (b1.block Z (blk_lt HJZ.out)).trans HJZ.out
  have jY1 := (b1.block Y (blk_lt HJY.out)).trans HJY.out
  have HB1 := Lib.hid (HB.out.trans (b1.mono HB.out.size))
  have HX1 := Lib.hid (HX.out.on b1)
  have hZ1 : Z < w1.heap.size := blk_lt jZ1
  have HJ1 := Lib.hid jZ1
  have HJY1 := Lib.hid jY1
  cases ro with
  | some ts =>
    simp only [Option.getD_some, Option.isSome_some]
    by_cases h0 : ts = 0
    · obtain ⟨X, hst, jX, fX⟩ := put_rz jZ1 rfl ⟨132, 0, td0, 0, false⟩
      have HR : Hid (s.commit a0 c = (s, ⟨132, 0, td0, 0, false⟩)) := by show _ = _; unfold Sh.commit; rw [HRO.out]; simp [h0]
      have HA : Hid (Step w A S s X) := Step.close HB1.out (Step.same (HYW.out.on b1) (Below.refl _ _)) HSL.out fX hZw hZ1
      have HJX := Lib.hid jX
      clear jX fX b1 hrec jZ1 jY1
      go_wp2_with (refine wpl_store _ _ rfl (by simp [Act.eval]) (by simp [Act.eval]) hst ?_)
      refine bodyPost_ret (ret_rz HJX.out Try.results28 rfl) rfl ?_
      rw [HR.out]
      exact ⟨rfl, HA.out⟩
    · obtain ⟨X, hst, jX, fX⟩ := put_rz jZ1 rfl ⟨0, ts, td0, 0, false⟩
      have HR : Hid (s.commit a0 c = (s, ⟨0, ts, td0, 0, false⟩)) := by show _ = _; unfold Sh.commit; rw [HRO.out]; simp [h0]
      have HA : Hid (Step w A S s X) := Step.close HB1.out (Step.same (HYW.out.on b1) (Below.refl _ _)) HSL.out fX hZw hZ1
      have HJX := Lib.hid jX
      clear jX fX b1 hrec jZ1 jY1
      go_wp2_with (refine wpl_store _ _ rfl (by simp [Act.eval]) (by simp [Act.eval]) hst ?_)
      refine bodyPost_ret (ret_rz HJX.out Try.results28 rfl) rfl ?_
      rw [HR.out]
      exact ⟨rfl, HA.out⟩
  | none =>
    simp only [Option.getD_none, Option.isSome_none]
    have c10 : w1.cell? ⟨Y, 10, none⟩ = some (.int .i64 c.mn) := (cell_blk jY1 10).trans HMN.out
    have c11 : w1.cell? ⟨Y, 11, none⟩ = some (.int .i64 c.til) := (cell_blk jY1 11).trans HTL.out
    have c4 := cell_on b1 b4
    have c5 := cell_on b1 b5
    have c6 := cell_on b1 b6
    obtain ⟨tm, htm⟩ : ∃ tm, (if (if c.mn < a0 then a0 else c.mn) < 1 then 1 else if c.mn < a0 then a0 else c.mn) = tm := ⟨_, rfl⟩
    have HTM : Hid (mx3 c.mn a0 = tm) := htm
    clear b1 hrec jZ1 jY1
    by_cases hlate : c.til < tm
    · have hen := enter_any HX1.out HSS.out (r := (c.txn, 0)) HRO.out ht hfew
      have HR : Hid (s.commit a0 c = (s.enter (c.txn, 0), ⟨133, 0, td0, 0, true⟩)) := by show _ = _; unfold Sh.commit; rw [HRO.out]; simp only [HTM.out]; rw [if_pos hlate]
      go_wp2_with fail
      refine hen.mono ?_
      rintro e w2 ⟨rfl, hstp⟩
      have jZ2 : w2.heap[Z]? = some (.cells #[.int .i64 0, .int .i64 0, .int .i64 0, .int .i64 0, .int .i64 0, .int .i64 0, .int .i64 0, .int .i64 0, .bool false] 52 (0, 0)) := by
        obtain ⟨_, _, _, hf⟩ := hstp
        exact (hf.block Z hZ1 (fun q => by have := HSL.out Z q; omega)).trans HJ1.out
      obtain ⟨X, hst, jX, fX⟩ := put_rz jZ2 rfl ⟨133, 0, td0, 0, true⟩
      have HA : Hid (Step w A S (s.enter (c.txn, 0)) X) := Step.close HB1.out hstp HSL.out fX hZw hZ1
      have HJX := Lib.hid jX
      clear jX fX hen jZ2 hstp
      go_wp2_with (refine wpl_store _ _ rfl (by simp [Act.eval]) (by simp [Act.eval]) hst ?_)
      refine bodyPost_ret (ret_rz HJX.out Try.results28 rfl) rfl ?_
      rw [HR.out]
      exact ⟨rfl, HA.out⟩
    · have hen := enter_any HX1.out HSS.out (r := (c.txn, tm)) HRO.out ht hfew
      have HR : Hid (s.commit a0 c = (s.enter (c.txn, tm), ⟨0, tm, td0, 0, true⟩)) := by show _ = _; unfold Sh.commit; rw [HRO.out]; simp only [HTM.out]; rw [if_neg hlate]
      go_wp2_with fail
      refine hen.mono ?_
      rintro e w2 ⟨rfl, hstp⟩
      have jZ2 : w2.heap[Z]? = some (.cells #[.int .i64 0, .int .i64 0, .int .i64 0, .int .i64 0, .int .i64 0, .int .i64 0, .int .i64 0, .int .i64 0, .bool false] 52 (0, 0)) := by
        obtain ⟨_, _, _, hf⟩ := hstp
        exact (hf.block Z hZ1 (fun q => by have := HSL.out Z q; omega)).trans HJ1.out
      obtain ⟨X, hst, jX, fX⟩ := put_rz jZ2 rfl ⟨0, tm, td0, 0, true⟩
      have HA : Hid (Step w A S (s.enter (c.txn, tm)) X) := Step.close HB1.out hstp HSL.out fX hZw hZ1
      have HJX := Lib.hid jX
      clear jX fX hen jZ2 hstp
      go_wp2_with (refine wpl_store _ _ rfl (by simp [Act.eval]) (by simp [Act.eval]) hst ?_)
      refine bodyPost_ret (ret_rz HJX.out Try.results28 rfl) rfl ?_
      rw [HR.out]
      exact ⟨rfl, HA.out⟩
set_option maxHeartbeats 4000000 in
set_option maxRecDepth 100000 in
theorem abort_any (hy : Sy w A S s) (hc : Cc w c cs ra rc wa wc) (ht : TdOk c.txn) (hfew : s.recs.length < 800000) (a0 : Int) : Calls Try.prog 29 #[.pointer (some ⟨A, 0, none⟩), .int .i64 a0, .agg cs] w fun e w' => e = .returned (rzV (s.abort c).2) ∧ Step w A S (s.abort c).1 w' := by
  obtain ⟨W, hW⟩ : ∃ W, W = (w.alloc (.cells cs 47)).alloc (.cells #[.int .i64 0, .int .i64 0, .int .i64 0, .int .i64 0, .int .i64 0, .int .i64 0, .int .i64 0, .int .i64 0, .bool false] 52) := ⟨_, rfl⟩
  obtain ⟨hb, jY, jZ, hZW⟩ := box47 hW
  obtain ⟨Y, hY⟩ : ∃ Y, w.heap.size = Y := ⟨_, rfl⟩
  obtain ⟨Z, hZ⟩ : ∃ Z, Y + 1 = Z := ⟨_, rfl⟩
  rw [hY] at jY jZ hZW
  rw [hZ] at jZ hZW
  have b4 : W.cell? ⟨Y, 4, none⟩ = some (.int .i64 c.txn.1) := (cell_blk jY 4).trans hc.t0
  have b5 : W.cell? ⟨Y, 5, none⟩ = some (.int .i64 c.txn.2.1) := (cell_blk jY 5).trans hc.t1
  have b6 : W.cell? ⟨Y, 6, none⟩ = some (.int .i64 c.txn.2.2) := (cell_blk jY 6).trans hc.t2
  have hZw : w.heap.size ≤ Z := by omega
  have hyl := hy.lt
  have HSY := Lib.hid hy
  have HYW := Lib.hid (hy.on hb)
  have HSL := Lib.hid hyl
  obtain ⟨S1, S2, P, M, N, G, lv, rv, ov, hx, hS⟩ := hy.on hb
  have HW := Lib.hid hW
  have HY := Lib.hid hY
  have HZ := Lib.hid hZ
  have HB := Lib.hid hb
  have HJZ := Lib.hid jZ
  have HJY := Lib.hid jY
  have HX := Lib.hid hx
  have HSS := Lib.hid hS
  have hrec := record_any hx ht
  obtain ⟨ro, hro⟩ : ∃ ro, recOf s.recs c.txn = ro := ⟨_, rfl⟩
  rw [hro] at hrec
  have HRO := Lib.hid hro
  clear hW hY hZ hb jY jZ hx hS hro hy hc hyl
  go_enter Try.func29, Try.ntmps29
  go_upto_region 1 with fail
  rw [← HW.out, HY.out, HZ.out]
  go_wp2_with fail
  refine hrec.mono ?_
  rintro e w1 ⟨rfl, b1⟩
  have jZ1 := (b1.block Z (blk_lt HJZ.out)).trans HJZ.out
  have HB1 := Lib.hid (HB.out.trans (b1.mono HB.out.size))
  have HX1 := Lib.hid (HX.out.on b1)
  have hZ1 : Z < w1.heap.size := blk_lt jZ1
  have HJ1 := Lib.hid jZ1
  cases ro with
  | some ts =>
    simp only [Option.getD_some, Option.isSome_some]
    by_cases h0 : ts = 0
    · obtain ⟨X, hst, jX, fX⟩ := put_rz jZ1 rfl rz0
      have HR : Hid (s.abort c = (s, rz0)) := by show _ = _; unfold Sh.abort; rw [HRO.out]; simp [h0]
      have HA : Hid (Step w A S s X) := Step.close HB1.out (Step.same (HYW.out.on b1) (Below.refl _ _)) HSL.out fX hZw hZ1
      have HJX := Lib.hid jX
      clear jX fX b1 hrec jZ1
      go_wp2_with (refine wpl_store _ _ rfl (by simp [Act.eval]) (by simp [Act.eval, rz0]) hst ?_)
      refine bodyPost_ret (ret_rz HJX.out Try.results29 rfl) rfl ?_
      rw [HR.out]
      exact ⟨rfl, HA.out⟩
    · obtain ⟨X, hst, jX, fX⟩ := put_rz jZ1 rfl ⟨132, ts, td0, 0, false⟩
      have HR : Hid (s.abort c = (s, ⟨132, ts, td0, 0, false⟩)) := by show _ = _; unfold Sh.abort; rw [HRO.out]; simp [h0]
      have HA : Hid (Step w A S s X) := Step.close HB1.out (Step.same (HYW.out.on b1) (Below.refl _ _)) HSL.out fX hZw hZ1
      have HJX := Lib.hid jX
      clear jX fX b1 hrec jZ1
      go_wp2_with (refine wpl_store _ _ rfl (by simp [Act.eval]) (by simp [Act.eval]) hst ?_)
      refine bodyPost_ret (ret_rz HJX.out Try.results29 rfl) rfl ?_
      rw [HR.out]
      exact ⟨rfl, HA.out⟩
  | none =>
    simp only [Option.getD_none, Option.isSome_none]
    have c4 := cell_on b1 b4
    have c5 := cell_on b1 b5
    have c6 := cell_on b1 b6
    have hen := enter_any HX1.out HSS.out (r := (c.txn, 0)) HRO.out ht hfew
    have HR : Hid (s.abort c = (s.enter (c.txn, 0), ⟨0, 0, td0, 0, true⟩)) := by show _ = _; unfold Sh.abort; rw [HRO.out]
    clear b1 hrec jZ1
    go_wp2_with fail
    refine hen.mono ?_
    rintro e w2 ⟨rfl, hstp⟩
    have jZ2 : w2.heap[Z]? = some (.cells #[.int .i64 0, .int .i64 0, .int .i64 0, .int .i64 0, .int .i64 0, .int .i64 0, .int .i64 0, .int .i64 0, .bool false] 52 (0, 0)) := by
      obtain ⟨_, _, _, hf⟩ := hstp
      exact (hf.block Z hZ1 (fun q => by have := HSL.out Z q; omega)).trans HJ1.out
    obtain ⟨X, hst, jX, fX⟩ := put_rz jZ2 rfl ⟨0, 0, td0, 0, true⟩
    have HA : Hid (Step w A S (s.enter (c.txn, 0)) X) := Step.close HB1.out hstp HSL.out fX hZw hZ1
    have HJX := Lib.hid jX
    clear jX fX hen jZ2 hstp
    go_wp2_with (refine wpl_store _ _ rfl (by simp [Act.eval]) (by simp [Act.eval]) hst ?_)
    refine bodyPost_ret (ret_rz HJX.out Try.results29 rfl) rfl ?_
    rw [HR.out]
    exact ⟨rfl, HA.out⟩
end
end Go.Proofs.Ytcoaahlakkghhaa
/- A drawn region whose last operation says what it leaves by the slots that it reads; clones; the walk of newLock. -/
namespace Go.Proofs.Ytcoaahlakkghhaa
section
variable {P : Program} {ops : Array Oper} {Q : Exit → Act → World → Prop}
/-- **Whatever order is drawn**, and the last one comes last; what it leaves is told by what it read. -/
theorem wp_region_lr {id : Nat} {a0 : Act} {w0 : World} (G : World → Prop) (S : World → World → Prop) (R : List (Value → World → Prop)) (F : (Operand → Value) → Value → World → Prop) {ol : Oper} (hol : ops[ops.size - 1]? = some ol)
    (hm : P.follows .mixedOrders = true) (hd : dstsOk ops a0.tmps.size = true) (haf : afterOk ops = true) (hla : lastOk ops = true) (hst : Stable S R) (hg : G w0.drew)
    (hops : AllOps (OpOk P ops a0 G S R) 0 (ops.toList.take (ops.size - 1)))
    (hlast : plainOp ol ∧ ∀ ρ w, G w → (∀ t, outer ops t = true → ρ (.tmp t) = a0.eval (.tmp t)) → (∀ x, ρ (.const x) = x) → (∀ f, ρ (.func f) = .func (.func f) #[] #[]) → (∀ j t, j < ops.size - 1 → dstOf ops j = some t → R.getD j (fun _ _ => True) (ρ (.tmp t)) w) → Runs P ol ρ w (F ρ))
    (he : ∀ (a : Act) (ρ : Operand → Value) (w wb : World) (v : Value), F ρ v w → (∀ t, ol.dst ≠ some t → a.tmps.getD t undef = ρ (.tmp t)) → a.tmps.size = a0.tmps.size → a.defers = a0.defers → (∀ t, outer ops t = true → a.tmps.getD t undef = a0.tmps.getD t undef) → (∀ t, ol.dst = some t → a.tmps.getD t undef = v) →
      (∀ j t, j < ops.size - 1 → dstOf ops j = some t → R.getD j (fun _ _ => True) (a.tmps.getD t undef) wb) → Q .normal a w) :
    (Code.region id ops true).wp P Q a0 w0 := by
  have hmlt : ops.size - 1 < ops.size := (Array.getElem?_eq_some_iff.1 hol).1
  have hd2 := hd
  unfold dstsOk at hd2
  simp only [Bool.and_eq_true, decide_eq_true_eq, List.all_eq_true] at hd2
  refine wp_region_any hm (wpAny_kept (fun l a w => (l.getD (ops.size - 1) false = false ∧ KeptIn ops a0 G R l a w) ∨ ((∀ j, j < ops.size → l.getD j true = true) ∧ Q .normal a w)) ?_ ?_ _ _ _ _ (left_replicate _) ?_)
  · intro l a w i hk hi
    obtain ⟨hl, o, ho, hall⟩ := mem_ready.1 hi
    have hil : i < ops.size := (Array.getElem?_eq_some_iff.1 ho).1
    rcases hk with ⟨hnl, hk⟩ | ⟨hk, _⟩
    · by_cases him : i = ops.size - 1
      · subst him
        rw [ho] at hol
        cases hol
        obtain ⟨hgd, hok⟩ := hlast
        have hah := all_ahead hla hk.dn ho hall
        have hrun := hok a.eval w hk.good (fun t ht => by
          rw [eval_tmp, eval_tmp]
          exact hk.out t fun j oj hj _ q => outer_not ht hj q) (fun _ => rfl) (fun _ => rfl) (fun j t hj hdj => by
          obtain ⟨oj, hoj, hdj⟩ := dstOf_some hdj
          rw [eval_tmp]
          exact hk.is _ oj t hoj (hah _ j rfl hj) hdj)
        have hfin : ∀ v w', F a.eval v w' → (∀ j, j < ops.size → (l.setIfInBounds (ops.size - 1) true).getD j true = true) ∧ Q .normal (a.put ol.dst v) w' := by
          intro v w' hF
          refine ⟨fun j hj => ?_, he _ a.eval w' w v hF (fun t ht => put_other ht) (put_size.trans hk.size) (put_defers'.trans hk.defers) (fun t ht => ?_) (fun t ht => ?_) (fun j t hj hdj => ?_)⟩
          · by_cases e : j = ops.size - 1
            · subst e
              rw [Array.getD_eq_getD_getElem?, Array.getElem?_setIfInBounds_self_of_lt (by rw [hk.sz]; exact hmlt)]
              rfl
            · have := hah _ j rfl (by omega)
              have hjl : j < l.size := by rw [hk.sz]; exact hj
              rw [Array.getD_eq_getD_getElem?, Array.getElem?_setIfInBounds_ne (fun q => e q.symm), Array.getElem?_eq_getElem hjl]
              rw [Array.getD_eq_getD_getElem?, Array.getElem?_eq_getElem hjl] at this
              simpa using this
          · rw [put_other (outer_not ht ho)]
            exact hk.out t fun j oj hj _ q => outer_not ht hj q
          · rw [ht, put_self]
            rw [hk.size]
            exact hd2.2 t (List.mem_filterMap.2 ⟨ol, List.mem_of_getElem? (by rw [Array.getElem?_toList]; exact ho), ht⟩)
          · obtain ⟨oj, hoj, hdj⟩ := dstOf_some hdj
            rw [put_other]
            · exact hk.is _ oj t hoj (hah _ j rfl hj) hdj
            · intro q
              have := nodup_filterMap hd2.1 (by rw [Array.getElem?_toList]; exact hoj) (by rw [Array.getElem?_toList]; exact ho) hdj q
              omega
        unfold wpOp
        simp only [ho]
        rw [if_pos (wanted_none hgd _)]
        refine .inl ?_
        unfold Oper.wp
        rcases hrun with ⟨v, w', hv, hF⟩ | ⟨w', hv, hF⟩ | ⟨f, args, w1, hv, hc⟩
        · rw [hv]
          exact .inr (hfin v w' hF)
        · rw [hv]
          exact .inr (hfin undef w' hF)
        · rw [hv]
          refine hc.mono ?_
          rintro e w' ⟨v, rfl, hF⟩
          exact .inr (hfin v w' hF)
      · refine kept_step hd hst ho ?_ hk hall (fun a' w' h => .inl ⟨?_, h⟩)
        · have := hops.get (k := i) (o := o) (by rw [List.getElem?_take_of_lt (by omega), Array.getElem?_toList]; exact ho)
          rwa [Nat.zero_add] at this
        · rw [Array.getD_eq_getD_getElem?, Array.getElem?_setIfInBounds_ne him, ← Array.getD_eq_getD_getElem?]
          exact hnl
    · rw [hk i hil] at hl
      cases hl
  · intro l a w hk hr
    rcases hk with ⟨hnl, hk⟩ | ⟨_, hq⟩
    · have := all_listed haf l hk.sz hr _ hmlt
      rw [hnl] at this
      cases this
    · exact hq
  · refine .inl ⟨?_, ⟨hg, fun j _ _ hl => absurd hl (none_listed _ j), by simp, rfl, rfl, fun _ _ => rfl, fun j o t hj hl _ => absurd hl (none_listed _ j)⟩⟩
    cases hc : (Array.replicate ops.size false).getD (ops.size - 1) false with
    | false => rfl
    | true => exact absurd hc (none_listed _ _)
end
open Go.RowKit
theorem Lr.src {α : Type} {f : α → List Value} {c : Nat} {w : World} {L : List α} {ad : Option Addr} {cap : Nat} (hc : ∀ x, (f x).length = c) (h : Lr (fun _ x cs => cs = f x) c w L (.slice ad L.length cap)) : (ad = none ∧ L.length = 0 ∧ cap = 0 ∧ L.flatMap f = []) ∨ ∃ a, ad = some a ∧ (L.flatMap f).length = L.length * c ∧ (∀ j u, (L.flatMap f)[j]? = some u → w.cell? (a.add j) = some u) := by
  obtain ⟨ad', cap', e, h0, h1, h2, h3⟩ := h
  cases e
  cases had : ad with
  | none =>
    have hL : L = [] := by
      rcases L with _ | ⟨x, L⟩
      · rfl
      · obtain ⟨b, o, cs, e, _⟩ := h3 0 (by simp)
        rw [had] at e
        cases e
    subst hL
    exact .inl ⟨rfl, rfl, h0 had, rfl⟩
  | some a =>
    refine .inr ⟨a, rfl, fl_len hc L, fun j u hu => ?_⟩
    have hj : j < L.length * c := by
      have := (List.getElem?_eq_some_iff.1 hu).1
      rwa [fl_len hc] at this
    have hc0 : 0 < c := by
      rcases Nat.eq_zero_or_pos c with q | q
      · subst q
        simp at hj
      · exact q
    have hi : j / c < L.length := Nat.div_lt_of_lt_mul (by rw [Nat.mul_comm]; exact hj)
    have hm : j % c < c := Nat.mod_lt _ hc0
    have e2 : j = j / c * c + j % c := by
      have := Nat.div_add_mod j c
      rw [Nat.mul_comm] at this
      exact this.symm
    obtain ⟨b, o, cs, e, _, hE, _, hh⟩ := h3 (j / c) hi
    rw [had] at e
    cases e
    have hE' : cs = f L[j / c] := hE
    have := hh (j % c) u (by
      rw [hE', ← fl_get hc L (j / c) hi _ hm, ← e2]
      exact hu)
    rw [add_at]
    rw [Nat.add_assoc, ← e2] at this
    exact this
set_option maxHeartbeats 1000000 in
set_option maxRecDepth 100000 in
theorem cloneW_any {w : World} {l : List Wr} {v : Value} (hl : Lr wrE 3 w l v) (hz : l.length ≤ 900000) : Calls Try.prog 64 #[v] w fun e w' => ∃ ad cap, e = .returned (.slice ad l.length cap) ∧ w'.ownsRow w.heap.size 55 3 (.slice ad l.length cap) l.length (l.flatMap wrL) ∧ Below w.heap.size w w' := by
  have hl' := hl
  obtain ⟨ad, cap, rfl, h0, h1, h2, _⟩ := hl'
  cases ad with
  | none =>
    have e0 : l = [] := by
      rcases Lr.src (f := wrL) wrL_len hl with ⟨_, q, _⟩ | ⟨a, q, _⟩
      · exact List.eq_nil_of_length_eq_zero q
      · cases q
    subst e0
    have hc0 := h0 rfl
    subst hc0
    clear h0 h1 h2 hl
    have hq : ∀ w, (binOp BinOp.eql 39 (.slice none 0 0) (.slice none 0 0)).run Try.prog w = .ok (.bool true) w := fun _ => by kernel_rfl
    go_enter Try.func64, Try.ntmps64
    go_wp2
    refine bodyPost_ret (v := .slice none 0 0) (by simp [results, Try.results64, go_sem]) rfl ?_
    exact ⟨none, 0, rfl, World.ownsRow_nil _ _ _ _, Below.refl _ _⟩
  | some a =>
    have hal : Below w.heap.size w (w.alloc (.cells #[] 55)) := (Below.refl _ w).alloc (Nat.le_refl _) _
    have hemp : (w.alloc (.cells #[] 55)).ownsRow w.heap.size 55 3 (.slice (some ⟨w.heap.size, 0, none⟩) 0 0) 0 [] := ⟨rfl, .inr ⟨w.heap.size, 0, #[], rfl, Nat.le_refl _, heap_alloc_new w _, Nat.le_refl _, Nat.zero_le _, rfl, rfl⟩⟩
    obtain ⟨ad', cap', w', hrun, ho, hg, _⟩ := run_wr hemp hal.size (Lr.src (f := wrL) wrL_len (hl.on wrE_held hal)) (fun u hu => by
      obtain ⟨x, _, hx⟩ := List.mem_flatMap.1 hu
      simp at hx
      rcases hx with rfl | rfl | rfl <;> rfl) (by omega)
    rw [Nat.zero_add, List.nil_append] at ho
    rw [Nat.zero_add] at hrun
    have hb := hal.grown hg hal.size (fun k hk => (hemp.lt k hk).1)
    have HO := Lib.hid ho
    have HB := Lib.hid hb
    clear h0 h1 h2 hl ho hb hg hal hemp
    have hq : ∀ w, (binOp BinOp.eql 39 (.slice (some a) l.length cap) (.slice none 0 0)).run Try.prog w = .ok (.bool false) w := fun _ => by kernel_rfl
    go_enter Try.func64, Try.ntmps64
    go_wp2_with (at_builtin; refine wpl_run2 _ _ rfl (by simp [Act.eval]) (by simp [Act.eval]) hrun ?_)
    refine bodyPost_ret (v := .slice ad' l.length cap') (by simp [results, Try.results64, go_sem]) rfl ?_
    exact ⟨ad', cap', rfl, HO.out, HB.out⟩
set_option maxHeartbeats 1000000 in
set_option maxRecDepth 100000 in
theorem cloneS_any {w : World} {l : List Sn} {v : Value} (hl : Lr snE 2 w l v) (hz : l.length ≤ 900000) : Calls Try.prog 63 #[v] w fun e w' => ∃ ad cap, e = .returned (.slice ad l.length cap) ∧ w'.ownsRow w.heap.size 57 2 (.slice ad l.length cap) l.length (l.flatMap snL) ∧ Below w.heap.size w w' := by
  have hl' := hl
  obtain ⟨ad, cap, rfl, h0, h1, h2, _⟩ := hl'
  cases ad with
  | none =>
    have e0 : l = [] := by
      rcases Lr.src (f := snL) snL_len hl with ⟨_, q, _⟩ | ⟨a, q, _⟩
      · exact List.eq_nil_of_length_eq_zero q
      · cases q
    subst e0
    have hc0 := h0 rfl
    subst hc0
    clear h0 h1 h2 hl
    have hq : ∀ w, (binOp BinOp.eql 66 (.slice none 0 0) (.slice none 0 0)).run Try.prog w = .ok (.bool true) w := fun _ => by kernel_rfl
    go_enter Try.func63, Try.ntmps63
    go_wp2
    refine bodyPost_ret (v := .slice none 0 0) (by simp [results, Try.results63, go_sem]) rfl ?_
    exact ⟨none, 0, rfl, World.ownsRow_nil _ _ _ _, Below.refl _ _⟩
  | some a =>
    have hal : Below w.heap.size w (w.alloc (.cells #[] 57)) := (Below.refl _ w).alloc (Nat.le_refl _) _
    have hemp : (w.alloc (.cells #[] 57)).ownsRow w.heap.size 57 2 (.slice (some ⟨w.heap.size, 0, none⟩) 0 0) 0 [] := ⟨rfl, .inr ⟨w.heap.size, 0, #[], rfl, Nat.le_refl _, heap_alloc_new w _, Nat.le_refl _, Nat.zero_le _, rfl, rfl⟩⟩
    obtain ⟨ad', cap', w', hrun, ho, hg, _⟩ := run_sn hemp hal.size (Lr.src (f := snL) snL_len (hl.on snE_held hal)) (fun u hu => by
      obtain ⟨x, _, hx⟩ := List.mem_flatMap.1 hu
      simp at hx
      rcases hx with rfl | rfl <;> rfl) (by omega)
    rw [Nat.zero_add, List.nil_append] at ho
    rw [Nat.zero_add] at hrun
    have hb := hal.grown hg hal.size (fun k hk => (hemp.lt k hk).1)
    have HO := Lib.hid ho
    have HB := Lib.hid hb
    clear h0 h1 h2 hl ho hb hg hal hemp
    have hq : ∀ w, (binOp BinOp.eql 66 (.slice (some a) l.length cap) (.slice none 0 0)).run Try.prog w = .ok (.bool false) w := fun _ => by kernel_rfl
    go_enter Try.func63, Try.ntmps63
    go_wp2_with (at_builtin; refine wpl_run2 _ _ rfl (by simp [Act.eval]) (by simp [Act.eval]) hrun ?_)
    refine bodyPost_ret (v := .slice ad' l.length cap') (by simp [results, Try.results63, go_sem]) rfl ?_
    exact ⟨ad', cap', rfl, HO.out, HB.out⟩
set_option maxHeartbeats 1000000 in
set_option maxRecDepth 100000 in
theorem cloneR_any {w : World} {l : List Rc} {v : Value} (hl : Lr rcE 4 w l v) (hz : l.length ≤ 900000) : Calls Try.prog 37 #[v] w fun e w' => ∃ ad cap, e = .returned (.slice ad l.length cap) ∧ w'.ownsRow w.heap.size 101 4 (.slice ad l.length cap) l.length (l.flatMap rcL) ∧ Below w.heap.size w w' := by
  have hl' := hl
  obtain ⟨ad, cap, rfl, h0, h1, h2, _⟩ := hl'
  cases ad with
  | none =>
    have e0 : l = [] := by
      rcases Lr.src (f := rcL) rcL_len hl with ⟨_, q, _⟩ | ⟨a, q, _⟩
      · exact List.eq_nil_of_length_eq_zero q
      · cases q
    subst e0
    have hc0 := h0 rfl
    subst hc0
    clear h0 h1 h2 hl
    have hq : ∀ w, (binOp BinOp.eql 32 (.slice none 0 0) (.slice none 0 0)).run Try.prog w = .ok (.bool true) w := fun _ => by kernel_rfl
    go_enter Try.func37, Try.ntmps37
    go_wp2
    refine bodyPost_ret (v := .slice none 0 0) (by simp [results, Try.results37, go_sem]) rfl ?_
    exact ⟨none, 0, rfl, World.ownsRow_nil _ _ _ _, Below.refl _ _⟩
  | some a =>
    have hal : Below w.heap.size w (w.alloc (.cells #[] 101)) := (Below.refl _ w).alloc (Nat.le_refl _) _
    have hemp : (w.alloc (.cells #[] 101)).ownsRow w.heap.size 101 4 (.slice (some ⟨w.heap.size, 0, none⟩) 0 0) 0 [] := ⟨rfl, .inr ⟨w.heap.size, 0, #[], rfl, Nat.le_refl _, heap_alloc_new w _, Nat.le_refl _, Nat.zero_le _, rfl, rfl⟩⟩
    obtain ⟨ad', cap', w', hrun, ho, hg, _⟩ := run_rc hemp hal.size (Lr.src (f := rcL) rcL_len (hl.on rcE_held hal)) (fun u hu => by
      obtain ⟨x, _, hx⟩ := List.mem_flatMap.1 hu
      simp at hx
      rcases hx with rfl | rfl | rfl | rfl <;> rfl) (by omega)
    rw [Nat.zero_add, List.nil_append] at ho
    rw [Nat.zero_add] at hrun
    have hb := hal.grown hg hal.size (fun k hk => (hemp.lt k hk).1)
    have HO := Lib.hid ho
    have HB := Lib.hid hb
    clear h0 h1 h2 hl ho hb hg hal hemp
    have hq : ∀ w, (binOp BinOp.eql 32 (.slice (some a) l.length cap) (.slice none 0 0)).run Try.prog w = .ok (.bool false) w := fun _ => by kernel_rfl
    go_enter Try.func37, Try.ntmps37
    go_wp2_with (at_builtin; refine wpl_run2 _ _ rfl (by simp [Act.eval]) (by simp [Act.eval]) hrun ?_)
    refine bodyPost_ret (v := .slice ad' l.length cap') (by simp [results, Try.results37, go_sem]) rfl ?_
    exact ⟨ad', cap', rfl, HO.out, HB.out⟩
set_option maxHeartbeats 1000000 in
set_option maxRecDepth 100000 in
theorem cloneT_any {w : World} {l : List Td} {v : Value} (hl : Lr tdE 3 w l v) (hz : l.length ≤ 900000) : Calls Try.prog 38 #[v] w fun e w' => ∃ ad cap, e = .returned (.slice ad l.length cap) ∧ w'.ownsRow w.heap.size 37 3 (.slice ad l.length cap) l.length (l.flatMap tdL) ∧ Below w.heap.size w w' := by
  have hl' := hl
  obtain ⟨ad, cap, rfl, h0, h1, h2, _⟩ := hl'
  cases ad with
  | none =>
    have e0 : l = [] := by
      rcases Lr.src (f := tdL) tdL_len hl with ⟨_, q, _⟩ | ⟨a, q, _⟩
      · exact List.eq_nil_of_length_eq_zero q
      · cases q
    subst e0
    have hc0 := h0 rfl
    subst hc0
    clear h0 h1 h2 hl
    have hq : ∀ w, (binOp BinOp.eql 33 (.slice none 0 0) (.slice none 0 0)).run Try.prog w = .ok (.bool true) w := fun _ => by kernel_rfl
    go_enter Try.func38, Try.ntmps38
    go_wp2
    refine bodyPost_ret (v := .slice none 0 0) (by simp [results, Try.results38, go_sem]) rfl ?_
    exact ⟨none, 0, rfl, World.ownsRow_nil _ _ _ _, Below.refl _ _⟩
  | some a =>
    have hal : Below w.heap.size w (w.alloc (.cells #[] 37)) := (Below.refl _ w).alloc (Nat.le_refl _) _
    have hemp : (w.alloc (.cells #[] 37)).ownsRow w.heap.size 37 3 (.slice (some ⟨w.heap.size, 0, none⟩) 0 0) 0 [] := ⟨rfl, .inr ⟨w.heap.size, 0, #[], rfl, Nat.le_refl _, heap_alloc_new w _, Nat.le_refl _, Nat.zero_le _, rfl, rfl⟩⟩
    obtain ⟨ad', cap', w', hrun, ho, hg, _⟩ := run_td hemp hal.size (Lr.src (f := tdL) tdL_len (hl.on tdE_held hal)) (fun u hu => by
      obtain ⟨x, _, hx⟩ := List.mem_flatMap.1 hu
      simp at hx
      rcases hx with rfl | rfl | rfl <;> rfl) (by omega)
    rw [Nat.zero_add, List.nil_append] at ho
    rw [Nat.zero_add] at hrun
    have hb := hal.grown hg hal.size (fun k hk => (hemp.lt k hk).1)
    have HO := Lib.hid ho
    have HB := Lib.hid hb
    clear h0 h1 h2 hl ho hb hg hal hemp
    have hq : ∀ w, (binOp BinOp.eql 33 (.slice (some a) l.length cap) (.slice none 0 0)).run Try.prog w = .ok (.bool false) w := fun _ => by kernel_rfl
    go_enter Try.func38, Try.ntmps38
    go_wp2_with (at_builtin; refine wpl_run2 _ _ rfl (by simp [Act.eval]) (by simp [Act.eval]) hrun ?_)
    refine bodyPost_ret (v := .slice ad' l.length cap') (by simp [results, Try.results38, go_sem]) rfl ?_
    exact ⟨ad', cap', rfl, HO.out, HB.out⟩
end Go.Proofs.Ytcoaahlakkghhaa
/- The walk of newLock. -/
namespace Go.Proofs.Ytcoaahlakkghhaa
open Go.RowKit
section
variable {ρ : Operand → Value} {X : World} {d : Option Tmp} {ty : TypeId} {ps : String} {af : Array Edge} {g : Option (Nat × Bool)}
theorem op_f47_2 {x : Operand} {B o : Nat} (e : ρ x = .pointer (some ⟨B, o, none⟩)) : (execOp ρ ⟨d, .fieldAddr 47 x 2, ty, ps, af, g⟩).run Try.prog X = .ok (.value (.pointer (some ⟨B, o + 4, none⟩))) X := by
  simp only [execOp, e]
  go_simp
theorem op_f47_3 {x : Operand} {B o : Nat} (e : ρ x = .pointer (some ⟨B, o, none⟩)) : (execOp ρ ⟨d, .fieldAddr 47 x 3, ty, ps, af, g⟩).run Try.prog X = .ok (.value (.pointer (some ⟨B, o + 7, none⟩))) X := by
  simp only [execOp, e]
  go_simp
theorem op_f47_5 {x : Operand} {B o : Nat} (e : ρ x = .pointer (some ⟨B, o, none⟩)) : (execOp ρ ⟨d, .fieldAddr 47 x 5, ty, ps, af, g⟩).run Try.prog X = .ok (.value (.pointer (some ⟨B, o + 9, none⟩))) X := by
  simp only [execOp, e]
  go_simp
theorem op_f47_7 {x : Operand} {B o : Nat} (e : ρ x = .pointer (some ⟨B, o, none⟩)) : (execOp ρ ⟨d, .fieldAddr 47 x 7, ty, ps, af, g⟩).run Try.prog X = .ok (.value (.pointer (some ⟨B, o + 11, none⟩))) X := by
  simp only [execOp, e]
  go_simp
theorem op_alloc68 : (execOp ρ ⟨d, .alloc 68, ty, ps, af, g⟩).run Try.prog X = .ok (.value (.pointer (some ⟨X.heap.size, 0, none⟩))) (X.alloc (.cells #[.int .i64 0, .int .i64 0, .int .i64 0, .int .i64 0, .int .i64 0, .slice none 0 0, .slice none 0 0] 68)) := by
  simp only [execOp]
  go_simp
theorem op_b68 {x y z u : Operand} {t : Td} {n m : Int} {a : Option Addr} {p q : Nat} (e : ρ x = tdV t) (e2 : ρ y = .int .i64 n) (e3 : ρ z = .int .i64 m) (e4 : ρ u = .slice a p q) : (execOp ρ ⟨d, .build 68 #[(0, x), (1, y), (2, z), (4, u)], ty, ps, af, g⟩).run Try.prog X = .ok (.value (.agg #[.int .i64 t.1, .int .i64 t.2.1, .int .i64 t.2.2, .int .i64 n, .int .i64 m, .slice none 0 0, .slice a p q])) X := by
  simp only [execOp]
  simp [e, e2, e3, e4]
  go_simp
theorem call64 {v : Value} : Sem.run Try.prog (callFunc 64 #[v]) X = .ok (.enter 64 #[v]) X := by go_simp
end
def newL (c : Cm) : Lk := ⟨c.txn, c.home, c.til, c.reads.map Rn.span, c.writes⟩
def NlAns (w : World) (l : Lk) (e : Ending) (w' : World) : Prop := ∃ sa sc wa wc, e = .returned (lkV l sa sc wa wc) ∧ w'.ownsRow w.heap.size 57 2 (.slice sa l.spans.length sc) l.spans.length (l.spans.flatMap snL) ∧ w'.ownsRow w.heap.size 55 3 (.slice wa l.writes.length wc) l.writes.length (l.writes.flatMap wrL) ∧ Below w.heap.size w w'
def spTo (c : Cm) (i : Nat) : List Sn := (c.reads.take i).map Rn.span
theorem spTo_next {c : Cm} {i : Nat} (h : i < c.reads.length) : spTo c (i + 1) = spTo c i ++ [c.reads[i].span] := by
  unfold spTo
  rw [List.take_add_one, List.getElem?_eq_getElem h, List.map_append]
  rfl
theorem spTo_len {c : Cm} {i : Nat} (h : i ≤ c.reads.length) : (spTo c i).length = i := by
  unfold spTo
  rw [List.length_map, List.length_take]
  omega
def NJ (W : World) (c : Cm) (Z3 : Nat) (wa' : Option Addr) (wc' : Nat) (wr : World) (iv : Value) : Prop := ∃ (i : Nat) (sa : Option Addr) (sc : Nat), i ≤ c.reads.length ∧ iv = .int .i64 (i : Int) ∧ wr.heap[Z3]? = some (.cells #[.int .i64 c.txn.1, .int .i64 c.txn.2.1, .int .i64 c.txn.2.2, .int .i64 c.home, .int .i64 c.til, .slice sa i sc, .slice wa' c.writes.length wc'] 68 (0, 0)) ∧ wr.ownsRow W.heap.size 57 2 (.slice sa i sc) i ((spTo c i).flatMap snL) ∧ wr.ownsRow W.heap.size 55 3 (.slice wa' c.writes.length wc') c.writes.length (c.writes.flatMap wrL) ∧ Below W.heap.size W wr
section
variable {w w' : World} {c : Cm} {cs : Array Value} {ra wa : Option Addr} {rc wc : Nat}
set_option maxHeartbeats 8000000 in
set_option maxRecDepth 100000 in
theorem newLock_any (hc : Cc w c cs ra rc wa wc) (hz : c.reads.length ≤ 800000) (hz2 : c.writes.length ≤ 800000) : Calls Try.prog 53 #[.agg cs] w fun e w' => NlAns w (newL c) e w' := by
  obtain ⟨W, hW⟩ : ∃ W, W = (w.alloc (.cells cs 47)).alloc (.cells #[.int .i64 0, .int .i64 0, .int .i64 0, .int .i64 0, .int .i64 0, .slice none 0 0, .slice none 0 0] 68) := ⟨_, rfl⟩
  have hb : Below w.heap.size w W := by rw [hW]; exact ((Below.refl _ w).alloc (Nat.le_refl _) _).alloc (by simp) _
  obtain ⟨Y, hY⟩ : ∃ Y, w.heap.size = Y := ⟨_, rfl⟩
  obtain ⟨Z2, hZ⟩ : ∃ Z, Y + 1 = Z := ⟨_, rfl⟩
  have jY : W.heap[Y]? = some (.cells cs 47 (0, 0)) := by
    rw [hW, ← hY, Below.heap_alloc _ _ _ (by simp)]
    exact heap_alloc_new w _
  have jZ : W.heap[Z2]? = some (.cells #[.int .i64 0, .int .i64 0, .int .i64 0, .int .i64 0, .int .i64 0, .slice none 0 0, .slice none 0 0] 68 (0, 0)) := by
    have := heap_alloc_new (w.alloc (.cells cs 47)) (.cells #[.int .i64 0, .int .i64 0, .int .i64 0, .int .i64 0, .int .i64 0, .slice none 0 0, .slice none 0 0] 68)
    simp only [World.size_alloc] at this
    rw [hW, ← hZ, ← hY]
    exact this
  have b4 : W.cell? ⟨Y, 4, none⟩ = some (.int .i64 c.txn.1) := (cell_blk jY 4).trans hc.t0
  have b5 : W.cell? ⟨Y, 5, none⟩ = some (.int .i64 c.txn.2.1) := (cell_blk jY 5).trans hc.t1
  have b6 : W.cell? ⟨Y, 6, none⟩ = some (.int .i64 c.txn.2.2) := (cell_blk jY 6).trans hc.t2
  have b7 : W.cell? ⟨Y, 7, none⟩ = some (.int .i64 c.home) := (cell_blk jY 7).trans hc.hm
  have b9 : W.cell? ⟨Y, 9, none⟩ = some (.slice wa c.writes.length wc) := (cell_blk jY 9).trans hc.ws
  have b11 : W.cell? ⟨Y, 11, none⟩ = some (.int .i64 c.til) := (cell_blk jY 11).trans hc.til
  have HRS : Hid (W.cell? ⟨Y, 8, none⟩ = some (.slice ra c.reads.length rc)) := (cell_blk jY 8).trans hc.rs
  have HWL := Lib.hid (hc.wl.on wrE_held hb)
  have hrl := hc.rl
  obtain ⟨_, _, e1, _, r1, r2, hrc⟩ := hrl
  cases e1
  have hmr : (c.reads.length : Int) ≤ 9223372036854775807 := by unfold maxLen at r2; omega
  have HRC := Lib.hid hrc
  have HW := Lib.hid hW
  have HY := Lib.hid hY
  have HZ := Lib.hid hZ
  have HB := Lib.hid hb
  have HJZ := Lib.hid jZ
  have hZw : w.heap.size ≤ Z2 := by omega
  have hZW : Z2 < W.heap.size := blk_lt jZ
  clear hW hY hZ hb jY jZ hc hrc r1 r2
  go_enter Try.func53, Try.ntmps53
  go_upto_region 1 with fail
  rw [← HW.out, HY.out, HZ.out]
  refine wp_region_lr (fun X9 => Below W.heap.size W X9) (fun X9 X' => Below X9.heap.size X9 X') [
    fun v9 _ => v9 = .pointer (some ⟨Y, 4, none⟩),
    fun v9 _ => v9 = tdV c.txn,
    fun v9 _ => v9 = .pointer (some ⟨Y, 7, none⟩),
    fun v9 _ => v9 = .int .i64 c.home,
    fun v9 _ => v9 = .pointer (some ⟨Y, 11, none⟩),
    fun v9 _ => v9 = .int .i64 c.til,
    fun v9 _ => v9 = .pointer (some ⟨Y, 9, none⟩),
    fun v9 _ => v9 = .slice wa c.writes.length wc,
    fun v9 X9 => ∃ wa9 wc9, v9 = .slice wa9 c.writes.length wc9 ∧ X9.ownsRow W.heap.size 55 3 (.slice wa9 c.writes.length wc9) c.writes.length (c.writes.flatMap wrL),
    fun v9 X9 => ∃ wa9 wc9, v9 = .agg #[.int .i64 c.txn.1, .int .i64 c.txn.2.1, .int .i64 c.txn.2.2, .int .i64 c.home, .int .i64 c.til, .slice none 0 0, .slice wa9 c.writes.length wc9] ∧ X9.ownsRow W.heap.size 55 3 (.slice wa9 c.writes.length wc9) c.writes.length (c.writes.flatMap wrL),
    fun v9 X9 => ∃ Z3, v9 = .pointer (some ⟨Z3, 0, none⟩) ∧ W.heap.size ≤ Z3 ∧ X9.heap[Z3]? = some (.cells #[.int .i64 0, .int .i64 0, .int .i64 0, .int .i64 0, .int .i64 0, .slice none 0 0, .slice none 0 0] 68 (0, 0))]
    (fun ρ _ X9 => ∃ Z3 wa9 wc9, ρ (.tmp 3) = .pointer (some ⟨Z3, 0, none⟩) ∧ W.heap.size ≤ Z3 ∧ X9.heap[Z3]? = some (.cells #[.int .i64 c.txn.1, .int .i64 c.txn.2.1, .int .i64 c.txn.2.2, .int .i64 c.home, .int .i64 c.til, .slice none 0 0, .slice wa9 c.writes.length wc9] 68 (0, 0)) ∧ X9.ownsRow W.heap.size 55 3 (.slice wa9 c.writes.length wc9) c.writes.length (c.writes.flatMap wrL) ∧ Below W.heap.size W X9) rfl (by kernel_rfl) (by kernel_rfl) (by kernel_rfl) (by kernel_rfl) ?st ?g0 ?os ?la ?en
  case st => exact ⟨fun _ _ _ _ h => h, fun _ _ _ _ h => h, fun _ _ _ _ h => h, fun _ _ _ _ h => h, fun _ _ _ _ h => h, fun _ _ _ _ h => h, fun _ _ _ _ h => h, fun _ _ _ _ h => h, fun _ _ _ hs ⟨x, y, e, z⟩ => ⟨x, y, e, own_below z hs⟩, fun _ _ _ hs ⟨x, y, e, z⟩ => ⟨x, y, e, own_below z hs⟩, fun _ _ _ hs ⟨Z3, e, z1, z2⟩ => ⟨Z3, e, z1, (hs.block _ (blk_lt z2)).trans z2⟩, trivial⟩
  case g0 => exact ⟨rfl, rfl, rfl, Nat.le_refl _, fun _ _ => rfl⟩
  case os =>
    refine ⟨?_, ?_, ?_, ?_, ?_, ?_, ?_, ?_, ?_, ?_, ?_, trivial⟩
    · exact ⟨rfl, fun ρ X9 hg ho hc hf hr => Runs.val _ (op_f47_2 (show ρ (.tmp 1) = .pointer (some ⟨Y, 0, none⟩) from ho 1 rfl)) ⟨hg, Below.refl _ _, rfl⟩⟩
    · exact ⟨rfl, fun ρ X9 hg ho hc hf hr => Runs.val _ (op_load37 (show ρ (.tmp 6) = .pointer (some ⟨Y, 4, none⟩) from hr 0 6 rfl rfl) (cell_on hg b4) (cell_on hg b5) (cell_on hg b6)) ⟨hg, Below.refl _ _, rfl⟩⟩
    · exact ⟨rfl, fun ρ X9 hg ho hc hf hr => Runs.val _ (op_f47_3 (show ρ (.tmp 1) = .pointer (some ⟨Y, 0, none⟩) from ho 1 rfl)) ⟨hg, Below.refl _ _, rfl⟩⟩
    · exact ⟨rfl, fun ρ X9 hg ho hc hf hr => Runs.val _ (op_load3 (show ρ (.tmp 8) = .pointer (some ⟨Y, 7, none⟩) from hr 2 8 rfl rfl) (cell_on hg b7)) ⟨hg, Below.refl _ _, rfl⟩⟩
    · exact ⟨rfl, fun ρ X9 hg ho hc hf hr => Runs.val _ (op_f47_7 (show ρ (.tmp 1) = .pointer (some ⟨Y, 0, none⟩) from ho 1 rfl)) ⟨hg, Below.refl _ _, rfl⟩⟩
    · exact ⟨rfl, fun ρ X9 hg ho hc hf hr => Runs.val _ (op_load3 (show ρ (.tmp 10) = .pointer (some ⟨Y, 11, none⟩) from hr 4 10 rfl rfl) (cell_on hg b11)) ⟨hg, Below.refl _ _, rfl⟩⟩
    · exact ⟨rfl, fun ρ X9 hg ho hc hf hr => Runs.val _ (op_f47_5 (show ρ (.tmp 1) = .pointer (some ⟨Y, 0, none⟩) from ho 1 rfl)) ⟨hg, Below.refl _ _, rfl⟩⟩
    · exact ⟨rfl, fun ρ X9 hg ho hc hf hr => Runs.val _ (op_load39 (show ρ (.tmp 12) = .pointer (some ⟨Y, 9, none⟩) from hr 6 12 rfl rfl) (cell_on hg b9)) ⟨hg, Below.refl _ _, rfl⟩⟩
    · refine ⟨rfl, fun ρ X9 hg ho hc hf hr => ?_⟩
      refine Runs.goes 64 #[.slice wa c.writes.length wc] (op_call1 hf call64 (show ρ (.tmp 13) = .slice wa c.writes.length wc from hr 7 13 rfl rfl)) ((cloneW_any (HWL.out.on wrE_held hg) (by omega)).mono ?_)
      rintro e7 w7 ⟨wa9, wc9, rfl, o7, b7⟩
      exact ⟨_, rfl, hg.trans (b7.mono hg.size), b7, wa9, wc9, rfl, own_mono o7 hg.size⟩
    · refine ⟨rfl, fun ρ X9 hg ho hc hf hr => ?_⟩
      obtain ⟨wa9, wc9, e, z⟩ : ∃ wa9 wc9, ρ (.tmp 14) = .slice wa9 c.writes.length wc9 ∧ X9.ownsRow W.heap.size 55 3 (.slice wa9 c.writes.length wc9) c.writes.length (c.writes.flatMap wrL) := hr 8 14 rfl rfl
      exact Runs.val _ (op_b68 (show ρ (.tmp 7) = tdV c.txn from hr 1 7 rfl rfl) (show ρ (.tmp 9) = .int .i64 c.home from hr 3 9 rfl rfl) (show ρ (.tmp 11) = .int .i64 c.til from hr 5 11 rfl rfl) e) ⟨hg, Below.refl _ _, wa9, wc9, rfl, z⟩
    · refine ⟨rfl, fun ρ X9 hg ho hc hf hr => ?_⟩
      have hb7 : Below X9.heap.size X9 (X9.alloc (.cells #[.int .i64 0, .int .i64 0, .int .i64 0, .int .i64 0, .int .i64 0, .slice none 0 0, .slice none 0 0] 68)) := (Below.refl _ X9).alloc (Nat.le_refl _) _
      exact Runs.val _ op_alloc68 ⟨hg.trans (hb7.mono hg.size), hb7, X9.heap.size, rfl, hg.size, heap_alloc_new X9 _⟩
  case la =>
    refine ⟨rfl, fun ρ X9 hg ho hc hf hr => ?_⟩
    obtain ⟨wa9, wc9, e, z⟩ : ∃ wa9 wc9, ρ (.tmp 15) = .agg #[.int .i64 c.txn.1, .int .i64 c.txn.2.1, .int .i64 c.txn.2.2, .int .i64 c.home, .int .i64 c.til, .slice none 0 0, .slice wa9 c.writes.length wc9] ∧ X9.ownsRow W.heap.size 55 3 (.slice wa9 c.writes.length wc9) c.writes.length (c.writes.flatMap wrL) := hr 9 15 (by decide) rfl
    obtain ⟨Z3, e3, z1, z2⟩ : ∃ Z3, ρ (.tmp 3) = .pointer (some ⟨Z3, 0, none⟩) ∧ W.heap.size ≤ Z3 ∧ X9.heap[Z3]? = some (.cells #[.int .i64 0, .int .i64 0, .int .i64 0, .int .i64 0, .int .i64 0, .slice none 0 0, .slice none 0 0] 68 (0, 0)) := hr 10 3 (by decide) rfl
    obtain ⟨X8, hX8, j8, f8⟩ := sets_row z2 #[.int .i64 c.txn.1, .int .i64 c.txn.2.1, .int .i64 c.txn.2.2, .int .i64 c.home, .int .i64 c.til, .slice none 0 0, .slice wa9 c.writes.length wc9] rfl
    have hst := store_row z2 (us := #[.int .i64 c.txn.1, .int .i64 c.txn.2.1, .int .i64 c.txn.2.2, .int .i64 c.home, .int .i64 c.til, .slice none 0 0, .slice wa9 c.writes.length wc9]) rfl size68 (by simp [Value.oneCell'])
    rw [← hX8] at hst
    exact Runs.skips (op_storeAt e3 e hst) ⟨Z3, wa9, wc9, e3, z1, j8, row_keep z f8 (fun j hj q => by
      have q' : j = Z3 := q
      subst q'
      obtain ⟨c1, t1⟩ := own_tag z j hj
      exact tag_ne t1 z2 (by decide) rfl), hg.trans (f8.toBelow (fun k hk q => by have q' : k = Z3 := q; omega) hg.size)⟩
  case en =>
    intro a ρ X9 Xb v9 hF hlk hs hd ho hv9 hr
    obtain ⟨x, hx, hxt⟩ := act_put hs hd ho
    obtain ⟨Z3, wa9, wc9, e3, z1, j3, ow, bX⟩ := hF
    have x3 : x 3 = .pointer (some ⟨Z3, 0, none⟩) := ((hxt 3).symm.trans (hlk 3 (by decide))).trans e3
    change a = putAll _ x [6, 7, 8, 9, 10, 11, 12, 13, 14, 15, 3] at hx
    simp only [putAll, Act.put, List.setIfInBounds_toArray, List.set_cons_zero, List.set_cons_succ, x3] at hx
    have HJ0 : Hid (NJ W c Z3 wa9 wc9 X9 (.int .i64 0)) := ⟨0, none, 0, Nat.zero_le _, rfl, j3, World.ownsRow_nil _ _ _ _, ow, bX⟩
    have b8 := cell_on bX HRS.out
    clear hs hd ho hr hv9 hxt x3 hlk e3 j3 ow bX
    subst hx
    go_wp2
    go_loopw [19] (fun iv wr => NJ W c Z3 wa9 wc9 wr iv) (fun iv _ => c.reads.length - (intOf iv).toNat)
    case atStart => exact HJ0.out
    case round =>
      clear HJ0 b8
      obtain ⟨i, sa, sc, hi, rfl, j3, os, ow, bV⟩ := hrel
      obtain ⟨V, rfl⟩ : ∃ V, V = wr := ⟨_, rfl⟩
      have hbv : Below w.heap.size w V := HB.out.trans (bV.mono HB.out.size)
      by_cases hlt : i < c.reads.length
      · obtain ⟨b, o, cs', rfl, _, ⟨qa, qc, rfl, hst⟩, _, hcell⟩ := HRC.out i hlt
        have c0 := cell_on hbv (hcell 0 _ rfl)
        have c1 := cell_on hbv (hcell 1 _ rfl)
        have c2 := cell_on hbv (hcell 2 _ rfl)
        simp only [Nat.add_zero] at c0
        have k0 : (0 : Int) ≤ i := by omega
        have k1 : (i : Int) < c.reads.length := by omega
        have hnx := spTo_next hlt
        obtain ⟨x, hx⟩ : ∃ x, c.reads[i] = x := ⟨_, rfl⟩
        rw [hx] at c0 c1 hnx
        simp only [hx] at c2
        obtain ⟨V1, hV1⟩ : ∃ V1, V1 = V.alloc (.cells #[.string x.span.lo, .string x.span.hi, .slice qa x.seen.length qc] 60) := ⟨_, rfl⟩
        obtain ⟨Z1, hZ1⟩ : ∃ Z1, V.heap.size = Z1 := ⟨_, rfl⟩
        have bb1 : Below V.heap.size V V1 := by rw [hV1]; exact (Below.refl _ V).alloc (Nat.le_refl _) _
        have jZ1 : V1.heap[Z1]? = some (.cells #[.string x.span.lo, .string x.span.hi, .slice qa x.seen.length qc] 60 (0, 0)) := by rw [hV1, ← hZ1]; exact heap_alloc_new V _
        obtain ⟨V2, hV2⟩ : ∃ V2, V2 = V1.alloc (.cells #[.string x.span.lo, .string x.span.hi] 57) := ⟨_, rfl⟩
        have bb2 : Below V1.heap.size V1 V2 := by rw [hV2]; exact (Below.refl _ V1).alloc (Nat.le_refl _) _
        have b12 : Below V.heap.size V V2 := bb1.trans (bb2.mono bb1.size)
        have jS : V2.heap[V1.heap.size]? = some (.cells #[.string x.span.lo, .string x.span.hi] 57 (0, 0)) := by rw [hV2]; exact heap_alloc_new V1 _
        have e0 : V1.cell? ⟨Z1, 0, none⟩ = some (.string x.span.lo) := cell_blk jZ1 0
        have e1 : V1.cell? ⟨Z1, 1, none⟩ = some (.string x.span.hi) := cell_blk jZ1 1
        have j31 := (bb1.block Z3 (blk_lt j3)).trans j3
        have e5 : V1.cell? ⟨Z3, 5, none⟩ = some (.slice sa i sc) := cell_blk j31 5
        have j32 := (b12.block Z3 (blk_lt j3)).trans j3
        obtain ⟨ad9, cap9, w9, hrun, o9, g9, t9⟩ := run_sn (m := 1) (c := 1) (news := snL x.span) (own_below os b12) (Nat.le_trans bV.size b12.size) (.inr ⟨⟨V1.heap.size, 0, none⟩, rfl, rfl, fun j u hu => by
          rw [add_at, Nat.zero_add, cell_blk jS]
          simpa using hu⟩) (fun u hu => by simp at hu; rcases hu with rfl | rfl <;> rfl) (by omega)
        have hn3 : ¬ (Value.slice sa i sc).ownBlock = some Z3 := fun e => by
          obtain ⟨q1, q2⟩ := own_tag (own_below os b12) Z3 e
          exact tag_ne q2 j32 (by decide) rfl
        have f9 : Fr V2 w9 (fun k => (Value.slice sa i sc).ownBlock = some k) := Fr.grown (Fr.refl V2 _) g9 (fun k hk => .inl hk)
        have j39 : w9.heap[Z3]? = _ := (f9.block Z3 (blk_lt j32) hn3).trans j32
        have q5 : w9.cell? ⟨Z3, 5, none⟩ = some (.slice sa i sc) := cell_blk j39 5
        have q6 : w9.frozen? ⟨Z3, 5, none⟩ = false := frozen_blk j39 5
        have HNJ : Hid (NJ W c Z3 wa9 wc9 (w9.setCell ⟨Z3, 5, none⟩ (.slice ad9 (i + 1) cap9)) (.int .i64 ((i + 1 : Nat) : Int))) := by
          have fS : Fr w9 (w9.setCell ⟨Z3, 5, none⟩ (.slice ad9 (i + 1) cap9)) (fun k => k = Z3) := Fr.set (a := ⟨Z3, 5, none⟩) (Fr.refl w9 (fun k => k = Z3)) (Or.inl rfl) _
          refine ⟨i + 1, ad9, cap9, hlt, rfl, set_blk (i := 5) j39 _, ?_, ?_, ?_⟩
          · rw [hnx, List.flatMap_append, List.flatMap_singleton]
            exact row_keep o9 fS (fun j hj q => by
              have q' : j = Z3 := q
              subst q'
              obtain ⟨q1, q2⟩ := own_tag o9 j hj
              exact tag_ne q2 j39 (by decide) rfl)
          · have ow9 := row_keep (own_below ow b12) f9 (fun j hj q => by
              obtain ⟨q1, q2⟩ := own_tag (own_below ow b12) j hj
              obtain ⟨q3, q4⟩ := own_tag (own_below os b12) j q
              exact tag_ne q2 q4 (by decide) rfl)
            exact row_keep ow9 fS (fun j hj q => by
              have q' : j = Z3 := q
              subst q'
              obtain ⟨q1, q2⟩ := own_tag ow9 j hj
              exact tag_ne q2 j39 (by decide) rfl)
          · have bW9 : Below W.heap.size W w9 := (bV.trans (b12.mono bV.size)).trans (f9.toBelow (fun k hk q => by have := (os.lt k q).1; omega) (Nat.le_trans bV.size b12.size))
            exact bW9.trans (fS.toBelow (fun k hk q => by have q' : k = Z3 := q; omega) bW9.size)
        rw [hV2] at hrun
        have HV1 := Lib.hid hV1
        have HZ1 := Lib.hid hZ1
        clear hV1 hZ1 bb1 bb2 b12 jZ1 jS j31 j32 j39 o9 g9 t9 f9 hn3 hx hnx hst hcell hbv j3 os ow bV hV2
        go_upto_region 5 with fail
        rw [← HV1.out, HZ1.out]
        go_wp2_with (at_builtin; refine wpl_run2 _ _ rfl (by simp [Act.eval]) (by simp [Act.eval]) hrun ?_)
        go_roundw
        case rel => exact HNJ.out
        case measure => simp [intOf]; omega
      · have k1 : ¬ (i : Int) < c.reads.length := by omega
        have ei : i = c.reads.length := by omega
        subst ei
        have jZ := (bV.block Z2 (blk_lt HJZ.out)).trans HJZ.out
        have ld3 : (Instr.loadAt 68 (.pointer (some ⟨Z3, 0, none⟩))).run Try.prog V = .ok (.agg #[.int .i64 c.txn.1, .int .i64 c.txn.2.1, .int .i64 c.txn.2.2, .int .i64 c.home, .int .i64 c.til, .slice sa c.reads.length sc, .slice wa9 c.writes.length wc9]) V := load_row j3 Try.underlying68 rfl size68
        obtain ⟨X8, hX8, j8, f8⟩ := sets_row jZ #[.int .i64 c.txn.1, .int .i64 c.txn.2.1, .int .i64 c.txn.2.2, .int .i64 c.home, .int .i64 c.til, .slice sa c.reads.length sc, .slice wa9 c.writes.length wc9] rfl
        have hst := store_row jZ (us := #[.int .i64 c.txn.1, .int .i64 c.txn.2.1, .int .i64 c.txn.2.2, .int .i64 c.home, .int .i64 c.til, .slice sa c.reads.length sc, .slice wa9 c.writes.length wc9]) rfl size68 (by simp [Value.oneCell'])
        rw [← hX8] at hst
        have HA : Hid (NlAns w (newL c) (.returned (.agg #[.int .i64 c.txn.1, .int .i64 c.txn.2.1, .int .i64 c.txn.2.2, .int .i64 c.home, .int .i64 c.til, .slice sa c.reads.length sc, .slice wa9 c.writes.length wc9])) X8) := by
          have e2 : spTo c c.reads.length = c.reads.map Rn.span := by unfold spTo; rw [List.take_length]
          refine ⟨sa, sc, wa9, wc9, ?_, ?_, ?_, ?_⟩
          · show _ = Ending.returned (.agg #[.int .i64 c.txn.1, .int .i64 c.txn.2.1, .int .i64 c.txn.2.2, .int .i64 c.home, .int .i64 c.til, .slice sa (c.reads.map Rn.span).length sc, .slice wa9 c.writes.length wc9])
            rw [List.length_map]
          · show X8.ownsRow w.heap.size 57 2 (.slice sa (c.reads.map Rn.span).length sc) (c.reads.map Rn.span).length ((c.reads.map Rn.span).flatMap snL)
            rw [← e2, spTo_len (Nat.le_refl _)]
            exact own_mono (row_keep os f8 (fun j hj q => by have q' : j = Z2 := q; have := (os.lt j hj).1; omega)) HB.out.size
          · exact own_mono (row_keep ow f8 (fun j hj q => by have q' : j = Z2 := q; have := (ow.lt j hj).1; omega)) HB.out.size
          · exact hbv.trans (f8.toBelow (fun k hk q => by have q' : k = Z2 := q; omega) hbv.size)
        have HJ8 := Lib.hid j8
        clear j3 os ow bV hbv jZ hX8 j8 f8
        go_wp2_with (first | (refine wpl_load _ rfl (by simp [Act.eval]) ld3 ?_) | (refine wpl_store _ _ rfl (by simp [Act.eval, Act.put]) (by simp [Act.eval, Act.put]) hst ?_))
        refine bodyPost_ret (results_one Try.results53 rfl (load_var HJ8.out Try.underlying68 rfl size68)) rfl ?_
        exact HA.out
end
end Go.Proofs.Ytcoaahlakkghhaa
