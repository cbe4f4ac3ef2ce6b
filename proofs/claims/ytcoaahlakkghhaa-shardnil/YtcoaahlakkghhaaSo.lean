/- The walks of commit and abort. -/
import Derived.Test.YtcoaahlakkghhaaSn
namespace Go.Proofs.Ytcoaahlakkghhaa
open Go.RowKit
/-! ### Plain -/
def mx3 (m a : Int) : Int := if (if m < a then a else m) < 1 then 1 else if m < a then a else m
def Sh.enter (s : Sh) (r : Rc) : Sh := { s with recs := s.recs ++ [r] }
def Sh.commit (s : Sh) (a : Int) (c : Cm) : Sh × Rz := match recOf s.recs c.txn with
  | some ts => (s, if ts = 0 then ⟨132, 0, td0, 0, false⟩ else ⟨0, ts, td0, 0, false⟩)
  | none => if c.til < mx3 c.mn a then (s.enter (c.txn, 0), ⟨133, 0, td0, 0, true⟩) else (s.enter (c.txn, mx3 c.mn a), ⟨0, mx3 c.mn a, td0, 0, true⟩)
def Sh.abort (s : Sh) (c : Cm) : Sh × Rz := match recOf s.recs c.txn with
  | some ts => (s, if ts = 0 then rz0 else ⟨132, ts, td0, 0, false⟩)
  | none => (s.enter (c.txn, 0), ⟨0, 0, td0, 0, true⟩)
section
variable {w w1 w2 X : World} {A Z : Nat} {S : Nat → Prop} {s s' : Sh}
theorem Step.same (h : Sy w A S s) (hb : Below w.heap.size w X) : Step w A S s X := ⟨S, h.on hb, fun _ q => .inl q, Fr.ofBelow S hb⟩
theorem Step.close (hb : Below w.heap.size w w1) (st : Step w1 A S s' w2) (hS : ∀ k, S k → k < w.heap.size) (f : Fr w2 X (fun k => k = Z)) (hZ1 : w.heap.size ≤ Z) (hZ2 : Z < w1.heap.size) : Step w A S s' X := by
  obtain ⟨S', hy, hg, hf⟩ := st
  refine ⟨S', hy.stays f (fun k hk e => ?_), fun k hk => ?_, ?_⟩
  · have e' : k = Z := e
    subst e'
    rcases hg k hk with q | q
    · have := hS k q
      omega
    · omega
  · rcases hg k hk with q | q
    · exact .inl q
    · have h1 := hb.size
      have h2 := f.size
      exact .inr ⟨by omega, by omega⟩
  · have h1 : Fr w w2 S := ⟨hf.os.trans hb.os, hf.tape.trans hb.tape, hf.output.trans hb.output, Nat.le_trans hb.size hf.size, fun k hk hn => (hf.block k (Nat.lt_of_lt_of_le hk hb.size) hn).trans (hb.block k hk)⟩
    exact h1.step f (fun k hk => .inr (by have e' : k = Z := hk; omega))
end
theorem box47 {w W : World} {cs : Array Value} (hW : W = (w.alloc (.cells cs 47)).alloc (.cells #[.int .i64 0, .int .i64 0, .int .i64 0, .int .i64 0, .int .i64 0, .int .i64 0, .int .i64 0, .int .i64 0, .bool false] 52)) : Below w.heap.size w W ∧ W.heap[w.heap.size]? = some (.cells cs 47 (0, 0)) ∧ W.heap[w.heap.size + 1]? = some (.cells #[.int .i64 0, .int .i64 0, .int .i64 0, .int .i64 0, .int .i64 0, .int .i64 0, .int .i64 0, .int .i64 0, .bool false] 52 (0, 0)) ∧ w.heap.size + 1 < W.heap.size := by
  subst hW
  refine ⟨((Below.refl _ w).alloc (Nat.le_refl _) _).alloc (by simp) _, ?_, ?_, by simp⟩
  · rw [Below.heap_alloc _ _ _ (by simp)]
    exact heap_alloc_new w _
  · have := heap_alloc_new (w.alloc (.cells cs 47)) (.cells #[.int .i64 0, .int .i64 0, .int .i64 0, .int .i64 0, .int .i64 0, .int .i64 0, .int .i64 0, .int .i64 0, .bool false] 52)
    simp only [World.size_alloc] at this
    exact this
section
variable {w w' : World} {A : Nat} {S : Nat → Prop} {s : Sh} {c : Cm} {cs : Array Value} {ra wa : Option Addr} {rc wc : Nat}
set_option maxHeartbeats 4000000 in
set_option maxRecDepth 100000 in
theorem commit_any (hy : Sy w A S s) (hc : Cc w c cs ra rc wa wc) (ht : TdOk c.txn) (hfew : s.recs.length < 800000) (a0 : Int) : Calls Try.prog 28 #[.pointer (some ⟨A, 0, none⟩), .int .i64 a0, .agg cs] w fun e w' => e = .returned (rzV (s.commit a0 c).2) ∧ Step w A S (s.commit a0 c).1 w' := by
  obtain ⟨W, hW⟩ : ∃ W, W = (w.alloc (.cells cs 47)).alloc (.cells #[.int .i64 0, .int .i64 0, .int .i64 0, .int .i64 0, .int .i64 0, .int .i64 0, .int .i64 0, .int .i64 0, .bool false] 52) := ⟨_, rfl⟩
  obtain ⟨hb, jY, jZ, hZW⟩ := box47 hW
  obtain ⟨Y, hY⟩ : ∃ Y, w.heap.size = Y := ⟨_, rfl⟩
  obtain ⟨Z, hZ⟩ : ∃ Z, Y + 1 = Z := ⟨_, rfl⟩
  rw [hY] at jY jZ hZW
  rw [hZ] at jZ hZW
  have b4 : W.cell? ⟨Y, 4, none⟩ = some (.int .i64 c.txn.1) := (cell_blk jY 4).trans hc.t0
  have b5 : W.cell? ⟨Y, 5, none⟩ = some (.int .i64 c.txn.2.1) := (cell_blk jY 5).trans hc.t1
  have b6 : W.cell? ⟨Y, 6, none⟩ = some (.int .i64 c.txn.2.2) := (cell_blk jY 6).trans hc.t2
  have hZw : w.heap.size ≤ Z := by omega
  have hyl := hy.lt
  have HSY := Lib.hid hy
  have HYW := Lib.hid (hy.on hb)
  have HSL := Lib.hid hyl
  obtain ⟨S1, S2, P, M, N, G, lv, rv, ov, hx, hS⟩ := hy.on hb
  have HW := Lib.hid hW
  have HY := Lib.hid hY
  have HZ := Lib.hid hZ
  have HB := Lib.hid hb
  have HJZ := Lib.hid jZ
  have HJY := Lib.hid jY
  have HX := Lib.hid hx
  have HSS := Lib.hid hS
  have hrec := record_any hx ht
  obtain ⟨ro, hro⟩ : ∃ ro, recOf s.recs c.txn = ro := ⟨_, rfl⟩
  rw [hro] at hrec
  have HRO := Lib.hid hro
  have HMN : Hid (cs[10]? = some (.int .i64 c.mn)) := hc.mn
  have HTL : Hid (cs[11]? = some (.int .i64 c.til)) := hc.til
  clear hW hY hZ hb jY jZ hx hS hro hy hc hyl
  go_enter Try.func28, Try.ntmps28
  go_upto_region 1 with fail
  rw [← HW.out, HY.out, HZ.out]
  go_wp2_with fail
  refine hrec.mono ?_
  rintro e w1 ⟨rfl, b1⟩
  have jZ1 := (b1.block Z (blk_lt HJZ.out)).trans HJZ.out
  have jY1 := (b1.block Y (blk_lt HJY.out)).trans HJY.out
  have HB1 := Lib.hid (HB.out.trans (b1.mono HB.out.size))
  have HX1 := Lib.hid (HX.out.on b1)
  have hZ1 : Z < w1.heap.size := blk_lt jZ1
  have HJ1 := Lib.hid jZ1
  have HJY1 := Lib.hid jY1
  cases ro with
  | some ts =>
    simp only [Option.getD_some, Option.isSome_some]
    by_cases h0 : ts = 0
    · obtain ⟨X, hst, jX, fX⟩ := put_rz jZ1 rfl ⟨132, 0, td0, 0, false⟩
      have HR : Hid (s.commit a0 c = (s, ⟨132, 0, td0, 0, false⟩)) := by show _ = _; unfold Sh.commit; rw [HRO.out]; simp [h0]
      have HA : Hid (Step w A S s X) := Step.close HB1.out (Step.same (HYW.out.on b1) (Below.refl _ _)) HSL.out fX hZw hZ1
      have HJX := Lib.hid jX
      clear jX fX b1 hrec jZ1 jY1
      go_wp2_with (refine wpl_store _ _ rfl (by simp [Act.eval]) (by simp [Act.eval]) hst ?_)
      refine bodyPost_ret (ret_rz HJX.out Try.results28 rfl) rfl ?_
      rw [HR.out]
      exact ⟨rfl, HA.out⟩
    · obtain ⟨X, hst, jX, fX⟩ := put_rz jZ1 rfl ⟨0, ts, td0, 0, false⟩
      have HR : Hid (s.commit a0 c = (s, ⟨0, ts, td0, 0, false⟩)) := by show _ = _; unfold Sh.commit; rw [HRO.out]; simp [h0]
      have HA : Hid (Step w A S s X) := Step.close HB1.out (Step.same (HYW.out.on b1) (Below.refl _ _)) HSL.out fX hZw hZ1
      have HJX := Lib.hid jX
      clear jX fX b1 hrec jZ1 jY1
      go_wp2_with (refine wpl_store _ _ rfl (by simp [Act.eval]) (by simp [Act.eval]) hst ?_)
      refine bodyPost_ret (ret_rz HJX.out Try.results28 rfl) rfl ?_
      rw [HR.out]
      exact ⟨rfl, HA.out⟩
  | none =>
    simp only [Option.getD_none, Option.isSome_none]
    have c10 : w1.cell? ⟨Y, 10, none⟩ = some (.int .i64 c.mn) := (cell_blk jY1 10).trans HMN.out
    have c11 : w1.cell? ⟨Y, 11, none⟩ = some (.int .i64 c.til) := (cell_blk jY1 11).trans HTL.out
    have c4 := cell_on b1 b4
    have c5 := cell_on b1 b5
    have c6 := cell_on b1 b6
    obtain ⟨tm, htm⟩ : ∃ tm, (if (if c.mn < a0 then a0 else c.mn) < 1 then 1 else if c.mn < a0 then a0 else c.mn) = tm := ⟨_, rfl⟩
    have HTM : Hid (mx3 c.mn a0 = tm) := htm
    clear b1 hrec jZ1 jY1
    by_cases hlate : c.til < tm
    · have hen := enter_any HX1.out HSS.out (r := (c.txn, 0)) HRO.out ht hfew
      have HR : Hid (s.commit a0 c = (s.enter (c.txn, 0), ⟨133, 0, td0, 0, true⟩)) := by show _ = _; unfold Sh.commit; rw [HRO.out]; simp only [HTM.out]; rw [if_pos hlate]
      go_wp2_with fail
      refine hen.mono ?_
      rintro e w2 ⟨rfl, hstp⟩
      have jZ2 : w2.heap[Z]? = some (.cells #[.int .i64 0, .int .i64 0, .int .i64 0, .int .i64 0, .int .i64 0, .int .i64 0, .int .i64 0, .int .i64 0, .bool false] 52 (0, 0)) := by
        obtain ⟨_, _, _, hf⟩ := hstp
        exact (hf.block Z hZ1 (fun q => by have := HSL.out Z q; omega)).trans HJ1.out
      obtain ⟨X, hst, jX, fX⟩ := put_rz jZ2 rfl ⟨133, 0, td0, 0, true⟩
      have HA : Hid (Step w A S (s.enter (c.txn, 0)) X) := Step.close HB1.out hstp HSL.out fX hZw hZ1
      have HJX := Lib.hid jX
      clear jX fX hen jZ2 hstp
      go_wp2_with (refine wpl_store _ _ rfl (by simp [Act.eval]) (by simp [Act.eval]) hst ?_)
      refine bodyPost_ret (ret_rz HJX.out Try.results28 rfl) rfl ?_
      rw [HR.out]
      exact ⟨rfl, HA.out⟩
    · have hen := enter_any HX1.out HSS.out (r := (c.txn, tm)) HRO.out ht hfew
      have HR : Hid (s.commit a0 c = (s.enter (c.txn, tm), ⟨0, tm, td0, 0, true⟩)) := by show _ = _; unfold Sh.commit; rw [HRO.out]; simp only [HTM.out]; rw [if_neg hlate]
      go_wp2_with fail
      refine hen.mono ?_
      rintro e w2 ⟨rfl, hstp⟩
      have jZ2 : w2.heap[Z]? = some (.cells #[.int .i64 0, .int .i64 0, .int .i64 0, .int .i64 0, .int .i64 0, .int .i64 0, .int .i64 0, .int .i64 0, .bool false] 52 (0, 0)) := by
        obtain ⟨_, _, _, hf⟩ := hstp
        exact (hf.block Z hZ1 (fun q => by have := HSL.out Z q; omega)).trans HJ1.out
      obtain ⟨X, hst, jX, fX⟩ := put_rz jZ2 rfl ⟨0, tm, td0, 0, true⟩
      have HA : Hid (Step w A S (s.enter (c.txn, tm)) X) := Step.close HB1.out hstp HSL.out fX hZw hZ1
      have HJX := Lib.hid jX
      clear jX fX hen jZ2 hstp
      go_wp2_with (refine wpl_store _ _ rfl (by simp [Act.eval]) (by simp [Act.eval]) hst ?_)
      refine bodyPost_ret (ret_rz HJX.out Try.results28 rfl) rfl ?_
      rw [HR.out]
      exact ⟨rfl, HA.out⟩
set_option maxHeartbeats 4000000 in
set_option maxRecDepth 100000 in
theorem abort_any (hy : Sy w A S s) (hc : Cc w c cs ra rc wa wc) (ht : TdOk c.txn) (hfew : s.recs.length < 800000) (a0 : Int) : Calls Try.prog 29 #[.pointer (some ⟨A, 0, none⟩), .int .i64 a0, .agg cs] w fun e w' => e = .returned (rzV (s.abort c).2) ∧ Step w A S (s.abort c).1 w' := by
  obtain ⟨W, hW⟩ : ∃ W, W = (w.alloc (.cells cs 47)).alloc (.cells #[.int .i64 0, .int .i64 0, .int .i64 0, .int .i64 0, .int .i64 0, .int .i64 0, .int .i64 0, .int .i64 0, .bool false] 52) := ⟨_, rfl⟩
  obtain ⟨hb, jY, jZ, hZW⟩ := box47 hW
  obtain ⟨Y, hY⟩ : ∃ Y, w.heap.size = Y := ⟨_, rfl⟩
  obtain ⟨Z, hZ⟩ : ∃ Z, Y + 1 = Z := ⟨_, rfl⟩
  rw [hY] at jY jZ hZW
  rw [hZ] at jZ hZW
  have b4 : W.cell? ⟨Y, 4, none⟩ = some (.int .i64 c.txn.1) := (cell_blk jY 4).trans hc.t0
  have b5 : W.cell? ⟨Y, 5, none⟩ = some (.int .i64 c.txn.2.1) := (cell_blk jY 5).trans hc.t1
  have b6 : W.cell? ⟨Y, 6, none⟩ = some (.int .i64 c.txn.2.2) := (cell_blk jY 6).trans hc.t2
  have hZw : w.heap.size ≤ Z := by omega
  have hyl := hy.lt
  have HSY := Lib.hid hy
  have HYW := Lib.hid (hy.on hb)
  have HSL := Lib.hid hyl
  obtain ⟨S1, S2, P, M, N, G, lv, rv, ov, hx, hS⟩ := hy.on hb
  have HW := Lib.hid hW
  have HY := Lib.hid hY
  have HZ := Lib.hid hZ
  have HB := Lib.hid hb
  have HJZ := Lib.hid jZ
  have HJY := Lib.hid jY
  have HX := Lib.hid hx
  have HSS := Lib.hid hS
  have hrec := record_any hx ht
  obtain ⟨ro, hro⟩ : ∃ ro, recOf s.recs c.txn = ro := ⟨_, rfl⟩
  rw [hro] at hrec
  have HRO := Lib.hid hro
  clear hW hY hZ hb jY jZ hx hS hro hy hc hyl
  go_enter Try.func29, Try.ntmps29
  go_upto_region 1 with fail
  rw [← HW.out, HY.out, HZ.out]
  go_wp2_with fail
  refine hrec.mono ?_
  rintro e w1 ⟨rfl, b1⟩
  have jZ1 := (b1.block Z (blk_lt HJZ.out)).trans HJZ.out
  have HB1 := Lib.hid (HB.out.trans (b1.mono HB.out.size))
  have HX1 := Lib.hid (HX.out.on b1)
  have hZ1 : Z < w1.heap.size := blk_lt jZ1
  have HJ1 := Lib.hid jZ1
  cases ro with
  | some ts =>
    simp only [Option.getD_some, Option.isSome_some]
    by_cases h0 : ts = 0
    · obtain ⟨X, hst, jX, fX⟩ := put_rz jZ1 rfl rz0
      have HR : Hid (s.abort c = (s, rz0)) := by show _ = _; unfold Sh.abort; rw [HRO.out]; simp [h0]
      have HA : Hid (Step w A S s X) := Step.close HB1.out (Step.same (HYW.out.on b1) (Below.refl _ _)) HSL.out fX hZw hZ1
      have HJX := Lib.hid jX
      clear jX fX b1 hrec jZ1
      go_wp2_with (refine wpl_store _ _ rfl (by simp [Act.eval]) (by simp [Act.eval, rz0]) hst ?_)
      refine bodyPost_ret (ret_rz HJX.out Try.results29 rfl) rfl ?_
      rw [HR.out]
      exact ⟨rfl, HA.out⟩
    · obtain ⟨X, hst, jX, fX⟩ := put_rz jZ1 rfl ⟨132, ts, td0, 0, false⟩
      have HR : Hid (s.abort c = (s, ⟨132, ts, td0, 0, false⟩)) := by show _ = _; unfold Sh.abort; rw [HRO.out]; simp [h0]
      have HA : Hid (Step w A S s X) := Step.close HB1.out (Step.same (HYW.out.on b1) (Below.refl _ _)) HSL.out fX hZw hZ1
      have HJX := Lib.hid jX
      clear jX fX b1 hrec jZ1
      go_wp2_with (refine wpl_store _ _ rfl (by simp [Act.eval]) (by simp [Act.eval]) hst ?_)
      refine bodyPost_ret (ret_rz HJX.out Try.results29 rfl) rfl ?_
      rw [HR.out]
      exact ⟨rfl, HA.out⟩
  | none =>
    simp only [Option.getD_none, Option.isSome_none]
    have c4 := cell_on b1 b4
    have c5 := cell_on b1 b5
    have c6 := cell_on b1 b6
    have hen := enter_any HX1.out HSS.out (r := (c.txn, 0)) HRO.out ht hfew
    have HR : Hid (s.abort c = (s.enter (c.txn, 0), ⟨0, 0, td0, 0, true⟩)) := by show _ = _; unfold Sh.abort; rw [HRO.out]
    clear b1 hrec jZ1
    go_wp2_with fail
    refine hen.mono ?_
    rintro e w2 ⟨rfl, hstp⟩
    have jZ2 : w2.heap[Z]? = some (.cells #[.int .i64 0, .int .i64 0, .int .i64 0, .int .i64 0, .int .i64 0, .int .i64 0, .int .i64 0, .int .i64 0, .bool false] 52 (0, 0)) := by
      obtain ⟨_, _, _, hf⟩ := hstp
      exact (hf.block Z hZ1 (fun q => by have := HSL.out Z q; omega)).trans HJ1.out
    obtain ⟨X, hst, jX, fX⟩ := put_rz jZ2 rfl ⟨0, 0, td0, 0, true⟩
    have HA : Hid (Step w A S (s.enter (c.txn, 0)) X) := Step.close HB1.out hstp HSL.out fX hZw hZ1
    have HJX := Lib.hid jX
    clear jX fX hen jZ2 hstp
    go_wp2_with (refine wpl_store _ _ rfl (by simp [Act.eval]) (by simp [Act.eval]) hst ?_)
    refine bodyPost_ret (ret_rz HJX.out Try.results29 rfl) rfl ?_
    rw [HR.out]
    exact ⟨rfl, HA.out⟩
end
end Go.Proofs.Ytcoaahlakkghhaa
