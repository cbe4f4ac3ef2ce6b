/- The walk of Do. -/
import Derived.Test.YtcoaahlakkghhaaTc
namespace Go.Proofs.Ytcoaahlakkghhaa
open Go.RowKit
theorem wpl_upd {P : Program} {w w' : World} {ops : Array Oper} {rest : List Oper} {o : Oper} {a : Act} {Q : Exit → Act → World → Prop} {t ty : TypeId} {p k v : Value} {ds : Option Tmp} {ps : String} {af : Array Edge} (x y z : Operand)
    (ho : o = ⟨ds, .insert t x y z, ty, ps, af, none⟩) (hx : a.eval x = p) (hy : a.eval y = k) (hz : a.eval z = v) (hst : (Instr.mapUpdate t p k v).run P w = .ok () w')
    (h : wpList P ops Q rest (a.put ds undef) w') : wpList P ops Q (o :: rest) a w := by
  subst ho
  subst hx
  subst hy
  subst hz
  refine wpList_plain rfl fun K hK => ?_
  unfold Oper.wp execOp
  simp only [Sem.run_bind, Sem.run_pure, Result.andThen_ok, hst]
  exact hK _ _ h
section
variable {w w' : World} {A : Nat} {S : Nat → Prop} {s : Sh} {c : Cm} {cs : Array Value} {ra wa : Option Addr} {rc wc : Nat}
set_option maxHeartbeats 4000000 in
set_option maxRecDepth 100000 in
theorem do_1 (hy : Sy w A S s) (hc : Cc w c cs ra rc wa wc) (hkd : c.kind = 1) (hkk : I64 c.kind) (a0 : Int) {r : Sh × Rz} (hcall : ∀ X, Below w.heap.size w X → Calls Try.prog 27 #[.pointer (some ⟨A, 0, none⟩), .int .i64 a0, .agg cs] X fun e w' => e = .returned (rzV r.2) ∧ Step X A S r.1 w') : Calls Try.prog 13 #[.pointer (some ⟨A, 0, none⟩), .int .i64 a0, .agg cs] w fun e w' => e = .returned (rzV r.2) ∧ Step w A S r.1 w' := by
  obtain ⟨W, hW⟩ : ∃ W, W = (w.alloc (.cells cs 47)).alloc (.cells #[.int .i64 0, .int .i64 0, .int .i64 0, .int .i64 0, .int .i64 0, .int .i64 0, .int .i64 0, .int .i64 0, .bool false] 52) := ⟨_, rfl⟩
  obtain ⟨hb, jY, jZ, hZW⟩ := box47 hW
  obtain ⟨Y, hY⟩ : ∃ Y, w.heap.size = Y := ⟨_, rfl⟩
  obtain ⟨Z, hZ⟩ : ∃ Z, Y + 1 = Z := ⟨_, rfl⟩
  rw [hY] at jY jZ hZW
  rw [hZ] at jZ hZW
  have hZw : w.heap.size ≤ Z := by omega
  have hyl := hy.lt
  have HSL := Lib.hid hyl
  obtain ⟨S1, S2, P, M, N, G, lv, rv, ov, hx, hS⟩ := hy.on hb
  have a0c : W.cell? ⟨A, 0, none⟩ = some (.pointer (some ⟨P, 0, none⟩)) := cell_blk hx.ob 0
  obtain ⟨V0, V1, V2, V3, V, B, m0, r1, r2, r3, r4, hlk, bV⟩ := do_map W
  have bwV : Below w.heap.size w V := hb.trans (bV.mono hb.size)
  have jYV := (bV.block Y (blk_lt jY)).trans jY
  have jZV := (bV.block Z (blk_lt jZ)).trans jZ
  have k0 : V.cell? ⟨Y, 0, none⟩ = some (.int .i64 c.kind) := (cell_blk jYV 0).trans hc.k
  have hl : (Instr.lookup 94 (.map (some B)) (.int .i64 1) true).run Try.prog V = .ok (.tuple #[fnV 27, .bool true]) V := by
    have q := hlk c.kind hkk
    rw [hkd] at q
    exact q
  rw [hkd] at k0
  have hld : (Instr.loadAt 47 (.pointer (some ⟨Y, 0, none⟩))).run Try.prog V = .ok (.agg cs) V := load_row jYV Try.underlying47 rfl (by rw [hc.sz]; exact size47)
  have hca := hcall V bwV
  have HJZ := Lib.hid jZV
  have HBV := Lib.hid bwV
  have hZV : Z < V.heap.size := blk_lt jZV
  have HW := Lib.hid hW
  have HY := Lib.hid hY
  have HZ := Lib.hid hZ
  clear hW hY hZ hb jY jZ hx hS hy hc hyl hlk bV bwV jYV jZV hcall hZW hkd hkk
  go_enter Try.func13, Try.ntmps13
  go_upto_region 1 with fail
  rw [← HW.out, HY.out, HZ.out]
  go_wp2_with (first | refine wpl_load _ rfl (by simp [Act.eval]) hld ?_ | fail)
  refine hca.mono ?_
  rintro e w2 ⟨rfl, hstp⟩
  have jZ2 : w2.heap[Z]? = some (.cells #[.int .i64 0, .int .i64 0, .int .i64 0, .int .i64 0, .int .i64 0, .int .i64 0, .int .i64 0, .int .i64 0, .bool false] 52 (0, 0)) := by
    obtain ⟨_, _, _, hf⟩ := hstp
    exact (hf.block Z hZV (fun q => by have := HSL.out Z q; omega)).trans HJZ.out
  obtain ⟨X, hst, jX, fX⟩ := put_rz jZ2 rfl r.2
  have HA : Hid (Step w A S r.1 X) := Step.close HBV.out hstp HSL.out fX hZw hZV
  have HJX := Lib.hid jX
  clear jX fX hca jZ2 hstp
  go_wp2_with (refine wpl_store _ _ rfl (by simp [Act.eval]) (by simp [Act.eval]) hst ?_)
  refine bodyPost_ret (ret_rz HJX.out Try.results13 rfl) rfl ?_
  exact ⟨rfl, HA.out⟩
set_option maxHeartbeats 4000000 in
set_option maxRecDepth 100000 in
theorem do_2 (hy : Sy w A S s) (hc : Cc w c cs ra rc wa wc) (hkd : c.kind = 2) (hkk : I64 c.kind) (a0 : Int) {r : Sh × Rz} (hcall : ∀ X, Below w.heap.size w X → Calls Try.prog 28 #[.pointer (some ⟨A, 0, none⟩), .int .i64 a0, .agg cs] X fun e w' => e = .returned (rzV r.2) ∧ Step X A S r.1 w') : Calls Try.prog 13 #[.pointer (some ⟨A, 0, none⟩), .int .i64 a0, .agg cs] w fun e w' => e = .returned (rzV r.2) ∧ Step w A S r.1 w' := by
  obtain ⟨W, hW⟩ : ∃ W, W = (w.alloc (.cells cs 47)).alloc (.cells #[.int .i64 0, .int .i64 0, .int .i64 0, .int .i64 0, .int .i64 0, .int .i64 0, .int .i64 0, .int .i64 0, .bool false] 52) := ⟨_, rfl⟩
  obtain ⟨hb, jY, jZ, hZW⟩ := box47 hW
  obtain ⟨Y, hY⟩ : ∃ Y, w.heap.size = Y := ⟨_, rfl⟩
  obtain ⟨Z, hZ⟩ : ∃ Z, Y + 1 = Z := ⟨_, rfl⟩
  rw [hY] at jY jZ hZW
  rw [hZ] at jZ hZW
  have hZw : w.heap.size ≤ Z := by omega
  have hyl := hy.lt
  have HSL := Lib.hid hyl
  obtain ⟨S1, S2, P, M, N, G, lv, rv, ov, hx, hS⟩ := hy.on hb
  have a0c : W.cell? ⟨A, 0, none⟩ = some (.pointer (some ⟨P, 0, none⟩)) := cell_blk hx.ob 0
  obtain ⟨V0, V1, V2, V3, V, B, m0, r1, r2, r3, r4, hlk, bV⟩ := do_map W
  have bwV : Below w.heap.size w V := hb.trans (bV.mono hb.size)
  have jYV := (bV.block Y (blk_lt jY)).trans jY
  have jZV := (bV.block Z (blk_lt jZ)).trans jZ
  have k0 : V.cell? ⟨Y, 0, none⟩ = some (.int .i64 c.kind) := (cell_blk jYV 0).trans hc.k
  have hl : (Instr.lookup 94 (.map (some B)) (.int .i64 2) true).run Try.prog V = .ok (.tuple #[fnV 28, .bool true]) V := by
    have q := hlk c.kind hkk
    rw [hkd] at q
    exact q
  rw [hkd] at k0
  have hld : (Instr.loadAt 47 (.pointer (some ⟨Y, 0, none⟩))).run Try.prog V = .ok (.agg cs) V := load_row jYV Try.underlying47 rfl (by rw [hc.sz]; exact size47)
  have hca := hcall V bwV
  have HJZ := Lib.hid jZV
  have HBV := Lib.hid bwV
  have hZV : Z < V.heap.size := blk_lt jZV
  have HW := Lib.hid hW
  have HY := Lib.hid hY
  have HZ := Lib.hid hZ
  clear hW hY hZ hb jY jZ hx hS hy hc hyl hlk bV bwV jYV jZV hcall hZW hkd hkk
  go_enter Try.func13, Try.ntmps13
  go_upto_region 1 with fail
  rw [← HW.out, HY.out, HZ.out]
  go_wp2_with (first | refine wpl_load _ rfl (by simp [Act.eval]) hld ?_ | fail)
  refine hca.mono ?_
  rintro e w2 ⟨rfl, hstp⟩
  have jZ2 : w2.heap[Z]? = some (.cells #[.int .i64 0, .int .i64 0, .int .i64 0, .int .i64 0, .int .i64 0, .int .i64 0, .int .i64 0, .int .i64 0, .bool false] 52 (0, 0)) := by
    obtain ⟨_, _, _, hf⟩ := hstp
    exact (hf.block Z hZV (fun q => by have := HSL.out Z q; omega)).trans HJZ.out
  obtain ⟨X, hst, jX, fX⟩ := put_rz jZ2 rfl r.2
  have HA : Hid (Step w A S r.1 X) := Step.close HBV.out hstp HSL.out fX hZw hZV
  have HJX := Lib.hid jX
  clear jX fX hca jZ2 hstp
  go_wp2_with (refine wpl_store _ _ rfl (by simp [Act.eval]) (by simp [Act.eval]) hst ?_)
  refine bodyPost_ret (ret_rz HJX.out Try.results13 rfl) rfl ?_
  exact ⟨rfl, HA.out⟩
set_option maxHeartbeats 4000000 in
set_option maxRecDepth 100000 in
theorem do_3 (hy : Sy w A S s) (hc : Cc w c cs ra rc wa wc) (hkd : c.kind = 3) (hkk : I64 c.kind) (a0 : Int) {r : Sh × Rz} (hcall : ∀ X, Below w.heap.size w X → Calls Try.prog 29 #[.pointer (some ⟨A, 0, none⟩), .int .i64 a0, .agg cs] X fun e w' => e = .returned (rzV r.2) ∧ Step X A S r.1 w') : Calls Try.prog 13 #[.pointer (some ⟨A, 0, none⟩), .int .i64 a0, .agg cs] w fun e w' => e = .returned (rzV r.2) ∧ Step w A S r.1 w' := by
  obtain ⟨W, hW⟩ : ∃ W, W = (w.alloc (.cells cs 47)).alloc (.cells #[.int .i64 0, .int .i64 0, .int .i64 0, .int .i64 0, .int .i64 0, .int .i64 0, .int .i64 0, .int .i64 0, .bool false] 52) := ⟨_, rfl⟩
  obtain ⟨hb, jY, jZ, hZW⟩ := box47 hW
  obtain ⟨Y, hY⟩ : ∃ Y, w.heap.size = Y := ⟨_, rfl⟩
  obtain ⟨Z, hZ⟩ : ∃ Z, Y + 1 = Z := ⟨_, rfl⟩
  rw [hY] at jY jZ hZW
  rw [hZ] at jZ hZW
  have hZw : w.heap.size ≤ Z := by omega
  have hyl := hy.lt
  have HSL := Lib.hid hyl
  obtain ⟨S1, S2, P, M, N, G, lv, rv, ov, hx, hS⟩ := hy.on hb
  have a0c : W.cell? ⟨A, 0, none⟩ = some (.pointer (some ⟨P, 0, none⟩)) := cell_blk hx.ob 0
  obtain ⟨V0, V1, V2, V3, V, B, m0, r1, r2, r3, r4, hlk, bV⟩ := do_map W
  have bwV : Below w.heap.size w V := hb.trans (bV.mono hb.size)
  have jYV := (bV.block Y (blk_lt jY)).trans jY
  have jZV := (bV.block Z (blk_lt jZ)).trans jZ
  have k0 : V.cell? ⟨Y, 0, none⟩ = some (.int .i64 c.kind) := (cell_blk jYV 0).trans hc.k
  have hl : (Instr.lookup 94 (.map (some B)) (.int .i64 3) true).run Try.prog V = .ok (.tuple #[fnV 29, .bool true]) V := by
    have q := hlk c.kind hkk
    rw [hkd] at q
    exact q
  rw [hkd] at k0
  have hld : (Instr.loadAt 47 (.pointer (some ⟨Y, 0, none⟩))).run Try.prog V = .ok (.agg cs) V := load_row jYV Try.underlying47 rfl (by rw [hc.sz]; exact size47)
  have hca := hcall V bwV
  have HJZ := Lib.hid jZV
  have HBV := Lib.hid bwV
  have hZV : Z < V.heap.size := blk_lt jZV
  have HW := Lib.hid hW
  have HY := Lib.hid hY
  have HZ := Lib.hid hZ
  clear hW hY hZ hb jY jZ hx hS hy hc hyl hlk bV bwV jYV jZV hcall hZW hkd hkk
  go_enter Try.func13, Try.ntmps13
  go_upto_region 1 with fail
  rw [← HW.out, HY.out, HZ.out]
  go_wp2_with (first | refine wpl_load _ rfl (by simp [Act.eval]) hld ?_ | fail)
  refine hca.mono ?_
  rintro e w2 ⟨rfl, hstp⟩
  have jZ2 : w2.heap[Z]? = some (.cells #[.int .i64 0, .int .i64 0, .int .i64 0, .int .i64 0, .int .i64 0, .int .i64 0, .int .i64 0, .int .i64 0, .bool false] 52 (0, 0)) := by
    obtain ⟨_, _, _, hf⟩ := hstp
    exact (hf.block Z hZV (fun q => by have := HSL.out Z q; omega)).trans HJZ.out
  obtain ⟨X, hst, jX, fX⟩ := put_rz jZ2 rfl r.2
  have HA : Hid (Step w A S r.1 X) := Step.close HBV.out hstp HSL.out fX hZw hZV
  have HJX := Lib.hid jX
  clear jX fX hca jZ2 hstp
  go_wp2_with (refine wpl_store _ _ rfl (by simp [Act.eval]) (by simp [Act.eval]) hst ?_)
  refine bodyPost_ret (ret_rz HJX.out Try.results13 rfl) rfl ?_
  exact ⟨rfl, HA.out⟩
set_option maxHeartbeats 4000000 in
set_option maxRecDepth 100000 in
theorem do_4 (hy : Sy w A S s) (hc : Cc w c cs ra rc wa wc) (hkd : c.kind = 4) (hkk : I64 c.kind) (a0 : Int) {r : Sh × Rz} (hcall : ∀ X, Below w.heap.size w X → Calls Try.prog 30 #[.pointer (some ⟨A, 0, none⟩), .int .i64 a0, .agg cs] X fun e w' => e = .returned (rzV r.2) ∧ Step X A S r.1 w') : Calls Try.prog 13 #[.pointer (some ⟨A, 0, none⟩), .int .i64 a0, .agg cs] w fun e w' => e = .returned (rzV r.2) ∧ Step w A S r.1 w' := by
  obtain ⟨W, hW⟩ : ∃ W, W = (w.alloc (.cells cs 47)).alloc (.cells #[.int .i64 0, .int .i64 0, .int .i64 0, .int .i64 0, .int .i64 0, .int .i64 0, .int .i64 0, .int .i64 0, .bool false] 52) := ⟨_, rfl⟩
  obtain ⟨hb, jY, jZ, hZW⟩ := box47 hW
  obtain ⟨Y, hY⟩ : ∃ Y, w.heap.size = Y := ⟨_, rfl⟩
  obtain ⟨Z, hZ⟩ : ∃ Z, Y + 1 = Z := ⟨_, rfl⟩
  rw [hY] at jY jZ hZW
  rw [hZ] at jZ hZW
  have hZw : w.heap.size ≤ Z := by omega
  have hyl := hy.lt
  have HSL := Lib.hid hyl
  obtain ⟨S1, S2, P, M, N, G, lv, rv, ov, hx, hS⟩ := hy.on hb
  have a0c : W.cell? ⟨A, 0, none⟩ = some (.pointer (some ⟨P, 0, none⟩)) := cell_blk hx.ob 0
  obtain ⟨V0, V1, V2, V3, V, B, m0, r1, r2, r3, r4, hlk, bV⟩ := do_map W
  have bwV : Below w.heap.size w V := hb.trans (bV.mono hb.size)
  have jYV := (bV.block Y (blk_lt jY)).trans jY
  have jZV := (bV.block Z (blk_lt jZ)).trans jZ
  have k0 : V.cell? ⟨Y, 0, none⟩ = some (.int .i64 c.kind) := (cell_blk jYV 0).trans hc.k
  have hl : (Instr.lookup 94 (.map (some B)) (.int .i64 4) true).run Try.prog V = .ok (.tuple #[fnV 30, .bool true]) V := by
    have q := hlk c.kind hkk
    rw [hkd] at q
    exact q
  rw [hkd] at k0
  have hld : (Instr.loadAt 47 (.pointer (some ⟨Y, 0, none⟩))).run Try.prog V = .ok (.agg cs) V := load_row jYV Try.underlying47 rfl (by rw [hc.sz]; exact size47)
  have hca := hcall V bwV
  have HJZ := Lib.hid jZV
  have HBV := Lib.hid bwV
  have hZV : Z < V.heap.size := blk_lt jZV
  have HW := Lib.hid hW
  have HY := Lib.hid hY
  have HZ := Lib.hid hZ
  clear hW hY hZ hb jY jZ hx hS hy hc hyl hlk bV bwV jYV jZV hcall hZW hkd hkk
  go_enter Try.func13, Try.ntmps13
  go_upto_region 1 with fail
  rw [← HW.out, HY.out, HZ.out]
  go_wp2_with (first | refine wpl_load _ rfl (by simp [Act.eval]) hld ?_ | fail)
  refine hca.mono ?_
  rintro e w2 ⟨rfl, hstp⟩
  have jZ2 : w2.heap[Z]? = some (.cells #[.int .i64 0, .int .i64 0, .int .i64 0, .int .i64 0, .int .i64 0, .int .i64 0, .int .i64 0, .int .i64 0, .bool false] 52 (0, 0)) := by
    obtain ⟨_, _, _, hf⟩ := hstp
    exact (hf.block Z hZV (fun q => by have := HSL.out Z q; omega)).trans HJZ.out
  obtain ⟨X, hst, jX, fX⟩ := put_rz jZ2 rfl r.2
  have HA : Hid (Step w A S r.1 X) := Step.close HBV.out hstp HSL.out fX hZw hZV
  have HJX := Lib.hid jX
  clear jX fX hca jZ2 hstp
  go_wp2_with (refine wpl_store _ _ rfl (by simp [Act.eval]) (by simp [Act.eval]) hst ?_)
  refine bodyPost_ret (ret_rz HJX.out Try.results13 rfl) rfl ?_
  exact ⟨rfl, HA.out⟩
set_option maxHeartbeats 4000000 in
set_option maxRecDepth 100000 in
theorem do_no (hy : Sy w A S s) (hc : Cc w c cs ra rc wa wc) (h1 : ¬ c.kind = 1) (h2 : ¬ c.kind = 2) (h3 : ¬ c.kind = 3) (h4 : ¬ c.kind = 4) (hkk : I64 c.kind) (a0 : Int) : Calls Try.prog 13 #[.pointer (some ⟨A, 0, none⟩), .int .i64 a0, .agg cs] w fun e w' => e = .returned (rzV ⟨1, 0, td0, 0, false⟩) ∧ Step w A S s w' := by
  obtain ⟨W, hW⟩ : ∃ W, W = (w.alloc (.cells cs 47)).alloc (.cells #[.int .i64 0, .int .i64 0, .int .i64 0, .int .i64 0, .int .i64 0, .int .i64 0, .int .i64 0, .int .i64 0, .bool false] 52) := ⟨_, rfl⟩
  obtain ⟨hb, jY, jZ, hZW⟩ := box47 hW
  obtain ⟨Y, hY⟩ : ∃ Y, w.heap.size = Y := ⟨_, rfl⟩
  obtain ⟨Z, hZ⟩ : ∃ Z, Y + 1 = Z := ⟨_, rfl⟩
  rw [hY] at jY jZ hZW
  rw [hZ] at jZ hZW
  have hZw : w.heap.size ≤ Z := by omega
  have hyl := hy.lt
  have HSL := Lib.hid hyl
  obtain ⟨S1, S2, P, M, N, G, lv, rv, ov, hx, hS⟩ := hy.on hb
  have a0c : W.cell? ⟨A, 0, none⟩ = some (.pointer (some ⟨P, 0, none⟩)) := cell_blk hx.ob 0
  obtain ⟨V0, V1, V2, V3, V, B, m0, r1, r2, r3, r4, hlk, bV⟩ := do_map W
  have bwV : Below w.heap.size w V := hb.trans (bV.mono hb.size)
  have jYV := (bV.block Y (blk_lt jY)).trans jY
  have jZV := (bV.block Z (blk_lt jZ)).trans jZ
  have k0 : V.cell? ⟨Y, 0, none⟩ = some (.int .i64 c.kind) := (cell_blk jYV 0).trans hc.k
  have hdf : doF c.kind = none := by unfold doF; rw [if_neg h4, if_neg h3, if_neg h2, if_neg h1]
  have hl : (Instr.lookup 94 (.map (some B)) (.int .i64 c.kind) true).run Try.prog V = .ok (.tuple #[.nilFunc, .bool false]) V := by
    have q := hlk c.kind hkk
    rw [hdf] at q
    exact q
  have hZV : Z < V.heap.size := blk_lt jZV
  obtain ⟨X, hst, jX, fX⟩ := put_rz jZV rfl ⟨1, 0, td0, 0, false⟩
  have HA : Hid (Step w A S s X) := Step.close bwV (Step.same (hy.on bwV) (Below.refl _ _)) hyl fX hZw hZV
  have HJX := Lib.hid jX
  have HW := Lib.hid hW
  have HY := Lib.hid hY
  have HZ := Lib.hid hZ
  clear hW hY hZ hb jY jZ hx hS hy hc hyl hlk bV bwV jYV jZV hZW hkk h1 h2 h3 h4 hdf jX fX
  go_enter Try.func13, Try.ntmps13
  go_upto_region 1 with fail
  rw [← HW.out, HY.out, HZ.out]
  go_wp2_with (refine wpl_store _ _ rfl (by simp [Act.eval]) (by simp [Act.eval]) hst ?_)
  refine bodyPost_ret (ret_rz HJX.out Try.results13 rfl) rfl ?_
  exact ⟨rfl, HA.out⟩
/-- What a command does. -/
def Sh.act (s : Sh) (a : Int) (c : Cm) : Sh × Rz := if c.kind = 1 then s.prepare c else if c.kind = 2 then s.commit a c else if c.kind = 3 then s.abort c else if c.kind = 4 then s.resolve c else (s, ⟨1, 0, td0, 0, false⟩)
/-- A command's own memory is none of the shard's. -/
def Apart (w : World) (S : Nat → Prop) (c : Cm) (cs : Array Value) (ra : Option Addr) (rc : Nat) (wa : Option Addr) (wc : Nat) : Prop := ∀ X, Fr w X S → Cc X c cs ra rc wa wc
/-- There is room for one command more. -/
structure Room (s : Sh) (c : Cm) (bw bd : Nat) : Prop where
  lk : s.locks.length < 800000
  rc : s.recs.length < 800000
  ov : s.over.length < 800000
  cr : c.reads.length ≤ 800000
  cw : c.writes.length ≤ 800000
  lw : ∀ l ∈ s.locks, l.writes.length ≤ bw
  b1 : s.rows.length + bw < 800000
  b2 : ∀ r ∈ s.rows, r.list.length ≤ bd
  b3 : bd + bw < 800000
theorem do_any (hy : Sy w A S s) (hap : Apart w S c cs ra rc wa wc) (ht : TdOk c.txn) (hk : I64 c.kind) {bw bd : Nat} (hr : Room s c bw bd) (a0 : Int) : Calls Try.prog 13 #[.pointer (some ⟨A, 0, none⟩), .int .i64 a0, .agg cs] w fun e w' => e = .returned (rzV (s.act a0 c).2) ∧ Step w A S (s.act a0 c).1 w' := by
  have hc : Cc w c cs ra rc wa wc := hap w (Fr.refl _ _)
  have hcX : ∀ X, Below w.heap.size w X → Cc X c cs ra rc wa wc := fun X hX => hc.on hX
  have haX : ∀ X, Below w.heap.size w X → ∀ Y, Fr X Y S → Cc Y c cs ra rc wa wc := fun X hX Y hY => hap Y ((Fr.ofBelow S hX).trans hY)
  unfold Sh.act
  split
  · rename_i h1
    exact do_1 hy hc h1 hk a0 (fun X hX => prepare_any (hy.on hX) (hcX X hX) ht hr.lk hr.cr hr.cw (haX X hX) a0)
  · split
    · rename_i h1
      exact do_2 hy hc h1 hk a0 (fun X hX => commit_any (hy.on hX) (hcX X hX) ht hr.rc a0)
    · split
      · rename_i h1
        exact do_3 hy hc h1 hk a0 (fun X hX => abort_any (hy.on hX) (hcX X hX) ht hr.rc a0)
      · split
        · rename_i h1
          exact do_4 hy hc h1 hk a0 (fun X hX => resolve_any (hy.on hX) (hcX X hX) ht hr.ov hr.lw hr.b1 hr.b2 hr.b3 a0)
        · rename_i h1 h2 h3 h4
          exact do_no hy hc h1 h2 h3 h4 hk a0
theorem do_nil (cs : Array Value) (a0 : Int) : Calls Try.prog 13 #[.pointer none, .int .i64 a0, .agg cs] w fun e w' => e = .returned (rzV ⟨2, 0, td0, 0, false⟩) ∧ Below w.heap.size w w' := by
  obtain ⟨W, hW⟩ : ∃ W, W = (w.alloc (.cells cs 47)).alloc (.cells #[.int .i64 0, .int .i64 0, .int .i64 0, .int .i64 0, .int .i64 0, .int .i64 0, .int .i64 0, .int .i64 0, .bool false] 52) := ⟨_, rfl⟩
  obtain ⟨hb, jY, jZ, hZW⟩ := box47 hW
  obtain ⟨Y, hY⟩ : ∃ Y, w.heap.size = Y := ⟨_, rfl⟩
  obtain ⟨Z, hZ⟩ : ∃ Z, Y + 1 = Z := ⟨_, rfl⟩
  rw [hY] at jY jZ hZW
  rw [hZ] at jZ hZW
  obtain ⟨X, hst, jX, fX⟩ := put_rz jZ rfl ⟨2, 0, td0, 0, false⟩
  have HA : Hid (Below w.heap.size w X) := Lib.hid ((hb.trans (Below.refl _ _)).trans ⟨fX.os, fX.tape, fX.output, fX.size, fun k hk => fX.block k (Nat.lt_of_lt_of_le hk hb.size) (fun e => by have e' : k = Z := e; omega)⟩)
  have HW := Lib.hid hW
  have HY := Lib.hid hY
  have HZ := Lib.hid hZ
  have HJX := Lib.hid jX
  clear hW hY hZ hb jY jZ jX fX hZW
  go_enter Try.func13, Try.ntmps13
  go_upto_region 1 with fail
  rw [← HW.out, HY.out, HZ.out]
  go_wp2_with (refine wpl_store _ _ rfl (by simp [Act.eval]) (by simp [Act.eval]) hst ?_)
  refine bodyPost_ret (ret_rz HJX.out Try.results13 rfl) rfl ?_
  exact ⟨rfl, HA.out⟩
end
end Go.Proofs.Ytcoaahlakkghhaa
