/- Whole structs read and stored at once; answers. -/
import Derived.Test.YtcoaahlakkghhaaGh
import Derived.Deep.MidRow
import Derived.Test.YtcoaahlakkghhaaGe
namespace Go.Proofs.Ytcoaahlakkghhaa
open Go.RowKit
theorem load_row {w : World} {g : Nat} {t ty : TypeId} {cs : Array Value} {fr : Nat × Nat} {d : TypeDesc} (hg : w.heap[g]? = some (.cells cs t fr)) (hu : Try.prog.underlying ty = some d) (hd : d.isRow = true) (hi : (Try.prog.info? ty).map (·.size) = some cs.size) : (Instr.loadAt ty (.pointer (some ⟨g, 0, none⟩))).run Try.prog w = .ok (.agg cs) w := by
  have h := run_loadVar_row w g t ty cs fr d hg hu (by cases d <;> first | rfl | cases hd) hi
  simp only [Instr.loadAt, Instr.sureAddr, Sem.run_bind, Sem.run_pure, Result.andThen_ok, h]
theorem wpl_load {P : Program} {w : World} {ops : Array Oper} {rest : List Oper} {o : Oper} {a : Act} {Q : Exit → Act → World → Prop} {t ty : TypeId} {v p : Value} {ds : Option Tmp} {ps : String} {af : Array Edge} (x : Operand)
    (ho : o = ⟨ds, .load t x, ty, ps, af, none⟩) (hx : a.eval x = p) (hld : (Instr.loadAt t p).run P w = .ok v w)
    (h : wpList P ops Q rest (a.put ds v) w) : wpList P ops Q (o :: rest) a w := by
  subst ho
  subst hx
  refine wpList_plain rfl fun K hK => ?_
  unfold Oper.wp execOp
  simp only [Sem.run_bind, Sem.run_pure, Result.andThen_ok, hld]
  exact hK _ _ h
theorem wpl_store {P : Program} {w w' : World} {ops : Array Oper} {rest : List Oper} {o : Oper} {a : Act} {Q : Exit → Act → World → Prop} {t ty : TypeId} {v p : Value} {ds : Option Tmp} {ps : String} {af : Array Edge} (x y : Operand)
    (ho : o = ⟨ds, .store t x y, ty, ps, af, none⟩) (hx : a.eval x = p) (hy : a.eval y = v) (hst : (Instr.storeAt t p v).run P w = .ok () w')
    (h : wpList P ops Q rest (a.put ds undef) w') : wpList P ops Q (o :: rest) a w := by
  subst ho
  subst hx
  subst hy
  refine wpList_plain rfl fun K hK => ?_
  unfold Oper.wp execOp
  simp only [Sem.run_bind, Sem.run_pure, Result.andThen_ok, hst]
  exact hK _ _ h
theorem store_row {w : World} {g : Nat} {t ty : TypeId} {cs us : Array Value} (hg : w.heap[g]? = some (.cells cs t (0, 0))) (hl : us.size = cs.size) (hi : (Try.prog.info? ty).map (·.size) = some us.size) (h1 : us.all (·.oneCell') = true) : (Instr.storeAt ty (.pointer (some ⟨g, 0, none⟩)) (.agg us)).run Try.prog w = .ok () (w.setCells g 0 us.toList) := by
  refine run_storeAt_mid w g 0 ty us (fun j hj => ?_) hi h1
  rw [Nat.zero_add]
  refine ⟨?_, frozen_blk hg j⟩
  rw [cell_blk hg j, Array.getElem?_eq_getElem (by omega)]
  rfl
theorem setCells_gen {R : Nat} {t : TypeId} {fr : Nat × Nat} : ∀ (vs : List Value) (o : Nat) (w : World) (cs : Array Value), w.heap[R]? = some (.cells cs t fr) → o + vs.length ≤ cs.size →
    (∃ ds : Array Value, (w.setCells R o vs).heap[R]? = some (.cells ds t fr) ∧ ds.toList = cs.toList.take o ++ vs ++ cs.toList.drop (o + vs.length)) ∧ (∀ k, k ≠ R → (w.setCells R o vs).heap[k]? = w.heap[k]?) ∧ (w.setCells R o vs).heap.size = w.heap.size ∧ (w.setCells R o vs).os = w.os ∧ (w.setCells R o vs).tape = w.tape ∧ (w.setCells R o vs).output = w.output
  | [], o, w, cs, h, _ => ⟨⟨cs, h, by simp⟩, fun _ _ => rfl, rfl, rfl, rfl, rfl⟩
  | v :: r, o, w, cs, h, hl => by
    simp only [List.length_cons] at hl
    obtain ⟨⟨ds, h1, h2⟩, h3, h4, h5, h6, h7⟩ := setCells_gen r (o + 1) (w.setCell ⟨R, o, none⟩ v) (cs.setIfInBounds o v) (set_blk h v) (by simp; omega)
    refine ⟨⟨ds, h1, ?_⟩, fun k hk => (h3 k hk).trans (set_other (a := ⟨R, o, none⟩) _ hk), h4.trans (by simp [World.setCell]), h5, h6, h7⟩
    have ho : o < cs.toList.length := by simp; omega
    rw [h2, Array.toList_setIfInBounds, List.drop_set_of_lt (by omega), List.take_add_one, List.take_set_of_le (Nat.le_refl _), List.getElem?_set_self ho]
    simp [List.length_cons, Nat.add_assoc, Nat.add_comm 1]
theorem sets_row {w : World} {R : Nat} {cs : Array Value} {t : TypeId} {fr : Nat × Nat} (h : w.heap[R]? = some (.cells cs t fr)) (vs : Array Value) (hl : vs.size = cs.size) : ∃ W, W = w.setCells R 0 vs.toList ∧ W.heap[R]? = some (.cells vs t fr) ∧ Fr w W (fun k => k = R) := by
  obtain ⟨⟨ds, h1, h2⟩, h3, h4, h5, h6, h7⟩ := setCells_gen vs.toList 0 w cs h (by simp; omega)
  refine ⟨_, rfl, ?_, ⟨h5, h6, h7, by omega, fun k _ hk => h3 k hk⟩⟩
  have e : ds = vs := by
    apply Array.toList_inj.1
    rw [h2]
    simp [hl]
  rw [h1, e]
theorem load_var {w : World} {g : Nat} {t ty : TypeId} {cs : Array Value} {fr : Nat × Nat} {d : TypeDesc} (hg : w.heap[g]? = some (.cells cs t fr)) (hu : Try.prog.underlying ty = some d) (hd : d.isRow = true) (hi : (Try.prog.info? ty).map (·.size) = some cs.size) : (loadVar ty ⟨g, 0, none⟩).run Try.prog w = .ok (.agg cs) w :=
  run_loadVar_row w g t ty cs fr d hg hu (by cases d <;> first | rfl | cases hd) hi
theorem results_one {fn : Func} {t : Tmp} {ty : TypeId} {ad : Addr} {v : Value} {tmps : Array Value} {w : World} (h : fn.results = #[.cell t ty]) (ha : tmps.getD t undef = .pointer (some ad)) (hl : (loadVar ty ad).run Try.prog w = .ok v w) : (results fn tmps).run Try.prog w = .ok v w := by
  have ha2 : tmps[t]?.getD undef = .pointer (some ad) := by simpa using ha
  simp [results, h, ha2, asAddr, hl]
theorem size47 : (Try.prog.info? 47).map (·.size) = some 30 := by kernel_rfl
theorem size52 : (Try.prog.info? 52).map (·.size) = some 9 := by kernel_rfl
theorem size68 : (Try.prog.info? 68).map (·.size) = some 7 := by kernel_rfl
/-! ### Answers -/
structure Rz where
  err : Int
  ts : Int
  txn : Td
  til : Int
  nw : Bool
abbrev td0 : Td := (0, 0, 0)
def rz0 : Rz := ⟨0, 0, td0, 0, false⟩
abbrev rzA (r : Rz) : Array Value := #[.int .i64 r.err, .int .i64 r.ts, .int .i64 r.txn.1, .int .i64 r.txn.2.1, .int .i64 r.txn.2.2, .int .i64 0, .int .i64 r.til, .int .i64 0, .bool r.nw]
abbrev rzV (r : Rz) : Value := .agg (rzA r)
section
variable {X : World} {Z : Nat} {cs : Array Value}
theorem put_rz (h : X.heap[Z]? = some (.cells cs 52 (0, 0))) (hs : cs.size = 9) (r : Rz) : ∃ X', (Instr.storeAt 52 (.pointer (some ⟨Z, 0, none⟩)) (rzV r)).run Try.prog X = .ok () X' ∧ X'.heap[Z]? = some (.cells (rzA r) 52 (0, 0)) ∧ Fr X X' (fun k => k = Z) := by
  obtain ⟨W, e, h1, h2⟩ := sets_row h (rzA r) hs.symm
  exact ⟨W, by rw [e]; exact store_row h hs.symm size52 (by simp [Value.oneCell']), h1, h2⟩
theorem ret_rz {fn : Func} {t : Tmp} {tmps : Array Value} {r : Rz} (h : X.heap[Z]? = some (.cells (rzA r) 52 (0, 0))) (hr : fn.results = #[.cell t 52]) (ha : tmps.getD t undef = .pointer (some ⟨Z, 0, none⟩)) : (results fn tmps).run Try.prog X = .ok (rzV r) X :=
  results_one hr ha (load_var h Try.underlying52 rfl size52)
variable {ρ : Operand → Value} {d : Option Tmp} {ty : TypeId} {ps : String} {af : Array Edge} {g : Option (Nat × Bool)}
theorem op_storeAt {T : TypeId} {x y : Operand} {v p : Value} {X' : World} (e : ρ x = p) (e2 : ρ y = v) (h : (Instr.storeAt T p v).run Try.prog X = .ok () X') : (execOp ρ ⟨d, .store T x y, ty, ps, af, g⟩).run Try.prog X = .ok .skip X' := by
  simp only [execOp, e, e2]
  simp [h]
theorem op_loadAt {T : TypeId} {x : Operand} {v p : Value} (e : ρ x = p) (h : (Instr.loadAt T p).run Try.prog X = .ok v X) : (execOp ρ ⟨d, .load T x, ty, ps, af, g⟩).run Try.prog X = .ok (.value v) X := by
  simp only [execOp, e]
  simp [h]
theorem op_i31o {x y : Operand} {B o n m i : Nat} (e : ρ x = .slice (some ⟨B, o, none⟩) n m) (e2 : ρ y = .int .i64 (i : Int)) (h : i < n) : (execOp ρ ⟨d, .indexAddr 31 x y, ty, ps, af, g⟩).run Try.prog X = .ok (.value (.pointer (some ⟨B, o + i * 7, none⟩))) X := by
  have k0 : (0 : Int) ≤ (i : Int) := by omega
  have k1 : (i : Int) < (n : Int) := by omega
  simp only [execOp, e, e2]
  go_simp
theorem op_load31 {x : Operand} {B i : Nat} {a : Option Addr} {n m : Nat} (e : ρ x = .pointer (some ⟨B, i, none⟩)) (y : X.cell? ⟨B, i, none⟩ = some (.slice a n m)) : (execOp ρ ⟨d, .load 31 x, ty, ps, af, g⟩).run Try.prog X = .ok (.value (.slice a n m)) X := by
  simp only [execOp, e]
  go_simp
theorem op_f68_0 {x : Operand} {B o : Nat} (e : ρ x = .pointer (some ⟨B, o, none⟩)) : (execOp ρ ⟨d, .fieldAddr 68 x 0, ty, ps, af, g⟩).run Try.prog X = .ok (.value (.pointer (some ⟨B, o, none⟩))) X := by
  simp only [execOp, e]
  go_simp
theorem op_f68_2 {x : Operand} {B o : Nat} (e : ρ x = .pointer (some ⟨B, o, none⟩)) : (execOp ρ ⟨d, .fieldAddr 68 x 2, ty, ps, af, g⟩).run Try.prog X = .ok (.value (.pointer (some ⟨B, o + 4, none⟩))) X := by
  simp only [execOp, e]
  go_simp
theorem op_b52_busy {x y : Operand} {t : Td} {n : Int} (e : ρ x = tdV t) (e2 : ρ y = .int .i64 n) (hc : ∀ x, ρ (.const x) = x) : (execOp ρ ⟨d, .build 52 #[(0, .const (.int .i64 131)), (2, x), (4, y)], ty, ps, af, g⟩).run Try.prog X = .ok (.value (rzV ⟨131, 0, t, n, false⟩)) X := by
  simp only [execOp]
  simp [e, e2, hc]
  go_simp
end
def busyR (p : Lk → Bool) (L : List Lk) : Rz := match L.find? p with
  | some l => ⟨131, 0, l.txn, l.til, false⟩
  | none => rz0
theorem busy_no {p : Lk → Bool} {L : List Lk} (h : fidx p L < 0) : busyR p L = rz0 := by
  unfold busyR
  have : L.find? p = none := by
    rw [List.find?_eq_none]
    intro x hx hp
    have h1 := fidx_any p L
    rw [List.any_eq_true.2 ⟨x, hx, hp⟩] at h1
    have := of_decide_eq_true h1
    omega
  rw [this]
theorem busy_yes {p : Lk → Bool} {L : List Lk} (h : ¬ fidx p L < 0) : ∃ i, ∃ hi : i < L.length, fidx p L = (i : Int) ∧ busyR p L = ⟨131, 0, L[i].txn, L[i].til, false⟩ := by
  unfold fidx at h ⊢
  cases he : L.findIdx? p with
  | none =>
    rw [he] at h
    simp at h
  | some i =>
    obtain ⟨hi, hp, hb⟩ := List.findIdx?_eq_some_iff_getElem.1 he
    refine ⟨i, hi, rfl, ?_⟩
    unfold busyR
    have : L.find? p = some L[i] := by
      rw [List.find?_eq_some_iff_getElem]
      exact ⟨hp, i, hi, rfl, fun j hj => by
        have := hb j hj
        simpa using this⟩
    rw [this]
end Go.Proofs.Ytcoaahlakkghhaa
/- The walks of busy and of the functions that it is handed. -/
namespace Go.Proofs.Ytcoaahlakkghhaa
open Go.RowKit
section
variable {w w' : World} {A : Nat} {S1 S2 : Nat → Prop} {s : Sh} {P M N : Nat} {G : List Gl} {lv rv ov : Value}
set_option maxHeartbeats 2000000 in
set_option maxRecDepth 100000 in
theorem rdL_f {l : Lk} {sa wa : Option Addr} {sc wc Z : Nat} {p : Sn} (c0 : w.cell? ⟨Z, 0, none⟩ = some (.string p.lo)) (c1 : w.cell? ⟨Z, 1, none⟩ = some (.string p.hi)) (hl : Lr wrE 3 w l.writes (.slice wa l.writes.length wc)) : Calls Try.prog 85 #[lkV l sa sc wa wc, .pointer (some ⟨Z, 0, none⟩)] w fun e w' => e = .returned (.bool (holdsInB l p)) ∧ Below w.heap.size w w' := by
  obtain ⟨W, hW⟩ : ∃ W, W = w.alloc (lkO l sa sc wa wc) := ⟨_, rfl⟩
  have hb : Below w.heap.size w W := by rw [hW]; exact (Below.refl _ w).alloc (Nat.le_refl _) _
  obtain ⟨Y, hY⟩ : ∃ Y, w.heap.size = Y := ⟨_, rfl⟩
  have jY : W.heap[Y]? = some (.cells #[.int .i64 l.txn.1, .int .i64 l.txn.2.1, .int .i64 l.txn.2.2, .int .i64 l.home, .int .i64 l.til, .slice sa l.spans.length sc, .slice wa l.writes.length wc] 68 (0, 0)) := by rw [hW, ← hY]; exact heap_alloc_new w _
  have b0 : W.cell? ⟨Y, 0, none⟩ = some (.int .i64 l.txn.1) := cell_blk jY 0
  have b01 : W.cell? ⟨Y, 1, none⟩ = some (.int .i64 l.txn.2.1) := cell_blk jY 1
  have b02 : W.cell? ⟨Y, 2, none⟩ = some (.int .i64 l.txn.2.2) := cell_blk jY 2
  have b03 : W.cell? ⟨Y, 3, none⟩ = some (.int .i64 l.home) := cell_blk jY 3
  have b04 : W.cell? ⟨Y, 4, none⟩ = some (.int .i64 l.til) := cell_blk jY 4
  have b05 : W.cell? ⟨Y, 5, none⟩ = some (.slice sa l.spans.length sc) := cell_blk jY 5
  have b06 : W.cell? ⟨Y, 6, none⟩ = some (.slice wa l.writes.length wc) := cell_blk jY 6
  have HW := Lib.hid hW
  have HY := Lib.hid hY
  have HB := Lib.hid hb
  have d0 := cell_on hb c0
  have d1 := cell_on hb c1
  have hcall := holdsIn_any (sa := sa) (sc := sc) p (hl.on wrE_held hb)
  clear hW hY hb jY c0 c1 hl
  go_enter Try.func85, Try.ntmps85
  go_upto_region 1 with fail
  rw [← HW.out, HY.out]
  go_wp2_with fail
  refine hcall.mono ?_
  rintro e w1 ⟨rfl, b1⟩
  go_wp2
  go_ret
  exact ⟨rfl, HB.out.trans (b1.mono HB.out.size)⟩
set_option maxHeartbeats 2000000 in
set_option maxRecDepth 100000 in
theorem wrL_f {l : Lk} {sa wa : Option Addr} {sc wc Z : Nat} {k : ByteArray} (c0 : w.cell? ⟨Z, 0, none⟩ = some (.string k)) (hs : Lr snE 2 w l.spans (.slice sa l.spans.length sc)) (hl : Lr wrE 3 w l.writes (.slice wa l.writes.length wc)) : Calls Try.prog 88 #[lkV l sa sc wa wc, .pointer (some ⟨Z, 0, none⟩)] w fun e w' => e = .returned (.bool (holdsB l k || coversB l k)) ∧ Below w.heap.size w w' := by
  obtain ⟨W, hW⟩ : ∃ W, W = w.alloc (lkO l sa sc wa wc) := ⟨_, rfl⟩
  have hb : Below w.heap.size w W := by rw [hW]; exact (Below.refl _ w).alloc (Nat.le_refl _) _
  obtain ⟨Y, hY⟩ : ∃ Y, w.heap.size = Y := ⟨_, rfl⟩
  have jY : W.heap[Y]? = some (.cells #[.int .i64 l.txn.1, .int .i64 l.txn.2.1, .int .i64 l.txn.2.2, .int .i64 l.home, .int .i64 l.til, .slice sa l.spans.length sc, .slice wa l.writes.length wc] 68 (0, 0)) := by rw [hW, ← hY]; exact heap_alloc_new w _
  have b0 : W.cell? ⟨Y, 0, none⟩ = some (.int .i64 l.txn.1) := cell_blk jY 0
  have b01 : W.cell? ⟨Y, 1, none⟩ = some (.int .i64 l.txn.2.1) := cell_blk jY 1
  have b02 : W.cell? ⟨Y, 2, none⟩ = some (.int .i64 l.txn.2.2) := cell_blk jY 2
  have b03 : W.cell? ⟨Y, 3, none⟩ = some (.int .i64 l.home) := cell_blk jY 3
  have b04 : W.cell? ⟨Y, 4, none⟩ = some (.int .i64 l.til) := cell_blk jY 4
  have b05 : W.cell? ⟨Y, 5, none⟩ = some (.slice sa l.spans.length sc) := cell_blk jY 5
  have b06 : W.cell? ⟨Y, 6, none⟩ = some (.slice wa l.writes.length wc) := cell_blk jY 6
  have HW := Lib.hid hW
  have HY := Lib.hid hY
  have HB := Lib.hid hb
  have d0 := cell_on hb c0
  have hcall := holds_any (sa := sa) (sc := sc) k (hl.on wrE_held hb)
  have hcall2 := fun X (hX : Below W.heap.size W X) => covers_any (wa := wa) (wc := wc) k ((hs.on snE_held hb).on snE_held hX)
  have HJY := Lib.hid jY
  have HC2 := Lib.hid hcall2
  have HD0 := Lib.hid d0
  obtain ⟨q1, hq1⟩ : ∃ q1, holdsB l k = q1 := ⟨_, rfl⟩
  rw [hq1] at hcall ⊢
  obtain ⟨q2, hq2⟩ : ∃ q2, coversB l k = q2 := ⟨_, rfl⟩
  rw [hq2] at HC2 ⊢
  clear hW hY hb jY c0 hl hs hq1 hq2 hcall2
  go_enter Try.func88, Try.ntmps88
  go_upto_region 1 with fail
  rw [← HW.out, HY.out]
  go_wp2_with fail
  refine hcall.mono ?_
  rintro e w1 ⟨rfl, b1⟩
  have HB1 := Lib.hid (HB.out.trans (b1.mono HB.out.size))
  cases q1 with
  | true =>
    clear b1 hcall
    go_wp2
    go_ret
    exact ⟨rfl, HB1.out⟩
  | false =>
    have hc2 := HC2.out w1 b1
    have jY1 := (b1.block Y (blk_lt HJY.out)).trans HJY.out
    have b0 : w1.cell? ⟨Y, 0, none⟩ = some (.int .i64 l.txn.1) := cell_blk jY1 0
    have b01 : w1.cell? ⟨Y, 1, none⟩ = some (.int .i64 l.txn.2.1) := cell_blk jY1 1
    have b02 : w1.cell? ⟨Y, 2, none⟩ = some (.int .i64 l.txn.2.2) := cell_blk jY1 2
    have b03 : w1.cell? ⟨Y, 3, none⟩ = some (.int .i64 l.home) := cell_blk jY1 3
    have b04 : w1.cell? ⟨Y, 4, none⟩ = some (.int .i64 l.til) := cell_blk jY1 4
    have b05 : w1.cell? ⟨Y, 5, none⟩ = some (.slice sa l.spans.length sc) := cell_blk jY1 5
    have b06 : w1.cell? ⟨Y, 6, none⟩ = some (.slice wa l.writes.length wc) := cell_blk jY1 6
    have d0 := cell_on b1 HD0.out
    clear b1 hcall jY1
    go_wp2_with fail
    refine hc2.mono ?_
    rintro e w2 ⟨rfl, b2⟩
    go_wp2
    go_ret
    exact ⟨rfl, HB1.out.trans (b2.mono HB1.out.size)⟩
set_option maxHeartbeats 4000000 in
set_option maxRecDepth 100000 in
theorem busy_rd (h : Sx w A S1 S2 s P M N G lv rv ov) {p : Lk → Bool} {c : Value} (hf : ∀ X, Below w.heap.size w X → ∀ i (h : i < s.locks.length) sa sc wa wc, Lr snE 2 X s.locks[i].spans (.slice sa s.locks[i].spans.length sc) → Lr wrE 3 X s.locks[i].writes (.slice wa s.locks[i].writes.length wc) → Calls Try.prog 85 #[lkV s.locks[i] sa sc wa wc, c] X fun e w' => e = .returned (.bool (p s.locks[i])) ∧ Below X.heap.size X w') :
    Calls Try.prog 84 #[.pointer (some ⟨A, 0, none⟩), .func (.func 85) #[] #[c]] w fun e w' => e = .returned (rzV (busyR p s.locks)) ∧ Below w.heap.size w w' := by
  obtain ⟨W, hW⟩ : ∃ W, W = w.alloc (.cells #[.int .i64 0, .int .i64 0, .int .i64 0, .int .i64 0, .int .i64 0, .int .i64 0, .int .i64 0, .int .i64 0, .bool false] 52) := ⟨_, rfl⟩
  have hb : Below w.heap.size w W := by rw [hW]; exact (Below.refl _ w).alloc (Nat.le_refl _) _
  obtain ⟨Z, hZ⟩ : ∃ Z, w.heap.size = Z := ⟨_, rfl⟩
  have jZ : W.heap[Z]? = some (.cells #[.int .i64 0, .int .i64 0, .int .i64 0, .int .i64 0, .int .i64 0, .int .i64 0, .int .i64 0, .int .i64 0, .bool false] 52 (0, 0)) := by rw [hW, ← hZ]; exact heap_alloc_new w _
  have hlr := (h.on hb).locks
  have hix := ixL_rd hlr (fun X hX i hi sa sc wa wc h1 h2 => hf X (hb.trans (hX.mono hb.size)) i hi sa sc wa wc h1 h2)
  have a1 : W.cell? ⟨A, 1, none⟩ = some lv := cell_on hb (cell_blk h.ob 1)
  have HLR := Lib.hid hlr
  obtain ⟨lad, lcap, e1, _, _, _, hcs⟩ := hlr
  have HCS := Lib.hid hcs
  rw [e1] at a1 hix HLR
  obtain ⟨n, hn⟩ : ∃ n, fidx p s.locks = n := ⟨_, rfl⟩
  rw [hn] at hix
  have hAZ : A ≠ Z := by have := h.lt A h.cA; omega
  have HN := Lib.hid hn
  have HW := Lib.hid hW
  have HZ := Lib.hid hZ
  have HB := Lib.hid hb
  have HJZ := Lib.hid jZ
  have HA1 := Lib.hid a1
  clear hW hZ hb jZ h e1 hcs hn hf
  go_enter Try.func84, Try.ntmps84
  go_upto_region 1 with fail
  rw [← HW.out, HZ.out]
  go_wp2_with fail
  refine hix.mono ?_
  rintro e w1 ⟨rfl, b1⟩
  have jZ1 := (b1.block Z (blk_lt HJZ.out)).trans HJZ.out
  have HB1 := Lib.hid (HB.out.trans (b1.mono HB.out.size))
  by_cases hneg : n < 0
  · obtain ⟨X, hst, jX, fX⟩ := put_rz jZ1 rfl rz0
    have HR : Hid (busyR p s.locks = rz0) := busy_no (by rw [HN.out]; exact hneg)
    have HBX : Hid (Below w.heap.size w X) := HB1.out.trans (fX.toBelow (fun k hk e => by have e' : k = Z := e; have := HZ.out; omega) HB1.out.size)
    have HJX := Lib.hid jX
    clear jX fX b1 hix a1 jZ1
    go_wp2_with (refine wpl_store _ _ rfl (by simp [Act.eval]) (by simp [Act.eval, rz0]) hst ?_)
    refine bodyPost_ret (ret_rz HJX.out Try.results84 rfl) rfl ?_
    exact ⟨by rw [HR.out], HBX.out⟩
  · obtain ⟨i, hi, hni, hbr⟩ := busy_yes (p := p) (L := s.locks) (by rw [HN.out]; exact hneg)
    have hni' : n = (i : Int) := by rw [← HN.out]; exact hni
    subst hni'
    obtain ⟨b, o, cs, rfl, _, ⟨sa, sc, wa, wc, rfl, _, _⟩, _, hcell⟩ := HCS.out i hi
    have c0 := cell_on b1 (hcell 0 _ rfl)
    have c1 := cell_on b1 (hcell 1 _ rfl)
    have c2 := cell_on b1 (hcell 2 _ rfl)
    have c4 := cell_on b1 (hcell 4 _ rfl)
    simp only [Nat.add_zero] at c0
    have a1 := cell_on b1 HA1.out
    obtain ⟨l, hl⟩ : ∃ l, s.locks[i] = l := ⟨_, rfl⟩
    rw [hl] at c0 c1 c2 c4 hbr
    have HR := Lib.hid hbr
    have HJ1 := Lib.hid jZ1
    clear hcell b1 hix jZ1 hbr hl hni HCS HLR
    go_upto_region 4 with fail
    refine wp_region_last (fun X9 => Below w1.heap.size w1 X9) (fun _ _ => True) [
      fun v9 _ => v9 = .pointer (some ⟨A, 0, none⟩),
      fun v9 _ => v9 = .pointer (some ⟨A, 0, none⟩),
      fun v9 _ => v9 = .pointer (some ⟨A, 1, none⟩),
      fun v9 _ => v9 = (.slice (some ⟨b, o, none⟩) s.locks.length lcap),
      fun v9 _ => v9 = .int .i64 (i : Int),
      fun v9 _ => v9 = .pointer (some ⟨b, o + i * 7, none⟩),
      fun v9 _ => v9 = .pointer (some ⟨b, o + i * 7, none⟩),
      fun v9 _ => v9 = tdV l.txn,
      fun v9 _ => v9 = .pointer (some ⟨A, 0, none⟩),
      fun v9 _ => v9 = .pointer (some ⟨A, 0, none⟩),
      fun v9 _ => v9 = .pointer (some ⟨A, 1, none⟩),
      fun v9 _ => v9 = (.slice (some ⟨b, o, none⟩) s.locks.length lcap),
      fun v9 _ => v9 = .int .i64 (i : Int),
      fun v9 _ => v9 = .pointer (some ⟨b, o + i * 7, none⟩),
      fun v9 _ => v9 = .pointer (some ⟨b, o + i * 7 + 4, none⟩),
      fun v9 _ => v9 = .int .i64 l.til,
      fun v9 _ => v9 = rzV ⟨131, 0, l.txn, l.til, false⟩]
      (fun _ X9 => X9.heap[Z]? = some (.cells (rzA ⟨131, 0, l.txn, l.til, false⟩) 52 (0, 0)) ∧ Below w.heap.size w X9) rfl (by kernel_rfl) (by kernel_rfl) (by kernel_rfl) (by kernel_rfl) ?st ?g0 ?os ?la ?en
    case st => exact ⟨fun _ _ _ _ h => h, fun _ _ _ _ h => h, fun _ _ _ _ h => h, fun _ _ _ _ h => h, fun _ _ _ _ h => h, fun _ _ _ _ h => h, fun _ _ _ _ h => h, fun _ _ _ _ h => h, fun _ _ _ _ h => h, fun _ _ _ _ h => h, fun _ _ _ _ h => h, fun _ _ _ _ h => h, fun _ _ _ _ h => h, fun _ _ _ _ h => h, fun _ _ _ _ h => h, fun _ _ _ _ h => h, fun _ _ _ _ h => h, trivial⟩
    case g0 => exact ⟨rfl, rfl, rfl, Nat.le_refl _, fun _ _ => rfl⟩
    case os =>
      refine ⟨?_, ?_, ?_, ?_, ?_, ?_, ?_, ?_, ?_, ?_, ?_, ?_, ?_, ?_, ?_, ?_, ?_, trivial⟩
      · exact ⟨rfl, fun ρ X9 hg ho hc hf hr => Runs.val _ (op_move (show ρ (.tmp 0) = .pointer (some ⟨A, 0, none⟩) from ho 0 rfl)) ⟨hg, trivial, rfl⟩⟩
      · exact ⟨rfl, fun ρ X9 hg ho hc hf hr => Runs.val _ (op_nil (show ρ (.tmp 15) = .pointer (some ⟨A, 0, none⟩) from hr 0 15 rfl rfl)) ⟨hg, trivial, rfl⟩⟩
      · exact ⟨rfl, fun ρ X9 hg ho hc hf hr => Runs.val _ (op_f92_1 (show ρ (.tmp 16) = .pointer (some ⟨A, 0, none⟩) from hr 1 16 rfl rfl)) ⟨hg, trivial, rfl⟩⟩
      · exact ⟨rfl, fun ρ X9 hg ho hc hf hr => Runs.val _ (op_load31 (show ρ (.tmp 17) = .pointer (some ⟨A, 1, none⟩) from hr 2 17 rfl rfl) (cell_on hg a1)) ⟨hg, trivial, rfl⟩⟩
      · exact ⟨rfl, fun ρ X9 hg ho hc hf hr => Runs.val _ (op_move (show ρ (.tmp 5) = .int .i64 (i : Int) from ho 5 rfl)) ⟨hg, trivial, rfl⟩⟩
      · exact ⟨rfl, fun ρ X9 hg ho hc hf hr => Runs.val _ (op_i31o (show ρ (.tmp 18) = (.slice (some ⟨b, o, none⟩) s.locks.length lcap) from hr 3 18 rfl rfl) (show ρ (.tmp 19) = .int .i64 (i : Int) from hr 4 19 rfl rfl) hi) ⟨hg, trivial, rfl⟩⟩
      · exact ⟨rfl, fun ρ X9 hg ho hc hf hr => Runs.val _ (op_f68_0 (show ρ (.tmp 20) = .pointer (some ⟨b, o + i * 7, none⟩) from hr 5 20 rfl rfl)) ⟨hg, trivial, rfl⟩⟩
      · exact ⟨rfl, fun ρ X9 hg ho hc hf hr => Runs.val _ (op_load37 (show ρ (.tmp 21) = .pointer (some ⟨b, o + i * 7, none⟩) from hr 6 21 rfl rfl) (cell_on hg c0) (cell_on hg c1) (cell_on hg c2)) ⟨hg, trivial, rfl⟩⟩
      · exact ⟨rfl, fun ρ X9 hg ho hc hf hr => Runs.val _ (op_move (show ρ (.tmp 0) = .pointer (some ⟨A, 0, none⟩) from ho 0 rfl)) ⟨hg, trivial, rfl⟩⟩
      · exact ⟨rfl, fun ρ X9 hg ho hc hf hr => Runs.val _ (op_nil (show ρ (.tmp 23) = .pointer (some ⟨A, 0, none⟩) from hr 8 23 rfl rfl)) ⟨hg, trivial, rfl⟩⟩
      · exact ⟨rfl, fun ρ X9 hg ho hc hf hr => Runs.val _ (op_f92_1 (show ρ (.tmp 24) = .pointer (some ⟨A, 0, none⟩) from hr 9 24 rfl rfl)) ⟨hg, trivial, rfl⟩⟩
      · exact ⟨rfl, fun ρ X9 hg ho hc hf hr => Runs.val _ (op_load31 (show ρ (.tmp 25) = .pointer (some ⟨A, 1, none⟩) from hr 10 25 rfl rfl) (cell_on hg a1)) ⟨hg, trivial, rfl⟩⟩
      · exact ⟨rfl, fun ρ X9 hg ho hc hf hr => Runs.val _ (op_move (show ρ (.tmp 5) = .int .i64 (i : Int) from ho 5 rfl)) ⟨hg, trivial, rfl⟩⟩
      · exact ⟨rfl, fun ρ X9 hg ho hc hf hr => Runs.val _ (op_i31o (show ρ (.tmp 26) = (.slice (some ⟨b, o, none⟩) s.locks.length lcap) from hr 11 26 rfl rfl) (show ρ (.tmp 27) = .int .i64 (i : Int) from hr 12 27 rfl rfl) hi) ⟨hg, trivial, rfl⟩⟩
      · exact ⟨rfl, fun ρ X9 hg ho hc hf hr => Runs.val _ (op_f68_2 (show ρ (.tmp 28) = .pointer (some ⟨b, o + i * 7, none⟩) from hr 13 28 rfl rfl)) ⟨hg, trivial, rfl⟩⟩
      · exact ⟨rfl, fun ρ X9 hg ho hc hf hr => Runs.val _ (op_load3 (show ρ (.tmp 29) = .pointer (some ⟨b, o + i * 7 + 4, none⟩) from hr 14 29 rfl rfl) (cell_on hg c4)) ⟨hg, trivial, rfl⟩⟩
      · exact ⟨rfl, fun ρ X9 hg ho hc hf hr => Runs.val _ (op_b52_busy (show ρ (.tmp 22) = tdV l.txn from hr 7 22 rfl rfl) (show ρ (.tmp 30) = .int .i64 l.til from hr 15 30 rfl rfl) hc) ⟨hg, trivial, rfl⟩⟩
    case la =>
      refine ⟨rfl, fun ρ X9 hg ho hc hf hr => ?_⟩
      have j9 := (hg.block Z (blk_lt HJ1.out)).trans HJ1.out
      obtain ⟨X, hst, jX, fX⟩ := put_rz j9 rfl ⟨131, 0, l.txn, l.til, false⟩
      exact Runs.skips (op_storeAt (show ρ (.tmp 4) = .pointer (some ⟨Z, 0, none⟩) from ho 4 rfl) (show ρ (.tmp 31) = rzV ⟨131, 0, l.txn, l.til, false⟩ from hr 16 31 (by decide) rfl) hst) ⟨jX, (HB1.out.trans (hg.mono HB1.out.size)).trans (fX.toBelow (fun k hk e => by have e' : k = Z := e; have := HZ.out; omega) (Nat.le_trans HB1.out.size hg.size))⟩
    case en =>
      intro a X9 Xb v9 hF hs hd ho hv9 hr
      obtain ⟨x, hx, hxt⟩ := act_put hs hd ho
      change a = putAll _ x [15, 16, 17, 18, 19, 20, 21, 22, 23, 24, 25, 26, 27, 28, 29, 30, 31] at hx
      simp only [putAll, Act.put, List.setIfInBounds_toArray, List.set_cons_zero, List.set_cons_succ] at hx
      have HF := Lib.hid hF
      clear hF hs hd ho hr hxt hv9
      subst hx
      go_wp2
      refine bodyPost_ret (ret_rz HF.out.1 Try.results84 rfl) rfl ?_
      exact ⟨by rw [HR.out], HF.out.2⟩
set_option maxHeartbeats 4000000 in
set_option maxRecDepth 100000 in
theorem busy_wr (h : Sx w A S1 S2 s P M N G lv rv ov) {p : Lk → Bool} {c : Value} (hf : ∀ X, Below w.heap.size w X → ∀ i (h : i < s.locks.length) sa sc wa wc, Lr snE 2 X s.locks[i].spans (.slice sa s.locks[i].spans.length sc) → Lr wrE 3 X s.locks[i].writes (.slice wa s.locks[i].writes.length wc) → Calls Try.prog 88 #[lkV s.locks[i] sa sc wa wc, c] X fun e w' => e = .returned (.bool (p s.locks[i])) ∧ Below X.heap.size X w') :
    Calls Try.prog 84 #[.pointer (some ⟨A, 0, none⟩), .func (.func 88) #[] #[c]] w fun e w' => e = .returned (rzV (busyR p s.locks)) ∧ Below w.heap.size w w' := by
  obtain ⟨W, hW⟩ : ∃ W, W = w.alloc (.cells #[.int .i64 0, .int .i64 0, .int .i64 0, .int .i64 0, .int .i64 0, .int .i64 0, .int .i64 0, .int .i64 0, .bool false] 52) := ⟨_, rfl⟩
  have hb : Below w.heap.size w W := by rw [hW]; exact (Below.refl _ w).alloc (Nat.le_refl _) _
  obtain ⟨Z, hZ⟩ : ∃ Z, w.heap.size = Z := ⟨_, rfl⟩
  have jZ : W.heap[Z]? = some (.cells #[.int .i64 0, .int .i64 0, .int .i64 0, .int .i64 0, .int .i64 0, .int .i64 0, .int .i64 0, .int .i64 0, .bool false] 52 (0, 0)) := by rw [hW, ← hZ]; exact heap_alloc_new w _
  have hlr := (h.on hb).locks
  have hix := ixL_wr hlr (fun X hX i hi sa sc wa wc h1 h2 => hf X (hb.trans (hX.mono hb.size)) i hi sa sc wa wc h1 h2)
  have a1 : W.cell? ⟨A, 1, none⟩ = some lv := cell_on hb (cell_blk h.ob 1)
  have HLR := Lib.hid hlr
  obtain ⟨lad, lcap, e1, _, _, _, hcs⟩ := hlr
  have HCS := Lib.hid hcs
  rw [e1] at a1 hix HLR
  obtain ⟨n, hn⟩ : ∃ n, fidx p s.locks = n := ⟨_, rfl⟩
  rw [hn] at hix
  have hAZ : A ≠ Z := by have := h.lt A h.cA; omega
  have HN := Lib.hid hn
  have HW := Lib.hid hW
  have HZ := Lib.hid hZ
  have HB := Lib.hid hb
  have HJZ := Lib.hid jZ
  have HA1 := Lib.hid a1
  clear hW hZ hb jZ h e1 hcs hn hf
  go_enter Try.func84, Try.ntmps84
  go_upto_region 1 with fail
  rw [← HW.out, HZ.out]
  go_wp2_with fail
  refine hix.mono ?_
  rintro e w1 ⟨rfl, b1⟩
  have jZ1 := (b1.block Z (blk_lt HJZ.out)).trans HJZ.out
  have HB1 := Lib.hid (HB.out.trans (b1.mono HB.out.size))
  by_cases hneg : n < 0
  · obtain ⟨X, hst, jX, fX⟩ := put_rz jZ1 rfl rz0
    have HR : Hid (busyR p s.locks = rz0) := busy_no (by rw [HN.out]; exact hneg)
    have HBX : Hid (Below w.heap.size w X) := HB1.out.trans (fX.toBelow (fun k hk e => by have e' : k = Z := e; have := HZ.out; omega) HB1.out.size)
    have HJX := Lib.hid jX
    clear jX fX b1 hix a1 jZ1
    go_wp2_with (refine wpl_store _ _ rfl (by simp [Act.eval]) (by simp [Act.eval, rz0]) hst ?_)
    refine bodyPost_ret (ret_rz HJX.out Try.results84 rfl) rfl ?_
    exact ⟨by rw [HR.out], HBX.out⟩
  · obtain ⟨i, hi, hni, hbr⟩ := busy_yes (p := p) (L := s.locks) (by rw [HN.out]; exact hneg)
    have hni' : n = (i : Int) := by rw [← HN.out]; exact hni
    subst hni'
    obtain ⟨b, o, cs, rfl, _, ⟨sa, sc, wa, wc, rfl, _, _⟩, _, hcell⟩ := HCS.out i hi
    have c0 := cell_on b1 (hcell 0 _ rfl)
    have c1 := cell_on b1 (hcell 1 _ rfl)
    have c2 := cell_on b1 (hcell 2 _ rfl)
    have c4 := cell_on b1 (hcell 4 _ rfl)
    simp only [Nat.add_zero] at c0
    have a1 := cell_on b1 HA1.out
    obtain ⟨l, hl⟩ : ∃ l, s.locks[i] = l := ⟨_, rfl⟩
    rw [hl] at c0 c1 c2 c4 hbr
    have HR := Lib.hid hbr
    have HJ1 := Lib.hid jZ1
    clear hcell b1 hix jZ1 hbr hl hni HCS HLR
    go_upto_region 4 with fail
    refine wp_region_last (fun X9 => Below w1.heap.size w1 X9) (fun _ _ => True) [
      fun v9 _ => v9 = .pointer (some ⟨A, 0, none⟩),
      fun v9 _ => v9 = .pointer (some ⟨A, 0, none⟩),
      fun v9 _ => v9 = .pointer (some ⟨A, 1, none⟩),
      fun v9 _ => v9 = (.slice (some ⟨b, o, none⟩) s.locks.length lcap),
      fun v9 _ => v9 = .int .i64 (i : Int),
      fun v9 _ => v9 = .pointer (some ⟨b, o + i * 7, none⟩),
      fun v9 _ => v9 = .pointer (some ⟨b, o + i * 7, none⟩),
      fun v9 _ => v9 = tdV l.txn,
      fun v9 _ => v9 = .pointer (some ⟨A, 0, none⟩),
      fun v9 _ => v9 = .pointer (some ⟨A, 0, none⟩),
      fun v9 _ => v9 = .pointer (some ⟨A, 1, none⟩),
      fun v9 _ => v9 = (.slice (some ⟨b, o, none⟩) s.locks.length lcap),
      fun v9 _ => v9 = .int .i64 (i : Int),
      fun v9 _ => v9 = .pointer (some ⟨b, o + i * 7, none⟩),
      fun v9 _ => v9 = .pointer (some ⟨b, o + i * 7 + 4, none⟩),
      fun v9 _ => v9 = .int .i64 l.til,
      fun v9 _ => v9 = rzV ⟨131, 0, l.txn, l.til, false⟩]
      (fun _ X9 => X9.heap[Z]? = some (.cells (rzA ⟨131, 0, l.txn, l.til, false⟩) 52 (0, 0)) ∧ Below w.heap.size w X9) rfl (by kernel_rfl) (by kernel_rfl) (by kernel_rfl) (by kernel_rfl) ?st ?g0 ?os ?la ?en
    case st => exact ⟨fun _ _ _ _ h => h, fun _ _ _ _ h => h, fun _ _ _ _ h => h, fun _ _ _ _ h => h, fun _ _ _ _ h => h, fun _ _ _ _ h => h, fun _ _ _ _ h => h, fun _ _ _ _ h => h, fun _ _ _ _ h => h, fun _ _ _ _ h => h, fun _ _ _ _ h => h, fun _ _ _ _ h => h, fun _ _ _ _ h => h, fun _ _ _ _ h => h, fun _ _ _ _ h => h, fun _ _ _ _ h => h, fun _ _ _ _ h => h, trivial⟩
    case g0 => exact ⟨rfl, rfl, rfl, Nat.le_refl _, fun _ _ => rfl⟩
    case os =>
      refine ⟨?_, ?_, ?_, ?_, ?_, ?_, ?_, ?_, ?_, ?_, ?_, ?_, ?_, ?_, ?_, ?_, ?_, trivial⟩
      · exact ⟨rfl, fun ρ X9 hg ho hc hf hr => Runs.val _ (op_move (show ρ (.tmp 0) = .pointer (some ⟨A, 0, none⟩) from ho 0 rfl)) ⟨hg, trivial, rfl⟩⟩
      · exact ⟨rfl, fun ρ X9 hg ho hc hf hr => Runs.val _ (op_nil (show ρ (.tmp 15) = .pointer (some ⟨A, 0, none⟩) from hr 0 15 rfl rfl)) ⟨hg, trivial, rfl⟩⟩
      · exact ⟨rfl, fun ρ X9 hg ho hc hf hr => Runs.val _ (op_f92_1 (show ρ (.tmp 16) = .pointer (some ⟨A, 0, none⟩) from hr 1 16 rfl rfl)) ⟨hg, trivial, rfl⟩⟩
      · exact ⟨rfl, fun ρ X9 hg ho hc hf hr => Runs.val _ (op_load31 (show ρ (.tmp 17) = .pointer (some ⟨A, 1, none⟩) from hr 2 17 rfl rfl) (cell_on hg a1)) ⟨hg, trivial, rfl⟩⟩
      · exact ⟨rfl, fun ρ X9 hg ho hc hf hr => Runs.val _ (op_move (show ρ (.tmp 5) = .int .i64 (i : Int) from ho 5 rfl)) ⟨hg, trivial, rfl⟩⟩
      · exact ⟨rfl, fun ρ X9 hg ho hc hf hr => Runs.val _ (op_i31o (show ρ (.tmp 18) = (.slice (some ⟨b, o, none⟩) s.locks.length lcap) from hr 3 18 rfl rfl) (show ρ (.tmp 19) = .int .i64 (i : Int) from hr 4 19 rfl rfl) hi) ⟨hg, trivial, rfl⟩⟩
      · exact ⟨rfl, fun ρ X9 hg ho hc hf hr => Runs.val _ (op_f68_0 (show ρ (.tmp 20) = .pointer (some ⟨b, o + i * 7, none⟩) from hr 5 20 rfl rfl)) ⟨hg, trivial, rfl⟩⟩
      · exact ⟨rfl, fun ρ X9 hg ho hc hf hr => Runs.val _ (op_load37 (show ρ (.tmp 21) = .pointer (some ⟨b, o + i * 7, none⟩) from hr 6 21 rfl rfl) (cell_on hg c0) (cell_on hg c1) (cell_on hg c2)) ⟨hg, trivial, rfl⟩⟩
      · exact ⟨rfl, fun ρ X9 hg ho hc hf hr => Runs.val _ (op_move (show ρ (.tmp 0) = .pointer (some ⟨A, 0, none⟩) from ho 0 rfl)) ⟨hg, trivial, rfl⟩⟩
      · exact ⟨rfl, fun ρ X9 hg ho hc hf hr => Runs.val _ (op_nil (show ρ (.tmp 23) = .pointer (some ⟨A, 0, none⟩) from hr 8 23 rfl rfl)) ⟨hg, trivial, rfl⟩⟩
      · exact ⟨rfl, fun ρ X9 hg ho hc hf hr => Runs.val _ (op_f92_1 (show ρ (.tmp 24) = .pointer (some ⟨A, 0, none⟩) from hr 9 24 rfl rfl)) ⟨hg, trivial, rfl⟩⟩
      · exact ⟨rfl, fun ρ X9 hg ho hc hf hr => Runs.val _ (op_load31 (show ρ (.tmp 25) = .pointer (some ⟨A, 1, none⟩) from hr 10 25 rfl rfl) (cell_on hg a1)) ⟨hg, trivial, rfl⟩⟩
      · exact ⟨rfl, fun ρ X9 hg ho hc hf hr => Runs.val _ (op_move (show ρ (.tmp 5) = .int .i64 (i : Int) from ho 5 rfl)) ⟨hg, trivial, rfl⟩⟩
      · exact ⟨rfl, fun ρ X9 hg ho hc hf hr => Runs.val _ (op_i31o (show ρ (.tmp 26) = (.slice (some ⟨b, o, none⟩) s.locks.length lcap) from hr 11 26 rfl rfl) (show ρ (.tmp 27) = .int .i64 (i : Int) from hr 12 27 rfl rfl) hi) ⟨hg, trivial, rfl⟩⟩
      · exact ⟨rfl, fun ρ X9 hg ho hc hf hr => Runs.val _ (op_f68_2 (show ρ (.tmp 28) = .pointer (some ⟨b, o + i * 7, none⟩) from hr 13 28 rfl rfl)) ⟨hg, trivial, rfl⟩⟩
      · exact ⟨rfl, fun ρ X9 hg ho hc hf hr => Runs.val _ (op_load3 (show ρ (.tmp 29) = .pointer (some ⟨b, o + i * 7 + 4, none⟩) from hr 14 29 rfl rfl) (cell_on hg c4)) ⟨hg, trivial, rfl⟩⟩
      · exact ⟨rfl, fun ρ X9 hg ho hc hf hr => Runs.val _ (op_b52_busy (show ρ (.tmp 22) = tdV l.txn from hr 7 22 rfl rfl) (show ρ (.tmp 30) = .int .i64 l.til from hr 15 30 rfl rfl) hc) ⟨hg, trivial, rfl⟩⟩
    case la =>
      refine ⟨rfl, fun ρ X9 hg ho hc hf hr => ?_⟩
      have j9 := (hg.block Z (blk_lt HJ1.out)).trans HJ1.out
      obtain ⟨X, hst, jX, fX⟩ := put_rz j9 rfl ⟨131, 0, l.txn, l.til, false⟩
      exact Runs.skips (op_storeAt (show ρ (.tmp 4) = .pointer (some ⟨Z, 0, none⟩) from ho 4 rfl) (show ρ (.tmp 31) = rzV ⟨131, 0, l.txn, l.til, false⟩ from hr 16 31 (by decide) rfl) hst) ⟨jX, (HB1.out.trans (hg.mono HB1.out.size)).trans (fX.toBelow (fun k hk e => by have e' : k = Z := e; have := HZ.out; omega) (Nat.le_trans HB1.out.size hg.size))⟩
    case en =>
      intro a X9 Xb v9 hF hs hd ho hv9 hr
      obtain ⟨x, hx, hxt⟩ := act_put hs hd ho
      change a = putAll _ x [15, 16, 17, 18, 19, 20, 21, 22, 23, 24, 25, 26, 27, 28, 29, 30, 31] at hx
      simp only [putAll, Act.put, List.setIfInBounds_toArray, List.set_cons_zero, List.set_cons_succ] at hx
      have HF := Lib.hid hF
      clear hF hs hd ho hr hxt hv9
      subst hx
      go_wp2
      refine bodyPost_ret (ret_rz HF.out.1 Try.results84 rfl) rfl ?_
      exact ⟨by rw [HR.out], HF.out.2⟩
end
end Go.Proofs.Ytcoaahlakkghhaa
/- The walks of Span and stale. -/
namespace Go.Proofs.Ytcoaahlakkghhaa
open Go.RowKit
def ever : Int := 9223372036854775807
def hiE (_ : World) (x : Hi) (cs : List Value) : Prop := cs = [.string x.key, .int .i64 x.ts, .string x.val]
theorem hiE_held : Held hiE := fun _ _ _ _ _ h => h
def stOf (x : Hi) : Sm := (x.key, x.ts)
section
variable {ρ : Operand → Value} {X : World} {d : Option Tmp} {ty : TypeId} {ps : String} {af : Array Edge} {g : Option (Nat × Bool)}
theorem op_load87 {x : Operand} {B i : Nat} {n : Option Addr} (e : ρ x = .pointer (some ⟨B, i, none⟩)) (y : X.cell? ⟨B, i, none⟩ = some (.pointer n)) : (execOp ρ ⟨d, .load 87 x, ty, ps, af, g⟩).run Try.prog X = .ok (.value (.pointer n)) X := by
  simp only [execOp, e]
  go_simp
theorem op_loadSn {x : Operand} {B i : Nat} {p : Sn} (e : ρ x = .pointer (some ⟨B, i, none⟩)) (y0 : X.cell? ⟨B, i, none⟩ = some (.string p.lo)) (y1 : X.cell? ⟨B, i + 1, none⟩ = some (.string p.hi)) : (execOp ρ ⟨d, .load 57 x, ty, ps, af, g⟩).run Try.prog X = .ok (.value (snV p)) X := by
  simp only [execOp, e]
  go_simp
theorem op_load58 {x : Operand} {B i : Nat} {a : Option Addr} {n m : Nat} (e : ρ x = .pointer (some ⟨B, i, none⟩)) (y : X.cell? ⟨B, i, none⟩ = some (.slice a n m)) : (execOp ρ ⟨d, .load 58 x, ty, ps, af, g⟩).run Try.prog X = .ok (.value (.slice a n m)) X := by
  simp only [execOp, e]
  go_simp
theorem op_f60_0 {x : Operand} {B o : Nat} (e : ρ x = .pointer (some ⟨B, o, none⟩)) : (execOp ρ ⟨d, .fieldAddr 60 x 0, ty, ps, af, g⟩).run Try.prog X = .ok (.value (.pointer (some ⟨B, o, none⟩))) X := by
  simp only [execOp, e]
  go_simp
theorem op_f60_1 {x : Operand} {B o : Nat} (e : ρ x = .pointer (some ⟨B, o, none⟩)) : (execOp ρ ⟨d, .fieldAddr 60 x 1, ty, ps, af, g⟩).run Try.prog X = .ok (.value (.pointer (some ⟨B, o + 2, none⟩))) X := by
  simp only [execOp, e]
  go_simp
theorem call49 {v u x : Value} : Sem.run Try.prog (callFunc 49 #[v, u, x]) X = .ok (.enter 49 #[v, u, x]) X := by go_simp
theorem call24 {v u : Value} : Sem.run Try.prog (callFunc 24 #[v, u]) X = .ok (.enter 24 #[v, u]) X := by go_simp
theorem call102 {v u x : Value} : Sem.run Try.prog (callFunc 102 #[v, u, x]) X = .ok (.enter 102 #[v, u, x]) X := by go_simp
end
section
variable {w w' : World} {A : Nat} {S1 S2 : Nat → Prop} {s : Sh} {P M N : Nat} {G : List Gl} {lv rv ov : Value}
theorem hi_lr {B : Nat} {H : List Hi} {v : Value} (h : w.ownsRow B 80 3 v H.length (hiC H)) : Lr hiE 3 w H v := Lr.own (f := fun x : Hi => [.string x.key, .int .i64 x.ts, .string x.val]) (fun _ => rfl) h
set_option maxHeartbeats 2000000 in
set_option maxRecDepth 100000 in
theorem spanS_any (h : Sx w A S1 S2 s P M N G lv rv ov) (p : Sn) : Calls Try.prog 24 #[.pointer (some ⟨A, 0, none⟩), snV p] w fun e w' => SpanAns w (span s.rows p.lo p.hi ever) e w' := by
  obtain ⟨W, hW⟩ : ∃ W, W = w.alloc (.cells #[.string p.lo, .string p.hi] 57) := ⟨_, rfl⟩
  have hb : Below w.heap.size w W := by rw [hW]; exact (Below.refl _ w).alloc (Nat.le_refl _) _
  obtain ⟨Y, hY⟩ : ∃ Y, w.heap.size = Y := ⟨_, rfl⟩
  have jY : W.heap[Y]? = some (.cells #[.string p.lo, .string p.hi] 57 (0, 0)) := by rw [hW, ← hY]; exact heap_alloc_new w _
  have b0 : W.cell? ⟨Y, 0, none⟩ = some (.string p.lo) := cell_blk jY 0
  have b1 : W.cell? ⟨Y, 1, none⟩ = some (.string p.hi) := cell_blk jY 1
  have a0 : W.cell? ⟨A, 0, none⟩ = some (.pointer (some ⟨P, 0, none⟩)) := cell_on hb (cell_blk h.ob 0)
  have hst := h.st.on hb
  obtain ⟨H, hH⟩ : ∃ H, span s.rows p.lo p.hi ever = H := ⟨_, rfl⟩
  have HSP : Hid (∀ X, Below W.heap.size W X → Calls Try.prog 49 #[.pointer (some ⟨P, 0, none⟩), snV p, .int .i64 ever] X fun e w' => SpanAns X H e w') := fun X hX => by
    rw [← hH]
    exact span_b (hst.on hX) p.lo p.hi ever
  rw [hH]
  have HW := Lib.hid hW
  have HY := Lib.hid hY
  have HB := Lib.hid hb
  clear hW hY hb jY h hst hH
  go_enter Try.func24, Try.ntmps24
  go_upto_region 1 with fail
  rw [← HW.out, HY.out]
  go_upto_region 3 with fail
  refine wp_region_fl (fun _ X9 => Below W.heap.size W X9) (fun X9 X' => Below X9.heap.size X9 X') [
    fun v9 _ => v9 = .pointer (some ⟨A, 0, none⟩),
    fun v9 _ => v9 = .pointer (some ⟨A, 0, none⟩),
    fun v9 _ => v9 = .pointer (some ⟨A, 0, none⟩),
    fun v9 _ => v9 = .pointer (some ⟨P, 0, none⟩),
    fun v9 _ => v9 = snV p,
    fun v9 X9 => ∃ ad9 cap9, v9 = .slice ad9 H.length cap9 ∧ X9.ownsRow W.heap.size 80 3 (.slice ad9 H.length cap9) H.length (hiC H),
    fun v9 X9 => ∃ ad9 cap9, v9 = .slice ad9 H.length cap9 ∧ X9.ownsRow W.heap.size 80 3 (.slice ad9 H.length cap9) H.length (hiC H)]
    (by kernel_rfl) (by kernel_rfl) (by kernel_rfl) ?st ?g0 ?os ?en
  case st => exact ⟨fun _ _ _ _ h => h, fun _ _ _ _ h => h, fun _ _ _ _ h => h, fun _ _ _ _ h => h, fun _ _ _ _ h => h, fun _ _ _ hs ⟨x, y, e, z⟩ => ⟨x, y, e, own_below z hs⟩, fun _ _ _ hs ⟨x, y, e, z⟩ => ⟨x, y, e, own_below z hs⟩, trivial⟩
  case g0 => exact ⟨rfl, rfl, rfl, Nat.le_refl _, fun _ _ => rfl⟩
  case os =>
    refine ⟨?_, ?_, ?_, ?_, ?_, ?_, ?_, trivial⟩
    · exact fun ρ X9 fl hg hn hl hp ho hc hf hr => .inl ⟨rfl, Runs.val _ (op_move (show ρ (.tmp 0) = .pointer (some ⟨A, 0, none⟩) from ho 0 rfl)) ⟨hg, Below.refl _ _, rfl⟩⟩
    · exact fun ρ X9 fl hg hn hl hp ho hc hf hr => .inl ⟨rfl, Runs.val _ (op_nil (show ρ (.tmp 7) = .pointer (some ⟨A, 0, none⟩) from hr 0 7 rfl rfl)) ⟨hg, Below.refl _ _, rfl⟩⟩
    · exact fun ρ X9 fl hg hn hl hp ho hc hf hr => .inl ⟨rfl, Runs.val _ (op_f92_0 (show ρ (.tmp 8) = .pointer (some ⟨A, 0, none⟩) from hr 1 8 rfl rfl)) ⟨hg, Below.refl _ _, rfl⟩⟩
    · exact fun ρ X9 fl hg hn hl hp ho hc hf hr => .inl ⟨rfl, Runs.val _ (op_load87 (show ρ (.tmp 9) = .pointer (some ⟨A, 0, none⟩) from hr 2 9 rfl rfl) (cell_on hg a0)) ⟨hg, Below.refl _ _, rfl⟩⟩
    · exact fun ρ X9 fl hg hn hl hp ho hc hf hr => .inl ⟨rfl, Runs.val _ (op_loadSn (show ρ (.tmp 3) = .pointer (some ⟨Y, 0, none⟩) from ho 3 rfl) (cell_on hg b0) (cell_on hg b1)) ⟨hg, Below.refl _ _, rfl⟩⟩
    · refine fun ρ X9 fl hg hn hl hp ho hc hf hr => .inl ⟨rfl, ?_⟩
      refine Runs.goes 49 #[.pointer (some ⟨P, 0, none⟩), snV p, .int .i64 ever] (op_call3 hf call49 (show ρ (.tmp 10) = .pointer (some ⟨P, 0, none⟩) from hr 3 10 rfl rfl) (show ρ (.tmp 11) = snV p from hr 4 11 rfl rfl) (hc _)) ((HSP.out X9 hg).mono ?_)
      rintro e7 w7 ⟨ad7, cap7, rfl, o7, b7⟩
      exact ⟨_, rfl, hg.trans (b7.mono hg.size), b7, ad7, cap7, rfl, own_mono o7 hg.size⟩
    · refine fun ρ X9 fl hg hn hl hp ho hc hf hr => .inl ⟨rfl, ?_⟩
      obtain ⟨ad9, cap9, e, z⟩ : ∃ ad9 cap9, ρ (.tmp 12) = .slice ad9 H.length cap9 ∧ X9.ownsRow W.heap.size 80 3 (.slice ad9 H.length cap9) H.length (hiC H) := hr 5 12 rfl rfl
      exact Runs.val _ (op_assign e) ⟨hg, Below.refl _ _, ad9, cap9, rfl, z⟩
  case en =>
    intro a X9 fl hfl hG hs hd ho hr
    obtain ⟨x, hx, hxt⟩ := act_put hs hd ho
    obtain ⟨ad9, cap9, e9, z9⟩ : ∃ ad9 cap9, a.tmps.getD 4 undef = .slice ad9 H.length cap9 ∧ X9.ownsRow W.heap.size 80 3 (.slice ad9 H.length cap9) H.length (hiC H) := hr 6 4 rfl
    have x4 : x 4 = .slice ad9 H.length cap9 := (hxt 4).symm.trans e9
    change a = putAll _ x [7, 8, 9, 10, 11, 12, 4] at hx
    simp only [putAll, Act.put, List.setIfInBounds_toArray, List.set_cons_zero, List.set_cons_succ, x4] at hx
    have HA : Hid (SpanAns w H (.returned (.slice ad9 H.length cap9)) X9) := ⟨ad9, cap9, rfl, own_mono z9 HB.out.size, HB.out.trans (hG.mono HB.out.size)⟩
    clear hG hs hd ho hr hxt x4 e9 z9
    subst hx
    go_wp2
    refine bodyPost_ret (v := .slice ad9 H.length cap9) (by simp [results, Try.results24, go_sem]) rfl ?_
    exact HA.out
theorem spanS_nil (w : World) (p : Sn) : Calls Try.prog 24 #[.pointer none, snV p] w fun e w' => e = .returned (.slice none 0 0) ∧ Below w.heap.size w w' := by
  have HB : Hid (∀ o, Below w.heap.size w (w.alloc o)) := fun o => (Below.refl _ w).alloc (Nat.le_refl _) o
  go_enter Try.func24, Try.ntmps24
  go_wp2
  refine bodyPost_ret (v := .slice none 0 0) (by simp [results, Try.results24, go_sem]) rfl ?_
  exact ⟨rfl, HB.out _⟩
set_option maxHeartbeats 1000000 in
set_option maxRecDepth 100000 in
theorem sameSt_f (x : Hi) (y : Sm) : Calls Try.prog 103 #[.agg #[.string x.key, .int .i64 x.ts, .string x.val], .agg #[.string y.1, .int .i64 y.2]] w fun e w' => e = .returned (.bool (decide (stOf x = y))) ∧ Below w.heap.size w w' := by
  have HB : Hid (∀ o o', Below w.heap.size w ((w.alloc o).alloc o')) := fun o o' => ((Below.refl _ w).alloc (Nat.le_refl _) o).alloc (by simp) o'
  have hs := same_eq x.key y.1
  have HQ : Hid (decide (stOf x = y) = (decide (x.key = y.1) && decide (x.ts = y.2))) := by
    show _ = _
    obtain ⟨k, t⟩ := y
    unfold stOf
    simp only [Prod.mk.injEq, Bool.decide_and]
  rw [HQ.out]
  obtain ⟨q, hq⟩ : ∃ q, decide (x.key = y.1) = q := ⟨_, rfl⟩
  rw [hq] at hs ⊢
  clear hq HQ
  cases q with
  | true =>
    by_cases q2 : x.ts = y.2
    · go_enter Try.func103, Try.ntmps103
      go_wp2
      go_ret
      exact ⟨by simp [q2], HB.out _ _⟩
    · go_enter Try.func103, Try.ntmps103
      go_wp2
      go_ret
      exact ⟨by simp [q2], HB.out _ _⟩
  | false =>
    go_enter Try.func103, Try.ntmps103
    go_wp2
    go_ret
    exact ⟨by simp, HB.out _ _⟩
theorem eq_map {H : List Hi} {L : List Sm} (hl : H.length = L.length) (h : ∀ j (h1 : j < H.length) (h2 : j < L.length), stOf H[j] = L[j]) : H.map stOf = L :=
  List.ext_getElem (by simpa using hl) (fun i h1 h2 => by rw [List.getElem_map]; exact h i (by simpa using h1) h2)
set_option maxHeartbeats 2000000 in
set_option maxRecDepth 100000 in
theorem equal_any {H : List Hi} {L : List Sm} {u v : Value} (hH : Lr hiE 3 w H u) (hL : Lr smE 2 w L v) : Calls Try.prog 102 #[u, v, .func (.func 103) #[] #[]] w fun e w' => e = .returned (.bool (decide (H.map stOf = L))) ∧ Below w.heap.size w w' := by
  obtain ⟨ad, cap, rfl, _, z1, z2, hX⟩ := hH
  obtain ⟨ad', cap', rfl, _, z3, z4, hY⟩ := hL
  have hmx : (H.length : Int) ≤ 9223372036854775807 := by unfold maxLen at z2; omega
  have hmy : (L.length : Int) ≤ 9223372036854775807 := by unfold maxLen at z4; omega
  have HX := Lib.hid hX
  have HY := Lib.hid hY
  clear hX hY z1 z2 z3 z4
  by_cases hne : H.length = L.length
  · have hlen : (H.length : Int) = L.length := by omega
    have HLEN := Lib.hid hne
    clear hne
    go_enter Try.func102, Try.ntmps102
    go_wp2
    go_loopw [17] (fun iv wr => ∃ i : Nat, i ≤ H.length ∧ iv = .int .i64 (i : Int) ∧ (∀ j (h1 : j < H.length) (h2 : j < L.length), j < i → stOf H[j] = L[j]) ∧ Below w.heap.size w wr) (fun iv _ => H.length - (intOf iv).toNat)
    case atStart => exact ⟨0, Nat.zero_le _, rfl, fun j _ _ hj => by omega, Below.refl _ _⟩
    case round =>
      obtain ⟨i, hi, rfl, hno, hb⟩ := hrel
      obtain ⟨V, rfl⟩ : ∃ V, V = wr := ⟨_, rfl⟩
      have HN := Lib.hid hno
      have HB := Lib.hid hb
      by_cases hlt : i < H.length
      · have hlt2 : i < L.length := by have := HLEN.out; omega
        obtain ⟨b, o, cs, rfl, _, hE, _, hcell⟩ := HX.out i hlt
        cases hE
        obtain ⟨b', o', cs', rfl, _, hE', _, hcell'⟩ := HY.out i hlt2
        cases hE'
        have c0 := cell_on hb (hcell 0 _ rfl)
        have c1 := cell_on hb (hcell 1 _ rfl)
        have c2 := cell_on hb (hcell 2 _ rfl)
        have d0 := cell_on hb (hcell' 0 _ rfl)
        have d1 := cell_on hb (hcell' 1 _ rfl)
        simp only [Nat.add_zero] at c0 d0
        have k0 : (0 : Int) ≤ i := by omega
        have k1 : (i : Int) < H.length := by omega
        have k2 : (i : Int) < L.length := by omega
        obtain ⟨x, hx⟩ : ∃ x, H[i] = x := ⟨_, rfl⟩
        obtain ⟨y, hy⟩ : ∃ y, L[i] = y := ⟨_, rfl⟩
        rw [hx] at c0 c1 c2
        rw [hy] at d0 d1
        have HX1 := Lib.hid hx
        have HY1 := Lib.hid hy
        have hcall : ∀ X, Calls Try.prog 103 #[.agg #[.string x.key, .int .i64 x.ts, .string x.val], .agg #[.string y.1, .int .i64 y.2]] X fun e w' => e = .returned (.bool (decide (stOf x = y))) ∧ Below X.heap.size X w' := fun X => sameSt_f x y
        obtain ⟨V1, hV1⟩ : ∃ V1, V1 = V.alloc (.cells #[.string x.key, .int .i64 x.ts, .string x.val] 80) := ⟨_, rfl⟩
        obtain ⟨Z1, hZ1⟩ : ∃ Z1, V.heap.size = Z1 := ⟨_, rfl⟩
        have bb1 : Below V.heap.size V V1 := by rw [hV1]; exact (Below.refl _ V).alloc (Nat.le_refl _) _
        have jZ1 : V1.heap[Z1]? = some (.cells #[.string x.key, .int .i64 x.ts, .string x.val] 80 (0, 0)) := by rw [hV1, ← hZ1]; exact heap_alloc_new V _
        have e0 := cell_on bb1 d0
        have e1 := cell_on bb1 d1
        obtain ⟨V2, hV2⟩ : ∃ V2, V2 = V1.alloc (.cells #[.string y.1, .int .i64 y.2] 82) := ⟨_, rfl⟩
        obtain ⟨Z2, hZ2⟩ : ∃ Z2, V1.heap.size = Z2 := ⟨_, rfl⟩
        have bb2 : Below V1.heap.size V1 V2 := by rw [hV2]; exact (Below.refl _ V1).alloc (Nat.le_refl _) _
        have jZ2 : V2.heap[Z2]? = some (.cells #[.string y.1, .int .i64 y.2] 82 (0, 0)) := by rw [hV2, ← hZ2]; exact heap_alloc_new V1 _
        have jZ1' := (bb2.block Z1 (blk_lt jZ1)).trans jZ1
        have f0 : V2.cell? ⟨Z1, 0, none⟩ = some (.string x.key) := cell_blk jZ1' 0
        have f1 : V2.cell? ⟨Z1, 1, none⟩ = some (.int .i64 x.ts) := cell_blk jZ1' 1
        have f2 : V2.cell? ⟨Z1, 2, none⟩ = some (.string x.val) := cell_blk jZ1' 2
        have g0 : V2.cell? ⟨Z2, 0, none⟩ = some (.string y.1) := cell_blk jZ2 0
        have g1 : V2.cell? ⟨Z2, 1, none⟩ = some (.int .i64 y.2) := cell_blk jZ2 1
        have HB2 : Hid (Below w.heap.size w V2) := (hb.trans (bb1.mono hb.size)).trans (bb2.mono (Nat.le_trans hb.size bb1.size))
        have HV1 := Lib.hid hV1
        have HZ1 := Lib.hid hZ1
        have HV2 := Lib.hid hV2
        have HZ2 := Lib.hid hZ2
        clear hV1 hZ1 bb1 jZ1 hV2 hZ2 bb2 jZ2 jZ1'
        obtain ⟨q, hq⟩ : ∃ q, decide (stOf x = y) = q := ⟨_, rfl⟩
        rw [hq] at hcall
        have HQ := Lib.hid hq
        clear hb hno hcell hcell' hx hy hq
        cases q with
        | true =>
          have HNX : Hid (∀ j (h1 : j < H.length) (h2 : j < L.length), j < i + 1 → stOf H[j] = L[j]) := fun j h1 h2 hj => by
            by_cases e : j = i
            · subst e
              rw [HX1.out, HY1.out]
              exact of_decide_eq_true HQ.out
            · exact HN.out j h1 h2 (by omega)
          go_upto_region 6 with fail
          rw [← HV1.out, HZ1.out]
          go_upto_region 7 with fail
          rw [← HV2.out, HZ2.out]
          go_wp2_with fail
          refine (hcall _).mono ?_
          rintro e w1 ⟨rfl, b1⟩
          have HB1 : Hid (Below w.heap.size w w1) := HB2.out.trans (b1.mono HB2.out.size)
          clear b1 hcall
          go_wp2
          go_roundw
          case rel => exact ⟨i + 1, hlt, by go_num, HNX.out, HB1.out⟩
          case measure => simp [intOf]; omega
        | false =>
          have HR : Hid (decide (H.map stOf = L) = false) := decide_eq_false fun e => by
            have e2 : stOf H[i] = L[i] := by
              have : (H.map stOf)[i]'(by simpa using hlt) = L[i] := by simp only [e]
              rw [List.getElem_map] at this
              exact this
            rw [HX1.out, HY1.out] at e2
            exact of_decide_eq_false HQ.out e2
          go_upto_region 6 with fail
          rw [← HV1.out, HZ1.out]
          go_upto_region 7 with fail
          rw [← HV2.out, HZ2.out]
          go_wp2_with fail
          refine (hcall _).mono ?_
          rintro e w1 ⟨rfl, b1⟩
          have HB1 : Hid (Below w.heap.size w w1) := HB2.out.trans (b1.mono HB2.out.size)
          clear b1 hcall
          go_wp2
          go_ret
          exact ⟨by rw [HR.out]; rfl, HB1.out⟩
      · have k1 : ¬ (i : Int) < H.length := by omega
        have HR : Hid (decide (H.map stOf = L) = true) := decide_eq_true (eq_map HLEN.out fun j h1 h2 => hno j h1 h2 (by omega))
        clear hb hno
        go_wp2
        go_ret
        exact ⟨by rw [HR.out]; rfl, HB.out⟩
  · have hlen : ¬ (H.length : Int) = L.length := by omega
    have HR : Hid (decide (H.map stOf = L) = false) := decide_eq_false fun e => hne (by rw [← e, List.length_map])
    clear hne
    go_enter Try.func102, Try.ntmps102
    go_wp2
    go_ret
    exact ⟨by rw [HR.out]; rfl, Below.refl _ _⟩
def staleB (R : List Rw) (x : Rn) : Bool := !decide ((span R x.span.lo x.span.hi ever).map stOf = x.seen)
set_option maxHeartbeats 2000000 in
set_option maxRecDepth 100000 in
theorem stale_any (h : Sx w A S1 S2 s P M N G lv rv ov) (x : Rn) {sa : Option Addr} {sc : Nat} (hl : Lr smE 2 w x.seen (.slice sa x.seen.length sc)) : Calls Try.prog 87 #[.pointer (some ⟨A, 0, none⟩), .agg #[.string x.span.lo, .string x.span.hi, .slice sa x.seen.length sc]] w fun e w' => e = .returned (.bool (staleB s.rows x)) ∧ Below w.heap.size w w' := by
  obtain ⟨W, hW⟩ : ∃ W, W = w.alloc (.cells #[.string x.span.lo, .string x.span.hi, .slice sa x.seen.length sc] 60) := ⟨_, rfl⟩
  have hb : Below w.heap.size w W := by rw [hW]; exact (Below.refl _ w).alloc (Nat.le_refl _) _
  obtain ⟨Y, hY⟩ : ∃ Y, w.heap.size = Y := ⟨_, rfl⟩
  have jY : W.heap[Y]? = some (.cells #[.string x.span.lo, .string x.span.hi, .slice sa x.seen.length sc] 60 (0, 0)) := by rw [hW, ← hY]; exact heap_alloc_new w _
  have b0 : W.cell? ⟨Y, 0, none⟩ = some (.string x.span.lo) := cell_blk jY 0
  have b1 : W.cell? ⟨Y, 1, none⟩ = some (.string x.span.hi) := cell_blk jY 1
  have b2 : W.cell? ⟨Y, 2, none⟩ = some (.slice sa x.seen.length sc) := cell_blk jY 2
  have hW2 := h.on hb
  obtain ⟨H, hH⟩ : ∃ H, span s.rows x.span.lo x.span.hi ever = H := ⟨_, rfl⟩
  have HSP : Hid (∀ X, Below W.heap.size W X → Calls Try.prog 24 #[.pointer (some ⟨A, 0, none⟩), snV x.span] X fun e w' => SpanAns X H e w') := fun X hX => by
    rw [← hH]
    exact spanS_any (hW2.on hX) x.span
  have HL : Hid (∀ X, Below W.heap.size W X → Lr smE 2 X x.seen (.slice sa x.seen.length sc)) := fun X hX => (hl.on smE_held hb).on smE_held hX
  have HST : Hid (staleB s.rows x = !decide (H.map stOf = x.seen)) := by show _ = _; unfold staleB; rw [hH]
  rw [HST.out]
  obtain ⟨q, hq⟩ : ∃ q, decide (H.map stOf = x.seen) = q := ⟨_, rfl⟩
  have HQ := Lib.hid hq
  rw [hq]
  have HW := Lib.hid hW
  have HY := Lib.hid hY
  have HB := Lib.hid hb
  clear hW hY hb jY h hW2 hH hl HST hq
  go_enter Try.func87, Try.ntmps87
  go_upto_region 1 with fail
  rw [← HW.out, HY.out]
  refine wp_region_fl (fun _ X9 => Below W.heap.size W X9) (fun X9 X' => Below X9.heap.size X9 X') [
    fun v9 _ => v9 = .pointer (some ⟨A, 0, none⟩),
    fun v9 _ => v9 = .pointer (some ⟨Y, 0, none⟩),
    fun v9 _ => v9 = snV x.span,
    fun v9 X9 => ∃ ad9 cap9, v9 = .slice ad9 H.length cap9 ∧ X9.ownsRow W.heap.size 80 3 (.slice ad9 H.length cap9) H.length (hiC H),
    fun v9 _ => v9 = .pointer (some ⟨Y, 2, none⟩),
    fun v9 _ => v9 = .slice sa x.seen.length sc,
    fun v9 _ => v9 = .bool q,
    fun v9 _ => v9 = .bool (!q),
    fun v9 _ => v9 = .bool (!q)]
    (by kernel_rfl) (by kernel_rfl) (by kernel_rfl) ?st ?g0 ?os ?en
  case st => exact ⟨fun _ _ _ _ h => h, fun _ _ _ _ h => h, fun _ _ _ _ h => h, fun _ _ _ hs ⟨x, y, e, z⟩ => ⟨x, y, e, own_below z hs⟩, fun _ _ _ _ h => h, fun _ _ _ _ h => h, fun _ _ _ _ h => h, fun _ _ _ _ h => h, fun _ _ _ _ h => h, trivial⟩
  case g0 => exact ⟨rfl, rfl, rfl, Nat.le_refl _, fun _ _ => rfl⟩
  case os =>
    refine ⟨?_, ?_, ?_, ?_, ?_, ?_, ?_, ?_, ?_, trivial⟩
    · exact fun ρ X9 fl hg hn hl hp ho hc hf hr => .inl ⟨rfl, Runs.val _ (op_move (show ρ (.tmp 0) = .pointer (some ⟨A, 0, none⟩) from ho 0 rfl)) ⟨hg, Below.refl _ _, rfl⟩⟩
    · exact fun ρ X9 fl hg hn hl hp ho hc hf hr => .inl ⟨rfl, Runs.val _ (op_f60_0 (show ρ (.tmp 3) = .pointer (some ⟨Y, 0, none⟩) from ho 3 rfl)) ⟨hg, Below.refl _ _, rfl⟩⟩
    · exact fun ρ X9 fl hg hn hl hp ho hc hf hr => .inl ⟨rfl, Runs.val _ (op_loadSn (show ρ (.tmp 6) = .pointer (some ⟨Y, 0, none⟩) from hr 1 6 rfl rfl) (cell_on hg b0) (cell_on hg b1)) ⟨hg, Below.refl _ _, rfl⟩⟩
    · refine fun ρ X9 fl hg hn hl hp ho hc hf hr => .inl ⟨rfl, ?_⟩
      refine Runs.goes 24 #[.pointer (some ⟨A, 0, none⟩), snV x.span] (op_call2 hf call24 (show ρ (.tmp 5) = .pointer (some ⟨A, 0, none⟩) from hr 0 5 rfl rfl) (show ρ (.tmp 7) = snV x.span from hr 2 7 rfl rfl)) ((HSP.out X9 hg).mono ?_)
      rintro e7 w7 ⟨ad7, cap7, rfl, o7, b7⟩
      exact ⟨_, rfl, hg.trans (b7.mono hg.size), b7, ad7, cap7, rfl, own_mono o7 hg.size⟩
    · exact fun ρ X9 fl hg hn hl hp ho hc hf hr => .inl ⟨rfl, Runs.val _ (op_f60_1 (show ρ (.tmp 3) = .pointer (some ⟨Y, 0, none⟩) from ho 3 rfl)) ⟨hg, Below.refl _ _, rfl⟩⟩
    · exact fun ρ X9 fl hg hn hl hp ho hc hf hr => .inl ⟨rfl, Runs.val _ (op_load58 (show ρ (.tmp 9) = .pointer (some ⟨Y, 2, none⟩) from hr 4 9 rfl rfl) (cell_on hg b2)) ⟨hg, Below.refl _ _, rfl⟩⟩
    · refine fun ρ X9 fl hg hn hl hp ho hc hf hr => .inl ⟨rfl, ?_⟩
      obtain ⟨ad9, cap9, e, z⟩ : ∃ ad9 cap9, ρ (.tmp 8) = .slice ad9 H.length cap9 ∧ X9.ownsRow W.heap.size 80 3 (.slice ad9 H.length cap9) H.length (hiC H) := hr 3 8 rfl rfl
      refine Runs.goes 102 #[.slice ad9 H.length cap9, .slice sa x.seen.length sc, .func (.func 103) #[] #[]] (op_call3 hf call102 e (show ρ (.tmp 10) = .slice sa x.seen.length sc from hr 5 10 rfl rfl) (hf 103)) ((equal_any (hi_lr z) (HL.out X9 hg)).mono ?_)
      rintro e7 w7 ⟨rfl, b7⟩
      exact ⟨_, rfl, hg.trans (b7.mono hg.size), b7, (show Value.bool (decide (H.map stOf = x.seen)) = .bool q from by rw [HQ.out])⟩
    · exact fun ρ X9 fl hg hn hl hp ho hc hf hr => .inl ⟨rfl, Runs.val _ (op_not (show ρ (.tmp 11) = .bool q from hr 6 11 rfl rfl) ) ⟨hg, Below.refl _ _, rfl⟩⟩
    · exact fun ρ X9 fl hg hn hl hp ho hc hf hr => .inl ⟨rfl, Runs.val _ (op_assign (show ρ (.tmp 12) = .bool (!q) from hr 7 12 rfl rfl)) ⟨hg, Below.refl _ _, rfl⟩⟩
  case en =>
    intro a X9 fl hfl hG hs hd ho hr
    obtain ⟨x, hx, hxt⟩ := act_put hs hd ho
    have x4 : x 4 = .bool (!q) := (hxt 4).symm.trans (hr 8 4 rfl)
    change a = putAll _ x [5, 6, 7, 8, 9, 10, 11, 12, 4] at hx
    simp only [putAll, Act.put, List.setIfInBounds_toArray, List.set_cons_zero, List.set_cons_succ, x4] at hx
    have HBX := Lib.hid (HB.out.trans (hG.mono HB.out.size))
    clear hG hs hd ho hr hxt x4
    subst hx
    go_wp2
    go_ret
    exact ⟨rfl, HBX.out⟩
end
end Go.Proofs.Ytcoaahlakkghhaa
