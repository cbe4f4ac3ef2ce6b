/- Whole structs read and stored at once; answers. -/
import Derived.Test.YtcoaahlakkghhaaSg
import Derived.Deep.MidRow
namespace Go.Proofs.Ytcoaahlakkghhaa
open Go.RowKit
theorem load_row {w : World} {g : Nat} {t ty : TypeId} {cs : Array Value} {fr : Nat × Nat} {d : TypeDesc} (hg : w.heap[g]? = some (.cells cs t fr)) (hu : Try.prog.underlying ty = some d) (hd : d.isRow = true) (hi : (Try.prog.info? ty).map (·.size) = some cs.size) : (Instr.loadAt ty (.pointer (some ⟨g, 0, none⟩))).run Try.prog w = .ok (.agg cs) w := by
  have h := run_loadVar_row w g t ty cs fr d hg hu (by cases d <;> first | rfl | cases hd) hi
  simp only [Instr.loadAt, Instr.sureAddr, Sem.run_bind, Sem.run_pure, Result.andThen_ok, h]
theorem wpl_load {P : Program} {w : World} {ops : Array Oper} {rest : List Oper} {o : Oper} {a : Act} {Q : Exit → Act → World → Prop} {t ty : TypeId} {v p : Value} {ds : Option Tmp} {ps : String} {af : Array Edge} (x : Operand)
    (ho : o = ⟨ds, .load t x, ty, ps, af, none⟩) (hx : a.eval x = p) (hld : (Instr.loadAt t p).run P w = .ok v w)
    (h : wpList P ops Q rest (a.put ds v) w) : wpList P ops Q (o :: rest) a w := by
  subst ho
  subst hx
  refine wpList_plain rfl fun K hK => ?_
  unfold Oper.wp execOp
  simp only [Sem.run_bind, Sem.run_pure, Result.andThen_ok, hld]
  exact hK _ _ h
theorem wpl_store {P : Program} {w w' : World} {ops : Array Oper} {rest : List Oper} {o : Oper} {a : Act} {Q : Exit → Act → World → Prop} {t ty : TypeId} {v p : Value} {ds : Option Tmp} {ps : String} {af : Array Edge} (x y : Operand)
    (ho : o = ⟨ds, .store t x y, ty, ps, af, none⟩) (hx : a.eval x = p) (hy : a.eval y = v) (hst : (Instr.storeAt t p v).run P w = .ok () w')
    (h : wpList P ops Q rest (a.put ds undef) w') : wpList P ops Q (o :: rest) a w := by
  subst ho
  subst hx
  subst hy
  refine wpList_plain rfl fun K hK => ?_
  unfold Oper.wp execOp
  simp only [Sem.run_bind, Sem.run_pure, Result.andThen_ok, hst]
  exact hK _ _ h
theorem store_row {w : World} {g : Nat} {t ty : TypeId} {cs us : Array Value} (hg : w.heap[g]? = some (.cells cs t (0, 0))) (hl : us.size = cs.size) (hi : (Try.prog.info? ty).map (·.size) = some us.size) (h1 : us.all (·.oneCell') = true) : (Instr.storeAt ty (.pointer (some ⟨g, 0, none⟩)) (.agg us)).run Try.prog w = .ok () (w.setCells g 0 us.toList) := by
  refine run_storeAt_mid w g 0 ty us (fun j hj => ?_) hi h1
  rw [Nat.zero_add]
  refine ⟨?_, frozen_blk hg j⟩
  rw [cell_blk hg j, Array.getElem?_eq_getElem (by omega)]
  rfl
theorem setCells_gen {R : Nat} {t : TypeId} {fr : Nat × Nat} : ∀ (vs : List Value) (o : Nat) (w : World) (cs : Array Value), w.heap[R]? = some (.cells cs t fr) → o + vs.length ≤ cs.size →
    (∃ ds : Array Value, (w.setCells R o vs).heap[R]? = some (.cells ds t fr) ∧ ds.toList = cs.toList.take o ++ vs ++ cs.toList.drop (o + vs.length)) ∧ (∀ k, k ≠ R → (w.setCells R o vs).heap[k]? = w.heap[k]?) ∧ (w.setCells R o vs).heap.size = w.heap.size ∧ (w.setCells R o vs).os = w.os ∧ (w.setCells R o vs).tape = w.tape ∧ (w.setCells R o vs).output = w.output
  | [], o, w, cs, h, _ => ⟨⟨cs, h, by simp⟩, fun _ _ => rfl, rfl, rfl, rfl, rfl⟩
  | v :: r, o, w, cs, h, hl => by
    simp only [List.length_cons] at hl
    obtain ⟨⟨ds, h1, h2⟩, h3, h4, h5, h6, h7⟩ := setCells_gen r (o + 1) (w.setCell ⟨R, o, none⟩ v) (cs.setIfInBounds o v) (set_blk h v) (by simp; omega)
    refine ⟨⟨ds, h1, ?_⟩, fun k hk => (h3 k hk).trans (set_other (a := ⟨R, o, none⟩) _ hk), h4.trans (by simp [World.setCell]), h5, h6, h7⟩
    have ho : o < cs.toList.length := by simp; omega
    rw [h2, Array.toList_setIfInBounds, List.drop_set_of_lt (by omega), List.take_add_one, List.take_set_of_le (Nat.le_refl _), List.getElem?_set_self ho]
    simp [List.length_cons, Nat.add_assoc, Nat.add_comm 1]
theorem sets_row {w : World} {R : Nat} {cs : Array Value} {t : TypeId} {fr : Nat × Nat} (h : w.heap[R]? = some (.cells cs t fr)) (vs : Array Value) (hl : vs.size = cs.size) : ∃ W, W = w.setCells R 0 vs.toList ∧ W.heap[R]? = some (.cells vs t fr) ∧ Fr w W (fun k => k = R) := by
  obtain ⟨⟨ds, h1, h2⟩, h3, h4, h5, h6, h7⟩ := setCells_gen vs.toList 0 w cs h (by simp; omega)
  refine ⟨_, rfl, ?_, ⟨h5, h6, h7, by omega, fun k _ hk => h3 k hk⟩⟩
  have e : ds = vs := by
    apply Array.toList_inj.1
    rw [h2]
    simp [hl]
  rw [h1, e]
theorem load_var {w : World} {g : Nat} {t ty : TypeId} {cs : Array Value} {fr : Nat × Nat} {d : TypeDesc} (hg : w.heap[g]? = some (.cells cs t fr)) (hu : Try.prog.underlying ty = some d) (hd : d.isRow = true) (hi : (Try.prog.info? ty).map (·.size) = some cs.size) : (loadVar ty ⟨g, 0, none⟩).run Try.prog w = .ok (.agg cs) w :=
  run_loadVar_row w g t ty cs fr d hg hu (by cases d <;> first | rfl | cases hd) hi
theorem results_one {fn : Func} {t : Tmp} {ty : TypeId} {ad : Addr} {v : Value} {tmps : Array Value} {w : World} (h : fn.results = #[.cell t ty]) (ha : tmps.getD t undef = .pointer (some ad)) (hl : (loadVar ty ad).run Try.prog w = .ok v w) : (results fn tmps).run Try.prog w = .ok v w := by
  have ha2 : tmps[t]?.getD undef = .pointer (some ad) := by simpa using ha
  simp [results, h, ha2, asAddr, hl]
theorem size47 : (Try.prog.info? 47).map (·.size) = some 30 := by kernel_rfl
theorem size52 : (Try.prog.info? 52).map (·.size) = some 9 := by kernel_rfl
theorem size68 : (Try.prog.info? 68).map (·.size) = some 7 := by kernel_rfl
/-! ### Answers -/
structure Rz where
  err : Int
  ts : Int
  txn : Td
  til : Int
  nw : Bool
abbrev td0 : Td := (0, 0, 0)
def rz0 : Rz := ⟨0, 0, td0, 0, false⟩
abbrev rzA (r : Rz) : Array Value := #[.int .i64 r.err, .int .i64 r.ts, .int .i64 r.txn.1, .int .i64 r.txn.2.1, .int .i64 r.txn.2.2, .int .i64 0, .int .i64 r.til, .int .i64 0, .bool r.nw]
abbrev rzV (r : Rz) : Value := .agg (rzA r)
section
variable {X : World} {Z : Nat} {cs : Array Value}
theorem put_rz (h : X.heap[Z]? = some (.cells cs 52 (0, 0))) (hs : cs.size = 9) (r : Rz) : ∃ X', (Instr.storeAt 52 (.pointer (some ⟨Z, 0, none⟩)) (rzV r)).run Try.prog X = .ok () X' ∧ X'.heap[Z]? = some (.cells (rzA r) 52 (0, 0)) ∧ Fr X X' (fun k => k = Z) := by
  obtain ⟨W, e, h1, h2⟩ := sets_row h (rzA r) hs.symm
  exact ⟨W, by rw [e]; exact store_row h hs.symm size52 (by simp [Value.oneCell']), h1, h2⟩
theorem ret_rz {fn : Func} {t : Tmp} {tmps : Array Value} {r : Rz} (h : X.heap[Z]? = some (.cells (rzA r) 52 (0, 0))) (hr : fn.results = #[.cell t 52]) (ha : tmps.getD t undef = .pointer (some ⟨Z, 0, none⟩)) : (results fn tmps).run Try.prog X = .ok (rzV r) X :=
  results_one hr ha (load_var h Try.underlying52 rfl size52)
variable {ρ : Operand → Value} {d : Option Tmp} {ty : TypeId} {ps : String} {af : Array Edge} {g : Option (Nat × Bool)}
theorem op_storeAt {T : TypeId} {x y : Operand} {v p : Value} {X' : World} (e : ρ x = p) (e2 : ρ y = v) (h : (Instr.storeAt T p v).run Try.prog X = .ok () X') : (execOp ρ ⟨d, .store T x y, ty, ps, af, g⟩).run Try.prog X = .ok .skip X' := by
  simp only [execOp, e, e2]
  simp [h]
theorem op_loadAt {T : TypeId} {x : Operand} {v p : Value} (e : ρ x = p) (h : (Instr.loadAt T p).run Try.prog X = .ok v X) : (execOp ρ ⟨d, .load T x, ty, ps, af, g⟩).run Try.prog X = .ok (.value v) X := by
  simp only [execOp, e]
  simp [h]
theorem op_i31o {x y : Operand} {B o n m i : Nat} (e : ρ x = .slice (some ⟨B, o, none⟩) n m) (e2 : ρ y = .int .i64 (i : Int)) (h : i < n) : (execOp ρ ⟨d, .indexAddr 31 x y, ty, ps, af, g⟩).run Try.prog X = .ok (.value (.pointer (some ⟨B, o + i * 7, none⟩))) X := by
  have k0 : (0 : Int) ≤ (i : Int) := by omega
  have k1 : (i : Int) < (n : Int) := by omega
  simp only [execOp, e, e2]
  go_simp
theorem op_load31 {x : Operand} {B i : Nat} {a : Option Addr} {n m : Nat} (e : ρ x = .pointer (some ⟨B, i, none⟩)) (y : X.cell? ⟨B, i, none⟩ = some (.slice a n m)) : (execOp ρ ⟨d, .load 31 x, ty, ps, af, g⟩).run Try.prog X = .ok (.value (.slice a n m)) X := by
  simp only [execOp, e]
  go_simp
theorem op_f68_0 {x : Operand} {B o : Nat} (e : ρ x = .pointer (some ⟨B, o, none⟩)) : (execOp ρ ⟨d, .fieldAddr 68 x 0, ty, ps, af, g⟩).run Try.prog X = .ok (.value (.pointer (some ⟨B, o, none⟩))) X := by
  simp only [execOp, e]
  go_simp
theorem op_f68_2 {x : Operand} {B o : Nat} (e : ρ x = .pointer (some ⟨B, o, none⟩)) : (execOp ρ ⟨d, .fieldAddr 68 x 2, ty, ps, af, g⟩).run Try.prog X = .ok (.value (.pointer (some ⟨B, o + 4, none⟩))) X := by
  simp only [execOp, e]
  go_simp
theorem op_b52_busy {x y : Operand} {t : Td} {n : Int} (e : ρ x = tdV t) (e2 : ρ y = .int .i64 n) (hc : ∀ x, ρ (.const x) = x) : (execOp ρ ⟨d, .build 52 #[(0, .const (.int .i64 131)), (2, x), (4, y)], ty, ps, af, g⟩).run Try.prog X = .ok (.value (rzV ⟨131, 0, t, n, false⟩)) X := by
  simp only [execOp]
  simp [e, e2, hc]
  go_simp
end
def busyR (p : Lk → Bool) (L : List Lk) : Rz := match L.find? p with
  | some l => ⟨131, 0, l.txn, l.til, false⟩
  | none => rz0
theorem busy_no {p : Lk → Bool} {L : List Lk} (h : fidx p L < 0) : busyR p L = rz0 := by
  unfold busyR
  have : L.find? p = none := by
    rw [List.find?_eq_none]
    intro x hx hp
    have h1 := fidx_any p L
    rw [List.any_eq_true.2 ⟨x, hx, hp⟩] at h1
    have := of_decide_eq_true h1
    omega
  rw [this]
theorem busy_yes {p : Lk → Bool} {L : List Lk} (h : ¬ fidx p L < 0) : ∃ i, ∃ hi : i < L.length, fidx p L = (i : Int) ∧ busyR p L = ⟨131, 0, L[i].txn, L[i].til, false⟩ := by
  unfold fidx at h ⊢
  cases he : L.findIdx? p with
  | none =>
    rw [he] at h
    simp at h
  | some i =>
    obtain ⟨hi, hp, hb⟩ := List.findIdx?_eq_some_iff_getElem.1 he
    refine ⟨i, hi, rfl, ?_⟩
    unfold busyR
    have : L.find? p = some L[i] := by
      rw [List.find?_eq_some_iff_getElem]
      exact ⟨hp, i, hi, rfl, fun j hj => by
        have := hb j hj
        simpa using this⟩
    rw [this]
end Go.Proofs.Ytcoaahlakkghhaa
