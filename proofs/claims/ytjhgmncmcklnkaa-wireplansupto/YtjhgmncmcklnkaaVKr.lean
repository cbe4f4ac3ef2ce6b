/- A whole struct, read at once. -/
import Derived.Test.YtjhgmncmcklnkaaVC
import Derived.Deep.MidRow
namespace Go.Proofs.Ytjhgmncmcklnkaa
open Go.RowKit

theorem load_row {w : World} {g : Nat} {t ty : TypeId} {cs : Array Value} {fr : Nat × Nat} {d : TypeDesc} (hg : w.heap[g]? = some (.cells cs t fr)) (hu : Try.prog.underlying ty = some d) (hd : d.isRow = true) (hi : (Try.prog.info? ty).map (·.size) = some cs.size) : (Instr.loadAt ty (.pointer (some ⟨g, 0, none⟩))).run Try.prog w = .ok (.agg cs) w := by
  have h := run_loadVar_row w g t ty cs fr d hg hu (by cases d <;> first | rfl | cases hd) hi
  simp only [Instr.loadAt, Instr.sureAddr, Sem.run_bind, Sem.run_pure, Result.andThen_ok, h]
theorem wpl_load {P : Program} {w : World} {ops : Array Oper} {rest : List Oper} {o : Oper} {a : Act} {Q : Exit → Act → World → Prop} {t ty : TypeId} {v p : Value} {ds : Option Tmp} {ps : String} {af : Array Edge} (x : Operand)
    (ho : o = ⟨ds, .load t x, ty, ps, af, none⟩) (hx : a.eval x = p) (hld : (Instr.loadAt t p).run P w = .ok v w)
    (h : wpList P ops Q rest (a.put ds v) w) : wpList P ops Q (o :: rest) a w := by
  subst ho
  subst hx
  refine wpList_plain rfl fun K hK => ?_
  unfold Oper.wp execOp
  simp only [Sem.run_bind, Sem.run_pure, Result.andThen_ok, hld]
  exact hK _ _ h
theorem wpl_store {P : Program} {w w' : World} {ops : Array Oper} {rest : List Oper} {o : Oper} {a : Act} {Q : Exit → Act → World → Prop} {t ty : TypeId} {v p : Value} {ds : Option Tmp} {ps : String} {af : Array Edge} (x y : Operand)
    (ho : o = ⟨ds, .store t x y, ty, ps, af, none⟩) (hx : a.eval x = p) (hy : a.eval y = v) (hst : (Instr.storeAt t p v).run P w = .ok () w')
    (h : wpList P ops Q rest (a.put ds undef) w') : wpList P ops Q (o :: rest) a w := by
  subst ho
  subst hx
  subst hy
  refine wpList_plain rfl fun K hK => ?_
  unfold Oper.wp execOp
  simp only [Sem.run_bind, Sem.run_pure, Result.andThen_ok, hst]
  exact hK _ _ h
theorem store_row {w : World} {g : Nat} {t ty : TypeId} {cs us : Array Value} (hg : w.heap[g]? = some (.cells cs t (0, 0))) (hl : us.size = cs.size) (hi : (Try.prog.info? ty).map (·.size) = some us.size) (h1 : us.all (·.oneCell') = true) : (Instr.storeAt ty (.pointer (some ⟨g, 0, none⟩)) (.agg us)).run Try.prog w = .ok () (w.setCells g 0 us.toList) := by
  refine run_storeAt_mid w g 0 ty us (fun j hj => ?_) hi h1
  rw [Nat.zero_add]
  refine ⟨?_, frozen_blk hg j⟩
  rw [cell_blk hg j, Array.getElem?_eq_getElem (by omega)]
  rfl
theorem setCells_gen {R : Nat} {t : TypeId} {fr : Nat × Nat} : ∀ (vs : List Value) (o : Nat) (w : World) (cs : Array Value), w.heap[R]? = some (.cells cs t fr) → o + vs.length ≤ cs.size →
    (∃ ds : Array Value, (w.setCells R o vs).heap[R]? = some (.cells ds t fr) ∧ ds.toList = cs.toList.take o ++ vs ++ cs.toList.drop (o + vs.length)) ∧ (∀ k, k ≠ R → (w.setCells R o vs).heap[k]? = w.heap[k]?) ∧ (w.setCells R o vs).heap.size = w.heap.size ∧ (w.setCells R o vs).os = w.os ∧ (w.setCells R o vs).tape = w.tape ∧ (w.setCells R o vs).output = w.output
  | [], o, w, cs, h, _ => ⟨⟨cs, h, by simp⟩, fun _ _ => rfl, rfl, rfl, rfl, rfl⟩
  | v :: r, o, w, cs, h, hl => by
    simp only [List.length_cons] at hl
    obtain ⟨⟨ds, h1, h2⟩, h3, h4, h5, h6, h7⟩ := setCells_gen r (o + 1) (w.setCell ⟨R, o, none⟩ v) (cs.setIfInBounds o v) (set_blk h v) (by simp; omega)
    refine ⟨⟨ds, h1, ?_⟩, fun k hk => (h3 k hk).trans (set_other (a := ⟨R, o, none⟩) _ hk), h4.trans (by simp [World.setCell]), h5, h6, h7⟩
    have ho : o < cs.toList.length := by simp; omega
    rw [h2, Array.toList_setIfInBounds, List.drop_set_of_lt (by omega), List.take_add_one, List.take_set_of_le (Nat.le_refl _), List.getElem?_set_self ho]
    simp [List.length_cons, Nat.add_assoc, Nat.add_comm 1]
theorem sets_row {w : World} {R : Nat} {cs : Array Value} {t : TypeId} {fr : Nat × Nat} (h : w.heap[R]? = some (.cells cs t fr)) (vs : Array Value) (hl : vs.size = cs.size) : ∃ W, W = w.setCells R 0 vs.toList ∧ W.heap[R]? = some (.cells vs t fr) ∧ (∀ k, k ≠ R → W.heap[k]? = w.heap[k]?) ∧ W.heap.size = w.heap.size ∧ W.os = w.os ∧ W.tape = w.tape ∧ W.output = w.output := by
  obtain ⟨⟨ds, h1, h2⟩, h3⟩ := setCells_gen vs.toList 0 w cs h (by simp; omega)
  refine ⟨_, rfl, ?_, h3⟩
  have e : ds = vs := by
    apply Array.toList_inj.1
    rw [h2]
    simp [hl]
  rw [h1, e]
theorem results_cell {fn : Func} {t u : Tmp} {ty : TypeId} {ad : Addr} {v : Value} {tmps : Array Value} {w : World} (h : fn.results = #[.cell t ty, .tmp u]) (ha : tmps.getD t undef = .pointer (some ad)) (hl : (loadVar ty ad).run Try.prog w = .ok v w) : (results fn tmps).run Try.prog w = .ok (.tuple #[v, tmps.getD u undef]) w := by
  have ha2 : tmps[t]?.getD undef = .pointer (some ad) := by simpa using ha
  simp [results, h, ha2, asAddr, hl]
theorem load_var {w : World} {g : Nat} {t ty : TypeId} {cs : Array Value} {fr : Nat × Nat} {d : TypeDesc} (hg : w.heap[g]? = some (.cells cs t fr)) (hu : Try.prog.underlying ty = some d) (hd : d.isRow = true) (hi : (Try.prog.info? ty).map (·.size) = some cs.size) : (loadVar ty ⟨g, 0, none⟩).run Try.prog w = .ok (.agg cs) w :=
  run_loadVar_row w g t ty cs fr d hg hu (by cases d <;> first | rfl | cases hd) hi
theorem kinds_one {t : List Ty} {us : Array Value} (hs : us.size = t.length) (hk : ∀ j (hj : j < t.length), ∃ v, us[j]? = some v ∧ t[j].kind v) : us.all (·.oneCell') = true := by
  rw [Array.all_eq_true]
  intro j hj
  obtain ⟨v, h1, h2⟩ := hk j (by omega)
  rw [Array.getElem?_eq_getElem hj] at h1
  cases h1
  exact Ty.kind_one h2
theorem size47 : (Try.prog.info? 47).map (·.size) = some 30 := by kernel_rfl
theorem size85 : (Try.prog.info? 85).map (·.size) = some 22 := by kernel_rfl
end Go.Proofs.Ytjhgmncmcklnkaa
