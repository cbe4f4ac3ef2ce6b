/- The walk of the statement DiaryNil. -/
import Derived.Test.YtoipmpaebngppaaEh
namespace Go.Proofs.Ytoipmpaebngppaa
open Go.RowKit Go.Maps

theorem wpl_behind {P : Program} {w w' : World} {ops : Array Oper} {rest : List Oper} {o : Oper} {a : Act} {Q : Exit → Act → World → Prop} {t u ty : TypeId} {v' : Value} {ds : Option Tmp} {ps : String} {af : Array Edge} {g : Option (Nat × Bool)} (s x : Operand)
    (ho : o = ⟨ds, .call { callee := .builtin .append, args := #[s, x], argTypes := #[t, u] }, ty, ps, af, g⟩) (hw : Region.wanted o (yielded ops a.tmps) = true) (hrun : (Builtin.append_ #[t, u] ty #[a.eval s, a.eval x]).run P w = .ok v' w')
    (h : wpList P ops Q rest (a.put ds v') w') : wpList P ops Q (o :: rest) a w := by
  subst ho
  refine wpList_step fun K hK => ?_
  rw [if_pos hw]
  unfold Oper.wp execOp
  simp only [resolve, invoke, builtin, Sem.run_bind, Sem.run_pure, Result.andThen_ok, List.map_toArray, List.map_cons, List.map_nil, hrun]
  exact hK _ _ h

set_option maxHeartbeats 2000000 in
set_option maxRecDepth 100000 in
theorem nil_law {L : List ByteArray} {ad : Option Addr} {cap : Nat} {w : World} (n : ByteArray) (hL : Ls L ad w) :
    Calls Try.prog 6 #[.slice ad L.length cap, .string n] w fun e w' => e = .returned (.bool true) ∧ Below w.heap.size w w' := by
  by_cases h1000 : L.length < 1000
  · have q1 : (L.length : Int) < 1000 := by omega
    go_enter Try.func6, Try.ntmps6
    go_wp2_with fail
    refine (pd_open_nil n w).mono ?_
    rintro e w1 ⟨rfl, rfl⟩
    go_wp2_with fail
    refine (awake_any w1).mono ?_
    rintro e w2 ⟨rfl, hb2⟩
    obtain ⟨ad3, cap3, w3, hrun3, _, _, hb3⟩ := strs_copy (cap := cap) (hL.on hb2) (by omega)
    have hb13 := hb2.trans (hb3.mono hb2.size)
    obtain ⟨ad4, cap4, w4, hrun4, _, _, hb4⟩ := strs_copy (cap := cap) (hL.on hb13) (by omega)
    have hb14 := hb13.trans (hb4.mono hb13.size)
    go_wp2_with (at_builtin; refine wpl_behind _ _ rfl rfl hrun3 ?_)
    refine (pd_append_nil _ w3).mono ?_
    rintro e w5 ⟨rfl, rfl⟩
    go_wp2_with (at_builtin; refine wpl_behind _ _ rfl rfl hrun4 ?_)
    refine (pd_rewrite_nil _ w4).mono ?_
    rintro e w6 ⟨rfl, rfl⟩
    go_wp2
    go_ret
    exact ⟨rfl, hb14⟩
  · have q1 : ¬ (L.length : Int) < 1000 := by omega
    have q2 : (1000 : Int) ≤ L.length := by omega
    go_enter Try.func6, Try.ntmps6
    go_wp2_with fail
    refine (pd_open_nil n w).mono ?_
    rintro e w1 ⟨rfl, rfl⟩
    go_wp2_with fail
    refine (awake_any w1).mono ?_
    rintro e w2 ⟨rfl, hb2⟩
    go_wp2
    go_ret
    exact ⟨rfl, hb2⟩
end Go.Proofs.Ytoipmpaebngppaa
