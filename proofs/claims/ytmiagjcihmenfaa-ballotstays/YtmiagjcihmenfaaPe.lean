/- clear at entries; slices.Delete of a list's end. -/
import Derived.Test.YtmiagjcihmenfaaPd
namespace Go.Proofs.Ytmiagjcihmenfaa
open Go.RowKit

theorem wpl_clear {P : Program} {w w' : World} {ops : Array Oper} {rest : List Oper} {o : Oper} {a : Act} {Q : Exit → Act → World → Prop} {t ty : TypeId} {v' : Value} {ds : Option Tmp} {ps : String} {af : Array Edge} (s : Operand)
    (ho : o = ⟨ds, .call { callee := .builtin .clear, args := #[s], argTypes := #[t] }, ty, ps, af, none⟩) (hrun : (Builtin.clear_ #[t] ty #[a.eval s]).run P w = .ok v' w')
    (h : wpList P ops Q rest (a.put ds v') w') : wpList P ops Q (o :: rest) a w := by
  subst ho
  refine wpList_plain rfl fun K hK => ?_
  unfold Oper.wp execOp
  simp only [resolve, invoke, builtin, Sem.run_bind, Sem.run_pure, Result.andThen_ok, List.map_toArray, List.map_cons, List.map_nil, hrun]
  exact hK _ _ h
theorem step_run2 {P : Program} {w w' : World} {ops : Array Oper} {o : Oper} {a : Act} {K : Act → World → Prop} {Q : Exit → Act → World → Prop} {E : Prop} {t u ty : TypeId} {v1 v2 v' : Value} (s x : Operand) (hw : Region.wanted o (yielded ops a.tmps) = true)
    (ho : o.op = .call { callee := .builtin .append, args := #[s, x], argTypes := #[t, u] }) (hty : o.type = ty) (hs : a.eval s = v1) (hx : a.eval x = v2) (hrun : (Builtin.append_ #[t, u] ty #[v1, v2]).run P w = .ok v' w')
    (h : K (a.put o.dst v') w') : if Region.wanted o (yielded ops a.tmps) = true then Oper.wp P o a w K Q else E := by
  subst hty
  subst hs
  subst hx
  exact step_run s x hw ho hrun h
theorem wpl_run2 {P : Program} {w w' : World} {ops : Array Oper} {rest : List Oper} {o : Oper} {a : Act} {Q : Exit → Act → World → Prop} {t u ty : TypeId} {v1 v2 v' : Value} {ds : Option Tmp} {ps : String} {af : Array Edge} (s x : Operand)
    (ho : o = ⟨ds, .call { callee := .builtin .append, args := #[s, x], argTypes := #[t, u] }, ty, ps, af, none⟩) (hs : a.eval s = v1) (hx : a.eval x = v2) (hrun : (Builtin.append_ #[t, u] ty #[v1, v2]).run P w = .ok v' w')
    (h : wpList P ops Q rest (a.put ds v') w') : wpList P ops Q (o :: rest) a w := by
  subst hs
  subst hx
  exact wpl_run s x ho hrun h
theorem Fr.drew {w w1 : World} {S : Nat → Prop} (h : Fr w w1 S) : Fr w w1.drew S := ⟨h.os, h.tape, h.output, h.size, h.block⟩
/-- n empty entries' cells. -/
def zE (n : Nat) : List Value := (Builtin.zeroCells #[.int .i64 0, .int .i64 0, .int .i64 0, .string ⟨#[]⟩] n).toList
theorem zE_len (n : Nat) : (zE n).length = n * 4 := by
  unfold zE
  rw [Array.length_toList, size_zeroCells]
  rfl
theorem zE_one (n : Nat) : ∀ v ∈ zE n, v.oneCell' = true := by
  intro v hv
  unfold zE Builtin.zeroCells at hv
  simp only [Array.toList_map, List.mem_map] at hv
  obtain ⟨i, _, rfl⟩ := hv
  have h4 : i % 4 < 4 := Nat.mod_lt _ (by decide)
  have : i % 4 = 0 ∨ i % 4 = 1 ∨ i % 4 = 2 ∨ i % 4 = 3 := by omega
  show ((#[.int .i64 0, .int .i64 0, .int .i64 0, .string ⟨#[]⟩] : Array Value)[i % 4]!).oneCell' = true
  rcases this with e | e | e | e <;> rw [e] <;> rfl
theorem clear_run {w : World} {g o n cap : Nat} {cur : Array Value} (ty : TypeId) (hb : w.heap[g]? = some (.cells cur 49 (0, 0))) (hin : o + n * 4 ≤ cur.size) :
    (Builtin.clear_ #[32] ty #[.slice (some ⟨g, o, none⟩) n cap]).run Try.prog w = .ok (.tuple #[]) (w.setCells g o (zE n)) := by
  obtain ⟨i0, hi, hz0, hz1, hz2⟩ := info_parts infoEn
  rcases Nat.eq_zero_or_pos n with rfl | hn
  · have e : w.setCells g o (zE 0) = w := by
      have h0 : zE 0 = [] := List.eq_nil_of_length_eq_zero (zE_len 0)
      rw [h0]
      rfl
    rw [e]
    simp [Builtin.clear_, run_underlying Try.underlying32]
  · have hst := run_storeCells_cells (P := Try.prog) g o (zE n) 0 w (fun j hj => by
      rw [zE_len] at hj
      rw [cell_blk hb, Array.getElem?_eq_getElem (by omega)]
      rfl) (fun j _ => frozen_blk hb _) (zE_one n)
    simp only [Nat.add_zero] at hst
    obtain ⟨m, rfl⟩ : ∃ m, n = m + 1 := ⟨n - 1, by omega⟩
    have hzc : (Builtin.zeroCells (Value.agg #[.int .i64 0, .int .i64 0, .int .i64 0, .string ⟨#[]⟩]).cells (m + 1)).toList = zE (m + 1) := rfl
    simp [Builtin.clear_, run_underlying Try.underlying32, zeroValue, typeInfo, hi, hz0, hzc, hst]
end Go.Proofs.Ytmiagjcihmenfaa
