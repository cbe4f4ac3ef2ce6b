/- The walk of the program's copied. -/
import Derived.Test.YtmiagjcihmenfaaXb
namespace Go.Proofs.Ytmiagjcihmenfaa
open Go.RowKit

section
variable {w w' : World} {A : Nat} {S T : Nat → Prop} {b : Bs} {lv : Value} {pf : Int}
theorem enC_part (L : List En) (x n j : Nat) (hx : x + n ≤ L.length) (hj : j < n * 4) : (enC ((L.drop x).take n))[j]? = (enC L)[x * 4 + j]? := by
  have e : enC L = enC (L.take x) ++ (enC ((L.drop x).take n) ++ enC ((L.drop x).drop n)) := by
    rw [← enC_append, ← enC_append, List.take_append_drop, List.take_append_drop]
  have l1 : (enC (L.take x)).length = x * 4 := by rw [enC_len]; simp; omega
  have l2 : (enC ((L.drop x).take n)).length = n * 4 := by rw [enC_len]; simp; omega
  rw [e, List.getElem?_append_right (by omega), l1, List.getElem?_append_left (by omega), show x * 4 + j - x * 4 = j by omega]
set_option maxHeartbeats 2000000 in
theorem copied_any (h : Pb w A S b) (fr to : Int) (h1 : b.base < fr) (h2 : fr ≤ to + 1) (h3 : to ≤ b.last) : Calls Try.prog 39 #[.pointer (some ⟨A, 0, none⟩), .int .i64 fr, .int .i64 to] w fun e w' => ∃ v, e = .returned v ∧ Below w.heap.size w w' ∧ w'.ownsRow w.heap.size 49 4 v ((b.log.drop (fr - b.base - 1).toNat).take (to + 1 - fr).toNat).length (enC ((b.log.drop (fr - b.base - 1).toNat).take (to + 1 - fr).toNat)) := by
  obtain ⟨lv, pf, h⟩ := h
  have c4 : w.cell? ⟨A, 4, none⟩ = some (.int .i64 b.base) := h.cell 4
  have c11 : w.cell? ⟨A, 11, none⟩ = some (lv) := h.cell 11
  have b0 := h.b0
  have b1 := h.b1
  have l1 := h.len
  have h3' : to ≤ b.base + b.log.length := h3
  obtain ⟨x, hx⟩ : ∃ x : Nat, fr = b.base + 1 + x := ⟨(fr - b.base - 1).toNat, by omega⟩
  obtain ⟨y, hy⟩ : ∃ y : Nat, to = b.base + y := ⟨(to - b.base).toNat, by omega⟩
  obtain ⟨x1, hx1⟩ : ∃ x1 : Nat, x + 1 = x1 := ⟨_, rfl⟩
  have w1 : IntKind.i64.wrap (fr - b.base) = (x1 : Int) := by rw [IntKind.wrap_i64]; omega
  have w2 : IntKind.i64.wrap ((x1 : Int) - 1) = (x : Int) := by rw [IntKind.wrap_i64]; omega
  have w3 : IntKind.i64.wrap (to - b.base) = (y : Int) := by rw [IntKind.wrap_i64]; omega
  have w4 : (0 : Int) ≤ x := by omega
  have w5 : (x : Int) ≤ y := by omega
  have ed : (fr - b.base - 1).toNat = x := by omega
  have et : (to + 1 - fr).toNat = y - x := by omega
  rw [ed, et]
  have hL := h.log
  have n1 : x ≤ y := by omega
  have n2 : y ≤ b.log.length := by omega
  clear h h1 h2 h3 h3' ed et hx hy hx1
  rcases hL with ⟨e, ad, rfl⟩ | ⟨g, o, cap, cur, rfl, h0, h1, h2, h4, h5, h6⟩
  · have e0 : b.log.length = 0 := by rw [e]; rfl
    have ey : y = 0 := by omega
    have ex : x = 0 := by omega
    subst ey
    subst ex
    have hrun := append_none w.drew none ad 0 0 0 (Nat.le_refl _)
    rw [e]
    clear e e0 n2
    go_enter Try.func39, Try.ntmps39
    go_wp2
    cases ad <;>
    · go_region_law (refine step_run (.const (.slice none 0 0)) (.tmp 26) rfl rfl hrun ?_)
      all_goals
        go_wp2
        go_ret
        exact ⟨_, rfl, (Below.refl _ _).drew, World.ownsRow_nil _ _ _ _⟩
  · have w6 : (y : Int) ≤ cap := by omega
    have n3 : y ≤ cap := by omega
    have hsrc : ∀ j u, (enC ((b.log.drop x).take (y - x)))[j]? = some u → w.drew.cell? ((⟨g, o + x * 4, none⟩ : Addr).add j) = some u := by
      intro j u hu
      have hj : j < (y - x) * 4 := by
        have := (List.getElem?_eq_some_iff.1 hu).1
        rw [enC_len] at this
        simp at this
        omega
      rw [add_at]
      show w.cell? _ = _
      rw [show o + x * 4 + j = o + (x * 4 + j) by omega, h6 _ (by omega), ← hu, enC_part b.log x (y - x) j (by omega) hj]
    have hlen : ((b.log.drop x).take (y - x)).length = y - x := by simp; omega
    by_cases hc : cap = x
    · obtain rfl : y = x := by omega
      subst hc
      have hrun := append_none w.drew none (some ⟨g, o, none⟩) 0 0 0 (Nat.le_refl _)
      rw [Nat.sub_self] at hlen ⊢
      clear h6 h5 h4 hsrc
      go_enter Try.func39, Try.ntmps39
      go_wp2
      go_region_law (refine step_run (.const (.slice none 0 0)) (.tmp 26) rfl rfl hrun ?_)
      all_goals
        go_wp2
        go_ret
        exact ⟨_, rfl, (Below.refl _ _).drew, by rw [List.take_zero]; exact World.ownsRow_nil _ _ _ _⟩
    · obtain ⟨v', w', hrun, ho, hg, hat⟩ := ens_run (w := w.drew) (v := .slice none 0 0) (base := w.heap.size) (n := 0) (xs := []) (ad := some ⟨g, o + x * 4, none⟩) (m := y - x) (c := cap - x) (World.ownsRow_nil _ _ _ _) (Nat.le_refl _) (.inr ⟨_, rfl, by rw [enC_len, hlen], hsrc⟩) (enC_one _) (by omega)
      rw [Nat.zero_add, List.nil_append] at ho
      have hb : Below w.heap.size w w' := ⟨hg.os, hg.tape, hg.output, hg.size, fun k hk => hg.block k hk (by simp [Value.ownBlock])⟩
      have HO := Lib.hid ho
      have HB := Lib.hid hb
      have HL := Lib.hid hlen
      clear h6 h5 h4 hsrc ho hb hlen hg hat
      go_enter Try.func39, Try.ntmps39
      go_wp2
      go_region_law (refine step_run (.const (.slice none 0 0)) (.tmp 26) rfl rfl hrun ?_)
      all_goals
        go_wp2
        go_ret
        exact ⟨_, rfl, HB.out, by rw [HL.out]; exact HO.out⟩
end
end Go.Proofs.Ytmiagjcihmenfaa
/- clear at entries; slices.Delete of a list's end. -/
namespace Go.Proofs.Ytmiagjcihmenfaa
open Go.RowKit

theorem wpl_clear {P : Program} {w w' : World} {ops : Array Oper} {rest : List Oper} {o : Oper} {a : Act} {Q : Exit → Act → World → Prop} {t ty : TypeId} {v' : Value} {ds : Option Tmp} {ps : String} {af : Array Edge} (s : Operand)
    (ho : o = ⟨ds, .call { callee := .builtin .clear, args := #[s], argTypes := #[t] }, ty, ps, af, none⟩) (hrun : (Builtin.clear_ #[t] ty #[a.eval s]).run P w = .ok v' w')
    (h : wpList P ops Q rest (a.put ds v') w') : wpList P ops Q (o :: rest) a w := by
  subst ho
  refine wpList_plain rfl fun K hK => ?_
  unfold Oper.wp execOp
  simp only [resolve, invoke, builtin, Sem.run_bind, Sem.run_pure, Result.andThen_ok, List.map_toArray, List.map_cons, List.map_nil, hrun]
  exact hK _ _ h
theorem step_run2 {P : Program} {w w' : World} {ops : Array Oper} {o : Oper} {a : Act} {K : Act → World → Prop} {Q : Exit → Act → World → Prop} {E : Prop} {t u ty : TypeId} {v1 v2 v' : Value} (s x : Operand) (hw : Region.wanted o (yielded ops a.tmps) = true)
    (ho : o.op = .call { callee := .builtin .append, args := #[s, x], argTypes := #[t, u] }) (hty : o.type = ty) (hs : a.eval s = v1) (hx : a.eval x = v2) (hrun : (Builtin.append_ #[t, u] ty #[v1, v2]).run P w = .ok v' w')
    (h : K (a.put o.dst v') w') : if Region.wanted o (yielded ops a.tmps) = true then Oper.wp P o a w K Q else E := by
  subst hty
  subst hs
  subst hx
  exact step_run s x hw ho hrun h
theorem wpl_run2 {P : Program} {w w' : World} {ops : Array Oper} {rest : List Oper} {o : Oper} {a : Act} {Q : Exit → Act → World → Prop} {t u ty : TypeId} {v1 v2 v' : Value} {ds : Option Tmp} {ps : String} {af : Array Edge} (s x : Operand)
    (ho : o = ⟨ds, .call { callee := .builtin .append, args := #[s, x], argTypes := #[t, u] }, ty, ps, af, none⟩) (hs : a.eval s = v1) (hx : a.eval x = v2) (hrun : (Builtin.append_ #[t, u] ty #[v1, v2]).run P w = .ok v' w')
    (h : wpList P ops Q rest (a.put ds v') w') : wpList P ops Q (o :: rest) a w := by
  subst hs
  subst hx
  exact wpl_run s x ho hrun h
theorem Fr.drew {w w1 : World} {S : Nat → Prop} (h : Fr w w1 S) : Fr w w1.drew S := ⟨h.os, h.tape, h.output, h.size, h.block⟩
/-- n empty entries' cells. -/
def zE (n : Nat) : List Value := (Builtin.zeroCells #[.int .i64 0, .int .i64 0, .int .i64 0, .string ⟨#[]⟩] n).toList
theorem zE_len (n : Nat) : (zE n).length = n * 4 := by
  unfold zE
  rw [Array.length_toList, size_zeroCells]
  rfl
theorem zE_one (n : Nat) : ∀ v ∈ zE n, v.oneCell' = true := by
  intro v hv
  unfold zE Builtin.zeroCells at hv
  simp only [Array.toList_map, List.mem_map] at hv
  obtain ⟨i, _, rfl⟩ := hv
  have h4 : i % 4 < 4 := Nat.mod_lt _ (by decide)
  have : i % 4 = 0 ∨ i % 4 = 1 ∨ i % 4 = 2 ∨ i % 4 = 3 := by omega
  show ((#[.int .i64 0, .int .i64 0, .int .i64 0, .string ⟨#[]⟩] : Array Value)[i % 4]!).oneCell' = true
  rcases this with e | e | e | e <;> rw [e] <;> rfl
theorem clear_run {w : World} {g o n cap : Nat} {cur : Array Value} (ty : TypeId) (hb : w.heap[g]? = some (.cells cur 49 (0, 0))) (hin : o + n * 4 ≤ cur.size) :
    (Builtin.clear_ #[32] ty #[.slice (some ⟨g, o, none⟩) n cap]).run Try.prog w = .ok (.tuple #[]) (w.setCells g o (zE n)) := by
  obtain ⟨i0, hi, hz0, hz1, hz2⟩ := info_parts infoEn
  rcases Nat.eq_zero_or_pos n with rfl | hn
  · have e : w.setCells g o (zE 0) = w := by
      have h0 : zE 0 = [] := List.eq_nil_of_length_eq_zero (zE_len 0)
      rw [h0]
      rfl
    rw [e]
    simp [Builtin.clear_, run_underlying Try.underlying32]
  · have hst := run_storeCells_cells (P := Try.prog) g o (zE n) 0 w (fun j hj => by
      rw [zE_len] at hj
      rw [cell_blk hb, Array.getElem?_eq_getElem (by omega)]
      rfl) (fun j _ => frozen_blk hb _) (zE_one n)
    simp only [Nat.add_zero] at hst
    obtain ⟨m, rfl⟩ : ∃ m, n = m + 1 := ⟨n - 1, by omega⟩
    have hzc : (Builtin.zeroCells (Value.agg #[.int .i64 0, .int .i64 0, .int .i64 0, .string ⟨#[]⟩]).cells (m + 1)).toList = zE (m + 1) := rfl
    simp [Builtin.clear_, run_underlying Try.underlying32, zeroValue, typeInfo, hi, hz0, hzc, hst]
end Go.Proofs.Ytmiagjcihmenfaa
/- slices.Delete of a list's end. -/
namespace Go.Proofs.Ytmiagjcihmenfaa
open Go.RowKit

section
variable {w w' : World} {A : Nat} {S T : Nat → Prop} {b : Bs} {lv : Value} {pf : Int}
set_option maxHeartbeats 2000000 in
theorem delete_none (w : World) (ad : Option Addr) (n cap : Nat) (h1 : n ≤ cap) (h2 : cap ≤ maxLen) : Calls Try.prog 81 #[.slice ad n cap, .int .i64 n, .int .i64 n] w fun e w' => e = .returned (.slice ad n cap) ∧ w' = w := by
  have k1 : (n : Int) ≤ cap := by omega
  have k0 : (0 : Int) ≤ n := by omega
  have h3 : cap ≤ 9223372036854775807 := by unfold maxLen at h2; omega
  clear h2
  go_enter Try.func81, Try.ntmps81
  cases ad <;>
  · go_wp2
    all_goals (go_ret; exact ⟨rfl, rfl⟩)
set_option maxHeartbeats 400000 in
set_option maxRecDepth 100000 in
theorem delete_some {g o n cap i : Nat} {cur : Array Value} (hb : w.heap[g]? = some (.cells cur 49 (0, 0))) (hs : cur.size = o + cap * 4) (h1 : n ≤ cap) (h2 : cap ≤ maxLen) (hi : i < n) : Calls Try.prog 81 #[.slice (some ⟨g, o, none⟩) n cap, .int .i64 i, .int .i64 n] w fun e w' => e = .returned (.slice (some ⟨g, o, none⟩) i cap) ∧ w' = w.drew.setCells g (o + i * 4) (zE (n - i)) := by
  have k1 : (n : Int) ≤ cap := by omega
  have k0 : (0 : Int) ≤ i := by omega
  have k2 : (i : Int) < n := by omega
  have k3 : i ≤ cap := by omega
  have h3 : cap ≤ 9223372036854775807 := by unfold maxLen at h2; omega
  have hne : ¬ cap = i := by omega
  have hcl := fun ty c => clear_run (w := w.drew) (n := n - i) (o := o + i * 4) (cap := c) ty hb (by omega)
  have hrun1 := append_none w.drew (some ⟨g, o, none⟩) (some ⟨g, o, none⟩) i cap 0 k3
  have hrun2 := append_none w.drew (some ⟨g, o, none⟩) (some ⟨g, o + n * 4, none⟩) i cap (cap - n) k3
  clear h2 hb hs
  go_enter Try.func81, Try.ntmps81
  by_cases hc : cap = n
  · subst hc
    clear hrun2
    go_wp2
    go_region_law (refine step_run2 (.tmp 22) (.tmp 25) rfl rfl rfl (by simp [Act.eval, Act.put]) (by simp [Act.eval, Act.put]) hrun1 ?_)
    all_goals
      go_wp2_with (at_builtin; refine wpl_clear _ rfl (hcl _ _) ?_)
      go_ret
      exact ⟨rfl, rfl⟩
  · clear hrun1
    go_wp2
    go_region_law (refine step_run2 (.tmp 22) (.tmp 25) rfl rfl rfl (by simp [Act.eval, Act.put]) (by simp [Act.eval, Act.put]) hrun2 ?_)
    all_goals
      go_wp2_with (at_builtin; refine wpl_clear _ rfl (hcl _ _) ?_)
      go_ret
      exact ⟨rfl, rfl⟩
theorem Lg.cleared {g o cap p n : Nat} {cur : Array Value} {L : List En} (hn : L.length = n) (h0 : 0 < cap) (h1 : n ≤ cap) (h2 : cap ≤ maxLen) (h3 : w.heap[g]? = some (.cells cur 49 (0, 0))) (h4 : cur.size = o + cap * 4) (h5 : ∀ j, j < n * 4 → w.cell? ⟨g, o + j, none⟩ = (enC L)[j]?) (hp : p ≤ n) : Lg (w.setCells g (o + p * 4) (zE (n - p))) (L.take p) (.slice (some ⟨g, o, none⟩) p cap) := by
  obtain ⟨cur', c1, c2⟩ := setCells_blk g (zE (n - p)) (o + p * 4) w cur h3
  have hl : (L.take p).length = p := by simp; omega
  refine .inr ⟨g, o, cap, cur', by rw [hl], h0, by omega, h2, c1, c2.trans h4, fun j hj => ?_⟩
  rw [hl] at hj
  rw [World.cell?_setCells_out g _ _ w _ (fun _ _ => .inl (by show o + j < _; omega)), h5 j (by omega)]
  have e : enC L = enC (L.take p) ++ enC (L.drop p) := by rw [← enC_append, List.take_append_drop]
  rw [e, List.getElem?_append_left (by rw [enC_len, hl]; exact hj)]
theorem delete_any {L : List En} {v : Value} (h : Lg w L v) {p : Nat} (hp : p ≤ L.length) : Calls Try.prog 81 #[v, .int .i64 p, .int .i64 L.length] w fun e w' => ∃ ad cap, e = .returned (.slice ad p cap) ∧ Lg w' (L.take p) (.slice ad p cap) ∧ Fr w w' (fun k => lgB v = some k) ∧ (∀ k, lgB (.slice ad p cap) = some k → lgB v = some k) := by
  by_cases he : p = L.length
  · subst he
    obtain ⟨ad, cap, rfl, h1, h2⟩ := h.shape
    refine (delete_none w ad L.length cap h1 h2).mono ?_
    rintro e w' ⟨rfl, rfl⟩
    exact ⟨ad, cap, rfl, by rw [List.take_length]; exact h, Fr.refl _ _, fun k hk => hk⟩
  · rcases h with ⟨rfl, ad, rfl⟩ | ⟨g, o, cap, cur, rfl, h0, h1, h2, h3, h4, h5⟩
    · simp at hp
      simp [hp] at he
    · refine (delete_some h3 h4 h1 h2 (by omega)).mono ?_
      rintro e w' ⟨rfl, rfl⟩
      refine ⟨_, cap, rfl, Lg.cleared (w := w.drew) rfl h0 h1 h2 h3 h4 h5 hp, ?_, fun k hk => ?_⟩
      · have := setCells_fr g (o + p * 4) (zE (L.length - p)) w.drew (S := fun k => lgB (.slice (some ⟨g, o, none⟩) L.length cap) = some k) (lgB_pos h0)
        exact ⟨this.os, this.tape, this.output, this.size, this.block⟩
      · rw [lgB_pos h0] at hk ⊢
        exact hk
end
end Go.Proofs.Ytmiagjcihmenfaa
/- The walks of the program's behind and rebase. -/
namespace Go.Proofs.Ytmiagjcihmenfaa
open Go.RowKit

section
variable {w w' w1 : World} {A : Nat} {S T : Nat → Prop} {b : Bs} {lv : Value} {pf : Int}
/-- What is left where the first n entries are let go of. -/
theorem Lg.left {g o cap n m : Nat} {cur : Array Value} {L : List En} (hm : L.length = m) (h1 : m ≤ cap) (h2 : cap ≤ maxLen) (h3 : w.heap[g]? = some (.cells cur 49 (0, 0))) (h4 : cur.size = o + cap * 4) (h5 : ∀ j, j < m * 4 → w.cell? ⟨g, o + j, none⟩ = (enC L)[j]?) (hn : n < cap) (hnm : n ≤ m) : Lg (w.setCells g o (zE n)) (L.drop n) (.slice (some ⟨g, o + n * 4, none⟩) (m - n) (cap - n)) := by
  obtain ⟨cur', c1, c2⟩ := setCells_blk g (zE n) o w cur h3
  have hl : (L.drop n).length = m - n := by simp; omega
  refine .inr ⟨g, o + n * 4, cap - n, cur', by rw [hl], by omega, by omega, by omega, c1, by omega, fun j hj => ?_⟩
  rw [hl] at hj
  rw [World.cell?_setCells_out g _ _ w _ (fun _ _ => .inr (by rw [zE_len]; show _ ≤ o + n * 4 + j; omega)), show o + n * 4 + j = o + (n * 4 + j) by omega, h5 _ (by omega)]
  have e : enC L = enC (L.take n) ++ enC (L.drop n) := by rw [← enC_append, List.take_append_drop]
  have l1 : (enC (L.take n)).length = n * 4 := by rw [enC_len]; simp; omega
  rw [e, List.getElem?_append_right (by omega), l1, show n * 4 + j - n * 4 = j by omega]
theorem clear_none (w : World) (ad : Option Addr) (ty : TypeId) : (Builtin.clear_ #[32] ty #[.slice ad 0 0]).run Try.prog w = .ok (.tuple #[]) w := by
  cases ad <;> simp [Builtin.clear_, run_underlying Try.underlying32]
set_option maxHeartbeats 1000000 in
set_option maxRecDepth 100000 in
theorem behind_any (h : Pv w A S b lv pf) {i : Int} (h1 : b.base ≤ i) (h2 : i ≤ b.last) : Calls Try.prog 54 #[.pointer (some ⟨A, 0, none⟩), .int .i64 i] w fun e w' => ∃ ad cap, e = .returned (.slice ad (b.log.length - (i - b.base).toNat) cap) ∧ Lg w' (b.log.drop (i - b.base).toNat) (.slice ad (b.log.length - (i - b.base).toNat) cap) ∧ Fr w w' (fun k => lgB lv = some k) ∧ (∀ k, lgB (.slice ad (b.log.length - (i - b.base).toNat) cap) = some k → lgB lv = some k) := by
  have b0 := h.b0
  have b1 := h.b1
  have l1 := h.len
  have h2' : i ≤ b.base + b.log.length := h2
  obtain ⟨n, hn⟩ : ∃ n : Nat, (i - b.base).toNat = n := ⟨_, rfl⟩
  rw [hn]
  have hnl : n ≤ b.log.length := by omega
  have i1 : IntKind.i64.wrap (i - b.base) = (n : Int) := by rw [IntKind.wrap_i64]; omega
  have i1' : wrap64 (i - b.base) = (n : Int) := (IntWalk.wrap64_in _ ⟨by omega, by omega⟩).trans (by omega)
  have n0 : (0 : Int) ≤ n := by omega
  have c4 : w.cell? ⟨A, 4, none⟩ = some (.int .i64 b.base) := h.cell 4
  have c11 : w.cell? ⟨A, 11, none⟩ = some (lv) := h.cell 11
  rcases h.log with ⟨e, ad, rfl⟩ | ⟨g, o, cap, cur, rfl, g0, g1, g2, g3, g4, g5⟩
  · have e0 : b.log.length = 0 := by rw [e]; rfl
    have en : n = 0 := by omega
    subst en
    have hL := h.log
    rw [e0]
    rw [e]
    clear h h1 h2 h2' hn e0 e hnl
    have hcl := fun ty => clear_none w ad ty
    cases ad <;>
    · go_enter Try.func54, Try.ntmps54
      go_wp2_with (at_builtin; refine wpl_clear _ rfl (hcl _) ?_)
      go_ret
      exact ⟨_, 0, rfl, .inl ⟨rfl, _, rfl⟩, Fr.refl _ _, fun k hk => hk⟩
  · have k1 : (n : Int) ≤ cap := by omega
    have k2 : n ≤ cap := by omega
    have hcl := fun ty c => clear_run (w := w) (n := n) (o := o) (cap := c) ty g3 (by omega)
    have hA : A ≠ g := (h.neA g (lgB_pos g0)).symm
    have x11 : (w.setCells g o (zE n)).cell? ⟨A, 11, none⟩ = some (.slice (some ⟨g, o, none⟩) b.log.length cap) := by
      rw [World.cell?_setCells_out g _ _ w _ (fun e _ => absurd e hA)]
      exact c11
    have hfr := setCells_fr g o (zE n) w (S := fun k => lgB (.slice (some ⟨g, o, none⟩) b.log.length cap) = some k) (lgB_pos g0)
    by_cases hc : cap = n
    · have en : n = b.log.length := by omega
      have HF := Lib.hid hfr
      have HC := Lib.hid hc
      have HE := Lib.hid en
      clear h h1 h2 h2' hn hfr g3 g4 g5 hc en
      go_enter Try.func54, Try.ntmps54
      go_wp2_with (at_builtin; refine wpl_clear _ rfl (hcl _ _) ?_)
      go_ret
      have e1 := HC.out
      have e2 := HE.out
      refine ⟨some ⟨g, o, none⟩, 0, rfl, .inl ⟨List.drop_eq_nil_of_le (by omega), some ⟨g, o, none⟩, ?_⟩, ?_, fun k hk => ?_⟩
      · rw [show b.log.length - n = 0 by omega]
      · have hf := HF.out
        rw [e1] at hf
        exact hf
      · rw [lgB_zero] at hk
        cases hk
    · have hlt : n < cap := by omega
      have hLL := Lg.left (n := n) rfl g1 g2 g3 g4 g5 hlt hnl
      have HF := Lib.hid hfr
      have HL := Lib.hid hLL
      clear h h1 h2 h2' hn hfr g3 g4 g5 hLL
      go_enter Try.func54, Try.ntmps54
      go_wp2_with (at_builtin; refine wpl_clear _ rfl (hcl _ _) ?_)
      go_ret
      refine ⟨_, _, rfl, HL.out, HF.out, fun k hk => ?_⟩
      rw [lgB_pos (by omega)] at hk ⊢
      exact hk
theorem rebase_blk {i tm ls cm : Int} {snap : ByteArray} {ad : Option Addr} {N cap : Nat} {b' : Bs} (hb : w.heap[A]? = some (.cells (pC b lv pf) 78 (0, 0))) (hp : (((((((((pC b lv pf).setIfInBounds 4 (.int .i64 i)).setIfInBounds 9 (.int .i64 tm)).setIfInBounds 10 (.string snap)).setIfInBounds 11 (.slice ad N cap)).setIfInBounds 5 (.int .i64 ls)).setIfInBounds 6 (.int .i64 cm)).setIfInBounds 12 (.bool true)).setIfInBounds 13 (.bool true)) = pC b' (.slice ad N cap) pf) :
    ((((((((w.setCell ⟨A, 4, none⟩ (.int .i64 i)).setCell ⟨A, 9, none⟩ (.int .i64 tm)).setCell ⟨A, 10, none⟩ (.string snap)).setCell ⟨A, 11, none⟩ (.slice ad N cap)).setCell ⟨A, 5, none⟩ (.int .i64 ls)).setCell ⟨A, 6, none⟩ (.int .i64 cm)).setCell ⟨A, 12, none⟩ (.bool true)).setCell ⟨A, 13, none⟩ (.bool true)).heap[A]? = some (.cells (pC b' (.slice ad N cap) pf) 78 (0, 0)) ∧ Fr w ((((((((w.setCell ⟨A, 4, none⟩ (.int .i64 i)).setCell ⟨A, 9, none⟩ (.int .i64 tm)).setCell ⟨A, 10, none⟩ (.string snap)).setCell ⟨A, 11, none⟩ (.slice ad N cap)).setCell ⟨A, 5, none⟩ (.int .i64 ls)).setCell ⟨A, 6, none⟩ (.int .i64 cm)).setCell ⟨A, 12, none⟩ (.bool true)).setCell ⟨A, 13, none⟩ (.bool true)) (fun k => k = A) := by
  have e := set_blk (i := 13) (set_blk (i := 12) (set_blk (i := 6) (set_blk (i := 5) (set_blk (i := 11) (set_blk (i := 10) (set_blk (i := 9) (set_blk (i := 4) (hb) (.int .i64 i)) (.int .i64 tm)) (.string snap)) (.slice ad N cap)) (.int .i64 ls)) (.int .i64 cm)) (.bool true)) (.bool true)
  rw [hp] at e
  exact ⟨e, Fr.set (a := ⟨A, 13, none⟩) (Fr.set (a := ⟨A, 12, none⟩) (Fr.set (a := ⟨A, 6, none⟩) (Fr.set (a := ⟨A, 5, none⟩) (Fr.set (a := ⟨A, 11, none⟩) (Fr.set (a := ⟨A, 10, none⟩) (Fr.set (a := ⟨A, 9, none⟩) (Fr.set (a := ⟨A, 4, none⟩) (Fr.refl w (fun k => k = A)) (Or.inl rfl) _) (Or.inl rfl) _) (Or.inl rfl) _) (Or.inl rfl) _) (Or.inl rfl) _) (Or.inl rfl) _) (Or.inl rfl) _) (Or.inl rfl) _⟩
theorem rebase_pC {i tm ls cm : Int} {snap : ByteArray} {v : Value} {L : List En} (hl : i + (L.length : Int) = ls) (hm : max b.commit i = cm) : (((((((((pC b lv pf).setIfInBounds 4 (.int .i64 i)).setIfInBounds 9 (.int .i64 tm)).setIfInBounds 10 (.string snap)).setIfInBounds 11 v).setIfInBounds 5 (.int .i64 ls)).setIfInBounds 6 (.int .i64 cm)).setIfInBounds 12 (.bool true)).setIfInBounds 13 (.bool true)) = pC { b.rebase i tm snap L with commit := max b.commit i } v pf := by
  subst hl
  subst hm
  unfold pC
  simp [Bs.rebase, Bs.last]
set_option maxHeartbeats 1000000 in
set_option maxRecDepth 100000 in
theorem rebase_p {i tm : Int} {snap : ByteArray} {L : List En} {ad : Option Addr} {cap : Nat} (hob : w.heap[A]? = some (.cells (pC b lv pf) 78 (0, 0))) (hL : Lg w L (.slice ad L.length cap)) (hcA : S A) (hcov : ∀ k, lgB (.slice ad L.length cap) = some k → S k) (hlt : ∀ k, S k → k < w.heap.size) (hl : L.length ≤ 900000) (h0 : 0 ≤ i) (h1 : i ≤ 4398046511104) (hid : b.id < b.size) (hsz : b.size ≤ 5) :
    Calls Try.prog 52 #[.pointer (some ⟨A, 0, none⟩), .int .i64 i, .int .i64 tm, .string snap, .slice ad L.length cap] w fun e w' => e = .returned (.tuple #[]) ∧ Pb w' A S { b.rebase i tm snap L with commit := max b.commit i } ∧ Fr w w' S := by
  have hneA : ∀ k, lgB (.slice ad L.length cap) = some k → k ≠ A := by
    intro k hk e
    subst e
    obtain ⟨cur, hc⟩ := hL.tag k hk
    exact tag_ne hob hc (by decide) rfl
  have d4 : w.cell? ⟨A, 4, none⟩ = some (.int .i64 b.base) := cell_blk hob 4
  have d5 : w.cell? ⟨A, 5, none⟩ = some (.int .i64 b.last) := cell_blk hob 5
  have d6 : w.cell? ⟨A, 6, none⟩ = some (.int .i64 b.commit) := cell_blk hob 6
  have d9 : w.cell? ⟨A, 9, none⟩ = some (.int .i64 b.baseTerm) := cell_blk hob 9
  have d10 : w.cell? ⟨A, 10, none⟩ = some (.string b.snap) := cell_blk hob 10
  have d11 : w.cell? ⟨A, 11, none⟩ = some lv := cell_blk hob 11
  have d12 : w.cell? ⟨A, 12, none⟩ = some (.bool b.touched) := cell_blk hob 12
  have d13 : w.cell? ⟨A, 13, none⟩ = some (.bool b.whole) := cell_blk hob 13
  have f4 : w.frozen? ⟨A, 4, none⟩ = false := frozen_blk hob 4
  have f5 : w.frozen? ⟨A, 5, none⟩ = false := frozen_blk hob 5
  have f6 : w.frozen? ⟨A, 6, none⟩ = false := frozen_blk hob 6
  have f9 : w.frozen? ⟨A, 9, none⟩ = false := frozen_blk hob 9
  have f10 : w.frozen? ⟨A, 10, none⟩ = false := frozen_blk hob 10
  have f11 : w.frozen? ⟨A, 11, none⟩ = false := frozen_blk hob 11
  have f12 : w.frozen? ⟨A, 12, none⟩ = false := frozen_blk hob 12
  have f13 : w.frozen? ⟨A, 13, none⟩ = false := frozen_blk hob 13
  obtain ⟨N, hN⟩ : ∃ N, L.length = N := ⟨_, rfl⟩
  obtain ⟨ls, hls⟩ : ∃ ls, i + (N : Int) = ls := ⟨_, rfl⟩
  have hw : IntKind.i64.wrap (i + (N : Int)) = ls := by rw [IntKind.wrap_i64]; omega
  have hw' : wrap64 (i + (N : Int)) = ls := (IntWalk.wrap64_in _ ⟨by omega, by omega⟩).trans hls
  have fin : ∀ W, Fr w W (fun k => k = A) → W.heap[A]? = some (.cells (pC { b.rebase i tm snap L with commit := max b.commit i } (.slice ad N cap) pf) 78 (0, 0)) → Pb W A S { b.rebase i tm snap L with commit := max b.commit i } ∧ Fr w W S := by
    intro W q1 q2
    refine ⟨⟨.slice ad N cap, pf, ⟨q2, ?_, hcA, by rw [← hN]; exact hcov, fun k hk => Nat.lt_of_lt_of_le (hlt k hk) q1.size, hl, h0, h1, .inl rfl, hid, hsz⟩⟩, q1.mono (fun k hk => hk ▸ hcA)⟩
    show Lg W L _
    rw [← hN]
    exact hL.like (fun k hk => q1.block k (hL.lt k hk) (hneA k hk))
  have HFI := Lib.hid fin
  have HOB := Lib.hid hob
  have HLS := Lib.hid hls
  have HNN := Lib.hid hN
  rw [hN]
  clear fin hob hls hN hL hcov hlt hneA hl
  go_enter Try.func52, Try.ntmps52
  by_cases hcm : b.commit < i
  · go_wp2
    go_end0
    have hx := rebase_blk HOB.out (rebase_pC (b := b) (lv := lv) (pf := pf) (tm := tm) (snap := snap) (v := .slice ad N cap) (L := L) (cm := i) (by rw [HNN.out, HLS.out]) (by omega))
    exact ⟨rfl, HFI.out _ hx.2 hx.1⟩
  · go_wp2
    go_end0
    have hx := rebase_blk HOB.out (rebase_pC (b := b) (lv := lv) (pf := pf) (tm := tm) (snap := snap) (v := .slice ad N cap) (L := L) (cm := b.commit) (by rw [HNN.out, HLS.out]) (by omega))
    exact ⟨rfl, HFI.out _ hx.2 hx.1⟩
end
end Go.Proofs.Ytmiagjcihmenfaa
