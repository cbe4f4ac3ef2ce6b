/- The walk of the document's Cut. -/
import Derived.Test.YtmiagjcihmenfaaWh
namespace Go.Proofs.Ytmiagjcihmenfaa
open Go.RowKit

section
variable {ρ : Operand → Value} {X : World} {d : Option Tmp} {ty : TypeId} {ps : String} {af : Array Edge} {g : Option (Nat × Bool)}
theorem call56 {v u : Value} : Sem.run Try.prog (callFunc 56 #[v, u]) X = .ok (.enter 56 #[v, u]) X := by go_simp
theorem call67 {v u x y z : Value} : Sem.run Try.prog (callFunc 67 #[v, u, x, y, z]) X = .ok (.enter 67 #[v, u, x, y, z]) X := by go_simp
theorem op_call5 {f : FuncId} {x0 x1 x2 x3 x4 : Operand} {v0 v1 v2 v3 v4 : Value} {at' : Array TypeId} (hf : ∀ f, ρ (.func f) = .func (.func f) #[] #[]) (hc : Sem.run Try.prog (callFunc f #[v0, v1, v2, v3, v4]) X = .ok (.enter f #[v0, v1, v2, v3, v4]) X) (e0 : ρ x0 = v0) (e1 : ρ x1 = v1) (e2 : ρ x2 = v2) (e3 : ρ x3 = v3) (e4 : ρ x4 = v4) : (execOp ρ ⟨d, .call { callee := .value (.func f), args := #[x0, x1, x2, x3, x4], argTypes := at' }, ty, ps, af, g⟩).run Try.prog X = .ok (.enter f #[v0, v1, v2, v3, v4]) X := by
  simp only [execOp]
  simp [resolve, hf, e0, e1, e2, e3, e4, Deferred.ofValue, invoke, hc]
end
section
variable {w w' W V : World} {A : Nat} {S T : Nat → Prop} {b c : Bs}
/-- append([]api.Entry{}, list...), wherever the empty row lies. -/
theorem ens_onto {X : World} {L : List En} {ad : Option Addr} {cap B base : Nat} (hs : (ad = none ∧ L.length = 0 ∧ cap = 0 ∧ enC L = []) ∨ ∃ a, ad = some a ∧ (enC L).length = L.length * 4 ∧ (∀ j u, (enC L)[j]? = some u → X.cell? (a.add j) = some u)) (hz : L.length ≤ 900000) (hlt : ∀ k, S k → k < base) (hV : base ≤ X.heap.size) (hB : X.ownsRow base 49 4 (.slice (some ⟨B, 0, none⟩) 0 0) 0 []) :
    ∃ ad2 cap2 X', (Builtin.append_ #[32, 32] 32 #[.slice (some ⟨B, 0, none⟩) 0 0, .slice ad L.length cap]).run Try.prog X = .ok (.slice ad2 L.length cap2) X' ∧ Below X.heap.size X X' ∧ Es X' S L (.slice ad2 L.length cap2) := by
  obtain ⟨i0, hi, hz0, hz1, hz2⟩ := info_parts infoEn
  rcases Nat.eq_zero_or_pos L.length with h0 | hpos
  · have eL : L = [] := List.eq_nil_of_length_eq_zero h0
    subst eL
    refine ⟨some ⟨B, 0, none⟩, 0, X, ?_, Below.refl _ _, Es.own (L := []) hB (fun k hk q => by have := (hB.lt k hk).1; have := hlt k q; omega)⟩
    cases ad <;> simp [Builtin.append_, run_underlying Try.underlying32, sizeOf, typeInfo, hi, Builtin.lenOf, Builtin.firstCells, storeCells, loadCells, loadCellsFrom]
  · rcases hs with ⟨_, e, _, _⟩ | ⟨a, rfl, hl, hc⟩
    · omega
    · obtain ⟨v', w', hrun, ho, hg, hat⟩ := ens_run (w := X) (v := .slice none 0 0) (base := X.heap.size) (n := 0) (xs := []) (ad := some a) (m := L.length) (c := cap) (news := enC L) (World.ownsRow_nil _ _ _ _) (Nat.le_refl _) (.inr ⟨a, rfl, hl, hc⟩) (enC_one _) (by omega)
      rw [Nat.zero_add, List.nil_append] at ho
      obtain ⟨ad2, cap2, rfl⟩ := own_shape ho
      have hb : Below X.heap.size X w' := ⟨hg.os, hg.tape, hg.output, hg.size, fun k hk => hg.block k hk (by simp [Value.ownBlock])⟩
      have r1 := run_append_nil (P := Try.prog) (w := X) 32 32 49 i0 _ Try.underlying32 hi hz0 a L.length cap (enC L) (by rw [hl, hz1]) hc hpos (by omega) (by rw [hz2]; omega)
      have r2 := run_append_grow (P := Try.prog) (w := X) 32 32 49 i0 _ Try.underlying32 hi hz0 ⟨B, 0, none⟩ 0 0 [] (by simp) (fun j v hj => by simp at hj) a L.length cap (enC L) (by rw [hl, hz1]) hc (by omega) (by omega) (by rw [Nat.zero_add, nextslicecap_zero hpos, hz2]; omega)
      refine ⟨ad2, cap2, w', ?_, hb, Es.own ho (fun k hk q => by have := (ho.lt k hk).1; have := hlt k q; omega)⟩
      rw [← hrun, r1, r2]
      simp
set_option maxHeartbeats 8000000 in
set_option maxRecDepth 100000 in
theorem cut_any (h : Rb w A S b) (hI : b.Inv) (hbl : b.last ≤ 4398046511104) (i : Int) (snap : ByteArray) : Calls Try.prog 36 #[.pointer (some ⟨A, 0, none⟩), .int .i64 i, .string snap] w fun e w' => e = .returned (.bool (b.cut i snap).1) ∧ Rt w w' A S (b.cut i snap).2 := by
  have hlt := h.ltU
  obtain ⟨l9, b0, b1⟩ := h.len
  have hcl := hI.cl
  have HH := Lib.hid h
  obtain ⟨lv, ov, O, hv⟩ := h
  have hlog := hv.log
  obtain ⟨lad, lcap, rfl, _, _⟩ := hlog.shape
  have c6 : w.cell? ⟨A, 6, none⟩ = some (.int .i64 b.base) := hv.cell 6
  have c25 : w.cell? ⟨A, 25, none⟩ = some (.int .i64 b.commit) := hv.cell 25
  have c9 : w.cell? ⟨A, 9, none⟩ = some (.slice lad b.log.length lcap) := hv.cell 9
  by_cases q1 : i ≤ b.base
  · have e : b.cut i snap = (false, b) := by unfold Bs.cut; rw [if_neg (by omega)]
    rw [e]
    have d1 : decide (i ≤ b.base) = true := decide_eq_true q1
    clear hv hlog e hI
    go_enter Try.func36, Try.ntmps36
    go_wp2
    go_ret
    exact ⟨rfl, Rt.same HH.out (Below.refl _ _)⟩
  · have d1 : decide (i ≤ b.base) = false := decide_eq_false q1
    by_cases q2 : b.commit < i
    · have e : b.cut i snap = (false, b) := by unfold Bs.cut; rw [if_neg (by omega)]
      rw [e]
      have d2 : decide (b.commit < i) = true := decide_eq_true q2
      clear hv hlog e hI
      go_enter Try.func36, Try.ntmps36
      go_wp2
      go_ret
      exact ⟨rfl, Rt.same HH.out (Below.refl _ _)⟩
    · have d2 : decide (b.commit < i) = false := decide_eq_false q2
      obtain ⟨p, hpn⟩ : ∃ p : Nat, i - b.base = p := ⟨(i - b.base).toNat, by omega⟩
      have hpt : (i - b.base).toNat = p := by omega
      have hpl : p ≤ b.log.length := by unfold Bs.last at hcl; omega
      have hterm := fun X (hX : Below w.heap.size w X) => term_any (HH.out.on hX) i
      obtain ⟨tm, htm⟩ : ∃ tm, b.termAt i = tm := ⟨_, rfl⟩
      rw [htm] at hterm
      have e : b.cut i snap = (true, b.rebase i tm snap (b.log.drop p)) := by unfold Bs.cut; rw [if_pos (by omega), htm, hpt]
      obtain ⟨ad', cap', hsl, _⟩ := drop_slice hlog hpl
      have hap : ∀ X B, Below w.heap.size w X → X.ownsRow w.heap.size 49 4 (.slice (some ⟨B, 0, none⟩) 0 0) 0 [] → ∃ ad2 cap2 X', (Builtin.append_ #[32, 32] 32 #[.slice (some ⟨B, 0, none⟩) 0 0, .slice ad' (b.log.drop p).length cap']).run Try.prog X = .ok (.slice ad2 (b.log.drop p).length cap2) X' ∧ Below X.heap.size X X' ∧ Es X' (Un S b.av) (b.log.drop p) (.slice ad2 (b.log.drop p).length cap2) := by
        intro X B hX hB
        obtain ⟨ad0, cap0, h3, h4⟩ := drop_slice (hlog.on hX) hpl
        have e1 := (hsl X).symm.trans (h3 X)
        simp only [Result.ok.injEq, Value.slice.injEq, and_true, true_and] at e1
        obtain ⟨rfl, rfl⟩ := e1
        exact ens_onto h4 (by rw [List.length_drop]; omega) hlt hX.size hB
      have hdl : (b.log.drop p).length ≤ 900000 := by rw [List.length_drop]; omega
      obtain ⟨D, hD⟩ : ∃ D, b.log.drop p = D := ⟨_, rfl⟩
      rw [hD] at e hsl hap hdl
      rw [e]
      have HAP := Lib.hid hap
      have HDL := Lib.hid hdl
      have HT := Lib.hid hterm
      have i1 : IntKind.i64.wrap (i - b.base) = (p : Int) := by rw [IntKind.wrap_i64]; omega
      have hi9 : i ≤ 4398046511104 := by omega
      clear hv hlog e hI hap hdl hD hterm htm hpt hpn hpl hcl
      go_enter Try.func36, Try.ntmps36
      go_upto_region 3 with fail
      refine wp_region_last (fun X => Below w.heap.size w X) (fun X X' => Below X.heap.size X X') [
        fun v _ => v = .pointer (some ⟨A, 0, none⟩),
        fun v _ => v = .int .i64 i,
        fun v _ => v = .pointer (some ⟨A, 0, none⟩),
        fun v _ => v = .int .i64 i,
        fun v _ => v = .int .i64 tm,
        fun v _ => v = .string snap,
        fun v X => ∃ B, v = .slice (some ⟨B, 0, none⟩) 0 0 ∧ X.ownsRow w.heap.size 49 4 v 0 [],
        fun v _ => v = .pointer (some ⟨A, 0, none⟩),
        fun v _ => v = .pointer (some ⟨A, 0, none⟩),
        fun v _ => v = .pointer (some ⟨A, 9, none⟩),
        fun v _ => v = .slice lad b.log.length lcap,
        fun v _ => v = .int .i64 i,
        fun v _ => v = .pointer (some ⟨A, 0, none⟩),
        fun v _ => v = .pointer (some ⟨A, 0, none⟩),
        fun v _ => v = .pointer (some ⟨A, 6, none⟩),
        fun v _ => v = .int .i64 b.base,
        fun v _ => v = .int .i64 (p : Int),
        fun v _ => v = (.slice ad' D.length cap'),
        fun v X => (∃ ad2 cap2, v = .slice ad2 D.length cap2) ∧ Es X (Un S b.av) D v]
        (fun _ X => Rt w X A S (b.rebase i tm snap D)) rfl (by kernel_rfl) (by kernel_rfl) (by kernel_rfl) (by kernel_rfl) ?st ?g0 ?os ?la ?en
      case st => exact ⟨fun _ _ _ _ h => h, fun _ _ _ _ h => h, fun _ _ _ _ h => h, fun _ _ _ _ h => h, fun _ _ _ _ h => h, fun _ _ _ _ h => h, fun _ _ _ hs ⟨B, e, q⟩ => ⟨B, e, own_below q hs⟩, fun _ _ _ _ h => h, fun _ _ _ _ h => h, fun _ _ _ _ h => h, fun _ _ _ _ h => h, fun _ _ _ _ h => h, fun _ _ _ _ h => h, fun _ _ _ _ h => h, fun _ _ _ _ h => h, fun _ _ _ _ h => h, fun _ _ _ _ h => h, fun _ _ _ _ h => h, fun _ _ _ hs ⟨e, q⟩ => ⟨e, q.on hs⟩, trivial⟩
      case g0 => exact ⟨rfl, rfl, rfl, Nat.le_refl _, fun _ _ => rfl⟩
      case os =>
        refine ⟨?_, ?_, ?_, ?_, ?_, ?_, ?_, ?_, ?_, ?_, ?_, ?_, ?_, ?_, ?_, ?_, ?_, ?_, ?_, trivial⟩
        · exact ⟨rfl, fun ρ X hg ho hc hf hr => Runs.val _ (op_move (show ρ (.tmp 0) = .pointer (some ⟨A, 0, none⟩) from ho 0 rfl)) ⟨hg, Below.refl _ _, rfl⟩⟩
        · exact ⟨rfl, fun ρ X hg ho hc hf hr => Runs.val _ (op_move (show ρ (.tmp 1) = .int .i64 i from ho 1 rfl)) ⟨hg, Below.refl _ _, rfl⟩⟩
        · exact ⟨rfl, fun ρ X hg ho hc hf hr => Runs.val _ (op_move (show ρ (.tmp 0) = .pointer (some ⟨A, 0, none⟩) from ho 0 rfl)) ⟨hg, Below.refl _ _, rfl⟩⟩
        · exact ⟨rfl, fun ρ X hg ho hc hf hr => Runs.val _ (op_move (show ρ (.tmp 1) = .int .i64 i from ho 1 rfl)) ⟨hg, Below.refl _ _, rfl⟩⟩
        · refine ⟨rfl, fun ρ X hg ho hc hf hr => ?_⟩
          refine Runs.goes 56 #[.pointer (some ⟨A, 0, none⟩), .int .i64 i] (op_call2 hf call56 (show ρ (.tmp 23) = .pointer (some ⟨A, 0, none⟩) from hr 2 23 rfl rfl) (show ρ (.tmp 24) = .int .i64 i from hr 3 24 rfl rfl)) ((HT.out X hg).mono ?_)
          rintro e7 w7 ⟨rfl, n7, rfl⟩
          have hb7 : Below X.heap.size X (X.drewN n7) := below_draw (Below.refl _ X) n7
          exact ⟨_, rfl, hg.trans (hb7.mono hg.size), hb7, rfl⟩
        · exact ⟨rfl, fun ρ X hg ho hc hf hr => Runs.val _ (op_move (show ρ (.tmp 2) = .string snap from ho 2 rfl)) ⟨hg, Below.refl _ _, rfl⟩⟩
        · refine ⟨rfl, fun ρ X hg ho hc hf hr => ?_⟩
          have hb7 : Below X.heap.size X (X.alloc (.cells #[] 49)) := (Below.refl _ X).alloc (Nat.le_refl _) _
          exact Runs.val _ op_row0 ⟨hg.trans (hb7.mono hg.size), hb7, _, rfl, own_mono (own_emptyE X) hg.size⟩
        · exact ⟨rfl, fun ρ X hg ho hc hf hr => Runs.val _ (op_move (show ρ (.tmp 0) = .pointer (some ⟨A, 0, none⟩) from ho 0 rfl)) ⟨hg, Below.refl _ _, rfl⟩⟩
        · exact ⟨rfl, fun ρ X hg ho hc hf hr => Runs.val _ (op_nil (show ρ (.tmp 28) = .pointer (some ⟨A, 0, none⟩) from hr 7 28 rfl rfl)) ⟨hg, Below.refl _ _, rfl⟩⟩
        · exact ⟨rfl, fun ρ X hg ho hc hf hr => Runs.val _ (op_f81_9 (show ρ (.tmp 29) = .pointer (some ⟨A, 0, none⟩) from hr 8 29 rfl rfl)) ⟨hg, Below.refl _ _, rfl⟩⟩
        · exact ⟨rfl, fun ρ X hg ho hc hf hr => Runs.val _ (op_load32 (show ρ (.tmp 30) = .pointer (some ⟨A, 9, none⟩) from hr 9 30 rfl rfl) (cell_on hg c9)) ⟨hg, Below.refl _ _, rfl⟩⟩
        · exact ⟨rfl, fun ρ X hg ho hc hf hr => Runs.val _ (op_move (show ρ (.tmp 1) = .int .i64 i from ho 1 rfl)) ⟨hg, Below.refl _ _, rfl⟩⟩
        · exact ⟨rfl, fun ρ X hg ho hc hf hr => Runs.val _ (op_move (show ρ (.tmp 0) = .pointer (some ⟨A, 0, none⟩) from ho 0 rfl)) ⟨hg, Below.refl _ _, rfl⟩⟩
        · exact ⟨rfl, fun ρ X hg ho hc hf hr => Runs.val _ (op_nil (show ρ (.tmp 33) = .pointer (some ⟨A, 0, none⟩) from hr 12 33 rfl rfl)) ⟨hg, Below.refl _ _, rfl⟩⟩
        · exact ⟨rfl, fun ρ X hg ho hc hf hr => Runs.val _ (op_f81_6 (show ρ (.tmp 34) = .pointer (some ⟨A, 0, none⟩) from hr 13 34 rfl rfl)) ⟨hg, Below.refl _ _, rfl⟩⟩
        · exact ⟨rfl, fun ρ X hg ho hc hf hr => Runs.val _ (op_load3 (show ρ (.tmp 35) = .pointer (some ⟨A, 6, none⟩) from hr 14 35 rfl rfl) (cell_on hg c6)) ⟨hg, Below.refl _ _, rfl⟩⟩
        · exact ⟨rfl, fun ρ X hg ho hc hf hr => Runs.val _ (op_sub (show ρ (.tmp 32) = .int .i64 i from hr 11 32 rfl rfl) (show ρ (.tmp 36) = .int .i64 b.base from hr 15 36 rfl rfl) i1) ⟨hg, Below.refl _ _, rfl⟩⟩
        · exact ⟨rfl, fun ρ X hg ho hc hf hr => Runs.val _ (op_slice' (show ρ (.tmp 31) = .slice lad b.log.length lcap from hr 10 31 rfl rfl) (show ρ (.tmp 37) = .int .i64 (p : Int) from hr 16 37 rfl rfl) hsl) ⟨hg, Below.refl _ _, rfl⟩⟩
        · refine ⟨rfl, fun ρ X hg ho hc hf hr => ?_⟩
          obtain ⟨B, eB, hB⟩ : ∃ B, ρ (.tmp 27) = .slice (some ⟨B, 0, none⟩) 0 0 ∧ X.ownsRow w.heap.size 49 4 (ρ (.tmp 27)) 0 [] := hr 6 27 rfl rfl
          rw [eB] at hB
          obtain ⟨ad2, cap2, X', hrun, hb, hE⟩ := HAP.out X B hg hB
          exact Runs.val _ (op_append eB (show ρ (.tmp 38) = (.slice ad' D.length cap') from hr 17 38 rfl rfl) hrun) ⟨hg.trans (hb.mono hg.size), hb, ⟨_, _, rfl⟩, hE⟩
      case la =>
        refine ⟨rfl, fun ρ X hg ho hc hf hr => ?_⟩
        obtain ⟨⟨ad2, cap2, e⟩, hE⟩ : (∃ ad2 cap2, ρ (.tmp 39) = .slice ad2 D.length cap2) ∧ Es X (Un S b.av) D (ρ (.tmp 39)) := hr 18 39 (by decide) rfl
        rw [e] at hE
        refine Runs.goes 67 #[.pointer (some ⟨A, 0, none⟩), .int .i64 i, .int .i64 tm, .string snap, .slice ad2 D.length cap2] (op_call5 hf call67 (show ρ (.tmp 21) = .pointer (some ⟨A, 0, none⟩) from hr 0 21 (by decide) rfl) (show ρ (.tmp 22) = .int .i64 i from hr 1 22 (by decide) rfl) (show ρ (.tmp 25) = .int .i64 tm from hr 4 25 (by decide) rfl) (show ρ (.tmp 26) = .string snap from hr 5 26 (by decide) rfl) e) ((rebase_any (HH.out.on hg) hE HDL.out (by omega) (by omega)).mono ?_)
        rintro e8 w8 ⟨rfl, q8, q9⟩
        exact ⟨_, rfl, Rt.start q8 ((Fr.ofBelow S hg).trans q9)⟩
      case en =>
        intro a X Xb v hF hs hd ho hv hr
        obtain ⟨x, hx, hxt⟩ := act_put hs hd ho
        change a = putAll _ x [21, 22, 23, 24, 25, 26, 27, 28, 29, 30, 31, 32, 33, 34, 35, 36, 37, 38, 39, 40] at hx
        simp only [putAll, Act.put, List.setIfInBounds_toArray, List.set_cons_zero, List.set_cons_succ] at hx
        have HQ := Lib.hid hF
        clear hF hs hd ho hr hv hxt
        subst hx
        go_wp2
        go_ret
        exact ⟨rfl, HQ.out⟩
end
end Go.Proofs.Ytmiagjcihmenfaa
