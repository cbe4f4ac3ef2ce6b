/- The walk of the document's entries. -/
import Derived.Test.YtmiagjcihmenfaaWe
import Derived.Test.YtmiagjcihmenfaaWf
import Derived.Deep.CutBlock
namespace Go.Proofs.Ytmiagjcihmenfaa
open Go.RowKit

section
variable {ρ : Operand → Value} {X : World} {d : Option Tmp} {ty : TypeId} {ps : String} {af : Array Edge} {g : Option (Nat × Bool)}
theorem op_f34_1 {x : Operand} {B : Nat} (e : ρ x = .pointer (some ⟨B, 0, none⟩)) : (execOp ρ ⟨d, .fieldAddr 34 x 1, ty, ps, af, g⟩).run Try.prog X = .ok (.value (.pointer (some ⟨B, 1, none⟩))) X := by
  simp only [execOp, e]
  go_simp
theorem op_min {x y : Operand} {a b c : Int} (hx : ρ x = .int .i64 a) (hy : ρ y = .int .i64 b) (hc : min a b = c) : (execOp ρ ⟨d, .call { callee := .builtin .min, args := #[x, y], argTypes := #[3, 3] }, 3, ps, af, g⟩).run Try.prog X = .ok (.value (.int .i64 c)) X := by
  subst hc
  simp only [execOp, resolve, invoke, builtin, Sem.run_bind, Sem.run_pure, Result.andThen_ok, List.map_toArray, List.map_cons, List.map_nil, hx, hy]
  by_cases q : b < a
  · have e : min a b = b := by omega
    rw [e]
    go_simp
  · have e : min a b = a := by omega
    rw [e]
    go_simp
theorem op_msg {x y : Operand} {n i : Int} (hc : ∀ x, ρ (.const x) = x) (hx : ρ x = .int .i64 n) (hy : ρ y = .int .i64 i) : (execOp ρ ⟨d, .build 34 #[(0, .const (.int .i64 4)), (2, x), (4, y)], ty, ps, af, g⟩).run Try.prog X = .ok (.value (.agg (msCs { ms0 with kind := 4, tgt := n, index := i } (.slice none 0 0)))) X := by
  simp only [execOp, List.map_toArray, List.map_cons, List.map_nil, hc, hx, hy]
  go_simp
theorem call38 {v : Value} : Sem.run Try.prog (callFunc 38 #[v]) X = .ok (.enter 38 #[v]) X := by go_simp
theorem call55 {v u : Value} : Sem.run Try.prog (callFunc 55 #[v, u]) X = .ok (.enter 55 #[v, u]) X := by go_simp
theorem op_call1 {f : FuncId} {x : Operand} {v : Value} {at' : Array TypeId} (hf : ∀ f, ρ (.func f) = .func (.func f) #[] #[]) (hc : Sem.run Try.prog (callFunc f #[v]) X = .ok (.enter f #[v]) X) (e : ρ x = v) : (execOp ρ ⟨d, .call { callee := .value (.func f), args := #[x], argTypes := at' }, ty, ps, af, g⟩).run Try.prog X = .ok (.enter f #[v]) X := by
  simp only [execOp]
  simp [resolve, hf, e, Deferred.ofValue, invoke, hc]
theorem op_call2 {f : FuncId} {x y : Operand} {v u : Value} {at' : Array TypeId} (hf : ∀ f, ρ (.func f) = .func (.func f) #[] #[]) (hc : Sem.run Try.prog (callFunc f #[v, u]) X = .ok (.enter f #[v, u]) X) (e : ρ x = v) (e2 : ρ y = u) : (execOp ρ ⟨d, .call { callee := .value (.func f), args := #[x, y], argTypes := at' }, ty, ps, af, g⟩).run Try.prog X = .ok (.enter f #[v, u]) X := by
  simp only [execOp]
  simp [resolve, hf, e, e2, Deferred.ofValue, invoke, hc]
end
section
variable {w w' W V : World} {A : Nat} {S T : Nat → Prop} {b c : Bs}
theorem Es.at {L : List En} {ad : Option Addr} {cap k : Nat} (h : Es w S L (.slice ad L.length cap)) (hk : k < L.length) : ∃ bk of, ad = some ⟨bk, of, none⟩ ∧ w.cell? ⟨bk, of + k * 4, none⟩ = some (.int .i64 L[k].term) ∧ k < cap ∧ L.length ≤ cap ∧ cap ≤ maxLen ∧ Es w S (L.drop k) (.slice (some ⟨bk, of + k * 4, none⟩) (L.drop k).length (cap - k)) := by
  obtain ⟨_, _, e, h0, h1, h2, h3⟩ := h
  cases e
  obtain ⟨bk, of, rfl, hl, hS, c0, c1, c2, c3⟩ := h3 k hk
  refine ⟨bk, of, rfl, c0, by omega, h1, h2, ⟨_, _, rfl, fun q => (by cases q), by rw [List.length_drop]; omega, by omega, fun i hi => ?_⟩⟩
  rw [List.length_drop] at hi
  obtain ⟨bk2, of2, e2, hl2, hS2, d0, d1, d2, d3⟩ := h3 (k + i) (by omega)
  cases e2
  have ed : (L.drop k)[i]'(by rw [List.length_drop]; exact hi) = L[k + i]'(by omega) := by simp
  have e3 : of + k * 4 + i * 4 = of + (k + i) * 4 := by omega
  refine ⟨bk, of + k * 4, rfl, hl, hS, ?_, ?_, ?_, ?_⟩
  · rw [ed, e3]; exact d0
  · rw [ed, e3]; exact d1
  · rw [ed, e3]; exact d2
  · rw [ed, e3]; exact d3
theorem lay_put {i : Int} {l : List En} {k : Nat} (hk : k < l.length) (h : b.commit < i ∧ (b.last < i ∨ b.termAt i ≠ l[k].term)) : b.lay i (l.drop k) = b.put i (l.drop k) := by
  rw [List.drop_eq_getElem_cons hk]
  show (if _ then _ else _) = _
  rw [if_pos h]
theorem lay_next {i : Int} {l : List En} {k : Nat} (hk : k < l.length) (h : ¬ (b.commit < i ∧ (b.last < i ∨ b.termAt i ≠ l[k].term))) : b.lay i (l.drop k) = b.lay (i + 1) (l.drop (k + 1)) := by
  rw [List.drop_eq_getElem_cons hk]
  show (if _ then _ else _) = _
  rw [if_neg h]
set_option maxHeartbeats 8000000 in
set_option maxRecDepth 100000 in
theorem entries_any (h : Rb w A S b) (hI : Bs.Inv b) (m : Ms) (mad : Option Addr) (mcap : Nat) (hE : Es w S m.list (.slice mad m.list.length mcap)) (hout : b.out.length < 600000) (hz : b.log.length + m.list.length ≤ 900000) (hi0 : 0 ≤ m.index) (hi1 : m.index ≤ 1099511627776) (hp : 0 ≤ m.prev) : Calls Try.prog 64 #[.pointer (some ⟨A, 0, none⟩), msV m (.slice mad m.list.length mcap)] w fun e w' => e = .returned (.tuple #[]) ∧ Rt w w' A S (b.entries m) := by
  obtain ⟨W, hW⟩ : ∃ W, W = w.alloc (.cells (msCs m (.slice mad m.list.length mcap)) 34) := ⟨_, rfl⟩
  obtain ⟨Y, hY⟩ : ∃ Y, w.heap.size = Y := ⟨_, rfl⟩
  have hb : Below w.heap.size w W := by rw [hW]; exact (Below.refl _ w).alloc (Nat.le_refl _) _
  have jY : W.heap[Y]? = some (.cells (msCs m (.slice mad m.list.length mcap)) 34 (0, 0)) := by rw [hW, ← hY]; exact heap_alloc_new w _
  have hA := h.on hb
  have hlt := h.lt
  have hYS : ¬ S Y := fun q => by have := hlt Y q; omega
  have hAlt : A < w.heap.size := by obtain ⟨_, _, _, q⟩ := h; exact q.lt A q.covA
  have hYA : Y ≠ A := by omega
  have hAY : A ≠ Y := by omega
  have HB := Lib.hid hb
  have HW := Lib.hid hW
  have HY := Lib.hid hY
  by_cases hr : b.role = 2
  · have e : b.entries m = b := by unfold Bs.entries; rw [if_pos hr]
    rw [e]
    obtain ⟨lv, ov, O, hv⟩ := hA
    have c4 : W.cell? ⟨A, 4, none⟩ = some (.int .i64 b.role) := hv.cell 4
    have HH := Lib.hid h
    clear hW hY hb jY hv h e hE hI
    go_enter Try.func64, Try.ntmps64
    go_upto_region 1 with fail
    rw [← HW.out, HY.out]
    go_wp2
    refine bodyPost_ret (results_none rfl _ _ _) rfl ?_
    exact ⟨rfl, Rt.same HH.out HB.out⟩
  · have hr' : (b.role == 2) = false := by simpa using hr
    obtain ⟨c, hc⟩ : ∃ c : Bs, c = { b with role := 0, lead := m.fr } := ⟨_, rfl⟩
    obtain ⟨a1, f1⟩ := hA.setf (i := 4) (v := .int .i64 0) (b' := { b with role := 0 }) (fun _ _ => rfl) rfl rfl rfl
    obtain ⟨a2, f2⟩ := a1.setf (i := 5) (v := .int .i64 m.fr) (b' := c) (by subst hc; exact fun _ _ => rfl) (by subst hc; rfl) (by subst hc; rfl) (by subst hc; rfl) (by subst hc; rfl)
    obtain ⟨V0, hV0⟩ : ∃ V0, V0 = (W.setCell ⟨A, 4, none⟩ (.int .i64 0)).setCell ⟨A, 5, none⟩ (.int .i64 m.fr) := ⟨_, rfl⟩
    have f12 := f1.trans f2
    rw [← hV0] at a2 f12
    have j0 := (f12.block Y (blk_lt jY) hYS).trans jY
    have hF0 : Fr w V0 S := (Fr.ofBelow S hb).trans f12
    have hE0 := hE.stays hF0 (fun k q => .inl q)
    obtain ⟨lv, ov, O, hv⟩ := hA
    have c4 : W.cell? ⟨A, 4, none⟩ = some (.int .i64 b.role) := hv.cell 4
    have c5 : W.cell? ⟨A, 5, none⟩ = some (.int .i64 b.lead) := hv.cell 5
    have z4 : W.frozen? ⟨A, 4, none⟩ = false := frozen_blk hv.ob 4
    have z5 : W.frozen? ⟨A, 5, none⟩ = false := frozen_blk hv.ob 5
    have m1 : W.cell? ⟨Y, 1, none⟩ = some (.int .i64 m.fr) := cell_blk jY 1
    have HA0 := Lib.hid a2
    have HJ0 := Lib.hid j0
    have HF0 := Lib.hid hF0
    have HE0 := Lib.hid hE0
    have HV0 := Lib.hid hV0
    obtain ⟨cm, hcm⟩ : ∃ cm, b.commit = cm := ⟨_, rfl⟩
    have ecm : c.commit = cm := by rw [hc]; exact hcm
    obtain ⟨lv0, ov0, O0, hv0⟩ := a2
    have d25 : V0.cell? ⟨A, 25, none⟩ = some (.int .i64 cm) := by rw [← ecm]; exact hv0.cell 25
    have y1 : V0.cell? ⟨Y, 1, none⟩ = some (.int .i64 m.fr) := cell_blk j0 1
    have y4 : V0.cell? ⟨Y, 4, none⟩ = some (.int .i64 m.index) := cell_blk j0 4
    have y5 : V0.cell? ⟨Y, 5, none⟩ = some (.int .i64 m.prev) := cell_blk j0 5
    have y8 : V0.cell? ⟨Y, 8, none⟩ = some (.slice mad m.list.length mcap) := cell_blk j0 8
    obtain ⟨E, hEe⟩ : ∃ E, m.index + (m.list.length : Int) = E := ⟨_, rfl⟩
    have hE1 : E ≤ 1099512627776 := by omega
    have i1 : IntKind.i64.wrap (m.index + (m.list.length : Int)) = E := by rw [IntKind.wrap_i64]; omega
    have hoc : c.out.length < 600000 := by rw [hc]; exact hout
    have ect : c.termAt m.index = b.termAt m.index := by rw [hc]; rfl
    have ecl : c.last = b.last := by rw [hc]; rfl
    have e : b.entries m = if E ≤ cm then c.send { ms0 with kind := 4, tgt := m.fr, good := true, index := E } else if cm ≤ m.index ∧ c.termAt m.index ≠ m.prev then c.send { ms0 with kind := 4, tgt := m.fr, index := min c.last (m.index - 1) } else ((c.lay (m.index + 1) m.list).reach (min m.commit E)).send { ms0 with kind := 4, tgt := m.fr, good := true, index := E } := by
      rw [← hEe, ← hcm, hc]
      unfold Bs.entries
      rw [if_neg hr]
      rfl
    obtain ⟨G, hG⟩ : ∃ G, b.entries m = G := ⟨_, rfl⟩
    rw [hG] at e ⊢
    have HE := Lib.hid e
    have hlog : c.log.length + m.list.length ≤ 900000 := by rw [hc]; exact hz
    have hbc : c.base ≤ cm := by rw [hc, ← hcm]; exact hI.bc
    have hcl : cm ≤ c.last := by rw [ecl, ← hcm]; exact hI.cl
    obtain ⟨ll1, bb0, bb1⟩ := h.len
    have hll : c.last ≤ 4398047411104 := by rw [ecl]; unfold Bs.last; omega
    have hsend : ∀ (V1 : World) (i : Int) (g : Bool), Below V0.heap.size V0 V1 → Hid (Calls Try.prog 55 #[.pointer (some ⟨A, 0, none⟩), .agg (msCs { ms0 with kind := 4, tgt := m.fr, good := g, index := i } (.slice none 0 0))] V1 fun e w' => e = .returned (.tuple #[]) ∧ Rt w w' A S (c.send { ms0 with kind := 4, tgt := m.fr, good := g, index := i })) := by
      intro V1 i g hbV
      refine (send_any (m := { ms0 with kind := 4, tgt := m.fr, good := g, index := i }) (mv := .slice none 0 0) (HA0.out.on hbV) (Es.nil _ _) (by omega)).mono ?_
      rintro e w' ⟨rfl, q1, q2⟩
      exact ⟨rfl, Rt.step (HF0.out.below hbV) (Rt.of q1 q2)⟩
    clear hW hY hb jY hv h a1 f1 f2 f12 hV0 j0 hF0 hv0 hc e hr hG hE hE0 hI hEe hcm ect ecl hout hz ll1 bb0 bb1
    go_enter Try.func64, Try.ntmps64
    go_upto_region 1 with fail
    rw [← HW.out, HY.out]
    go_upto_region 4 with fail
    rw [← HV0.out]
    by_cases hq : E ≤ cm
    · have hs := (hsend V0 E true (Below.refl _ _)).out
      have eG := HE.out
      rw [if_pos hq] at eG
      have HEG := Lib.hid eG
      clear hsend eG c4 c5 z4 z5 m1
      go_wp2_with fail
      refine hs.mono ?_
      rintro e w' ⟨rfl, q⟩
      have HQ := Lib.hid q
      clear q hs
      go_wp2
      refine bodyPost_ret (results_none rfl _ _ _) rfl ?_
      exact ⟨rfl, by rw [HEG.out]; exact HQ.out⟩
    · have eG := HE.out
      rw [if_neg hq] at eG
      obtain ⟨tm, htm⟩ : ∃ tm, c.termAt m.index = tm := ⟨_, rfl⟩
      obtain ⟨La, hLa⟩ : ∃ La, c.last = La := ⟨_, rfl⟩
      have hterm := fun n => term_any (HA0.out.drewN n) m.index
      rw [htm] at hterm eG
      rw [hLa] at eG hcl hll
      have HEG := Lib.hid eG
      have HTM := Lib.hid htm
      have HLA := Lib.hid hLa
      obtain ⟨f7, hf7⟩ : ∃ f7, decide (cm ≤ m.index ∧ tm ≠ m.prev) = f7 := ⟨_, rfl⟩
      have HF7 := Lib.hid hf7
      clear eG htm hLa hf7 c4 c5 z4 z5 m1
      go_wp2_with fail
      go_cut [54] (fun v wx => v = .bool f7 ∧ ∃ n, wx = V0.drewN n)
      case first =>
        by_cases q1 : cm ≤ m.index
        · have d1 : decide (cm ≤ m.index) = true := decide_eq_true q1
          by_cases q2 : tm = m.prev
          · have d2 : (tm == m.prev) = true := by simpa using q2
            have hg : f7 = false := HF7.out.symm.trans (decide_eq_false (by omega))
            subst hg
            clear q2
            go_quiet ((go_at_call 56; exact Calls.quiet_of (hterm _)))
            go_wp2_with fail
            go_meet
            exact ⟨by first | rfl | (rw [bne, d2]; rfl), _, by first | rfl | exact World.drewN_drewN ..⟩
          · have d2 : (tm == m.prev) = false := by simpa using q2
            have hg : f7 = true := HF7.out.symm.trans (decide_eq_true (by omega))
            subst hg
            go_quiet ((go_at_call 56; exact Calls.quiet_of (hterm _)))
            go_wp2_with fail
            go_meet
            exact ⟨by first | rfl | (rw [bne, d2]; rfl), _, by first | rfl | exact World.drewN_drewN ..⟩
        · have d1 : decide (cm ≤ m.index) = false := decide_eq_false q1
          have hg : f7 = false := HF7.out.symm.trans (decide_eq_false (by omega))
          subst hg
          go_quiet (fail)
          go_wp2_with fail
          go_meet
          exact ⟨rfl, _, by first | rfl | exact World.drewN_drewN ..⟩
      case rest =>
        obtain ⟨rfl, n1, hwc⟩ := hcut
        have bn : Below V0.heap.size V0 (V0.drewN n1) := below_draw (Below.refl V0.heap.size V0) n1
        rw [← hwc] at bn
        obtain ⟨V1, rfl⟩ : ∃ V1, V1 = wc := ⟨_, rfl⟩
        have hP1 := HA0.out.on bn
        have j1 := (bn.block Y (blk_lt HJ0.out)).trans HJ0.out
        have hF1 := HF0.out.below bn
        have hE1' := HE0.out.on bn
        have x1 : V1.cell? ⟨Y, 1, none⟩ = some (.int .i64 m.fr) := cell_blk j1 1
        have x4 : V1.cell? ⟨Y, 4, none⟩ = some (.int .i64 m.index) := cell_blk j1 4
        have HBN := Lib.hid bn
        have HP1 := Lib.hid hP1
        have HJ1 := Lib.hid j1
        have HF1 := Lib.hid hF1
        have HE1 := Lib.hid hE1'
        clear hwc hterm d25 y1 y4 y5 y8 hE1'
        cases f7 with
        | true =>
          have eG := HEG.out
          rw [if_pos (of_decide_eq_true HF7.out)] at eG
          have HEG2 := Lib.hid eG
          have hlast := fun n => last_any (hP1.drewN n)
          rw [HLA.out] at hlast
          obtain ⟨x, hx⟩ : ∃ x, min La (m.index - 1) = x := ⟨_, rfl⟩
          rw [hx] at eG
          have HEG3 := Lib.hid eG
          have HX := Lib.hid hx
          have hs : ∀ n, Hid (Calls Try.prog 55 #[.pointer (some ⟨A, 0, none⟩), .agg (msCs { ms0 with kind := 4, tgt := m.fr, index := x } (.slice none 0 0))] (V1.drewN n) fun e w' => e = .returned (.tuple #[]) ∧ Rt w w' A S G) := by
            intro n
            refine (hsend (V1.drewN n) x false (HBN.out.trans ((below_draw (Below.refl _ V1) n).mono HBN.out.size))).out.mono ?_
            rintro e w' ⟨rfl, q⟩
            rw [HEG3.out]
            exact ⟨rfl, q⟩
          have i2 : IntKind.i64.wrap (m.index - 1) = m.index - 1 := by rw [IntKind.wrap_i64]; omega
          clear hsend eG hx hP1 j1 hF1 bn
          go_wp2_with fail
          refine wp_region_last (fun X => ∃ n, X = V1.drewN n) (fun _ _ => True) [
            fun v _ => v = .pointer (some ⟨A, 0, none⟩),
            fun v _ => v = .pointer (some ⟨Y, 1, none⟩),
            fun v _ => v = .int .i64 m.fr,
            fun v _ => v = .pointer (some ⟨A, 0, none⟩),
            fun v _ => v = .int .i64 La,
            fun v _ => v = .pointer (some ⟨Y, 4, none⟩),
            fun v _ => v = .int .i64 m.index,
            fun v _ => v = .int .i64 (m.index - 1),
            fun v _ => v = .int .i64 x,
            fun v _ => v = .agg (msCs { ms0 with kind := 4, tgt := m.fr, index := x } (.slice none 0 0))]
            (fun _ X => Rt w X A S G) rfl (by kernel_rfl) (by kernel_rfl) (by kernel_rfl) (by kernel_rfl) ?st ?g0 ?os ?la ?en
          case st => exact ⟨fun _ _ _ _ h => h, fun _ _ _ _ h => h, fun _ _ _ _ h => h, fun _ _ _ _ h => h, fun _ _ _ _ h => h, fun _ _ _ _ h => h, fun _ _ _ _ h => h, fun _ _ _ _ h => h, fun _ _ _ _ h => h, fun _ _ _ _ h => h, trivial⟩
          case g0 => exact ⟨1, rfl⟩
          case os =>
            refine ⟨?_, ?_, ?_, ?_, ?_, ?_, ?_, ?_, ?_, ?_, trivial⟩
            · refine ⟨rfl, fun ρ X hg ho hc hf hr => ?_⟩
              obtain ⟨n, rfl⟩ := hg
              exact Runs.val _ (op_move (show ρ (.tmp 0) = .pointer (some ⟨A, 0, none⟩) from ho 0 rfl)) ⟨⟨n, rfl⟩, trivial, rfl⟩
            · refine ⟨rfl, fun ρ X hg ho hc hf hr => ?_⟩
              obtain ⟨n, rfl⟩ := hg
              exact Runs.val _ (op_f34_1 (show ρ (.tmp 3) = .pointer (some ⟨Y, 0, none⟩) from ho 3 rfl)) ⟨⟨n, rfl⟩, trivial, rfl⟩
            · refine ⟨rfl, fun ρ X hg ho hc hf hr => ?_⟩
              obtain ⟨n, rfl⟩ := hg
              exact Runs.val _ (op_load3 (show ρ (.tmp 56) = .pointer (some ⟨Y, 1, none⟩) from hr 1 56 rfl rfl) (cell_on (below_draw (Below.refl _ V1) n) x1)) ⟨⟨n, rfl⟩, trivial, rfl⟩
            · refine ⟨rfl, fun ρ X hg ho hc hf hr => ?_⟩
              obtain ⟨n, rfl⟩ := hg
              exact Runs.val _ (op_move (show ρ (.tmp 0) = .pointer (some ⟨A, 0, none⟩) from ho 0 rfl)) ⟨⟨n, rfl⟩, trivial, rfl⟩
            · refine ⟨rfl, fun ρ X hg ho hc hf hr => ?_⟩
              obtain ⟨n, rfl⟩ := hg
              refine Runs.goes 38 #[.pointer (some ⟨A, 0, none⟩)] (op_call1 hf call38 (show ρ (.tmp 58) = .pointer (some ⟨A, 0, none⟩) from hr 3 58 rfl rfl)) ((hlast n).mono ?_)
              rintro e7 w7 ⟨rfl, n7, rfl⟩
              exact ⟨_, rfl, ⟨_, World.drewN_drewN ..⟩, trivial, rfl⟩
            · refine ⟨rfl, fun ρ X hg ho hc hf hr => ?_⟩
              obtain ⟨n, rfl⟩ := hg
              exact Runs.val _ (op_f34_4 (show ρ (.tmp 3) = .pointer (some ⟨Y, 0, none⟩) from ho 3 rfl)) ⟨⟨n, rfl⟩, trivial, rfl⟩
            · refine ⟨rfl, fun ρ X hg ho hc hf hr => ?_⟩
              obtain ⟨n, rfl⟩ := hg
              exact Runs.val _ (op_load3 (show ρ (.tmp 60) = .pointer (some ⟨Y, 4, none⟩) from hr 5 60 rfl rfl) (cell_on (below_draw (Below.refl _ V1) n) x4)) ⟨⟨n, rfl⟩, trivial, rfl⟩
            · refine ⟨rfl, fun ρ X hg ho hc hf hr => ?_⟩
              obtain ⟨n, rfl⟩ := hg
              exact Runs.val _ (op_sub (show ρ (.tmp 61) = .int .i64 m.index from hr 6 61 rfl rfl) (hc _) i2) ⟨⟨n, rfl⟩, trivial, rfl⟩
            · refine ⟨rfl, fun ρ X hg ho hc hf hr => ?_⟩
              obtain ⟨n, rfl⟩ := hg
              exact Runs.val _ (op_min (show ρ (.tmp 59) = .int .i64 La from hr 4 59 rfl rfl) (show ρ (.tmp 62) = .int .i64 (m.index - 1) from hr 7 62 rfl rfl) HX.out) ⟨⟨n, rfl⟩, trivial, rfl⟩
            · refine ⟨rfl, fun ρ X hg ho hc hf hr => ?_⟩
              obtain ⟨n, rfl⟩ := hg
              exact Runs.val _ (op_msg hc (show ρ (.tmp 57) = .int .i64 m.fr from hr 2 57 rfl rfl) (show ρ (.tmp 63) = .int .i64 x from hr 8 63 rfl rfl)) ⟨⟨n, rfl⟩, trivial, rfl⟩
          case la =>
            refine ⟨rfl, fun ρ X hg ho hc hf hr => ?_⟩
            obtain ⟨n, rfl⟩ := hg
            refine Runs.goes 55 #[.pointer (some ⟨A, 0, none⟩), .agg (msCs { ms0 with kind := 4, tgt := m.fr, index := x } (.slice none 0 0))] (op_call2 hf call55 (show ρ (.tmp 55) = .pointer (some ⟨A, 0, none⟩) from hr 0 55 (by decide) rfl) (show ρ (.tmp 64) = .agg (msCs { ms0 with kind := 4, tgt := m.fr, index := x } (.slice none 0 0)) from hr 9 64 (by decide) rfl)) ((hs n).out.mono ?_)
            rintro e8 w8 ⟨rfl, q8⟩
            exact ⟨_, rfl, q8⟩
          case en =>
            intro a X Xb v hF hs hd ho hv hr
            obtain ⟨x, hx, hxt⟩ := act_put hs hd ho
            change a = putAll _ x [55, 56, 57, 58, 59, 60, 61, 62, 63, 64, 65] at hx
            simp only [putAll, Act.put, List.setIfInBounds_toArray, List.set_cons_zero, List.set_cons_succ] at hx
            have HQ := Lib.hid hF
            clear hF hs hd ho hr hv hxt
            subst hx
            go_wp2
            refine bodyPost_ret (results_none rfl _ _ _) rfl ?_
            exact ⟨rfl, HQ.out⟩
        | false =>
          have eG := HEG.out
          rw [if_neg (of_decide_eq_false HF7.out)] at eG
          have hil : m.index ≤ La := by
            have h7 := of_decide_eq_false HF7.out
            by_cases q1 : cm ≤ m.index
            · have q2 : tm = m.prev := Classical.byContradiction fun q => h7 ⟨q1, q⟩
              have := termAt_in (b := c) (HTM.out.trans q2) hp
              rw [HLA.out] at this
              exact this
            · omega
          obtain ⟨D, hD⟩ : ∃ D, c.lay (m.index + 1) m.list = D := ⟨_, rfl⟩
          rw [hD] at eG
          have hDs := lay_same c m.list (m.index + 1)
          rw [hD, ecm] at hDs
          have HEG2 := Lib.hid eG
          have HD := Lib.hid hD
          have HDS := Lib.hid hDs
          clear hsend eG hD hDs x1 x4 hP1 j1 hF1 bn
          go_upto_block 0 with fail
          go_cut [] (fun wx => Hid (Rt w wx A S D) ∧ wx.heap[Y]? = some (.cells (msCs m (.slice mad m.list.length mcap)) 34 (0, 0)))
          case first =>
            go_wp2_with fail
            go_loopw [5] (fun iv wr => ∃ k n : Nat, k ≤ m.list.length ∧ iv = .int .i64 (k : Int) ∧ wr = V1.drewN n ∧ Hid (c.lay (m.index + 1 + k) (m.list.drop k) = D) ∧ m.index + k ≤ La) (fun iv _ => m.list.length - (intOf iv).toNat)
            case atStart => exact ⟨0, 0, Nat.zero_le _, rfl, rfl, by have := HD.out; exact Lib.hid (by simpa using this), by omega⟩
            case round =>
              obtain ⟨k, n, hk, rfl, hwr, hl, hil2⟩ := hrel
              have bw : Below V1.heap.size V1 wr := by rw [hwr]; exact below_draw (Below.refl V1.heap.size V1) n
              have hPr := HP1.out.on bw
              have jr := (bw.block Y (blk_lt HJ1.out)).trans HJ1.out
              have hEr := HE1.out.on bw
              have hFr := HF1.out.below bw
              have y4 : wr.cell? ⟨Y, 4, none⟩ = some (.int .i64 m.index) := cell_blk jr 4
              have y8 : wr.cell? ⟨Y, 8, none⟩ = some (.slice mad m.list.length mcap) := cell_blk jr 8
              have HWR := Lib.hid hwr
              have HPR := Lib.hid hPr
              have HJR := Lib.hid jr
              have HFR := Lib.hid hFr
              by_cases hkl : k < m.list.length
              · obtain ⟨bk, of, hmad, ct, h1c, h2c, h3c, hEd⟩ := hEr.at hkl
                obtain ⟨i, hi⟩ : ∃ i : Int, m.index + 1 + (k : Int) = i := ⟨_, rfl⟩
                have hi2 : i ≤ La + 1 := by omega
                have w1 : IntKind.i64.wrap (m.index + 1) = m.index + 1 := by rw [IntKind.wrap_i64]; omega
                have w2 : IntKind.i64.wrap (m.index + 1 + (k : Int)) = i := by rw [IntKind.wrap_i64]; omega
                have k0 : (0 : Int) ≤ (k : Int) := by omega
                have k1 : (k : Int) < (m.list.length : Int) := by omega
                have hterm2 := fun n => term_any (hPr.drewN n) i
                have hlast2 := fun n => last_any (hPr.drewN n)
                obtain ⟨tm2, htm2⟩ : ∃ tm2, c.termAt i = tm2 := ⟨_, rfl⟩
                obtain ⟨ek, hek⟩ : ∃ ek, m.list[k].term = ek := ⟨_, rfl⟩
                rw [htm2] at hterm2
                rw [HLA.out] at hlast2
                rw [hek] at ct
                obtain ⟨lvr, ovr, Or, hvr⟩ := hPr
                have d25 : wr.cell? ⟨A, 25, none⟩ = some (.int .i64 cm) := by rw [← ecm]; exact hvr.cell 25
                obtain ⟨f13, hf13⟩ : ∃ f13, decide (cm < i ∧ (La < i ∨ tm2 ≠ ek)) = f13 := ⟨_, rfl⟩
                have HF13 := Lib.hid hf13
                have HED := Lib.hid hEd
                have HI2 := Lib.hid hi
                have HT2 := Lib.hid htm2
                have HEK := Lib.hid hek
                rw [hmad] at y8
                have HM := Lib.hid hmad
                clear hmad hwr bw hvr jr hEr hFr hf13 hEd hi htm2 hek hi0 hi1 hil hp hE1 hq
                go_wp2_with fail
                go_cut [101] from 66 to 108 (fun v wx => v = .bool f13 ∧ ∃ n, wx = wr.drewN n)
                case first =>
                  by_cases q1 : cm < i
                  · have d1 : decide (cm < i) = true := decide_eq_true q1
                    by_cases q2 : La < i
                    · have d2 : decide (La < i) = true := decide_eq_true q2
                      have hg : f13 = true := HF13.out.symm.trans (decide_eq_true ⟨q1, .inl q2⟩)
                      subst hg
                      go_quiet ((go_at_call 38; exact Calls.quiet_of (hlast2 _)))
                      go_wp2_with fail
                      go_meet
                      exact ⟨rfl, _, by first | rfl | exact World.drewN_drewN ..⟩
                    · have d2 : decide (La < i) = false := decide_eq_false q2
                      by_cases q3 : tm2 = ek
                      · have d3 : (tm2 == ek) = true := by simpa using q3
                        have hg : f13 = false := HF13.out.symm.trans (decide_eq_false (fun q => by rcases q.2 with r | r; exact q2 r; exact r q3))
                        subst hg
                        clear q3
                        go_quiet ((first | (go_at_call 38; exact Calls.quiet_of (hlast2 _)) | (go_at_call 56; exact Calls.quiet_of (hterm2 _))))
                        go_wp2_with fail
                        go_meet
                        exact ⟨by first | rfl | (rw [bne, d3]; rfl), _, by first | rfl | exact World.drewN_drewN ..⟩
                      · have d3 : (tm2 == ek) = false := by simpa using q3
                        have hg : f13 = true := HF13.out.symm.trans (decide_eq_true ⟨q1, .inr q3⟩)
                        subst hg
                        go_quiet ((first | (go_at_call 38; exact Calls.quiet_of (hlast2 _)) | (go_at_call 56; exact Calls.quiet_of (hterm2 _))))
                        go_wp2_with fail
                        go_meet
                        exact ⟨by first | rfl | (rw [bne, d3]; rfl), _, by first | rfl | exact World.drewN_drewN ..⟩
                  · have d1 : decide (cm < i) = false := decide_eq_false q1
                    have hg : f13 = false := HF13.out.symm.trans (decide_eq_false (fun q => q1 q.1))
                    subst hg
                    go_quiet (fail)
                    go_wp2_with fail
                    go_meet
                    exact ⟨rfl, _, by first | rfl | exact World.drewN_drewN ..⟩
                case rest =>
                  obtain ⟨rfl, n2, hwc⟩ := hcut
                  have bn : Below wr.heap.size wr (wr.drewN n2) := below_draw (Below.refl wr.heap.size wr) n2
                  rw [← hwc] at bn
                  obtain ⟨V4, hV4⟩ : ∃ V4, V4 = wc := ⟨_, rfl⟩
                  have j4 := (bn.block Y (blk_lt HJR.out)).trans HJR.out
                  have z4 : wc.cell? ⟨Y, 4, none⟩ = some (.int .i64 m.index) := cell_blk j4 4
                  have z8 : wc.cell? ⟨Y, 8, none⟩ = some (.slice mad m.list.length mcap) := cell_blk j4 8
                  rw [HM.out] at z8
                  have HBN4 := Lib.hid bn
                  have HJ4 := Lib.hid j4
                  have HWC := Lib.hid hwc
                  clear hwc bn j4 hV4 hterm2 hlast2 d25 ct y4 y8
                  cases f13 with
                  | true =>
                    have hput : Calls Try.prog 60 #[.pointer (some ⟨A, 0, none⟩), .int .i64 i, .slice (some ⟨bk, of + k * 4, none⟩) (m.list.length - k) (mcap - k)] wc fun e w' => e = .returned (.tuple #[]) ∧ Hid (Rt w w' A S D) ∧ Hid (w'.heap[Y]? = some (.cells (msCs m (.slice mad m.list.length mcap)) 34 (0, 0))) := by
                      have hq2 := of_decide_eq_true HF13.out
                      have e1 : c.lay (m.index + 1 + k) (m.list.drop k) = c.put i (m.list.drop k) := by
                        rw [HI2.out]
                        refine lay_put hkl ?_
                        rw [HT2.out, HEK.out, HLA.out, ecm]
                        exact hq2
                      have e2 : c.put i (m.list.drop k) = D := e1.symm.trans hl.out
                      have hE4 := HED.out.on HBN4.out
                      have hp := put_any (HPR.out.on HBN4.out) (i := i) (by have := hq2.1; omega) (by rw [HLA.out]; exact hi2) hE4 (by rw [List.length_drop]; omega)
                      rw [List.length_drop] at hp
                      refine hp.mono ?_
                      rintro e w' ⟨rfl, q⟩
                      rw [e2] at q
                      refine ⟨rfl, Rt.step (HFR.out.below HBN4.out) q, ?_⟩
                      obtain ⟨_, _, _, qf⟩ := q
                      exact (qf.block Y (blk_lt HJ4.out) hYS).trans HJ4.out
                    have k2 : (k : Int) ≤ (m.list.length : Int) := by omega
                    have k3 : k ≤ mcap := by omega
                    have k4 : (k : Int) ≤ (mcap : Int) := by omega
                    have k5 : (m.list.length : Int) ≤ (mcap : Int) := by omega
                    have k6 : ¬ mcap = k := by omega
                    go_wp2_with fail
                    refine hput.mono ?_
                    rintro e w' ⟨rfl, q1, q2⟩
                    clear hput
                    go_wp2_with fail
                    go_meet
                    exact ⟨q1, q2.out⟩
                  | false =>
                    go_wp2_with fail
                    go_roundw
                    case rel =>
                      have hq2 := of_decide_eq_false HF13.out
                      refine ⟨k + 1, n + n2, by omega, by go_num, ?_, ?_, ?_⟩
                      · rw [HWC.out, HWR.out]
                        exact World.drewN_drewN ..
                      · have e1 := lay_next (b := c) (i := i) hkl (by rw [HT2.out, HEK.out, HLA.out, ecm]; exact hq2)
                        have e2 := hl.out
                        rw [HI2.out, e1] at e2
                        show c.lay (m.index + 1 + ((k + 1 : Nat) : Int)) (m.list.drop (k + 1)) = D
                        rw [← e2]
                        congr 1
                        have := HI2.out
                        omega
                      · have := HI2.out
                        by_cases q1 : cm < i
                        · by_cases q2 : La < i
                          · exact absurd ⟨q1, .inl q2⟩ hq2
                          · omega
                        · omega
                    case measure => simp [intOf]; omega
              · have ek : k = m.list.length := by omega
                subst ek
                have e1 := hl.out
                rw [List.drop_length] at e1
                have e2 : c = D := e1
                have k1 : ¬ (m.list.length : Int) < (m.list.length : Int) := by omega
                have HE2 := Lib.hid e2
                clear hwr bw jr hEr hFr e1 e2 hPr
                go_wp2_with fail
                go_meet
                exact ⟨(by rw [← HE2.out]; exact Rt.start HPR.out HFR.out : Rt w wr A S D), HJR.out⟩
          case rest =>
            obtain ⟨hRt, jc⟩ := hcut
            obtain ⟨V5, rfl⟩ : ∃ V5, V5 = wc := ⟨_, rfl⟩
            obtain ⟨S5, hR5, hG5, hF5⟩ := hRt.out
            obtain ⟨hD1, hD2, hD3, hD4⟩ := HDS.out
            obtain ⟨x, hx⟩ : ∃ x, min m.commit E = x := ⟨_, rfl⟩
            have eG := HEG2.out
            rw [hx] at eG
            have oD : D.out.length < 900000 := by rw [hD4]; omega
            have y1 : V5.cell? ⟨Y, 1, none⟩ = some (.int .i64 m.fr) := cell_blk jc 1
            have y6 : V5.cell? ⟨Y, 6, none⟩ = some (.int .i64 m.commit) := cell_blk jc 6
            obtain ⟨a5, f5⟩ := hR5.setf (i := 25) (v := .int .i64 x) (b' := { D with commit := x }) (fun _ _ => rfl) rfl rfl rfl
            have hs1 : Hid (Calls Try.prog 55 #[.pointer (some ⟨A, 0, none⟩), .agg (msCs { ms0 with kind := 4, tgt := m.fr, good := true, index := E } (.slice none 0 0))] (V5.setCell ⟨A, 25, none⟩ (.int .i64 x)) fun e w' => e = .returned (.tuple #[]) ∧ Rt w w' A S (({ D with commit := x } : Bs).send { ms0 with kind := 4, tgt := m.fr, good := true, index := E })) := by
              refine (send_any (m := { ms0 with kind := 4, tgt := m.fr, good := true, index := E }) (mv := .slice none 0 0) a5 (Es.nil _ _) oD).mono ?_
              rintro e w' ⟨rfl, q1, q2⟩
              exact ⟨rfl, Rt.comb hG5 hF5 (Rt.step f5 (Rt.of q1 q2))⟩
            have hs2 : Hid (Calls Try.prog 55 #[.pointer (some ⟨A, 0, none⟩), .agg (msCs { ms0 with kind := 4, tgt := m.fr, good := true, index := E } (.slice none 0 0))] V5 fun e w' => e = .returned (.tuple #[]) ∧ Rt w w' A S (D.send { ms0 with kind := 4, tgt := m.fr, good := true, index := E })) := by
              refine (send_any (m := { ms0 with kind := 4, tgt := m.fr, good := true, index := E }) (mv := .slice none 0 0) hR5 (Es.nil _ _) oD).mono ?_
              rintro e w' ⟨rfl, q1, q2⟩
              exact ⟨rfl, Rt.comb hG5 hF5 (Rt.of q1 q2)⟩
            obtain ⟨lv5, ov5, O5, hv5⟩ := hR5
            have d25 : V5.cell? ⟨A, 25, none⟩ = some (.int .i64 cm) := by rw [← hD1]; exact hv5.cell 25
            have z25 : V5.frozen? ⟨A, 25, none⟩ = false := frozen_blk hv5.ob 25
            have j5 : (V5.setCell ⟨A, 25, none⟩ (.int .i64 x)).cell? ⟨Y, 1, none⟩ = some (.int .i64 m.fr) := by
              have e5 : (V5.setCell ⟨A, 25, none⟩ (.int .i64 x)).heap[Y]? = _ := (set_other (a := ⟨A, 25, none⟩) (.int .i64 x) (show Y ≠ A from hYA)).trans jc
              exact cell_blk e5 1
            unfold Bs.reach at eG
            rw [hD1] at eG
            have HEG3 := Lib.hid eG
            have HX := Lib.hid hx
            clear hRt jc hG5 hF5 hD1 hD2 hD3 hD4 hx eG oD a5 f5 hv5
            by_cases q1 : E < m.commit
            · have ex : x = E := by have := HX.out; omega
              subst ex
              by_cases q2 : cm < x
              · have eG := HEG3.out
                rw [if_pos q2] at eG
                have HEG4 := Lib.hid eG
                have hs := hs1.out
                clear eG hs1 hs2
                go_wp2_with fail
                refine hs.mono ?_
                rintro e w' ⟨rfl, q⟩
                have HQ := Lib.hid q
                clear q hs
                go_wp2
                go_end0
                exact ⟨rfl, by rw [HEG4.out]; exact HQ.out⟩
              · omega
            · have ex : x = m.commit := by have := HX.out; omega
              subst ex
              by_cases q2 : cm < m.commit
              · have eG := HEG3.out
                rw [if_pos q2] at eG
                have HEG4 := Lib.hid eG
                have hs := hs1.out
                clear eG hs1 hs2
                go_wp2_with fail
                refine hs.mono ?_
                rintro e w' ⟨rfl, q⟩
                have HQ := Lib.hid q
                clear q hs
                go_wp2
                go_end0
                exact ⟨rfl, by rw [HEG4.out]; exact HQ.out⟩
              · have eG := HEG3.out
                rw [if_neg q2] at eG
                have HEG4 := Lib.hid eG
                have hs := hs2.out
                clear eG hs1 hs2
                go_wp2_with fail
                refine hs.mono ?_
                rintro e w' ⟨rfl, q⟩
                have HQ := Lib.hid q
                clear q hs
                go_wp2
                go_end0
                exact ⟨rfl, by rw [HEG4.out]; exact HQ.out⟩
end
end Go.Proofs.Ytmiagjcihmenfaa
