/- The walk of the program's Timeout. -/
import Derived.Test.YtmiagjcihmenfaaXg
namespace Go.Proofs.Ytmiagjcihmenfaa
open Go.RowKit

section
variable {w w' : World} {A : Nat} {S T : Nat → Prop} {b : Bs} {lv : Value} {pf : Int}
theorem pC_votes (b : Bs) (lv : Value) (pf : Int) {t : Nat} (ht : t < 5) : ((((((pC b lv pf).setIfInBounds 15 (.bool false)).setIfInBounds 16 (.bool false)).setIfInBounds 17 (.bool false)).setIfInBounds 18 (.bool false)).setIfInBounds 19 (.bool false)).setIfInBounds (15 + t) (.bool true) = pC { b with has := (List.replicate 5 false).set t true } lv pf := by
  unfold pC
  have : t = 0 ∨ t = 1 ∨ t = 2 ∨ t = 3 ∨ t = 4 := by omega
  rcases this with rfl | rfl | rfl | rfl | rfl <;> simp [Bs.last]
theorem Pb.votes (h : Pb w A S b) {t : Nat} (ht : t < 5) : Pb ((((((w.setCell ⟨A, 15, none⟩ (.bool false)).setCell ⟨A, 16, none⟩ (.bool false)).setCell ⟨A, 17, none⟩ (.bool false)).setCell ⟨A, 18, none⟩ (.bool false)).setCell ⟨A, 19, none⟩ (.bool false)).setCell ⟨A, 15 + t, none⟩ (.bool true)) A S { b with has := (List.replicate 5 false).set t true } ∧ Fr w ((((((w.setCell ⟨A, 15, none⟩ (.bool false)).setCell ⟨A, 16, none⟩ (.bool false)).setCell ⟨A, 17, none⟩ (.bool false)).setCell ⟨A, 18, none⟩ (.bool false)).setCell ⟨A, 19, none⟩ (.bool false)).setCell ⟨A, 15 + t, none⟩ (.bool true)) S := by
  obtain ⟨lv, pf, h⟩ := h
  have hf : Fr w ((((((w.setCell ⟨A, 15, none⟩ (.bool false)).setCell ⟨A, 16, none⟩ (.bool false)).setCell ⟨A, 17, none⟩ (.bool false)).setCell ⟨A, 18, none⟩ (.bool false)).setCell ⟨A, 19, none⟩ (.bool false)).setCell ⟨A, 15 + t, none⟩ (.bool true)) (fun k => k = A) :=
    Fr.set (a := ⟨A, 15 + t, none⟩) (Fr.set (a := ⟨A, 19, none⟩) (Fr.set (a := ⟨A, 18, none⟩) (Fr.set (a := ⟨A, 17, none⟩) (Fr.set (a := ⟨A, 16, none⟩) (Fr.set (a := ⟨A, 15, none⟩) (Fr.refl w (fun k => k = A)) (Or.inl rfl) _) (Or.inl rfl) _) (Or.inl rfl) _) (Or.inl rfl) _) (Or.inl rfl) _) (Or.inl rfl) _
  refine ⟨⟨lv, pf, ⟨?_, h.log.like (fun k hk => hf.block k (h.log.lt k hk) (h.neA k hk)), h.covA, h.cov, fun k hk => Nat.lt_of_lt_of_le (h.lt k hk) hf.size, h.len, h.b0, h.b1, h.fm, h.idl, h.sz⟩⟩, hf.mono (fun k hk => hk ▸ h.covA)⟩
  have e := set_blk (i := 15 + t) (set_blk (i := 19) (set_blk (i := 18) (set_blk (i := 17) (set_blk (i := 16) (set_blk (i := 15) h.ob (.bool false)) (.bool false)) (.bool false)) (.bool false)) (.bool false)) (.bool true)
  rw [pC_votes b lv pf ht] at e
  exact e
set_option maxHeartbeats 1000000 in
set_option maxRecDepth 100000 in
theorem timeout_p (h : Pb w A S b) (ok : Ok b) (hz : b.log.length + 1 ≤ 900000) (ht : b.term ≤ 4611686018427387904) : Calls Try.prog 25 #[.pointer (some ⟨A, 0, none⟩)] w fun e w' => ∃ ov, e = .returned ov ∧ Po w w' A S b.timeout.1 b.timeout.2 ov := by
  have hlt := h.lt
  have ht0 := ok.inv.t0
  by_cases hr : b.role = 2
  · have eb : b.timeout = (b, []) := if_pos hr
    rw [eb]
    have HH := Lib.hid h
    obtain ⟨lv, pf, hv⟩ := h
    have c2 : w.cell? ⟨A, 2, none⟩ = some (.int .i64 b.role) := hv.cell 2
    clear hv eb
    go_enter Try.func25, Try.ntmps25
    go_wp2
    go_ret
    exact ⟨_, rfl, Po.none HH.out⟩
  · have hIs : b.stand.Inv := by
      have h := ok.inv
      have hi := h.idl
      exact ⟨h.idl, h.sz, by simp [Bs.stand], h.nx, h.mt, h.b0, h.bc, h.cl, by show -1 ≤ (b.id : Int); omega, by show (b.id : Int) < b.size; omega, by show 0 ≤ b.term + 1; omega⟩
    have hid5 : b.id < 5 := Nat.lt_of_lt_of_le ok.inv.idl ok.inv.sz
    obtain ⟨T1, hT1⟩ : ∃ T1, b.term + 1 = T1 := ⟨_, rfl⟩
    have hw1 : IntKind.i64.wrap (b.term + 1) = T1 := by rw [IntKind.wrap_i64]; omega
    have hen : ∀ n, Calls Try.prog 43 #[.pointer (some ⟨A, 0, none⟩), .int .i64 T1, .int .i64 b.id, .int .i64 1] (w.drewN n) fun e w' => e = .returned (.tuple #[]) ∧ Pb w' A S { b with term := T1, vote := b.id, role := 1, lead := -1, touched := true } ∧ Fr w w' S := by
      intro n
      refine (enter_any (h.drewN n) T1 b.id 1).mono ?_
      rintro e w' ⟨rfl, q1, q2⟩
      exact ⟨rfl, q1, ⟨q2.os, q2.tape, q2.output, q2.size, q2.block⟩⟩
    obtain ⟨lv, pf, hv⟩ := h
    have c0 : w.cell? ⟨A, 0, none⟩ = some (.int .i64 b.term) := hv.cell 0
    have c2 : w.cell? ⟨A, 2, none⟩ = some (.int .i64 b.role) := hv.cell 2
    have c7 : w.cell? ⟨A, 7, none⟩ = some (.int .i64 b.id) := hv.cell 7
    have HEQ := Lib.hid (timeout_eq ok hr)
    have HTT := Lib.hid hT1
    have HIS := Lib.hid hIs
    have hsz := ok.inv.sz
    clear hv hT1 hIs
    go_enter Try.func25, Try.ntmps25
    go_wp2
    go_cut [] (fun wx => Pb wx A S { b with term := T1, vote := b.id, role := 1, lead := -1, touched := true } ∧ Fr w wx S)
    case first =>
      go_region_with (go_at_call 43; refine (hen _).mono ?_; rintro e1 w1 ⟨rfl, q1, q2⟩)
      all_goals
        go_wp2_with fail
        go_meet
        exact ⟨q1, q2⟩
    case rest =>
      obtain ⟨k1, k2⟩ := hcut
      obtain ⟨v1, v2⟩ := k1.votes hid5
      have est : ({ { b with term := T1, vote := b.id, role := 1, lead := -1, touched := true } with has := (List.replicate 5 false).set b.id true } : Bs) = b.stand := by rw [← HTT.out]; rfl
      rw [est] at v1
      obtain ⟨lv1, pf1, hv1⟩ := k1
      have d7 : wc.cell? ⟨A, 7, none⟩ = some (.int .i64 b.id) := hv1.cell 7
      have d8 : wc.cell? ⟨A, 8, none⟩ = some (.int .i64 b.size) := hv1.cell 8
      have d15 : wc.cell? ⟨A, 15, none⟩ = some (.bool (b.has.getD 0 false)) := hv1.cell 15
      have d16 : wc.cell? ⟨A, 16, none⟩ = some (.bool (b.has.getD 1 false)) := hv1.cell 16
      have d17 : wc.cell? ⟨A, 17, none⟩ = some (.bool (b.has.getD 2 false)) := hv1.cell 17
      have d18 : wc.cell? ⟨A, 18, none⟩ = some (.bool (b.has.getD 3 false)) := hv1.cell 18
      have d19 : wc.cell? ⟨A, 19, none⟩ = some (.bool (b.has.getD 4 false)) := hv1.cell 19
      have g15 : wc.frozen? ⟨A, 15, none⟩ = false := frozen_blk hv1.ob 15
      have g16 : wc.frozen? ⟨A, 16, none⟩ = false := frozen_blk hv1.ob 16
      have g17 : wc.frozen? ⟨A, 17, none⟩ = false := frozen_blk hv1.ob 17
      have g18 : wc.frozen? ⟨A, 18, none⟩ = false := frozen_blk hv1.ob 18
      have g19 : wc.frozen? ⟨A, 19, none⟩ = false := frozen_blk hv1.ob 19
      obtain ⟨W5, hW5⟩ : ∃ W5, W5 = (((((wc.setCell ⟨A, 15, none⟩ (.bool false)).setCell ⟨A, 16, none⟩ (.bool false)).setCell ⟨A, 17, none⟩ (.bool false)).setCell ⟨A, 18, none⟩ (.bool false)).setCell ⟨A, 19, none⟩ (.bool false)) := ⟨_, rfl⟩
      rw [← hW5] at v1 v2
      have hb5 : W5.heap[A]? = some (.cells ((((((pC { b with term := T1, vote := b.id, role := 1, lead := -1, touched := true } lv1 pf1).setIfInBounds 15 (.bool false)).setIfInBounds 16 (.bool false)).setIfInBounds 17 (.bool false)).setIfInBounds 18 (.bool false)).setIfInBounds 19 (.bool false)) 78 (0, 0)) := by
        rw [hW5]
        exact set_blk (i := 19) (set_blk (i := 18) (set_blk (i := 17) (set_blk (i := 16) (set_blk (i := 15) hv1.ob (.bool false)) (.bool false)) (.bool false)) (.bool false)) (.bool false)
      have x7 : W5.cell? ⟨A, 7, none⟩ = some (.int .i64 b.id) := by rw [cell_blk hb5]; simp [pC]
      have x8 : W5.cell? ⟨A, 8, none⟩ = some (.int .i64 b.size) := by rw [cell_blk hb5]; simp [pC]
      have xv : W5.cell? ⟨A, 15 + b.id, none⟩ = some (.bool false) := by
        rw [cell_blk hb5]
        have : b.id = 0 ∨ b.id = 1 ∨ b.id = 2 ∨ b.id = 3 ∨ b.id = 4 := by omega
        rcases this with e | e | e | e | e <;> rw [e] <;> simp [pC]
      have fv : W5.frozen? ⟨A, 15 + b.id, none⟩ = false := frozen_blk hb5 _
      have HV2 := Lib.hid (k2.trans v2)
      have hV1 := v1.drewN 1
      have HV1 := Lib.hid hV1
      have i0 : (0 : Int) ≤ b.id := by omega
      have i5 : (b.id : Int) < 5 := by omega
      have hmf : ∀ (fn : Fn) (first cap : Array Value) (w : World), (Instr.makeFunc fn first cap).run Try.prog w = .ok (.func fn first cap) w := fun _ _ _ _ => rfl
      have HW5 := Lib.hid hW5
      have hfD : Fr w (W5.setCell ⟨A, 15 + b.id, none⟩ (.bool true)).drew S := HV2.out.drew
      by_cases h1 : b.size = 1
      · have heq := HEQ.out
        rw [if_pos h1] at heq
        have hle := lead_p hV1 HIS.out hz
        have hcall : Calls Try.prog 44 #[.pointer (some ⟨A, 0, none⟩)] (W5.setCell ⟨A, 15 + b.id, none⟩ (.bool true)).drew fun e' w' => ∃ ov, e' = .returned ov ∧ Po w w' A S b.timeout.1 b.timeout.2 ov := by
          refine hle.mono ?_
          rintro e' w' ⟨ov, rfl, q⟩
          rw [heq]
          exact ⟨ov, rfl, (Po.step hfD q).unsay _⟩
        have s1 : (b.size : Int) = 1 := by omega
        have HC := Lib.hid hcall
        clear v1 v2 k2 hv1 hen est c0 c2 c7 hV1 hle heq hcall hb5 hW5 hfD hlt
        go_wp2
        rw [← HW5.out]
        go_region
        go_wp2_with fail
        refine HC.out.mono ?_
        rintro e' w' ⟨ov, rfl, q⟩
        have HQ := Lib.hid q
        clear q HC
        go_wp2
        go_ret
        exact ⟨ov, rfl, HQ.out⟩
      · have heq := HEQ.out
        rw [if_neg h1] at heq
        have hle := asks_p hV1
        have hcall : Calls Try.prog 45 #[.pointer (some ⟨A, 0, none⟩), .func (.func 46) #[.pointer (some ⟨A, 0, none⟩)] #[]] (W5.setCell ⟨A, 15 + b.id, none⟩ (.bool true)).drew fun e' w' => ∃ ov, e' = .returned ov ∧ Po w w' A S b.timeout.1 b.timeout.2 ov := by
          refine hle.mono ?_
          rintro e' w' ⟨ov, rfl, O, q1, q2, q3⟩
          rw [heq]
          refine ⟨ov, rfl, Po.step hfD (Po.of (hV1.on q3) (Fr.ofBelow S q3) (fun k hk => Nat.lt_of_lt_of_le (hlt k hk) hfD.size) q1 q2)⟩
        have s1 : ¬ (b.size : Int) = 1 := by omega
        have HC := Lib.hid hcall
        clear v1 v2 k2 hv1 hen est c0 c2 c7 hV1 hle heq hcall hb5 hW5 hfD hlt
        go_wp2
        rw [← HW5.out]
        go_region
        go_wp2_with fail
        refine HC.out.mono ?_
        rintro e' w' ⟨ov, rfl, q⟩
        have HQ := Lib.hid q
        clear q HC
        go_wp2
        go_ret
        exact ⟨ov, rfl, HQ.out⟩
end
end Go.Proofs.Ytmiagjcihmenfaa
