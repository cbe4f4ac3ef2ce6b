/- The walk of the program's takeAsk. -/
import Derived.Test.YtmiagjcihmenfaaQi
namespace Go.Proofs.Ytmiagjcihmenfaa
open Go.RowKit

section
variable {w w' : World} {A : Nat} {S T : Nat → Prop} {b : Bs} {lv : Value} {pf : Int}
/-- A message is boxed. -/
structure Bx (w W : World) (A : Nat) (S : Nat → Prop) (b : Bs) (m : Ms) (mv : Value) : Prop where
  eq : W = w.alloc (.cells #[.int .i64 m.kind, .int .i64 m.fr, .int .i64 m.to, .int .i64 m.term, .int .i64 m.index, .int .i64 m.prev, .int .i64 m.commit, .bool m.good, mv, .string m.snap] 34)
  bel : Below w.heap.size w W
  blk : W.heap[w.heap.size]? = some (msO m mv)
  pb : Pb W A S b
theorem Bx.mk' (h : Pb w A S b) (m : Ms) (mv : Value) : ∃ W, Bx w W A S b m mv :=
  ⟨w.alloc (msO m mv), rfl, (Below.refl _ w).alloc (Nat.le_refl _) _, heap_alloc_new w _, h.on ((Below.refl _ w).alloc (Nat.le_refl _) _)⟩
theorem Ou.one {B : Nat} {m : Ms} {ov : Value} (h : w.ownsRow B 34 10 ov 1 (msC [(m, .slice none 0 0)])) (hl : m.list = []) : Ou w B [(m, .slice none 0 0)] ov := by
  refine ⟨h, fun p hp => ?_⟩
  rw [List.mem_singleton.1 hp, hl]
  exact World.ownsRow_nil _ _ _ _
def askC (b : Bs) (m : Ms) : Bs := if b.grants m then { b with vote := m.fr, touched := true } else b
def askA (b : Bs) (m : Ms) : Ms := mk b { ms0 with kind := 2, «to» := m.fr, good := decide (b.grants m) }
theorem ask_eq (b : Bs) (m : Ms) : b.ask m = { askC b m with out := b.out ++ [askA b m] } := by
  unfold Bs.ask askC askA
  by_cases h : b.grants m
  · rw [if_pos h, if_pos h, decide_eq_true h]
    rfl
  · rw [if_neg h, if_neg h, decide_eq_false h]
    rfl
set_option maxHeartbeats 1000000 in
set_option maxRecDepth 100000 in
theorem takeAsk_p (h : Pb w A S b) (m : Ms) (mv : Value) : Calls Try.prog 74 #[.pointer (some ⟨A, 0, none⟩), msV m mv] w fun e w' => ∃ ov, e = .returned ov ∧ Po w w' A S (askC b m) [askA b m] ov := by
  have hlt := h.lt
  obtain ⟨W, hB⟩ := Bx.mk' h m mv
  have hA := hB.pb
  have hbl : b.base ≤ b.last := by unfold Bs.last; omega
  have ht := fun n => termOf_any (hA.drewN n) b.last hbl (Int.le_refl _)
  have HW := Lib.hid hB.eq
  have HPB := Lib.hid hA
  have HBL := Lib.hid hB.bel
  have m1 : W.cell? ⟨w.heap.size, 1, none⟩ = some (.int .i64 m.fr) := cell_blk hB.blk 1
  have m4 : W.cell? ⟨w.heap.size, 4, none⟩ = some (.int .i64 m.index) := cell_blk hB.blk 4
  have m5 : W.cell? ⟨w.heap.size, 5, none⟩ = some (.int .i64 m.prev) := cell_blk hB.blk 5
  have hnA : A ≠ w.heap.size := Nat.ne_of_lt (hlt A (by obtain ⟨_, _, q⟩ := h; exact q.covA))
  obtain ⟨lv, pf, hv⟩ := hA
  have c1 : W.cell? ⟨A, 1, none⟩ = some (.int .i64 b.vote) := hv.cell 1
  have c5 : W.cell? ⟨A, 5, none⟩ = some (.int .i64 b.last) := hv.cell 5
  have c12 : W.cell? ⟨A, 12, none⟩ = some (.bool b.touched) := hv.cell 12
  have g1 : W.frozen? ⟨A, 1, none⟩ = false := frozen_blk hv.ob 1
  have g12 : W.frozen? ⟨A, 12, none⟩ = false := frozen_blk hv.ob 12
  obtain ⟨tm, htm⟩ : ∃ tm, b.termAt b.last = tm := ⟨_, rfl⟩
  rw [htm] at ht
  have HT := Lib.hid htm
  obtain ⟨fb, hfb⟩ : ∃ fb, decide (b.vote = -1 ∨ b.vote = m.fr) = fb := ⟨_, rfl⟩
  obtain ⟨gb, hgb⟩ : ∃ gb, decide (b.grants m) = gb := ⟨_, rfl⟩
  have HFB := Lib.hid hfb
  have HGB := Lib.hid hgb
  clear hv hB htm h hfb hgb
  go_enter Try.func74, Try.ntmps74
  go_wp2
  rw [← HW.out]
  go_cut [5] (fun v wx => v = .bool fb ∧ ∃ n, wx = W.drewN n)
  case first =>
    by_cases q1 : b.vote = -1
    · have hb : (b.vote == -1) = true := by simpa using q1
      go_quiet (fail)
      go_wp2_with fail
      go_meet
      exact ⟨by rw [← HFB.out]; simp [q1], _, rfl⟩
    · have hb : (b.vote == -1) = false := by simpa using q1
      go_quiet (fail)
      go_wp2_with fail
      go_meet
      exact ⟨by rw [← HFB.out]; simp [q1]; rfl, _, rfl⟩
  case rest =>
    obtain ⟨rfl, n, rfl⟩ := hcut
    go_wp2_with fail
    refine (ht n).mono ?_
    rintro e1 w1 ⟨rfl, n1, rfl⟩
    rw [World.drewN_drewN]
    obtain ⟨N, hN⟩ : ∃ N, n + n1 = N := ⟨_, rfl⟩
    rw [hN]
    obtain ⟨V, hV⟩ : ∃ V, V = W.drewN N := ⟨_, rfl⟩
    have d4 : V.cell? ⟨w.heap.size, 4, none⟩ = some (.int .i64 m.index) := by rw [hV]; exact m4
    have d5 : V.cell? ⟨w.heap.size, 5, none⟩ = some (.int .i64 m.prev) := by rw [hV]; exact m5
    have d1 : V.cell? ⟨w.heap.size, 1, none⟩ = some (.int .i64 m.fr) := by rw [hV]; exact m1
    have k1 : V.cell? ⟨A, 1, none⟩ = some (.int .i64 b.vote) := by rw [hV]; exact c1
    have k5 : V.cell? ⟨A, 5, none⟩ = some (.int .i64 b.last) := by rw [hV]; exact c5
    have k12 : V.cell? ⟨A, 12, none⟩ = some (.bool b.touched) := by rw [hV]; exact c12
    have f1 : V.frozen? ⟨A, 1, none⟩ = false := by rw [hV]; exact g1
    have f12 : V.frozen? ⟨A, 12, none⟩ = false := by rw [hV]; exact g12
    have HPV : Hid (Pb V A S b) := by rw [hV]; exact HPB.out.drewN N
    have HBV : Hid (Below w.heap.size w V) := by rw [hV]; exact below_draw HBL.out N
    rw [← hV]
    clear m1 m4 m5 c1 c5 c12 g1 g12 hV hN ht
    go_wp2
    go_cut [7] (fun v wx => v = .bool gb ∧ ∃ n, wx = V.drewN n)
    case first =>
      by_cases q : b.vote = -1 ∨ b.vote = m.fr
      · have hd0 : fb = true := HFB.out.symm.trans (decide_eq_true q)
        subst hd0
        by_cases q1 : tm < m.prev
        · have hd1 : decide (tm < m.prev) = true := decide_eq_true q1
          have hg : decide (b.grants m) = true := decide_eq_true (by unfold Bs.grants; rw [HT.out]; omega)
          go_quiet (fail)
          go_wp2_with fail
          go_meet
          exact ⟨by rw [← HGB.out, hg], _, rfl⟩
        · by_cases q2 : m.prev = tm
          · by_cases q3 : b.last ≤ m.index
            · have hd1 : decide (tm < m.prev) = false := decide_eq_false q1
              have hd2 : (m.prev == tm) = true := by simpa using q2
              have hg : decide (b.grants m) = true := decide_eq_true (by unfold Bs.grants; rw [HT.out]; omega)
              go_quiet (fail)
              go_wp2_with fail
              go_meet
              exact ⟨by rw [← HGB.out, hg], _, rfl⟩
            · have hd1 : decide (tm < m.prev) = false := decide_eq_false q1
              have hd2 : (m.prev == tm) = true := by simpa using q2
              have hg : decide (b.grants m) = false := decide_eq_false (by unfold Bs.grants; rw [HT.out]; omega)
              go_quiet (fail)
              go_wp2_with fail
              go_meet
              exact ⟨by rw [← HGB.out, hg], _, rfl⟩
          · have hd1 : decide (tm < m.prev) = false := decide_eq_false q1
            have hd2 : (m.prev == tm) = false := by simpa using q2
            have hg : decide (b.grants m) = false := decide_eq_false (by unfold Bs.grants; rw [HT.out]; omega)
            go_quiet (fail)
            go_wp2_with fail
            go_meet
            exact ⟨by rw [← HGB.out, hg], _, rfl⟩
      · have hd0 : fb = false := HFB.out.symm.trans (decide_eq_false q)
        subst hd0
        have hg : decide (b.grants m) = false := decide_eq_false (by unfold Bs.grants; rw [HT.out]; omega)
        go_quiet (fail)
        go_wp2_with fail
        go_meet
        exact ⟨by rw [← HGB.out, hg], _, rfl⟩
    case rest =>
      obtain ⟨rfl, n, rfl⟩ := hcut
      by_cases q : b.grants m
      · have hg : gb = true := HGB.out.symm.trans (decide_eq_true q)
        subst hg
        have hC : askC b m = { b with vote := m.fr, touched := true } := if_pos q
        obtain ⟨a1, f1'⟩ := (HPV.out.drewN n).setf (i := 1) (v := .int .i64 m.fr) (b' := { b with vote := m.fr }) (fun _ _ => rfl) rfl rfl (fun _ q => q) rfl rfl
        obtain ⟨a2, f2'⟩ := a1.setf (i := 12) (v := .bool true) (b' := { b with vote := m.fr, touched := true }) (fun _ _ => rfl) rfl rfl (fun _ q => q) rfl rfl
        have hfr : Fr w (((V.drewN n).setCell ⟨A, 1, none⟩ (.int .i64 m.fr)).setCell ⟨A, 12, none⟩ (.bool true)) S := (((Fr.ofBelow S HBV.out).drewN n).trans ⟨f1'.os, f1'.tape, f1'.output, f1'.size, f1'.block⟩).trans f2'
        have hcall : Calls Try.prog 72 #[.pointer (some ⟨A, 0, none⟩), .int .i64 m.fr, .bool true] (((V.drewN n).setCell ⟨A, 1, none⟩ (.int .i64 m.fr)).setCell ⟨A, 12, none⟩ (.bool true)) fun e w' => ∃ ov, e = .returned ov ∧ Po w w' A S (askC b m) [askA b m] ov := by
          refine (voted_any a2 m.fr true).mono ?_
          rintro e w' ⟨ov, rfl, q1, q2⟩
          refine ⟨ov, rfl, ?_⟩
          rw [hC]
          refine Po.step hfr (Po.of (O := [(_, .slice none 0 0)]) (a2.on q1) (Fr.ofBelow S q1) (fun k hk => Nat.lt_of_lt_of_le (hlt k hk) hfr.size) ?_ (Ou.one q2 rfl))
          unfold askA
          rw [HGB.out]
          rfl
        have HC := Lib.hid hcall
        clear a1 a2 f1' f2' hfr hcall hC
        go_wp2_with fail
        refine HC.out.mono ?_
        rintro e' w' ⟨ov, rfl, q⟩
        have HQ := Lib.hid q
        clear q HC
        go_wp2
        go_ret
        exact ⟨ov, rfl, HQ.out⟩
      · have hg : gb = false := HGB.out.symm.trans (decide_eq_false q)
        subst hg
        have hC : askC b m = b := if_neg q
        have hfr : Fr w (V.drewN n) S := (Fr.ofBelow S HBV.out).drewN n
        have hcall : Calls Try.prog 72 #[.pointer (some ⟨A, 0, none⟩), .int .i64 m.fr, .bool false] (V.drewN n) fun e w' => ∃ ov, e = .returned ov ∧ Po w w' A S (askC b m) [askA b m] ov := by
          refine (voted_any (HPV.out.drewN n) m.fr false).mono ?_
          rintro e w' ⟨ov, rfl, q1, q2⟩
          refine ⟨ov, rfl, ?_⟩
          rw [hC]
          refine Po.step hfr (Po.of (O := [(_, .slice none 0 0)]) ((HPV.out.drewN n).on q1) (Fr.ofBelow S q1) (fun k hk => Nat.lt_of_lt_of_le (hlt k hk) hfr.size) ?_ (Ou.one q2 rfl))
          unfold askA
          rw [HGB.out]
          rfl
        have HC := Lib.hid hcall
        clear hfr hcall hC
        go_wp2_with fail
        refine HC.out.mono ?_
        rintro e' w' ⟨ov, rfl, q⟩
        have HQ := Lib.hid q
        clear q HC
        go_wp2
        go_ret
        exact ⟨ov, rfl, HQ.out⟩
end
end Go.Proofs.Ytmiagjcihmenfaa
