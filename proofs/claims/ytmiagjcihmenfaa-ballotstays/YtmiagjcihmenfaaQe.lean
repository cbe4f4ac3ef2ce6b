/- The walk of the program's settle. -/
import Derived.Test.YtmiagjcihmenfaaQc
import Derived.Test.YtmiagjcihmenfaaQd
import Derived.Test.YtmiagjcihmenfaaPg
namespace Go.Proofs.Ytmiagjcihmenfaa
open Go.RowKit

section
variable {w w' : World} {A : Nat} {S T : Nat → Prop} {b : Bs} {lv : Value} {pf : Int}
/-- A step of the program's ballot that answers messages M. -/
def Po (w w' : World) (A : Nat) (S : Nat → Prop) (b' : Bs) (M : List Ms) (ov : Value) : Prop := ∃ (S' : Nat → Prop) (B : Nat) (O : List (Ms × Value)), Pb w' A S' b' ∧ (∀ k, S' k → Gro S w w' k) ∧ Fr w w' S ∧ w.heap.size ≤ B ∧ (∀ k, S' k → k < B) ∧ O.map Prod.fst = M ∧ Ou w' B O ov
theorem Po.of {M : List Ms} {O : List (Ms × Value)} {ov : Value} (h : Pb w' A S b) (hf : Fr w w' S) (hlt : ∀ k, S k → k < w.heap.size) (hO : O.map Prod.fst = M) (hOu : Ou w' w.heap.size O ov) : Po w w' A S b M ov := ⟨S, w.heap.size, O, h, fun _ q => .inl q, hf, Nat.le_refl _, hlt, hO, hOu⟩
theorem Po.comb {w1 w2 : World} {S1 : Nat → Prop} {b2 : Bs} {M : List Ms} {ov : Value} (h2 : ∀ k, S1 k → Gro S w w1 k) (h3 : Fr w w1 S) (k : Po w1 w2 A S1 b2 M ov) : Po w w2 A S b2 M ov := by
  obtain ⟨S2, B, O, k1, k2, k3, k4, k5, k6, k7⟩ := k
  obtain ⟨T, q1, q2, q3⟩ := Pt.comb h2 h3 ⟨S2, k1, k2, k3⟩
  have hz := h3.size
  have kz := k3.size
  refine ⟨S2, B, O, k1, fun j q => ?_, q3, Nat.le_trans hz k4, k5, k6, k7⟩
  rcases k2 j q with q | q
  · rcases h2 j q with q | q
    · exact .inl q
    · exact .inr ⟨q.1, by omega⟩
  · exact .inr ⟨by omega, q.2⟩
theorem Po.step {w1 w2 : World} {b2 : Bs} {M : List Ms} {ov : Value} (h : Fr w w1 S) (k : Po w1 w2 A S b2 M ov) : Po w w2 A S b2 M ov := Po.comb (fun _ q => .inl q) h k
/-- Nothing more is most behind what is agreed on. -/
theorem top_none {m : Int} (hm : ∀ i, i ≤ b.last → ((b.size : Int) < 2 * (1 + b.matched i b.size : Nat) ↔ i ≤ m)) (hcl : b.commit ≤ b.last) (hn : ∀ i, b.commit < i → i ≤ m → b.termAt i ≠ b.term) : b.top = 0 := by
  refine Bs.best_zero _ (fun j hj q => ?_)
  have q1 := q.1
  have q2 := q.2
  have hle : b.commit + 1 + (j : Nat) ≤ b.last := by omega
  exact hn _ (by omega) ((hm _ hle).1 (by simpa using q1)) q2
theorem top_at {m i : Int} (hm : ∀ i, i ≤ b.last → ((b.size : Int) < 2 * (1 + b.matched i b.size : Nat) ↔ i ≤ m)) (hml : m ≤ b.last) (hi : b.commit < i) (him : i ≤ m) (ht : b.termAt i = b.term) (hn : ∀ j, i < j → j ≤ m → b.termAt j ≠ b.term) : b.top = i := by
  obtain ⟨k, hk⟩ : ∃ k : Nat, i = b.commit + 1 + k := ⟨(i - b.commit - 1).toNat, by omega⟩
  have := Bs.best_at (b := b) k (b.last - b.commit).toNat (by omega) ⟨by have := (hm i (by omega)).2 him; rw [← hk]; simpa using this, by rw [← hk]; exact ht⟩ (fun j h1 h2 q => by
    have q1 := q.1
    exact hn _ (by omega) ((hm (b.commit + 1 + (j : Nat)) (by omega)).1 (by simpa using q1)) q.2)
  unfold Bs.top
  rw [this, hk]
def SL (b : Bs) (m : Int) (w1 wr : World) (iv : Value) : Prop := ∃ (i : Int) (n : Nat), iv = .int .i64 i ∧ i ≤ m ∧ (b.commit ≤ i ∨ i = m) ∧ (∀ j, i < j → j ≤ m → b.commit < j → b.termAt j ≠ b.term) ∧ wr = w1.drewN n
set_option maxHeartbeats 1000000 in
set_option maxRecDepth 100000 in
theorem settle_p (h : Pb w A S b) (hld : b.Ld) (hbc : b.base ≤ b.commit) (hcl : b.commit ≤ b.last) : Calls Try.prog 79 #[.pointer (some ⟨A, 0, none⟩)] w fun e w' => ∃ ov, e = .returned ov ∧ Pb w' A S b.settleC ∧ Fr w w' S ∧ ∃ O : List (Ms × Value), O.map Prod.fst = b.settleM ∧ Ou w' w.heap.size O ov := by
  have hag := agreed_p h
  have HH := Lib.hid h
  obtain ⟨l1, b0, b1⟩ := h.len
  have hl2 : b.last ≤ 4398047411104 := by unfold Bs.last; omega
  obtain ⟨lv0, pf0, hv0⟩ := h
  have hid := hv0.idl
  have hlt := hv0.lt
  clear hv0
  go_enter Try.func79, Try.ntmps79
  go_wp2_with fail
  refine hag.mono ?_
  rintro e1 w1 ⟨L, rfl, hp, hs, hb1⟩
  clear hag
  have hmost := fun i (hi : i ≤ b.last) => Bs.agreed_most hp hs hid hi
  have hlen : L.length = b.size := hp.length_eq.trans (Bs.endsTo_len b b.size)
  have hmle : L.getD ((b.size - 1) / 2) 0 ≤ b.last := by
    have hk : (b.size - 1) / 2 < L.length := by omega
    rw [gd L _ hk]
    exact Bs.ends_le hld b.size (Nat.le_refl _) _ (hp.mem_iff.1 (List.getElem_mem hk))
  obtain ⟨m, hm⟩ : ∃ m, L.getD ((b.size - 1) / 2) 0 = m := ⟨_, rfl⟩
  rw [hm] at hmost hmle
  rw [hm]
  have HM := Lib.hid hmost
  have HL := Lib.hid hlt
  have HB := Lib.hid hb1
  have H1 := Lib.hid (HH.out.on hb1)
  clear hmost hlt hm hlen hs hp hb1
  go_wp2
  go_loopw [3] (fun iv wr => SL b m w1 wr iv) (fun iv _ => (intOf iv - b.commit).toNat)
  case atStart => exact ⟨m, 0, rfl, Int.le_refl _, .inr rfl, fun j h1 h2 => by omega, rfl⟩
  case round =>
    obtain ⟨i, n, rfl, him, hic, hno, hwr⟩ := hrel
    have hbw : Below w.heap.size w wr := by rw [hwr]; exact below_draw HB.out n
    have H2 : Hid (Pb wr A S b) := by rw [hwr]; exact H1.out.drewN n
    have HWR := Lib.hid hwr
    clear hwr
    have h1 := H2.out
    obtain ⟨lv1, pf1, hv1⟩ := h1
    have c0 : wr.cell? ⟨A, 0, none⟩ = some (.int .i64 b.term) := hv1.cell 0
    have c6 : wr.cell? ⟨A, 6, none⟩ = some (.int .i64 b.commit) := hv1.cell 6
    have HBW := Lib.hid hbw
    clear hbw
    by_cases hgo : b.commit < i
    · have hterm : ∀ n, Calls Try.prog 53 #[.pointer (some ⟨A, 0, none⟩), .int .i64 i] (wr.drewN n) fun e w' => e = .returned (.int .i64 (b.termAt i)) ∧ ∃ k, w' = (wr.drewN n).drewN k := fun n => termOf_any (H2.out.drewN n) i (by omega) (by omega)
      obtain ⟨tm, htm⟩ : ∃ tm, b.termAt i = tm := ⟨_, rfl⟩
      rw [htm] at hterm
      by_cases ht : tm = b.term
      · have htop : b.top = i := top_at HM.out hmle hgo him (htm.trans ht) (fun j q1 q2 => hno j q1 q2 (by omega))
        have hpos : 0 < i := by omega
        have eC : b.settleC = { b with commit := i } := by unfold Bs.settleC; rw [htop, if_pos hpos]
        have eM : b.settleM = ({ b with commit := i } : Bs).feeds := by unfold Bs.settleM; rw [htop, if_pos hpos]
        have hcall : ∀ n, Calls Try.prog 45 #[.pointer (some ⟨A, 0, none⟩), .func (.func 50) #[.pointer (some ⟨A, 0, none⟩)] #[]] ((wr.drewN n).setCell ⟨A, 6, none⟩ (.int .i64 i)) fun e w' => ∃ ov, e = .returned ov ∧ Pb w' A S b.settleC ∧ Fr w w' S ∧ ∃ O : List (Ms × Value), O.map Prod.fst = b.settleM ∧ Ou w' w.heap.size O ov := by
          intro n
          obtain ⟨r1, r2⟩ := (H2.out.drewN n).setf (i := 6) (v := .int .i64 i) (b' := { b with commit := i }) (fun _ _ => rfl) rfl rfl (fun _ q => q) rfl rfl
          refine (feeds_p r1 ⟨hld.nx, hld.mt, hld.lo⟩).mono ?_
          rintro e w' ⟨ov, rfl, O, q1, q2, q3⟩
          have hf1 : Fr w ((wr.drewN n).setCell ⟨A, 6, none⟩ (.int .i64 i)) S := ((Fr.ofBelow S HBW.out).drewN n).trans ⟨r2.os, r2.tape, r2.output, r2.size, r2.block⟩
          rw [eC, eM]
          exact ⟨ov, rfl, r1.on q3, hf1.below q3, O, q1, q2.mono hf1.size⟩
        have f6 : wr.frozen? ⟨A, 6, none⟩ = false := frozen_blk hv1.ob 6
        have hmf : ∀ (fn : Fn) (first cap : Array Value) (w : World), (Instr.makeFunc fn first cap).run Try.prog w = .ok (.func fn first cap) w := fun _ _ _ _ => rfl
        clear hv1 eC eM htop hno htm
        go_wp2
        go_quiet ((go_at_call 53; exact Calls.quiet_of (hterm _)))
        go_wp2_with fail
        refine (hcall _).mono ?_
        rintro e8 w8 ⟨ov, rfl, q1, q2, O, q3, q4⟩
        have HQ : Hid (Pb w8 A S b.settleC ∧ Fr w w8 S ∧ ∃ O : List (Ms × Value), O.map Prod.fst = b.settleM ∧ Ou w8 w.heap.size O ov) := ⟨q1, q2, O, q3, q4⟩
        clear q1 q2 q3 q4 hcall hterm
        go_wp2
        go_ret
        exact ⟨ov, rfl, HQ.out⟩
      · have hstep : ∀ k, SL b m w1 (wr.drewN k) (.int .i64 (i - 1)) := fun k => ⟨i - 1, n + k, rfl, by omega, .inl (by omega), fun j q1 q2 q3 => by
          by_cases e : j = i
          · rw [e, htm]; exact ht
          · exact hno j (by omega) q2 q3, by rw [HWR.out, World.drewN_drewN]⟩
        have HST := Lib.hid hstep
        have hi2 : i ≤ 4398047411104 := by omega
        have hi0 : 0 ≤ i := by omega
        clear hv1 hno htm hstep
        go_wp2
        go_quiet ((go_at_call 53; exact Calls.quiet_of (hterm _)))
        go_wp2
        exact ⟨HST.out nq, by simp [intOf]; omega⟩
    · have htop : b.top = 0 := top_none HM.out hcl (fun j q1 q2 => hno j (by omega) q2 q1)
      have eC : b.settleC = b := by unfold Bs.settleC; rw [htop, if_neg (by omega)]
      have eM : b.settleM = [] := by unfold Bs.settleM; rw [htop, if_neg (by omega)]
      have HC := Lib.hid eC
      have HMM := Lib.hid eM
      clear hv1 eC eM htop hno
      go_wp2
      go_ret
      rw [HC.out, HMM.out]
      exact ⟨_, rfl, H2.out, Fr.ofBelow S HBW.out, [], rfl, Ou.nil _ _⟩
end
end Go.Proofs.Ytmiagjcihmenfaa
