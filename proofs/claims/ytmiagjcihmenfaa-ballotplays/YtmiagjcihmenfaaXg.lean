/- What settling and feeding all say, plain, apart from what was said before. -/
import Derived.Test.YtmiagjcihmenfaaXf
import Derived.Test.YtmiagjcihmenfaaXb
import Derived.Test.YtmiagjcihmenfaaXPk
import Derived.Test.YtmiagjcihmenfaaXPg
namespace Go.Proofs.Ytmiagjcihmenfaa
open Go.RowKit

namespace Bs
def feeds (b : Bs) : List Ms := oth b.id (fun k => Go.Proofs.Ytmiagjcihmenfaa.mk b (b.feedM k)) b.size
theorem feedTo_eq (b : Bs) : ∀ n, b.feedTo n = { b with out := b.out ++ oth b.id (fun k => Go.Proofs.Ytmiagjcihmenfaa.mk b (b.feedM k)) n }
  | 0 => by simp [feedTo, oth]
  | n + 1 => by
    unfold feedTo oth
    by_cases h : n = b.id
    · rw [if_pos h, if_pos h]
      exact feedTo_eq b n
    · rw [if_neg h, if_neg h, feedTo_eq b n, ← List.append_assoc]
      rfl
theorem feedAll_eq (b : Bs) : b.feedAll = { b with out := b.out ++ b.feeds } := feedTo_eq b b.size
theorem askTo_eq (b : Bs) : ∀ n, b.askTo n = { b with out := b.out ++ oth b.id (fun k => Go.Proofs.Ytmiagjcihmenfaa.mk b (askM b k)) n }
  | 0 => by simp [askTo, oth]
  | n + 1 => by
    unfold askTo oth
    by_cases h : n = b.id
    · rw [if_pos h, if_pos h]
      exact askTo_eq b n
    · rw [if_neg h, if_neg h, askTo_eq b n, ← List.append_assoc]
      rfl
/-- The greatest number that may be committed; 0: none. -/
def top (b : Bs) : Int := b.best (b.last - b.commit).toNat
def settleC (b : Bs) : Bs := if 0 < b.top then { b with commit := b.top } else b
def settleM (b : Bs) : List Ms := if 0 < b.top then ({ b with commit := b.top } : Bs).feeds else []
theorem settle_eq (b : Bs) : b.settle = { b.settleC with out := b.out ++ b.settleM } := by
  unfold settle settleC settleM top
  split
  · rw [feedAll_eq]
  · simp
/-- What a leader knows of others fits its log. -/
structure Ld (b : Bs) : Prop where
  nx : ∀ k, k < b.size → b.next.getD k 0 ≤ b.last + 1
  mt : ∀ k, k < b.size → b.mat.getD k 0 ≤ b.last
  lo : ∀ k, k < b.size → 0 ≤ b.mat.getD k 0 ∧ b.mat.getD k 0 < b.next.getD k 0
theorem ends_le {b : Bs} (h : Ld b) : ∀ n, n ≤ b.size → ∀ x ∈ b.endsTo n, x ≤ b.last
  | 0, _, x, hx => by cases hx
  | n + 1, hn, x, hx => by
    unfold endsTo at hx
    rcases List.mem_append.1 hx with q | q
    · exact ends_le h n (by omega) x q
    · rw [List.mem_singleton.1 q]
      split
      · exact Int.le_refl _
      · exact h.mt n (by omega)
end Bs
section
variable {w w' : World} {A : Nat} {S T : Nat → Prop} {b : Bs} {lv : Value} {pf : Int}
theorem feed_p (h : Pb w A S b) {k : Nat} (hk : k < 5) (hl : b.next.getD k 0 ≤ b.last + 1) : Calls Try.prog 50 #[.pointer (some ⟨A, 0, none⟩), .int .i64 k] w fun e w' => ∃ lv, e = .returned (msV (mk b (b.feedM k)) lv) ∧ Below w.heap.size w w' ∧ w'.ownsRow w.heap.size 49 4 lv (b.feedM k).list.length (enC (b.feedM k).list) := by
  by_cases q : b.next.getD k 0 ≤ b.base
  · exact feed_p0 h hk q
  · exact feed_p1 h hk q hl
theorem feeds_p (h : Pb w A S b) (hl : b.Ld) : Calls Try.prog 45 #[.pointer (some ⟨A, 0, none⟩), .func (.func 50) #[.pointer (some ⟨A, 0, none⟩)] #[]] w fun e w' => ∃ ov, e = .returned ov ∧ ∃ O : List (Ms × Value), O.map Prod.fst = b.feeds ∧ Ou w' w.heap.size O ov ∧ Below w.heap.size w w' := by
  have hsz : b.size ≤ 5 := by obtain ⟨_, _, q⟩ := h; exact q.sz
  exact toOthers_50 h (fun k => mk b (b.feedM k)) (fun k hk _ V hV => feed_p hV (by omega) (hl.nx k hk))
theorem asks_p (h : Pb w A S b) : Calls Try.prog 45 #[.pointer (some ⟨A, 0, none⟩), .func (.func 46) #[.pointer (some ⟨A, 0, none⟩)] #[]] w fun e w' => ∃ ov, e = .returned ov ∧ ∃ O : List (Ms × Value), O.map Prod.fst = oth b.id (fun k => mk b (askM b k)) b.size ∧ Ou w' w.heap.size O ov ∧ Below w.heap.size w w' :=
  toOthers_46 h (fun k => mk b (askM b k)) (fun k _ _ V hV => ask_p hV k (by unfold Bs.last; omega))
end
end Go.Proofs.Ytmiagjcihmenfaa
/- The walk of the program's settle. -/
namespace Go.Proofs.Ytmiagjcihmenfaa
open Go.RowKit

section
variable {w w' : World} {A : Nat} {S T : Nat → Prop} {b : Bs} {lv : Value} {pf : Int}
/-- A step of the program's ballot that answers messages M. -/
def Po (w w' : World) (A : Nat) (S : Nat → Prop) (b' : Bs) (M : List Ms) (ov : Value) : Prop := ∃ (S' : Nat → Prop) (B : Nat) (O : List (Ms × Value)), Pb w' A S' b' ∧ (∀ k, S' k → Gro S w w' k) ∧ Fr w w' S ∧ w.heap.size ≤ B ∧ (∀ k, S' k → k < B) ∧ O.map Prod.fst = M ∧ Ou w' B O ov
theorem Po.of {M : List Ms} {O : List (Ms × Value)} {ov : Value} (h : Pb w' A S b) (hf : Fr w w' S) (hlt : ∀ k, S k → k < w.heap.size) (hO : O.map Prod.fst = M) (hOu : Ou w' w.heap.size O ov) : Po w w' A S b M ov := ⟨S, w.heap.size, O, h, fun _ q => .inl q, hf, Nat.le_refl _, hlt, hO, hOu⟩
theorem Po.comb {w1 w2 : World} {S1 : Nat → Prop} {b2 : Bs} {M : List Ms} {ov : Value} (h2 : ∀ k, S1 k → Gro S w w1 k) (h3 : Fr w w1 S) (k : Po w1 w2 A S1 b2 M ov) : Po w w2 A S b2 M ov := by
  obtain ⟨S2, B, O, k1, k2, k3, k4, k5, k6, k7⟩ := k
  obtain ⟨T, q1, q2, q3⟩ := Pt.comb h2 h3 ⟨S2, k1, k2, k3⟩
  have hz := h3.size
  have kz := k3.size
  refine ⟨S2, B, O, k1, fun j q => ?_, q3, Nat.le_trans hz k4, k5, k6, k7⟩
  rcases k2 j q with q | q
  · rcases h2 j q with q | q
    · exact .inl q
    · exact .inr ⟨q.1, by omega⟩
  · exact .inr ⟨by omega, q.2⟩
theorem Po.step {w1 w2 : World} {b2 : Bs} {M : List Ms} {ov : Value} (h : Fr w w1 S) (k : Po w1 w2 A S b2 M ov) : Po w w2 A S b2 M ov := Po.comb (fun _ q => .inl q) h k
/-- Nothing more is most behind what is agreed on. -/
theorem top_none {m : Int} (hm : ∀ i, i ≤ b.last → ((b.size : Int) < 2 * (1 + b.matched i b.size : Nat) ↔ i ≤ m)) (hcl : b.commit ≤ b.last) (hn : ∀ i, b.commit < i → i ≤ m → b.termAt i ≠ b.term) : b.top = 0 := by
  refine Bs.best_zero _ (fun j hj q => ?_)
  have q1 := q.1
  have q2 := q.2
  have hle : b.commit + 1 + (j : Nat) ≤ b.last := by omega
  exact hn _ (by omega) ((hm _ hle).1 (by simpa using q1)) q2
theorem top_at {m i : Int} (hm : ∀ i, i ≤ b.last → ((b.size : Int) < 2 * (1 + b.matched i b.size : Nat) ↔ i ≤ m)) (hml : m ≤ b.last) (hi : b.commit < i) (him : i ≤ m) (ht : b.termAt i = b.term) (hn : ∀ j, i < j → j ≤ m → b.termAt j ≠ b.term) : b.top = i := by
  obtain ⟨k, hk⟩ : ∃ k : Nat, i = b.commit + 1 + k := ⟨(i - b.commit - 1).toNat, by omega⟩
  have := Bs.best_at (b := b) k (b.last - b.commit).toNat (by omega) ⟨by have := (hm i (by omega)).2 him; rw [← hk]; simpa using this, by rw [← hk]; exact ht⟩ (fun j h1 h2 q => by
    have q1 := q.1
    exact hn _ (by omega) ((hm (b.commit + 1 + (j : Nat)) (by omega)).1 (by simpa using q1)) q.2)
  unfold Bs.top
  rw [this, hk]
def SL (b : Bs) (m : Int) (w1 wr : World) (iv : Value) : Prop := ∃ (i : Int) (n : Nat), iv = .int .i64 i ∧ i ≤ m ∧ (b.commit ≤ i ∨ i = m) ∧ (∀ j, i < j → j ≤ m → b.commit < j → b.termAt j ≠ b.term) ∧ wr = w1.drewN n
set_option maxHeartbeats 1000000 in
set_option maxRecDepth 100000 in
theorem settle_p (h : Pb w A S b) (hld : b.Ld) (hbc : b.base ≤ b.commit) (hcl : b.commit ≤ b.last) : Calls Try.prog 79 #[.pointer (some ⟨A, 0, none⟩)] w fun e w' => ∃ ov, e = .returned ov ∧ Pb w' A S b.settleC ∧ Fr w w' S ∧ ∃ O : List (Ms × Value), O.map Prod.fst = b.settleM ∧ Ou w' w.heap.size O ov := by
  have hag := agreed_p h
  have HH := Lib.hid h
  obtain ⟨l1, b0, b1⟩ := h.len
  have hl2 : b.last ≤ 4398047411104 := by unfold Bs.last; omega
  obtain ⟨lv0, pf0, hv0⟩ := h
  have hid := hv0.idl
  have hlt := hv0.lt
  clear hv0
  go_enter Try.func79, Try.ntmps79
  go_wp2_with fail
  refine hag.mono ?_
  rintro e1 w1 ⟨L, rfl, hp, hs, hb1⟩
  clear hag
  have hmost := fun i (hi : i ≤ b.last) => Bs.agreed_most hp hs hid hi
  have hlen : L.length = b.size := hp.length_eq.trans (Bs.endsTo_len b b.size)
  have hmle : L.getD ((b.size - 1) / 2) 0 ≤ b.last := by
    have hk : (b.size - 1) / 2 < L.length := by omega
    rw [gd L _ hk]
    exact Bs.ends_le hld b.size (Nat.le_refl _) _ (hp.mem_iff.1 (List.getElem_mem hk))
  obtain ⟨m, hm⟩ : ∃ m, L.getD ((b.size - 1) / 2) 0 = m := ⟨_, rfl⟩
  rw [hm] at hmost hmle
  rw [hm]
  have HM := Lib.hid hmost
  have HL := Lib.hid hlt
  have HB := Lib.hid hb1
  have H1 := Lib.hid (HH.out.on hb1)
  clear hmost hlt hm hlen hs hp hb1
  go_wp2
  go_loopw [3] (fun iv wr => SL b m w1 wr iv) (fun iv _ => (intOf iv - b.commit).toNat)
  case atStart => exact ⟨m, 0, rfl, Int.le_refl _, .inr rfl, fun j h1 h2 => by omega, rfl⟩
  case round =>
    obtain ⟨i, n, rfl, him, hic, hno, hwr⟩ := hrel
    have hbw : Below w.heap.size w wr := by rw [hwr]; exact below_draw HB.out n
    have H2 : Hid (Pb wr A S b) := by rw [hwr]; exact H1.out.drewN n
    have HWR := Lib.hid hwr
    clear hwr
    have h1 := H2.out
    obtain ⟨lv1, pf1, hv1⟩ := h1
    have c0 : wr.cell? ⟨A, 0, none⟩ = some (.int .i64 b.term) := hv1.cell 0
    have c6 : wr.cell? ⟨A, 6, none⟩ = some (.int .i64 b.commit) := hv1.cell 6
    have HBW := Lib.hid hbw
    clear hbw
    by_cases hgo : b.commit < i
    · have hterm : ∀ n, Calls Try.prog 53 #[.pointer (some ⟨A, 0, none⟩), .int .i64 i] (wr.drewN n) fun e w' => e = .returned (.int .i64 (b.termAt i)) ∧ ∃ k, w' = (wr.drewN n).drewN k := fun n => termOf_any (H2.out.drewN n) i (by omega) (by omega)
      obtain ⟨tm, htm⟩ : ∃ tm, b.termAt i = tm := ⟨_, rfl⟩
      rw [htm] at hterm
      by_cases ht : tm = b.term
      · have htop : b.top = i := top_at HM.out hmle hgo him (htm.trans ht) (fun j q1 q2 => hno j q1 q2 (by omega))
        have hpos : 0 < i := by omega
        have eC : b.settleC = { b with commit := i } := by unfold Bs.settleC; rw [htop, if_pos hpos]
        have eM : b.settleM = ({ b with commit := i } : Bs).feeds := by unfold Bs.settleM; rw [htop, if_pos hpos]
        have hcall : ∀ n, Calls Try.prog 45 #[.pointer (some ⟨A, 0, none⟩), .func (.func 50) #[.pointer (some ⟨A, 0, none⟩)] #[]] ((wr.drewN n).setCell ⟨A, 6, none⟩ (.int .i64 i)) fun e w' => ∃ ov, e = .returned ov ∧ Pb w' A S b.settleC ∧ Fr w w' S ∧ ∃ O : List (Ms × Value), O.map Prod.fst = b.settleM ∧ Ou w' w.heap.size O ov := by
          intro n
          obtain ⟨r1, r2⟩ := (H2.out.drewN n).setf (i := 6) (v := .int .i64 i) (b' := { b with commit := i }) (fun _ _ => rfl) rfl rfl (fun _ q => q) rfl rfl
          refine (feeds_p r1 ⟨hld.nx, hld.mt, hld.lo⟩).mono ?_
          rintro e w' ⟨ov, rfl, O, q1, q2, q3⟩
          have hf1 : Fr w ((wr.drewN n).setCell ⟨A, 6, none⟩ (.int .i64 i)) S := ((Fr.ofBelow S HBW.out).drewN n).trans ⟨r2.os, r2.tape, r2.output, r2.size, r2.block⟩
          rw [eC, eM]
          exact ⟨ov, rfl, r1.on q3, hf1.below q3, O, q1, q2.mono hf1.size⟩
        have f6 : wr.frozen? ⟨A, 6, none⟩ = false := frozen_blk hv1.ob 6
        have hmf : ∀ (fn : Fn) (first cap : Array Value) (w : World), (Instr.makeFunc fn first cap).run Try.prog w = .ok (.func fn first cap) w := fun _ _ _ _ => rfl
        clear hv1 eC eM htop hno htm
        go_wp2
        go_quiet ((go_at_call 53; exact Calls.quiet_of (hterm _)))
        go_wp2_with fail
        refine (hcall _).mono ?_
        rintro e8 w8 ⟨ov, rfl, q1, q2, O, q3, q4⟩
        have HQ : Hid (Pb w8 A S b.settleC ∧ Fr w w8 S ∧ ∃ O : List (Ms × Value), O.map Prod.fst = b.settleM ∧ Ou w8 w.heap.size O ov) := ⟨q1, q2, O, q3, q4⟩
        clear q1 q2 q3 q4 hcall hterm
        go_wp2
        go_ret
        exact ⟨ov, rfl, HQ.out⟩
      · have hstep : ∀ k, SL b m w1 (wr.drewN k) (.int .i64 (i - 1)) := fun k => ⟨i - 1, n + k, rfl, by omega, .inl (by omega), fun j q1 q2 q3 => by
          by_cases e : j = i
          · rw [e, htm]; exact ht
          · exact hno j (by omega) q2 q3, by rw [HWR.out, World.drewN_drewN]⟩
        have HST := Lib.hid hstep
        have hi2 : i ≤ 4398047411104 := by omega
        have hi0 : 0 ≤ i := by omega
        clear hv1 hno htm hstep
        go_wp2
        go_quiet ((go_at_call 53; exact Calls.quiet_of (hterm _)))
        go_wp2
        exact ⟨HST.out nq, by simp [intOf]; omega⟩
    · have htop : b.top = 0 := top_none HM.out hcl (fun j q1 q2 => hno j (by omega) q2 q1)
      have eC : b.settleC = b := by unfold Bs.settleC; rw [htop, if_neg (by omega)]
      have eM : b.settleM = [] := by unfold Bs.settleM; rw [htop, if_neg (by omega)]
      have HC := Lib.hid eC
      have HMM := Lib.hid eM
      clear hv1 eC eM htop hno
      go_wp2
      go_ret
      rw [HC.out, HMM.out]
      exact ⟨_, rfl, H2.out, Fr.ofBelow S HBW.out, [], rfl, Ou.nil _ _⟩
end
end Go.Proofs.Ytmiagjcihmenfaa
/- The walk of the program's write. -/
namespace Go.Proofs.Ytmiagjcihmenfaa
open Go.RowKit

section
variable {w w' : World} {A : Nat} {S T : Nat → Prop} {b : Bs} {lv : Value} {pf : Int}
/-- Worlds that differ in what was drawn alone. -/
def Sp (w V : World) : Prop := V.heap = w.heap ∧ V.os = w.os ∧ V.tape = w.tape ∧ V.output = w.output
theorem Sp.below {w V : World} (h : Sp w V) : Below w.heap.size w V := ⟨h.2.1, h.2.2.1, h.2.2.2, by rw [h.1]; exact Nat.le_refl _, fun k _ => by rw [h.1]⟩
theorem Ou.cat {B B' : Nat} {O O2 : List (Ms × Value)} {ov : Value} {ad2 : Option Addr} {cap2 : Nat} (h : Ou w B O ov) (h2 : Ou w B' O2 (.slice ad2 O2.length cap2)) (hB : B ≤ w.heap.size) (hBB : B ≤ B') (hf : O.length + O2.length < 900000) : ∃ ad cap w', (Builtin.append_ #[37, 37] 37 #[ov, .slice ad2 O2.length cap2]).run Try.prog w = .ok (.slice ad (O.length + O2.length) cap) w' ∧ Ou w' B (O ++ O2) (.slice ad (O.length + O2.length) cap) ∧ Fr w w' (fun k => B ≤ k) := by
  have h2' := h2.mono hBB
  have keepL : ∀ w', w.grownBy w' ov.ownBlock → ∀ q : Value, ∀ n xs, w.ownsRow B 49 4 q n xs → w'.ownsRow B 49 4 q n xs := by
    intro w' hg q n xs hq
    refine own_like hq (fun k hk => hg.block k (hq.lt k hk).2 (fun e => ?_))
    obtain ⟨c1, t1⟩ := own_tag2 hq k hk
    obtain ⟨c2, t2⟩ := own_tag2 h.own k e.symm
    exact tag_ne t1 t2 (by decide) rfl
  have fin : ∀ v' w', (Builtin.append_ #[37, 37] 37 #[ov, .slice ad2 O2.length cap2]).run Try.prog w = .ok v' w' → w'.ownsRow B 34 10 v' (O.length + O2.length) (msC O ++ msC O2) → w.grownBy w' ov.ownBlock → ∃ ad cap w', (Builtin.append_ #[37, 37] 37 #[ov, .slice ad2 O2.length cap2]).run Try.prog w = .ok (.slice ad (O.length + O2.length) cap) w' ∧ Ou w' B (O ++ O2) (.slice ad (O.length + O2.length) cap) ∧ Fr w w' (fun k => B ≤ k) := by
    intro v' w' hrun ho hg
    obtain ⟨ad, cap, rfl⟩ := own_shape ho
    refine ⟨ad, cap, w', hrun, ⟨by rw [List.length_append, msC_append]; exact ho, fun p hp => ?_⟩, Fr.grown (Fr.refl w _) hg (fun k hk => .inl (h.own.lt k hk).1)⟩
    rcases List.mem_append.1 hp with hp | hp
    · exact keepL w' hg _ _ _ (h.ls p hp)
    · exact keepL w' hg _ _ _ (h2'.ls p hp)
  obtain ⟨i0, hi, hz0, hz1, hz2⟩ := info_parts infoMs
  cases ad2 with
  | none =>
    have hO2 : O2 = [] := by
      rcases h2.own.2 with ⟨_, h0⟩ | ⟨g, cap, cur, hv, _⟩
      · exact List.eq_nil_of_length_eq_zero h0
      · cases hv
    have hcap : cap2 = 0 := by
      rcases h2.own.2 with ⟨hv, _⟩ | ⟨g, cap, cur, hv, _⟩
      · simp at hv; exact hv.2
      · cases hv
    subst hO2
    subst hcap
    refine fin ov w ?_ (by simpa [msC] using h.own) ⟨rfl, rfl, rfl, Nat.le_refl _, fun _ _ _ => rfl⟩
    exact run_append_owned_none (P := Try.prog) (w := w) B 37 37 34 i0 10 Try.underlying37 hi ov O.length (msC O) h.own
  | some a =>
    have hsrc : ∀ j u, (msC O2)[j]? = some u → w.cell? (a.add j) = some u := by
      intro j u hu
      have hj : j < O2.length * 10 := by
        have := (List.getElem?_eq_some_iff.1 hu).1
        rwa [msC_len] at this
      rcases h2.own.2 with ⟨hv, _⟩ | ⟨g, cap, cur, hv, _⟩
      · cases hv
      · cases hv
        rw [add_at, Nat.zero_add]
        exact (h2.own.cellAt j hj).trans hu
    have hone : ∀ u ∈ msC O2, u.oneCell' = true := by
      intro u hu
      obtain ⟨p, hp, hu2⟩ := List.mem_flatMap.1 hu
      obtain ⟨la, lc, hl⟩ := own_shape (h2.ls p hp)
      simp only [hl] at hu2
      simp at hu2
      rcases hu2 with rfl | rfl | rfl | rfl | rfl | rfl | rfl | rfl | rfl | rfl <;> rfl
    obtain ⟨v', w', hrun, ho, hg, _⟩ := msgs_run (a := a) (m := O2.length) (c := cap2) (news := msC O2) h.own hB (msC_len O2) hsrc hone (by omega)
    exact fin v' w' hrun ho hg
theorem feeds_len (b : Bs) : b.feeds.length ≤ b.size := oth_len _ _ _
theorem settleM_len (b : Bs) : b.settleM.length ≤ b.size := by
  unfold Bs.settleM
  split
  · exact oth_len _ _ _
  · simp
theorem Ld.put {e : En} (h : b.Ld) (hb : b.base ≤ b.last) : (b.put (b.last + 1) [e]).Ld := by
  have hl : (b.put (b.last + 1) [e]).last = b.last + 1 := by
    rw [Bs.put_last _ (by omega) (by omega)]
    simp
  refine ⟨fun k hk => ?_, fun k hk => ?_, h.lo⟩
  · rw [hl]
    have := h.nx k hk
    show b.next.getD k 0 ≤ _
    omega
  · rw [hl]
    have := h.mt k hk
    show b.mat.getD k 0 ≤ _
    omega
set_option maxHeartbeats 1000000 in
set_option maxRecDepth 100000 in
theorem write_p (h : Pb w A S b) (hI : b.Inv) (hld : b.Ld) (hz : b.log.length + 1 ≤ 900000) (e : En) : Calls Try.prog 51 #[.pointer (some ⟨A, 0, none⟩), enV e] w fun e' w' => ∃ ov, e' = .returned ov ∧ Po w w' A S (b.put (b.last + 1) [e]).settleC ((b.put (b.last + 1) [e]).feeds ++ (b.put (b.last + 1) [e]).settleM) ov := by
  obtain ⟨l1, b0, b1⟩ := h.len
  have hll : b.last ≤ 4398047411104 ∧ 0 ≤ b.last := by unfold Bs.last; omega
  have hS := h.lt
  have hbl : b.base ≤ b.last := by unfold Bs.last; omega
  obtain ⟨X, hX⟩ : ∃ X, b.put (b.last + 1) [e] = X := ⟨_, rfl⟩
  have hXI : X.Inv := by rw [← hX]; exact (Bs.put_stays [e] hI (by have := hI.cl; omega) (Int.le_refl _) (.inl rfl)).2
  have hXL : X.Ld := by rw [← hX]; exact Ld.put hld hbl
  have hXs : X.size ≤ 5 := hXI.sz
  rw [hX]
  obtain ⟨L1, hL1⟩ : ∃ L1, b.last + 1 = L1 := ⟨_, rfl⟩
  have hw1 : IntKind.i64.wrap (b.last + 1) = L1 := by rw [IntKind.wrap_i64]; omega
  have hb0 : Below w.heap.size w (w.alloc (enO e)) := (Below.refl _ w).alloc (Nat.le_refl _) _
  obtain ⟨W, hW⟩ : ∃ W, W = w.alloc (enO e) := ⟨_, rfl⟩
  have hbW : Below w.heap.size w W := by rw [hW]; exact hb0
  have hPW := h.on hbW
  have hsz : W.heap.size = w.heap.size + 1 := by rw [hW]; simp
  have hbe : W.heap[w.heap.size]? = some (enO e) := by rw [hW]; exact heap_alloc_new w _
  have e0 : W.cell? ⟨w.heap.size, 0, none⟩ = some (.int .i64 e.term) := cell_blk hbe 0
  have e1 : W.cell? ⟨w.heap.size, 1, none⟩ = some (.int .i64 e.at') := cell_blk hbe 1
  have e2 : W.cell? ⟨w.heap.size, 2, none⟩ = some (.int .i64 e.born) := cell_blk hbe 2
  have e3 : W.cell? ⟨w.heap.size, 3, none⟩ = some (.string e.text) := cell_blk hbe 3
  have hal : Below W.heap.size W (W.alloc (enO e)) := (Below.refl _ W).alloc (Nat.le_refl _) _
  have hput : ∀ V, Sp (W.alloc (enO e)) V → Calls Try.prog 70 #[.pointer (some ⟨A, 0, none⟩), .int .i64 L1, .slice (some ⟨W.heap.size, 0, none⟩) 1 1] V fun e' w' => e' = .returned (.tuple #[]) ∧ Pt w w' A S X := by
    intro V hV
    have hb2 := hal.trans (hV.below.mono hal.size)
    have hb3 := hbW.trans (hb2.mono hbW.size)
    have hes : Es V S [e] (.slice (some ⟨W.heap.size, 0, none⟩) 1 1) := by
      refine ⟨some ⟨W.heap.size, 0, none⟩, 1, rfl, fun q => (by cases q), Nat.le_refl _, (by unfold maxLen; omega), fun i hi => ?_⟩
      have hi0 : i = 0 := by simp at hi; omega
      subst hi0
      have hblk : V.heap[W.heap.size]? = some (enO e) := by rw [hV.1]; exact heap_alloc_new W _
      refine ⟨W.heap.size, 0, rfl, blk_lt hblk, fun q => ?_, ?_, ?_, ?_, ?_⟩
      · have := hS _ q
        omega
      all_goals (rw [cell_blk hblk]; rfl)
    refine (put_p (i := L1) (l := [e]) (h.on hb3) (by omega) (by omega) hes (by simp; omega)).mono ?_
    rintro e' w' ⟨rfl, hT⟩
    refine ⟨rfl, ?_⟩
    rw [← hX, hL1]
    exact Pt.from hb3 hT
  have hPW2 := hPW.on hal
  obtain ⟨lvW, pfW, hvW⟩ := hPW
  obtain ⟨lvX, pfX, hvX⟩ := hPW2
  have c5 : W.cell? ⟨A, 5, none⟩ = some (.int .i64 b.last) := hvW.cell 5
  have x5 : (W.alloc (.cells #[.int .i64 e.term, .int .i64 e.at', .int .i64 e.born, .string e.text] 49)).cell? ⟨A, 5, none⟩ = some (.int .i64 b.last) := hvX.cell 5
  have hmf : ∀ (fn : Fn) (first cap : Array Value) (w : World), (Instr.makeFunc fn first cap).run Try.prog w = .ok (.func fn first cap) w := fun _ _ _ _ => rfl
  have HWW : Hid (W = w.alloc (.cells #[.int .i64 e.term, .int .i64 e.at', .int .i64 e.born, .string e.text] 49)) := hW
  have HXI := Lib.hid hXI
  have HXL := Lib.hid hXL
  have HSS := Lib.hid hS
  clear hX hXI hXL hL1 hvW hvX hal hb0 hbW hbe hW hI hld h hS hsz
  go_enter Try.func51, Try.ntmps51
  go_wp2
  rw [← HWW.out]
  go_cut [] (fun wx => Pt w wx A S X)
  case first =>
    go_region_with (go_at_call 70; refine (hput _ (by exact ⟨rfl, rfl, rfl, rfl⟩)).mono ?_; rintro e8 w8 ⟨rfl, h8⟩)
    all_goals
      go_wp2_with fail
      go_meet
      exact h8
  case rest =>
    obtain ⟨S1, k1, k2, k3⟩ := hcut
    have hS1 := k1.lt
    have hfe := feeds_p k1 HXL.out
    clear hput c5 x5 e0 e1 e2 e3
    go_wp2_with fail
    refine hfe.mono ?_
    rintro e7 w7 ⟨ov7, rfl, O7, q1, q2, q3⟩
    clear hfe
    have k7 := k1.on q3
    have hse := settle_p k7 HXL.out HXI.out.bc HXI.out.cl
    go_wp2_with fail
    refine hse.mono ?_
    rintro e6 w6 ⟨ov6, rfl, r1, r2, O6, r3, r4⟩
    clear hse
    have hS7 := fun k hk => Nat.lt_of_lt_of_le (hS1 k hk) q3.size
    have l7 : O7.length ≤ X.size := by rw [← List.length_map (f := Prod.fst), q1]; exact feeds_len X
    have l6 : O6.length ≤ X.size := by rw [← List.length_map (f := Prod.fst), r3]; exact settleM_len X
    have hq2 : Ou w6 wc.heap.size O7 ov7 := ⟨row_keep q2.own r2 (fun j hj q => by have := hS1 j q; have := (q2.own.lt j hj).1; omega), fun p hp => row_keep (q2.ls p hp) r2 (fun j hj q => by have := hS1 j q; have := ((q2.ls p hp).lt j hj).1; omega)⟩
    obtain ⟨ad6, cap6, rfl⟩ := own_shape r4.own
    obtain ⟨ad7, cap7, rfl⟩ := own_shape q2.own
    obtain ⟨ad5, cap5, w5, hrun, t1, t2⟩ := Ou.cat hq2 r4 (Nat.le_trans q3.size r2.size) q3.size (by omega)
    have hfin : Po w w5 A S X.settleC (X.feeds ++ X.settleM) (.slice ad5 (O7.length + O6.length) cap5) := by
      refine Po.comb k2 k3 ⟨S1, wc.heap.size, O7 ++ O6, r1.stays t2 (fun k hk q => by have := hS1 k hk; omega), fun _ q => .inl q, ?_, Nat.le_refl _, hS1, by rw [List.map_append, q1, r3], t1⟩
      exact ((Fr.ofBelow S1 q3).trans r2).step t2 (fun k q => .inr q)
    have HF := Lib.hid hfin
    clear hfin t1 t2 hq2 r1 r2 r3 r4 q1 q2 q3 k1 k2 k3 k7
    go_wp2_with (at_builtin; refine wpl_run2 _ _ rfl (by simp [Act.eval]) (by simp [Act.eval]) hrun ?_)
    go_ret
    exact ⟨_, rfl, HF.out⟩
end
end Go.Proofs.Ytmiagjcihmenfaa
/- The walk of the program's lead. -/
namespace Go.Proofs.Ytmiagjcihmenfaa
open Go.RowKit

theorem getD_setI (l : List Int) (t k : Nat) (x : Int) (ht : t < l.length) : (l.set t x).getD k 0 = if k = t then x else l.getD k 0 := by
  by_cases h : k = t
  · subst h
    simp [ht]
  · rw [if_neg h]
    simp [List.getD, List.getElem?_set_ne (Ne.symm h)]
theorem pC_peer (b : Bs) (lv : Value) (pf : Int) {t : Nat} (ht : t < 5) (hl : b.next.length = 5) (hm : b.mat.length = 5) (x y : Int) : ((pC b lv pf).setIfInBounds (20 + t * 2) (.int .i64 x)).setIfInBounds (20 + t * 2 + 1) (.int .i64 y) = pC { b with next := b.next.set t x, mat := b.mat.set t y } lv pf := by
  unfold pC
  simp only [getD_setI _ _ _ _ (by omega : t < b.next.length), getD_setI _ _ _ _ (by omega : t < b.mat.length), Bs.last]
  have : t = 0 ∨ t = 1 ∨ t = 2 ∨ t = 3 ∨ t = 4 := by omega
  rcases this with rfl | rfl | rfl | rfl | rfl <;> simp
theorem fill_next {α : Type} (l : List α) (t : Nat) (x : α) (ht : t < l.length) : Bs.fill l (t + 1) x = (Bs.fill l t x).set t x := by
  unfold Bs.fill
  rw [List.set_append_right _ _ (by simp), List.length_replicate, Nat.sub_self, List.replicate_succ']
  have e : (l.drop t).set 0 x = x :: l.drop (t + 1) := by
    rw [List.drop_eq_getElem_cons ht]
    rfl
  rw [e]
  simp
theorem fill_at (l : List Int) (n k : Nat) (x : Int) : (Bs.fill l n x).getD k 0 = if k < n then x else l.getD k 0 := by
  unfold Bs.fill
  rw [List.getD_eq_getElem?_getD, List.getD_eq_getElem?_getD]
  by_cases q : k < n
  · rw [List.getElem?_append_left (by simpa using q), if_pos q, List.getElem?_replicate, if_pos q]
    rfl
  · rw [List.getElem?_append_right (by simp; omega), if_neg q, List.getElem?_drop, List.length_replicate, show n + (k - n) = k by omega]
/-- The first t nodes' numbers are set. -/
def lT (b : Bs) (t : Nat) : Bs := { b with role := 2, lead := b.id, next := Bs.fill b.next t (b.last + 1), mat := Bs.fill b.mat t 0 }
theorem lT_zero (b : Bs) : lT b 0 = { b with role := 2, lead := b.id } := by unfold lT Bs.fill; simp
theorem lT_size (b : Bs) : lT b b.size = b.leads := rfl
/-- What a new leader has. -/
def led (b : Bs) : Bs := b.leads.put (b.last + 1) [⟨b.term, 0, 0, noT⟩]
theorem led_ok {b : Bs} (hI : b.Inv) : b.leads.Ld := by
  have hb : b.base ≤ b.last := by unfold Bs.last; omega
  have h0 := hI.b0
  refine ⟨fun k hk => ?_, fun k hk => ?_, fun k hk => ?_⟩
  · show (Bs.fill b.next b.size (b.last + 1)).getD k 0 ≤ b.last + 1
    rw [fill_at, if_pos (show k < b.size from hk)]
    exact Int.le_refl _
  · show (Bs.fill b.mat b.size 0).getD k 0 ≤ b.last
    rw [fill_at, if_pos (show k < b.size from hk)]
    omega
  · show 0 ≤ (Bs.fill b.mat b.size 0).getD k 0 ∧ (Bs.fill b.mat b.size 0).getD k 0 < (Bs.fill b.next b.size (b.last + 1)).getD k 0
    have hk' : k < b.size := hk
    rw [fill_at, fill_at, if_pos hk', if_pos hk']
    omega
section
variable {w w' : World} {A : Nat} {S T : Nat → Prop} {b : Bs} {lv : Value} {pf : Int}
theorem lT_step {t : Nat} (h : Pb w A S (lT b t)) (ht : t < b.size) (hs : b.size ≤ 5) (hn : b.next.length = 5) (hm : b.mat.length = 5) :
    Pb ((w.setCell ⟨A, 20 + t * 2, none⟩ (.int .i64 (b.last + 1))).setCell ⟨A, 20 + t * 2 + 1, none⟩ (.int .i64 0)) A S (lT b (t + 1)) ∧ Fr w ((w.setCell ⟨A, 20 + t * 2, none⟩ (.int .i64 (b.last + 1))).setCell ⟨A, 20 + t * 2 + 1, none⟩ (.int .i64 0)) S := by
  obtain ⟨lv, pf, h⟩ := h
  have f1 : (Bs.fill b.next t (b.last + 1)).length = 5 := (Bs.fill_len _ _ _ (by omega)).trans hn
  have f2 : (Bs.fill b.mat t 0).length = 5 := (Bs.fill_len _ _ _ (by omega)).trans hm
  have hf : Fr w ((w.setCell ⟨A, 20 + t * 2, none⟩ (.int .i64 (b.last + 1))).setCell ⟨A, 20 + t * 2 + 1, none⟩ (.int .i64 0)) S := Fr.set (a := ⟨A, 20 + t * 2 + 1, none⟩) (Fr.set (a := ⟨A, 20 + t * 2, none⟩) (Fr.refl w S) (Or.inl h.covA) _) (Or.inl h.covA) _
  have e : lT b (t + 1) = { lT b t with next := (Bs.fill b.next t (b.last + 1)).set t (b.last + 1), mat := (Bs.fill b.mat t 0).set t 0 } := by
    unfold lT
    rw [fill_next _ _ _ (by omega), fill_next _ _ _ (by omega)]
  refine ⟨⟨lv, pf, ⟨?_, ?_, h.covA, h.cov, fun k hk => Nat.lt_of_lt_of_le (h.lt k hk) hf.size, h.len, h.b0, h.b1, h.fm, h.idl, h.sz⟩⟩, hf⟩
  · have hb := set_blk (i := 20 + t * 2 + 1) (set_blk (i := 20 + t * 2) h.ob (.int .i64 (b.last + 1))) (.int .i64 0)
    rw [pC_peer (lT b t) lv pf (by omega) f1 f2] at hb
    rw [e]
    exact hb
  · exact h.log.like (fun k hk => by rw [set_other _ (h.neA k hk), set_other _ (h.neA k hk)])
set_option maxHeartbeats 1000000 in
set_option maxRecDepth 100000 in
theorem lead_p (h : Pb w A S b) (hI : b.Inv) (hz : b.log.length + 1 ≤ 900000) : Calls Try.prog 44 #[.pointer (some ⟨A, 0, none⟩)] w fun e' w' => ∃ ov, e' = .returned ov ∧ Po w w' A S (led b).settleC ((led b).feeds ++ (led b).settleM) ov := by
  obtain ⟨l1, b0, b1⟩ := h.len
  have hll : b.last ≤ 4398047411104 ∧ 0 ≤ b.last := by unfold Bs.last; omega
  obtain ⟨a1, f1⟩ := h.setf (i := 2) (v := .int .i64 2) (b' := { b with role := 2 }) (fun _ _ => rfl) rfl rfl (fun _ q => q) rfl rfl
  obtain ⟨a2, f2⟩ := a1.setf (i := 3) (v := .int .i64 b.id) (b' := { b with role := 2, lead := b.id }) (fun _ _ => rfl) rfl rfl (fun _ q => q) rfl rfl
  rw [← lT_zero b] at a2
  have f12 := f1.trans f2
  obtain ⟨lv, pf, hv⟩ := h
  have c2 : w.cell? ⟨A, 2, none⟩ = some (.int .i64 b.role) := hv.cell 2
  have c3 : w.cell? ⟨A, 3, none⟩ = some (.int .i64 b.lead) := hv.cell 3
  have c7 : w.cell? ⟨A, 7, none⟩ = some (.int .i64 b.id) := hv.cell 7
  have c8 : w.cell? ⟨A, 8, none⟩ = some (.int .i64 b.size) := hv.cell 8
  have g2 : w.frozen? ⟨A, 2, none⟩ = false := frozen_blk hv.ob 2
  have g3 : w.frozen? ⟨A, 3, none⟩ = false := frozen_blk hv.ob 3
  have hsz := hv.sz
  obtain ⟨L1, hL1⟩ : ∃ L1, b.last + 1 = L1 := ⟨_, rfl⟩
  have hw1 : IntKind.i64.wrap (b.last + 1) = L1 := by rw [IntKind.wrap_i64]; omega
  have HA := Lib.hid a2
  have HF := Lib.hid f12
  have HI := Lib.hid hI
  have HL := Lib.hid hL1
  clear hv a1 f1 f2 f12 a2 hI hL1
  go_enter Try.func44, Try.ntmps44
  go_wp2
  go_loopw [20] (fun iv wr => ∃ t : Nat, t ≤ b.size ∧ iv = .int .i64 (t : Nat) ∧ Pb wr A S (lT b t) ∧ Fr w wr S) (fun iv _ => b.size - (intOf iv).toNat)
  case atStart => exact ⟨0, Nat.zero_le _, rfl, HA.out, HF.out⟩
  case round =>
    clear c2 c3 c7 c8 g2 g3
    obtain ⟨t, ht, rfl, hR, hFr⟩ := hrel
    obtain ⟨lv2, pf2, h2⟩ := hR
    by_cases hlt : t < b.size
    · have t0 : (0 : Int) ≤ t := by omega
      have t1 : (t : Int) < b.size := by omega
      have t5 : (t : Int) < 5 := by omega
      have t6 : t < 5 := by omega
      have cn := h2.nextc t6
      have cm := h2.matc t6
      have c5 : wr.cell? ⟨A, 5, none⟩ = some (.int .i64 b.last) := h2.cell 5
      have fn : wr.frozen? ⟨A, 20 + t * 2, none⟩ = false := frozen_blk h2.ob _
      have fm : wr.frozen? ⟨A, 20 + t * 2 + 1, none⟩ = false := frozen_blk h2.ob _
      obtain ⟨xn, hxn⟩ : ∃ xn, (lT b t).next.getD t 0 = xn := ⟨_, rfl⟩
      obtain ⟨xm, hxm⟩ : ∃ xm, (lT b t).mat.getD t 0 = xm := ⟨_, rfl⟩
      rw [hxn] at cn
      rw [hxm] at cm
      obtain ⟨s1, s2⟩ := lT_step ⟨lv2, pf2, h2⟩ hlt hsz HI.out.nx HI.out.mt
      rw [HL.out] at s1 s2
      have HS : Hid (Pb ((wr.setCell ⟨A, 20 + t * 2, none⟩ (.int .i64 L1)).setCell ⟨A, 20 + t * 2 + 1, none⟩ (.int .i64 0)) A S (lT b (t + 1)) ∧ Fr w ((wr.setCell ⟨A, 20 + t * 2, none⟩ (.int .i64 L1)).setCell ⟨A, 20 + t * 2 + 1, none⟩ (.int .i64 0)) S) := ⟨s1, hFr.trans s2⟩
      clear s1 s2 hFr h2 hxn hxm
      go_wp2
      go_region
      go_wp2
      exact ⟨⟨t + 1, hlt, by go_num, HS.out.1.drewN 1, HS.out.2.drew⟩, by simp [intOf]; omega⟩
    · have t1 : ¬ (t : Int) < b.size := by omega
      have et : t = b.size := by omega
      subst et
      rw [lT_size] at h2
      have hiL := (Bs.leads_stays HI.out).2
      have hwr := write_p ⟨lv2, pf2, h2⟩ hiL (led_ok HI.out) hz ⟨b.term, 0, 0, noT⟩
      have HWR : Hid (Calls Try.prog 51 #[.pointer (some ⟨A, 0, none⟩), enV ⟨b.term, 0, 0, noT⟩] wr fun e' w' => ∃ ov, e' = .returned ov ∧ Po w w' A S (led b).settleC ((led b).feeds ++ (led b).settleM) ov) := by
        refine hwr.mono ?_
        rintro e' w' ⟨ov, rfl, q⟩
        exact ⟨ov, rfl, Po.step hFr q⟩
      have c0 : wr.cell? ⟨A, 0, none⟩ = some (.int .i64 b.term) := h2.cell 0
      clear hwr h2 hFr hiL
      go_wp2_with fail
      refine HWR.out.mono ?_
      rintro e' w' ⟨ov, rfl, q⟩
      have HQ := Lib.hid q
      clear q HWR
      go_wp2
      go_ret
      exact ⟨ov, rfl, HQ.out⟩
end
end Go.Proofs.Ytmiagjcihmenfaa
/- Plain: what the calls answer, where nothing was said before. -/
namespace Go.Proofs.Ytmiagjcihmenfaa
namespace Bs
theorem matched_out (b : Bs) (o : List Ms) (i : Int) : ∀ n, ({ b with out := o } : Bs).matched i n = b.matched i n
  | 0 => rfl
  | n + 1 => by
    unfold matched
    rw [matched_out b o i n]
theorem best_out (b : Bs) (o : List Ms) : ∀ k, ({ b with out := o } : Bs).best k = b.best k
  | 0 => rfl
  | k + 1 => by
    unfold best most
    rw [best_out b o k, matched_out]
    rfl
theorem top_out (b : Bs) (o : List Ms) : ({ b with out := o } : Bs).top = b.top := best_out b o _
theorem settleC_out (b : Bs) (o : List Ms) : ({ b with out := o } : Bs).settleC = { b.settleC with out := o } := by
  unfold settleC
  rw [top_out]
  split <;> rfl
theorem settleM_out (b : Bs) (o : List Ms) : ({ b with out := o } : Bs).settleM = b.settleM := by
  unfold settleM
  rw [top_out]
  rfl
theorem settle_out (b : Bs) (o : List Ms) : ({ b with out := o } : Bs).settle = { b.settleC with out := o ++ b.settleM } := by
  rw [settle_eq, settleC_out, settleM_out]
/-- All are fed, then it settles. -/
theorem all_sent (X : Bs) (h : X.out = []) : X.feedAll.settle.sent = ({ X.settleC with out := [] }, X.feeds ++ X.settleM) := by
  rw [feedAll_eq, settle_out, h]
  rfl
theorem sent_so (b : Bs) (h : b.out = []) : b.sent = (b, []) := by
  unfold sent
  rw [h]
  have : ({ b with out := [] } : Bs) = b := by
    cases b
    simp only at h
    subst h
    rfl
  rw [this]
theorem settleC_sz (b : Bs) : b.settleC.out = b.out := by unfold settleC; split <;> rfl
theorem votes_out (b : Bs) (o : List Ms) : ∀ n, ({ b with out := o } : Bs).votes n = b.votes n
  | 0 => rfl
  | n + 1 => by
    unfold votes
    rw [votes_out b o n]
/-- Nobody outside the group has a vote to give. -/
def Hs (b : Bs) : Prop := ∀ k, b.size ≤ k → b.has.getD k false = false
theorem votes_more (b : Bs) (h : b.Hs) : ∀ k, b.votes (b.size + k) = b.votes b.size
  | 0 => rfl
  | k + 1 => by
    show b.votes (b.size + k) + (if b.has.getD (b.size + k) false then 1 else 0) = _
    rw [votes_more b h k, h (b.size + k) (by omega)]
    rfl
end Bs
end Go.Proofs.Ytmiagjcihmenfaa
/- The walks of the program's Beat, Propose, Timeout. -/
namespace Go.Proofs.Ytmiagjcihmenfaa
open Go.RowKit

/-- What holds of a ballot between calls. -/
structure Ok (b : Bs) : Prop where
  inv : b.Inv
  hs : b.Hs
  ld : b.role = 2 → b.Ld
  out : b.out = []
theorem out_self {b : Bs} (h : b.out = []) : ({ b with out := [] } : Bs) = b := by
  cases b
  simp only at h
  subst h
  rfl
section
variable {w w' : World} {A : Nat} {S T : Nat → Prop} {b : Bs} {lv : Value} {pf : Int}
theorem Pb.unsay (h : Pb w A S b) (o : List Ms) : Pb w A S { b with out := o } := by
  obtain ⟨lv, pf, h⟩ := h
  exact ⟨lv, pf, ⟨h.ob, h.log, h.covA, h.cov, h.lt, h.len, h.b0, h.b1, h.fm, h.idl, h.sz⟩⟩
theorem Po.unsay {M : List Ms} {ov : Value} (h : Po w w' A S b M ov) (o : List Ms) : Po w w' A S { b with out := o } M ov := by
  obtain ⟨S2, B, O, k1, k2, k3, k4, k5, k6, k7⟩ := h
  exact ⟨S2, B, O, k1.unsay o, k2, k3, k4, k5, k6, k7⟩
theorem Po.none (h : Pb w A S b) : Po w w A S b [] (.slice none 0 0) := Po.of h (Fr.refl _ _) h.lt rfl (Ou.nil _ _)
theorem beat_p (h : Pb w A S b) (ok : Ok b) : Calls Try.prog 28 #[.pointer (some ⟨A, 0, none⟩)] w fun e w' => ∃ ov, e = .returned ov ∧ Po w w' A S b.beat.1 b.beat.2 ov := by
  have hlt := h.lt
  by_cases hr : b.role = 2
  · have eb : b.beat = (b, b.feeds) := by
      unfold Bs.beat
      rw [if_pos hr, Bs.feedAll_eq, ok.out]
      unfold Bs.sent
      simp only [List.nil_append]
      rw [out_self ok.out]
    have hf := feeds_p h (ok.ld hr)
    rw [eb]
    have HH := Lib.hid h
    obtain ⟨lv, pf, hv⟩ := h
    have c2 : w.cell? ⟨A, 2, none⟩ = some (.int .i64 b.role) := hv.cell 2
    have hmf : ∀ (fn : Fn) (first cap : Array Value) (w : World), (Instr.makeFunc fn first cap).run Try.prog w = .ok (.func fn first cap) w := fun _ _ _ _ => rfl
    clear hv eb
    go_enter Try.func28, Try.ntmps28
    go_wp2_with fail
    refine hf.mono ?_
    rintro e w1 ⟨ov, rfl, O, q1, q2, q3⟩
    have HQ : Hid (Po w w1 A S b b.feeds ov) := Po.of (HH.out.on q3) (Fr.ofBelow S q3) hlt q1 q2
    clear hf q1 q2 q3
    go_wp2
    go_ret
    exact ⟨ov, rfl, HQ.out⟩
  · have eb : b.beat = (b, []) := by
      unfold Bs.beat
      rw [if_neg hr]
      exact Bs.sent_so b ok.out
    rw [eb]
    have HH := Lib.hid h
    obtain ⟨lv, pf, hv⟩ := h
    have c2 : w.cell? ⟨A, 2, none⟩ = some (.int .i64 b.role) := hv.cell 2
    clear hv eb
    go_enter Try.func28, Try.ntmps28
    go_wp2
    go_ret
    exact ⟨_, rfl, Po.none HH.out⟩
set_option maxHeartbeats 1000000 in
theorem propose_p (h : Pb w A S b) (ok : Ok b) (hz : b.log.length + 1 ≤ 900000) (at' born : Int) (text : ByteArray) : Calls Try.prog 29 #[.pointer (some ⟨A, 0, none⟩), .int .i64 at', .int .i64 born, .string text] w fun e w' => ∃ ov, e = .returned (.tuple #[.int .i64 (b.propose at' born text).1, ov]) ∧ Po w w' A S (b.propose at' born text).2.1 (b.propose at' born text).2.2 ov := by
  by_cases hr : b.role = 2
  · have hwr := write_p h ok.inv (ok.ld hr) hz ⟨b.term, at', born, text⟩
    obtain ⟨X, hX⟩ : ∃ X, b.put (b.last + 1) [⟨b.term, at', born, text⟩] = X := ⟨_, rfl⟩
    have hXo : X.out = [] := by rw [← hX]; exact ok.out
    have eb : b.propose at' born text = (X.last, { X.settleC with out := [] }, X.feeds ++ X.settleM) := by
      unfold Bs.propose
      rw [if_pos hr, hX, Bs.all_sent X hXo]
    rw [eb]
    rw [hX] at hwr
    obtain ⟨lv, pf, hv⟩ := h
    have c0 : w.cell? ⟨A, 0, none⟩ = some (.int .i64 b.term) := hv.cell 0
    have c2 : w.cell? ⟨A, 2, none⟩ = some (.int .i64 b.role) := hv.cell 2
    clear hv eb
    go_enter Try.func29, Try.ntmps29
    go_wp2_with fail
    refine hwr.mono ?_
    rintro e w1 ⟨ov, rfl, hP⟩
    obtain ⟨S2, B, O, k1, k2, k3, k4, k5, k6, k7⟩ := hP
    have HQ : Hid (Po w w1 A S { X.settleC with out := [] } (X.feeds ++ X.settleM) ov) := Po.unsay ⟨S2, B, O, k1, k2, k3, k4, k5, k6, k7⟩ _
    obtain ⟨lv1, pf1, hv1⟩ := k1
    have e5 : X.settleC.last = X.last := by unfold Bs.settleC; split <;> rfl
    have d5 : w1.cell? ⟨A, 5, none⟩ = some (.int .i64 X.last) := by rw [← e5]; exact hv1.cell 5
    obtain ⟨ad, cap, hov⟩ := own_shape k7.own
    subst hov
    clear hwr hv1 k2 k3 k4 k5 k6 k7 e5 c0 c2
    go_wp2
    refine bodyPost_ret (v := .tuple #[.int .i64 X.last, .slice ad O.length cap]) (by simp [results, Try.results29, go_sem]) rfl ?_
    exact ⟨_, rfl, HQ.out⟩
  · have eb : b.propose at' born text = (0, b, []) := if_neg hr
    rw [eb]
    have HH := Lib.hid h
    obtain ⟨lv, pf, hv⟩ := h
    have c2 : w.cell? ⟨A, 2, none⟩ = some (.int .i64 b.role) := hv.cell 2
    clear hv eb
    go_enter Try.func29, Try.ntmps29
    go_wp2
    refine bodyPost_ret (v := .tuple #[.int .i64 0, .slice none 0 0]) (by simp [results, Try.results29, go_sem]) rfl ?_
    exact ⟨_, rfl, Po.none HH.out⟩
theorem st_has (i n : Nat) (hi : i < 5) : ((List.replicate 5 false).set i true).getD n false = decide (n = i) := by
  rw [List.getD_eq_getElem?_getD]
  by_cases h : n = i
  · subst h
    rw [List.getElem?_set_self (by simpa using hi)]
    simp
  · rw [List.getElem?_set_ne (Ne.symm h), List.getElem?_replicate, decide_eq_false h]
    split <;> rfl
/-- Its own vote alone. -/
theorem stand_votes {b : Bs} (hid : b.id < b.size) (hs : b.size ≤ 5) : b.stand.votes b.size = 1 := by
  have key : ∀ n, n ≤ b.size → b.stand.votes n = if b.id < n then 1 else 0 := by
    intro n
    induction n with
    | zero => intro _; rfl
    | succ n ih =>
      intro hn
      show b.stand.votes n + (if ((List.replicate 5 false).set b.id true).getD n false then 1 else 0) = _
      rw [ih (by omega), st_has b.id n (by omega)]
      by_cases h : n = b.id
      · rw [if_neg (show ¬ b.id < n by omega), if_pos (show b.id < n + 1 by omega), decide_eq_true h]
        rfl
      · rw [decide_eq_false h]
        by_cases q : b.id < n
        · rw [if_pos q, if_pos (show b.id < n + 1 by omega)]; rfl
        · rw [if_neg q, if_neg (show ¬ b.id < n + 1 by omega)]; rfl
  rw [key b.size (Nat.le_refl _), if_pos hid]
theorem stand_hs {b : Bs} (hid : b.id < b.size) (hs : b.size ≤ 5) : b.stand.Hs := by
  intro k hk
  have hk' : b.size ≤ k := hk
  show ((List.replicate 5 false).set b.id true).getD k false = false
  rw [st_has b.id k (by omega), decide_eq_false (by omega)]
theorem timeout_eq {b : Bs} (ok : Ok b) (hr : b.role ≠ 2) : b.timeout = if b.size = 1 then ({ (led b.stand).settleC with out := [] }, (led b.stand).feeds ++ (led b.stand).settleM) else (b.stand, oth b.id (fun k => mk b.stand (askM b.stand k)) b.size) := by
  have hid := ok.inv.idl
  have hv := stand_votes hid ok.inv.sz
  have hso : b.stand.out = [] := ok.out
  unfold Bs.timeout
  rw [if_neg hr, Bs.askTo_eq, hso, List.nil_append]
  have hvY : ({ b.stand with out := oth b.stand.id (fun k => mk b.stand (askM b.stand k)) b.size } : Bs).votes b.size = 1 := (Bs.votes_out b.stand _ b.size).trans hv
  by_cases h1 : b.size = 1
  · have h0 : b.id = 0 := by omega
    have eo : oth b.stand.id (fun k => mk b.stand (askM b.stand k)) b.size = [] := by
      rw [h1]
      show (if 0 = b.id then [] else _) = []
      rw [if_pos h0.symm]
    rw [if_pos h1, eo, show ({ b.stand with out := [] } : Bs) = b.stand from out_self hso]
    have ec : b.stand.count = (led b.stand).feedAll.settle := by
      unfold Bs.count
      rw [if_neg (show ¬ 2 * b.stand.votes b.stand.size ≤ b.stand.size by show ¬ 2 * b.stand.votes b.size ≤ b.size; omega)]
      rfl
    rw [ec]
    exact Bs.all_sent (led b.stand) hso
  · rw [if_neg h1]
    obtain ⟨Y, hY⟩ : ∃ Y, ({ b.stand with out := oth b.stand.id (fun k => mk b.stand (askM b.stand k)) b.size } : Bs) = Y := ⟨_, rfl⟩
    rw [hY] at hvY ⊢
    have hYs : Y.size = b.size := by rw [← hY]; rfl
    have ec : Y.count = Y := by
      unfold Bs.count
      rw [if_pos (show 2 * Y.votes Y.size ≤ Y.size by rw [hYs, hvY]; omega)]
    rw [ec, ← hY]
    unfold Bs.sent
    simp only
    rw [show ({ b.stand with out := [] } : Bs) = b.stand from out_self hso]
    rfl
end
end Go.Proofs.Ytmiagjcihmenfaa
