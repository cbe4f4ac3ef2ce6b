/- The walk of the program's put. -/
import Derived.Test.YtmiagjcihmenfaaXc
import Derived.Deep.DeepCutAuto
namespace Go.Proofs.Ytmiagjcihmenfaa
open Go.RowKit

section
variable {w w' w1 : World} {A : Nat} {S T : Nat → Prop} {b : Bs} {lv : Value} {pf : Int}
/-- A step of the program's ballot at A. -/
def Pt (w w' : World) (A : Nat) (S : Nat → Prop) (b' : Bs) : Prop := ∃ S', Pb w' A S' b' ∧ (∀ k, S' k → Gro S w w' k) ∧ Fr w w' S
theorem Pt.same (h : Pb w A S b) (hb : Below w.heap.size w w') : Pt w w' A S b := ⟨S, h.on hb, fun _ q => .inl q, Fr.ofBelow _ hb⟩
theorem Pt.start {b' : Bs} (h : Pb w' A S b') (hf : Fr w w' S) : Pt w w' A S b' := ⟨S, h, fun _ q => .inl q, hf⟩
theorem Pt.comb {w1 w2 : World} {S1 : Nat → Prop} {b2 : Bs} (h2 : ∀ k, S1 k → Gro S w w1 k) (h3 : Fr w w1 S) (k : Pt w1 w2 A S1 b2) : Pt w w2 A S b2 := by
  obtain ⟨S2, k1, k2, k3⟩ := k
  have hz := h3.size
  have kz := k3.size
  refine ⟨S2, k1, fun j q => ?_, h3.step k3 (fun j q => ?_)⟩
  · rcases k2 j q with q | q
    · rcases h2 j q with q | q
      · exact .inl q
      · exact .inr ⟨q.1, by omega⟩
    · exact .inr ⟨by omega, q.2⟩
  · rcases h2 j q with q | q
    · exact .inl q
    · exact .inr q.1
theorem Pt.step {w1 w2 : World} {b2 : Bs} (h : Fr w w1 S) (k : Pt w1 w2 A S b2) : Pt w w2 A S b2 := Pt.comb (fun _ q => .inl q) h k
theorem Pt.from (hb : Below w.heap.size w w1) (h : Pt w1 w' A S b) : Pt w w' A S b := Pt.step (Fr.ofBelow S hb) h
theorem two_setP (w : World) (A i j : Nat) (x y : Value) : Fr w ((w.setCell ⟨A, i, none⟩ x).setCell ⟨A, j, none⟩ y) (fun k => k = A) :=
  Fr.set (a := ⟨A, j, none⟩) (Fr.set (a := ⟨A, i, none⟩) (Fr.refl w (fun k => k = A)) (Or.inl rfl) x) (Or.inl rfl) y
theorem three_setP (w : World) (A i j k : Nat) (x y z : Value) : Fr w (((w.setCell ⟨A, i, none⟩ x).setCell ⟨A, j, none⟩ y).setCell ⟨A, k, none⟩ z) (fun q => q = A) :=
  Fr.set (a := ⟨A, k, none⟩) (two_setP w A i j x y) (Or.inl rfl) z
theorem four_setP (w : World) (A i j k l : Nat) (x y z u : Value) : Fr w ((((w.setCell ⟨A, i, none⟩ x).setCell ⟨A, j, none⟩ y).setCell ⟨A, k, none⟩ z).setCell ⟨A, l, none⟩ u) (fun q => q = A) :=
  Fr.set (a := ⟨A, l, none⟩) (three_setP w A i j k x y z) (Or.inl rfl) u
theorem put_end {l : List En} {i : Int} {p : Nat} {v2 : Value} {w2 W : World} {pf' : Int} (h : Pv w A S b lv pf) (hp : (i - b.base - 1).toNat = p) (h1 : b.base < i) (h2 : i ≤ b.last + 1) (hz : b.log.length + l.length ≤ 900000) (hf2 : Fr w w2 S)
    (hL : Lg w2 (b.log.take p ++ l) v2) (hn : ∀ k, lgB v2 = some k → lgB lv = some k ∨ w.heap.size ≤ k) (hW : Fr w2 W (fun k => k = A)) (hob : W.heap[A]? = some (.cells (pC (b.put i l) v2 pf') 78 (0, 0))) (hpf : pf' = if pf = 0 ∨ i < pf then i else pf) : Pt w W A S (b.put i l) := by
  have hS := h.lt
  have hA := hS A h.covA
  have hFr : Fr w W S := hf2.step hW (fun j q => .inl ((show j = A from q) ▸ h.covA))
  have hne : ∀ k, lgB v2 = some k → k ≠ A := by
    intro k hk e
    obtain ⟨cur, hc⟩ := hL.tag k hk
    rcases hn k hk with q | q
    · exact h.neA k q e
    · omega
  have hLW : Lg W (b.put i l).log v2 := by
    have e1 : (b.put i l).log = b.log.take p ++ l := by unfold Bs.put; rw [hp]
    rw [e1]
    exact hL.like (fun k hk => hW.block k (hL.lt k hk) (hne k hk))
  refine ⟨fun k => S k ∨ lgB v2 = some k, ⟨v2, pf', ⟨hob, hLW, .inl h.covA, fun k hk => .inr hk, fun k hk => ?_, ?_, h.b0, h.b1, ?_, h.idl, h.sz⟩⟩, fun k hk => ?_, hFr⟩
  · rcases hk with q | q
    · exact Nat.lt_of_lt_of_le (hS k q) hFr.size
    · exact hLW.lt k q
  · unfold Bs.put
    simp only [List.length_append, List.length_take]
    omega
  · have hl : b.last = b.base + b.log.length := rfl
    have hb0 := h.b0
    rcases h.fm with q | ⟨q1, q2⟩ | ⟨q1, q2⟩
    · exact .inl q
    · refine .inr (.inr ?_)
      rw [hpf, if_pos (.inl q1)]
      exact ⟨by omega, by show i = min b.fr i; omega⟩
    · refine .inr (.inr ?_)
      rw [hpf]
      split
      · exact ⟨by omega, by show i = min b.fr i; omega⟩
      · exact ⟨q1, by show pf = min b.fr i; omega⟩
  · rcases hk with q | q
    · exact .inl q
    · rcases hn k q with z | z
      · exact .inl (h.cov k z)
      · exact .inr ⟨z, hLW.lt k q⟩
set_option maxHeartbeats 4000000 in
set_option maxRecDepth 100000 in
theorem put_p {l : List En} {ad2 : Option Addr} {cap2 : Nat} (h : Pb w A S b) {i : Int} (h1 : b.base < i) (h2 : i ≤ b.last + 1) (hl : Es w S l (.slice ad2 l.length cap2)) (hz : b.log.length + l.length ≤ 900000) :
    Calls Try.prog 70 #[.pointer (some ⟨A, 0, none⟩), .int .i64 i, .slice ad2 l.length cap2] w fun e w' => e = .returned (.tuple #[]) ∧ Pt w w' A S (b.put i l) := by
  obtain ⟨lv, pf, h⟩ := h
  have b0 := h.b0
  have b1 := h.b1
  have l1 := h.len
  obtain ⟨p, hp⟩ : ∃ p : Nat, (i - b.base - 1).toNat = p := ⟨_, rfl⟩
  have h2' : i ≤ b.base + b.log.length + 1 := h2
  have hpl : p ≤ b.log.length := by omega
  obtain ⟨p1, hp1⟩ : ∃ p1 : Nat, p + 1 = p1 := ⟨_, rfl⟩
  have i1 : IntKind.i64.wrap (i - b.base) = (p1 : Int) := by rw [IntKind.wrap_i64]; omega
  have i5 : IntKind.i64.wrap ((p1 : Int) - 1) = (p : Int) := by rw [IntKind.wrap_i64]; omega
  have c4 : w.cell? ⟨A, 4, none⟩ = some (.int .i64 b.base) := h.cell 4
  have c11 : w.cell? ⟨A, 11, none⟩ = some (lv) := h.cell 11
  obtain ⟨ad, cap, rfl, _, _⟩ := h.log.shape
  have hdel : ∀ n, Calls Try.prog 81 #[.slice ad b.log.length cap, .int .i64 p, .int .i64 b.log.length] (w.drewN n) fun e w' => ∃ ad' cap', e = .returned (.slice ad' p cap') ∧ Lg w' (b.log.take p) (.slice ad' p cap') ∧ Fr w w' (fun k => lgB (.slice ad b.log.length cap) = some k) ∧ (∀ k, lgB (.slice ad' p cap') = some k → lgB (.slice ad b.log.length cap) = some k) := by
    intro n
    refine (delete_any (w := w.drewN n) (h.log.like (fun _ _ => rfl)) hpl).mono ?_
    rintro e w' ⟨ad', cap', rfl, q1, q2, q3⟩
    exact ⟨ad', cap', rfl, q1, ⟨q2.os, q2.tape, q2.output, q2.size, q2.block⟩, q3⟩
  have HH := Lib.hid h
  have HP := Lib.hid hp
  have HE := Lib.hid hl
  have HN : Hid (p ≤ b.log.length) := hpl
  clear h hp hp1 hl hpl h2'
  go_enter Try.func70, Try.ntmps70
  go_wp2
  go_cut [6] (fun v wx => ∃ ad1 cap1, v = .slice ad1 p cap1 ∧ Lg wx (b.log.take p) (.slice ad1 p cap1) ∧ Fr w wx (fun k => lgB (.slice ad b.log.length cap) = some k) ∧ (∀ k, lgB (.slice ad1 p cap1) = some k → lgB (.slice ad b.log.length cap) = some k))
  case first =>
    go_region_with (go_at_call 81; refine (hdel _).mono ?_; rintro e1 w1 ⟨ad1, cap1, rfl, L1, F1, N1⟩)
    all_goals
      go_wp2_with fail
      go_meet
      exact ⟨ad1, cap1, rfl, L1, F1, N1⟩
  case rest =>
    obtain ⟨ad1, cap1, rfl, L1, F1, N1⟩ := hcut
    have h := HH.out
    have hFS : Fr w wc S := F1.mono (fun k hk => h.cov k hk)
    have hblk1 : wc.heap[A]? = some (.cells (pC b (.slice ad b.log.length cap) pf) 78 (0, 0)) := (F1.block A (h.lt A h.covA) (fun q => h.neA A q rfl)).trans h.ob
    have hEs := HE.out.stays (S' := S) hFS (fun _ q => .inl q)
    obtain ⟨v2, w2, hrun, L2, F2, N2⟩ := L1.append (M := l) hEs.src (by have := HN.out; simp; omega)
    have elen : (b.log.take p).length = p := by have := HN.out; simp; omega
    have hneA : ∀ k, lgB (.slice ad1 p cap1) = some k → k ≠ A := fun k hk => h.neA k (N1 k hk)
    have hblk2 : w2.heap[A]? = some (.cells (pC b (.slice ad b.log.length cap) pf) 78 (0, 0)) := (F2.block A (blk_lt hblk1) (fun q => hneA A q rfl)).trans hblk1
    have hF2 : Fr w w2 S := hFS.step F2 (fun k hk => .inl (h.cov k (N1 k hk)))
    have hN2 : ∀ k, lgB v2 = some k → lgB (.slice ad b.log.length cap) = some k ∨ w.heap.size ≤ k := by
      intro k hk
      rcases N2 k hk with q | q
      · exact .inl (N1 k q)
      · exact .inr (Nat.le_trans F1.size q)
    obtain ⟨adn, capn, rfl, _, _⟩ := L2.shape
    have d4 : w2.cell? ⟨A, 4, none⟩ = some (.int .i64 b.base) := cell_blk hblk2 4
    have d5 : w2.cell? ⟨A, 5, none⟩ = some (.int .i64 b.last) := cell_blk hblk2 5
    have d11 : w2.cell? ⟨A, 11, none⟩ = some (.slice ad b.log.length cap) := cell_blk hblk2 11
    have d12 : w2.cell? ⟨A, 12, none⟩ = some (.bool b.touched) := cell_blk hblk2 12
    have d14 : w2.cell? ⟨A, 14, none⟩ = some (.int .i64 pf) := cell_blk hblk2 14
    have f5 : w2.frozen? ⟨A, 5, none⟩ = false := frozen_blk hblk2 5
    have f11 : w2.frozen? ⟨A, 11, none⟩ = false := frozen_blk hblk2 11
    have f12 : w2.frozen? ⟨A, 12, none⟩ = false := frozen_blk hblk2 12
    have f14 : w2.frozen? ⟨A, 14, none⟩ = false := frozen_blk hblk2 14
    obtain ⟨N, hN⟩ : ∃ N, (b.log.take p ++ l).length = N := ⟨_, rfl⟩
    obtain ⟨ls, hls⟩ : ∃ ls, b.base + (N : Int) = ls := ⟨_, rfl⟩
    have hNl : N = p + l.length := by rw [← hN, List.length_append, elen]
    have hw : IntKind.i64.wrap (b.base + (N : Int)) = ls := by have := HN.out; rw [IntKind.wrap_i64]; omega
    rw [hN] at hrun hN2
    have hlast : (b.put i l).last = ls := by
      have e1 : (b.put i l).log = b.log.take p ++ l := by unfold Bs.put; rw [HP.out]
      show b.base + ((b.put i l).log.length : Int) = ls
      rw [e1, hN, hls]
    have HL2 := Lib.hid L2
    have HF2 := Lib.hid hF2
    have HN2 := Lib.hid hN2
    have HB2 := Lib.hid hblk2
    have HLA := Lib.hid hlast
    have HEL := Lib.hid hN
    clear h hFS hblk1 hEs F2 N2 L2 hblk2 hF2 hN2 hneA L1 F1 N1 hdel c4 c11 hlast hNl hN hls elen
    have fin : ∀ W pf', Fr w2 W (fun k => k = A) → W.heap[A]? = some (.cells (pC (b.put i l) (.slice adn N capn) pf') 78 (0, 0)) → (pf' = if pf = 0 ∨ i < pf then i else pf) → Pt w W A S (b.put i l) := by
      intro W pf' q1 q2 q3
      refine put_end HH.out HP.out h1 h2 hz HF2.out HL2.out ?_ q1 ?_ q3
      · rw [HEL.out]; exact HN2.out
      · rw [HEL.out]; exact q2
    have HFI := Lib.hid fin
    clear fin h1 h2 hz
    go_wp2_with (at_builtin; refine wpl_run2 _ _ rfl (by simp [Act.eval]) (by simp [Act.eval]) hrun ?_)
    go_region
    by_cases hq0 : pf = 0
    · have hq : pf = 0 ∨ i < pf := .inl hq0
      go_wp2
      go_end0
      refine ⟨rfl, HFI.out _ i (Fr.drew (four_setP w2 A 11 5 14 12 _ _ _ _)) ?_ (by rw [if_pos hq])⟩
      have hb := HB2.out
      have e := set_blk (i := 12) (set_blk (i := 14) (set_blk (i := 5) (set_blk (i := 11) hb (.slice adn N capn)) (.int .i64 ls)) (.int .i64 i)) (.bool true)
      refine e.trans ?_
      unfold pC
      rw [HLA.out]
      rfl
    · by_cases hq1 : i < pf
      · have hq : pf = 0 ∨ i < pf := .inr hq1
        go_wp2
        go_end0
        refine ⟨rfl, HFI.out _ i (Fr.drew (four_setP w2 A 11 5 14 12 _ _ _ _)) ?_ (by rw [if_pos hq])⟩
        have hb := HB2.out
        have e := set_blk (i := 12) (set_blk (i := 14) (set_blk (i := 5) (set_blk (i := 11) hb (.slice adn N capn)) (.int .i64 ls)) (.int .i64 i)) (.bool true)
        refine e.trans ?_
        unfold pC
        rw [HLA.out]
        rfl
      · have hq : ¬ (pf = 0 ∨ i < pf) := by omega
        go_wp2
        go_end0
        refine ⟨rfl, HFI.out _ pf (Fr.drew (three_setP w2 A 11 5 12 _ _ _)) ?_ (by rw [if_neg hq])⟩
        have hb := HB2.out
        have e := set_blk (i := 12) (set_blk (i := 5) (set_blk (i := 11) hb (.slice adn N capn)) (.int .i64 ls)) (.bool true)
        refine e.trans ?_
        unfold pC
        rw [HLA.out]
        rfl
end
end Go.Proofs.Ytmiagjcihmenfaa
