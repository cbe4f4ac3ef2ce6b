/- The walks of the program's behind and rebase. -/
import Derived.Test.YtmiagjcihmenfaaPf
namespace Go.Proofs.Ytmiagjcihmenfaa
open Go.RowKit

section
variable {w w' w1 : World} {A : Nat} {S T : Nat → Prop} {b : Bs} {lv : Value} {pf : Int}
/-- What is left where the first n entries are let go of. -/
theorem Lg.left {g o cap n m : Nat} {cur : Array Value} {L : List En} (hm : L.length = m) (h1 : m ≤ cap) (h2 : cap ≤ maxLen) (h3 : w.heap[g]? = some (.cells cur 49 (0, 0))) (h4 : cur.size = o + cap * 4) (h5 : ∀ j, j < m * 4 → w.cell? ⟨g, o + j, none⟩ = (enC L)[j]?) (hn : n < cap) (hnm : n ≤ m) : Lg (w.setCells g o (zE n)) (L.drop n) (.slice (some ⟨g, o + n * 4, none⟩) (m - n) (cap - n)) := by
  obtain ⟨cur', c1, c2⟩ := setCells_blk g (zE n) o w cur h3
  have hl : (L.drop n).length = m - n := by simp; omega
  refine .inr ⟨g, o + n * 4, cap - n, cur', by rw [hl], by omega, by omega, by omega, c1, by omega, fun j hj => ?_⟩
  rw [hl] at hj
  rw [World.cell?_setCells_out g _ _ w _ (fun _ _ => .inr (by rw [zE_len]; show _ ≤ o + n * 4 + j; omega)), show o + n * 4 + j = o + (n * 4 + j) by omega, h5 _ (by omega)]
  have e : enC L = enC (L.take n) ++ enC (L.drop n) := by rw [← enC_append, List.take_append_drop]
  have l1 : (enC (L.take n)).length = n * 4 := by rw [enC_len]; simp; omega
  rw [e, List.getElem?_append_right (by omega), l1, show n * 4 + j - n * 4 = j by omega]
theorem clear_none (w : World) (ad : Option Addr) (ty : TypeId) : (Builtin.clear_ #[32] ty #[.slice ad 0 0]).run Try.prog w = .ok (.tuple #[]) w := by
  cases ad <;> simp [Builtin.clear_, run_underlying Try.underlying32]
set_option maxHeartbeats 1000000 in
set_option maxRecDepth 100000 in
theorem behind_any (h : Pv w A S b lv pf) {i : Int} (h1 : b.base ≤ i) (h2 : i ≤ b.last) : Calls Try.prog 54 #[.pointer (some ⟨A, 0, none⟩), .int .i64 i] w fun e w' => ∃ ad cap, e = .returned (.slice ad (b.log.length - (i - b.base).toNat) cap) ∧ Lg w' (b.log.drop (i - b.base).toNat) (.slice ad (b.log.length - (i - b.base).toNat) cap) ∧ Fr w w' (fun k => lgB lv = some k) ∧ (∀ k, lgB (.slice ad (b.log.length - (i - b.base).toNat) cap) = some k → lgB lv = some k) := by
  have b0 := h.b0
  have b1 := h.b1
  have l1 := h.len
  have h2' : i ≤ b.base + b.log.length := h2
  obtain ⟨n, hn⟩ : ∃ n : Nat, (i - b.base).toNat = n := ⟨_, rfl⟩
  rw [hn]
  have hnl : n ≤ b.log.length := by omega
  have i1 : IntKind.i64.wrap (i - b.base) = (n : Int) := by rw [IntKind.wrap_i64]; omega
  have i1' : wrap64 (i - b.base) = (n : Int) := (IntWalk.wrap64_in _ ⟨by omega, by omega⟩).trans (by omega)
  have n0 : (0 : Int) ≤ n := by omega
  have c4 : w.cell? ⟨A, 4, none⟩ = some (.int .i64 b.base) := h.cell 4
  have c11 : w.cell? ⟨A, 11, none⟩ = some (lv) := h.cell 11
  rcases h.log with ⟨e, ad, rfl⟩ | ⟨g, o, cap, cur, rfl, g0, g1, g2, g3, g4, g5⟩
  · have e0 : b.log.length = 0 := by rw [e]; rfl
    have en : n = 0 := by omega
    subst en
    have hL := h.log
    rw [e0]
    rw [e]
    clear h h1 h2 h2' hn e0 e hnl
    have hcl := fun ty => clear_none w ad ty
    cases ad <;>
    · go_enter Try.func54, Try.ntmps54
      go_wp2_with (at_builtin; refine wpl_clear _ rfl (hcl _) ?_)
      go_ret
      exact ⟨_, 0, rfl, .inl ⟨rfl, _, rfl⟩, Fr.refl _ _, fun k hk => hk⟩
  · have k1 : (n : Int) ≤ cap := by omega
    have k2 : n ≤ cap := by omega
    have hcl := fun ty c => clear_run (w := w) (n := n) (o := o) (cap := c) ty g3 (by omega)
    have hA : A ≠ g := (h.neA g (lgB_pos g0)).symm
    have x11 : (w.setCells g o (zE n)).cell? ⟨A, 11, none⟩ = some (.slice (some ⟨g, o, none⟩) b.log.length cap) := by
      rw [World.cell?_setCells_out g _ _ w _ (fun e _ => absurd e hA)]
      exact c11
    have hfr := setCells_fr g o (zE n) w (S := fun k => lgB (.slice (some ⟨g, o, none⟩) b.log.length cap) = some k) (lgB_pos g0)
    by_cases hc : cap = n
    · have en : n = b.log.length := by omega
      have HF := Lib.hid hfr
      have HC := Lib.hid hc
      have HE := Lib.hid en
      clear h h1 h2 h2' hn hfr g3 g4 g5 hc en
      go_enter Try.func54, Try.ntmps54
      go_wp2_with (at_builtin; refine wpl_clear _ rfl (hcl _ _) ?_)
      go_ret
      have e1 := HC.out
      have e2 := HE.out
      refine ⟨some ⟨g, o, none⟩, 0, rfl, .inl ⟨List.drop_eq_nil_of_le (by omega), some ⟨g, o, none⟩, ?_⟩, ?_, fun k hk => ?_⟩
      · rw [show b.log.length - n = 0 by omega]
      · have hf := HF.out
        rw [e1] at hf
        exact hf
      · rw [lgB_zero] at hk
        cases hk
    · have hlt : n < cap := by omega
      have hLL := Lg.left (n := n) rfl g1 g2 g3 g4 g5 hlt hnl
      have HF := Lib.hid hfr
      have HL := Lib.hid hLL
      clear h h1 h2 h2' hn hfr g3 g4 g5 hLL
      go_enter Try.func54, Try.ntmps54
      go_wp2_with (at_builtin; refine wpl_clear _ rfl (hcl _ _) ?_)
      go_ret
      refine ⟨_, _, rfl, HL.out, HF.out, fun k hk => ?_⟩
      rw [lgB_pos (by omega)] at hk ⊢
      exact hk
theorem rebase_blk {i tm ls cm : Int} {snap : ByteArray} {ad : Option Addr} {N cap : Nat} {b' : Bs} (hb : w.heap[A]? = some (.cells (pC b lv pf) 78 (0, 0))) (hp : (((((((((pC b lv pf).setIfInBounds 4 (.int .i64 i)).setIfInBounds 9 (.int .i64 tm)).setIfInBounds 10 (.string snap)).setIfInBounds 11 (.slice ad N cap)).setIfInBounds 5 (.int .i64 ls)).setIfInBounds 6 (.int .i64 cm)).setIfInBounds 12 (.bool true)).setIfInBounds 13 (.bool true)) = pC b' (.slice ad N cap) pf) :
    ((((((((w.setCell ⟨A, 4, none⟩ (.int .i64 i)).setCell ⟨A, 9, none⟩ (.int .i64 tm)).setCell ⟨A, 10, none⟩ (.string snap)).setCell ⟨A, 11, none⟩ (.slice ad N cap)).setCell ⟨A, 5, none⟩ (.int .i64 ls)).setCell ⟨A, 6, none⟩ (.int .i64 cm)).setCell ⟨A, 12, none⟩ (.bool true)).setCell ⟨A, 13, none⟩ (.bool true)).heap[A]? = some (.cells (pC b' (.slice ad N cap) pf) 78 (0, 0)) ∧ Fr w ((((((((w.setCell ⟨A, 4, none⟩ (.int .i64 i)).setCell ⟨A, 9, none⟩ (.int .i64 tm)).setCell ⟨A, 10, none⟩ (.string snap)).setCell ⟨A, 11, none⟩ (.slice ad N cap)).setCell ⟨A, 5, none⟩ (.int .i64 ls)).setCell ⟨A, 6, none⟩ (.int .i64 cm)).setCell ⟨A, 12, none⟩ (.bool true)).setCell ⟨A, 13, none⟩ (.bool true)) (fun k => k = A) := by
  have e := set_blk (i := 13) (set_blk (i := 12) (set_blk (i := 6) (set_blk (i := 5) (set_blk (i := 11) (set_blk (i := 10) (set_blk (i := 9) (set_blk (i := 4) (hb) (.int .i64 i)) (.int .i64 tm)) (.string snap)) (.slice ad N cap)) (.int .i64 ls)) (.int .i64 cm)) (.bool true)) (.bool true)
  rw [hp] at e
  exact ⟨e, Fr.set (a := ⟨A, 13, none⟩) (Fr.set (a := ⟨A, 12, none⟩) (Fr.set (a := ⟨A, 6, none⟩) (Fr.set (a := ⟨A, 5, none⟩) (Fr.set (a := ⟨A, 11, none⟩) (Fr.set (a := ⟨A, 10, none⟩) (Fr.set (a := ⟨A, 9, none⟩) (Fr.set (a := ⟨A, 4, none⟩) (Fr.refl w (fun k => k = A)) (Or.inl rfl) _) (Or.inl rfl) _) (Or.inl rfl) _) (Or.inl rfl) _) (Or.inl rfl) _) (Or.inl rfl) _) (Or.inl rfl) _) (Or.inl rfl) _⟩
theorem rebase_pC {i tm ls cm : Int} {snap : ByteArray} {v : Value} {L : List En} (hl : i + (L.length : Int) = ls) (hm : max b.commit i = cm) : (((((((((pC b lv pf).setIfInBounds 4 (.int .i64 i)).setIfInBounds 9 (.int .i64 tm)).setIfInBounds 10 (.string snap)).setIfInBounds 11 v).setIfInBounds 5 (.int .i64 ls)).setIfInBounds 6 (.int .i64 cm)).setIfInBounds 12 (.bool true)).setIfInBounds 13 (.bool true)) = pC { b.rebase i tm snap L with commit := max b.commit i } v pf := by
  subst hl
  subst hm
  unfold pC
  simp [Bs.rebase, Bs.last]
set_option maxHeartbeats 1000000 in
set_option maxRecDepth 100000 in
theorem rebase_p {i tm : Int} {snap : ByteArray} {L : List En} {ad : Option Addr} {cap : Nat} (hob : w.heap[A]? = some (.cells (pC b lv pf) 78 (0, 0))) (hL : Lg w L (.slice ad L.length cap)) (hcA : S A) (hcov : ∀ k, lgB (.slice ad L.length cap) = some k → S k) (hlt : ∀ k, S k → k < w.heap.size) (hl : L.length ≤ 900000) (h0 : 0 ≤ i) (h1 : i ≤ 4398046511104) (hid : b.id < b.size) (hsz : b.size ≤ 5) :
    Calls Try.prog 52 #[.pointer (some ⟨A, 0, none⟩), .int .i64 i, .int .i64 tm, .string snap, .slice ad L.length cap] w fun e w' => e = .returned (.tuple #[]) ∧ Pb w' A S { b.rebase i tm snap L with commit := max b.commit i } ∧ Fr w w' S := by
  have hneA : ∀ k, lgB (.slice ad L.length cap) = some k → k ≠ A := by
    intro k hk e
    subst e
    obtain ⟨cur, hc⟩ := hL.tag k hk
    exact tag_ne hob hc (by decide) rfl
  have d4 : w.cell? ⟨A, 4, none⟩ = some (.int .i64 b.base) := cell_blk hob 4
  have d5 : w.cell? ⟨A, 5, none⟩ = some (.int .i64 b.last) := cell_blk hob 5
  have d6 : w.cell? ⟨A, 6, none⟩ = some (.int .i64 b.commit) := cell_blk hob 6
  have d9 : w.cell? ⟨A, 9, none⟩ = some (.int .i64 b.baseTerm) := cell_blk hob 9
  have d10 : w.cell? ⟨A, 10, none⟩ = some (.string b.snap) := cell_blk hob 10
  have d11 : w.cell? ⟨A, 11, none⟩ = some lv := cell_blk hob 11
  have d12 : w.cell? ⟨A, 12, none⟩ = some (.bool b.touched) := cell_blk hob 12
  have d13 : w.cell? ⟨A, 13, none⟩ = some (.bool b.whole) := cell_blk hob 13
  have f4 : w.frozen? ⟨A, 4, none⟩ = false := frozen_blk hob 4
  have f5 : w.frozen? ⟨A, 5, none⟩ = false := frozen_blk hob 5
  have f6 : w.frozen? ⟨A, 6, none⟩ = false := frozen_blk hob 6
  have f9 : w.frozen? ⟨A, 9, none⟩ = false := frozen_blk hob 9
  have f10 : w.frozen? ⟨A, 10, none⟩ = false := frozen_blk hob 10
  have f11 : w.frozen? ⟨A, 11, none⟩ = false := frozen_blk hob 11
  have f12 : w.frozen? ⟨A, 12, none⟩ = false := frozen_blk hob 12
  have f13 : w.frozen? ⟨A, 13, none⟩ = false := frozen_blk hob 13
  obtain ⟨N, hN⟩ : ∃ N, L.length = N := ⟨_, rfl⟩
  obtain ⟨ls, hls⟩ : ∃ ls, i + (N : Int) = ls := ⟨_, rfl⟩
  have hw : IntKind.i64.wrap (i + (N : Int)) = ls := by rw [IntKind.wrap_i64]; omega
  have hw' : wrap64 (i + (N : Int)) = ls := (IntWalk.wrap64_in _ ⟨by omega, by omega⟩).trans hls
  have fin : ∀ W, Fr w W (fun k => k = A) → W.heap[A]? = some (.cells (pC { b.rebase i tm snap L with commit := max b.commit i } (.slice ad N cap) pf) 78 (0, 0)) → Pb W A S { b.rebase i tm snap L with commit := max b.commit i } ∧ Fr w W S := by
    intro W q1 q2
    refine ⟨⟨.slice ad N cap, pf, ⟨q2, ?_, hcA, by rw [← hN]; exact hcov, fun k hk => Nat.lt_of_lt_of_le (hlt k hk) q1.size, hl, h0, h1, .inl rfl, hid, hsz⟩⟩, q1.mono (fun k hk => hk ▸ hcA)⟩
    show Lg W L _
    rw [← hN]
    exact hL.like (fun k hk => q1.block k (hL.lt k hk) (hneA k hk))
  have HFI := Lib.hid fin
  have HOB := Lib.hid hob
  have HLS := Lib.hid hls
  have HNN := Lib.hid hN
  rw [hN]
  clear fin hob hls hN hL hcov hlt hneA hl
  go_enter Try.func52, Try.ntmps52
  by_cases hcm : b.commit < i
  · go_wp2
    go_end0
    have hx := rebase_blk HOB.out (rebase_pC (b := b) (lv := lv) (pf := pf) (tm := tm) (snap := snap) (v := .slice ad N cap) (L := L) (cm := i) (by rw [HNN.out, HLS.out]) (by omega))
    exact ⟨rfl, HFI.out _ hx.2 hx.1⟩
  · go_wp2
    go_end0
    have hx := rebase_blk HOB.out (rebase_pC (b := b) (lv := lv) (pf := pf) (tm := tm) (snap := snap) (v := .slice ad N cap) (L := L) (cm := b.commit) (by rw [HNN.out, HLS.out]) (by omega))
    exact ⟨rfl, HFI.out _ hx.2 hx.1⟩
end
end Go.Proofs.Ytmiagjcihmenfaa
