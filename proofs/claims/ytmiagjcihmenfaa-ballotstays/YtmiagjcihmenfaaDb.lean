/- The walks of the document's TermAt, sent, send. -/
import Derived.Test.YtmiagjcihmenfaaDa
namespace Go.Proofs.Ytmiagjcihmenfaa
open Go.RowKit

section
variable {w w' : World} {A : Nat} {S T : Nat → Prop} {b : Bs} {lv ov : Value} {O : List (Ms × Value)}
theorem Rb.drewN (h : Rb w A S b) (k : Nat) : Rb (w.drewN k) A S b := h.on (below_draw (Below.refl _ _) k)
set_option maxHeartbeats 2000000 in
set_option maxRecDepth 100000 in
theorem term_any (h : Rb w A S b) (i : Int) : Calls Try.prog 56 #[.pointer (some ⟨A, 0, none⟩), .int .i64 i] w fun e w' => e = .returned (.int .i64 (b.termAt i)) ∧ ∃ n, w' = w.drewN n := by
  have hlast := last_any h
  have h0 := h
  obtain ⟨lv, ov, O, h⟩ := h
  have c6 : w.cell? ⟨A, 6, none⟩ = some (.int .i64 b.base) := h.cell 6
  have c7 : w.cell? ⟨A, 7, none⟩ = some (.int .i64 b.baseTerm) := h.cell 7
  have b0 := h.b0
  have b1 := h.b1
  by_cases hb : i = b.base
  · have e : b.termAt i = b.baseTerm := by rw [hb]; exact Bs.termAt_base b
    rw [e]
    clear e h h0
    go_enter Try.func56, Try.ntmps56
    go_wp2
    go_ret
    exact ⟨rfl, 0, rfl⟩
  · by_cases hlt : i < b.base
    · have e : b.termAt i = -1 := Bs.termAt_none (.inl hlt)
      rw [e]
      clear e h h0
      go_enter Try.func56, Try.ntmps56
      go_wp2
      go_ret
      exact ⟨rfl, 0, rfl⟩
    · by_cases hgt : b.last < i
      · have e : b.termAt i = -1 := Bs.termAt_none (.inr hgt)
        rw [e]
        clear e h h0
        go_enter Try.func56, Try.ntmps56
        go_wp2_with fail
        refine hlast.mono ?_
        rintro e w1 ⟨rfl, n, rfl⟩
        clear hlast
        go_wp2
        go_ret
        exact ⟨rfl, n, rfl⟩
      · obtain ⟨k, hk⟩ : ∃ k : Nat, i = b.base + 1 + k := ⟨(i - b.base - 1).toNat, by omega⟩
        have hkl : k < b.log.length := by unfold Bs.last at hgt; omega
        have e : b.termAt i = b.log[k].term := by
          unfold Bs.termAt Bs.at?
          rw [if_neg hb, if_pos (by omega), show (i - b.base - 1).toNat = k by omega, List.getElem?_eq_getElem hkl]
        rw [e]
        obtain ⟨y, hy⟩ : ∃ y, b.log[k].term = y := ⟨_, rfl⟩
        rw [hy]
        have l1 := h.len
        have w1 : i - b.base - 1 = (k : Int) := by omega
        have w2 : (0 : Int) ≤ k := by omega
        have w3 : (k : Int) < b.log.length := by omega
        have w4 : b.base < i := by omega
        have w5 : i ≤ 4398047511105 := by unfold Bs.last at hgt; omega
        have c9 : w.cell? ⟨A, 9, none⟩ = some lv := h.cell 9
        obtain ⟨ad, cap, rfl, _, q1, q2, q3⟩ := h.log
        obtain ⟨g, o, rfl, _, _, x0, x1, x2, x3⟩ := q3 k hkl
        rw [hy] at x0
        clear hk hy e h h0 q3
        go_enter Try.func56, Try.ntmps56
        go_wp2_with fail
        refine hlast.mono ?_
        rintro e w1 ⟨rfl, n, rfl⟩
        clear hlast
        go_wp2
        go_quiet (fail)
        go_wp2
        go_ret
        exact ⟨rfl, _, World.drewN_drewN ..⟩
end
end Go.Proofs.Ytmiagjcihmenfaa
