/- The walk of the program's copied. -/
import Derived.Test.YtmiagjcihmenfaaPc
namespace Go.Proofs.Ytmiagjcihmenfaa
open Go.RowKit

section
variable {w w' : World} {A : Nat} {S T : Nat → Prop} {b : Bs} {lv : Value} {pf : Int}
theorem enC_part (L : List En) (x n j : Nat) (hx : x + n ≤ L.length) (hj : j < n * 4) : (enC ((L.drop x).take n))[j]? = (enC L)[x * 4 + j]? := by
  have e : enC L = enC (L.take x) ++ (enC ((L.drop x).take n) ++ enC ((L.drop x).drop n)) := by
    rw [← enC_append, ← enC_append, List.take_append_drop, List.take_append_drop]
  have l1 : (enC (L.take x)).length = x * 4 := by rw [enC_len]; simp; omega
  have l2 : (enC ((L.drop x).take n)).length = n * 4 := by rw [enC_len]; simp; omega
  rw [e, List.getElem?_append_right (by omega), l1, List.getElem?_append_left (by omega), show x * 4 + j - x * 4 = j by omega]
set_option maxHeartbeats 2000000 in
theorem copied_any (h : Pb w A S b) (fr to : Int) (h1 : b.base < fr) (h2 : fr ≤ to + 1) (h3 : to ≤ b.last) : Calls Try.prog 39 #[.pointer (some ⟨A, 0, none⟩), .int .i64 fr, .int .i64 to] w fun e w' => ∃ v, e = .returned v ∧ Below w.heap.size w w' ∧ w'.ownsRow w.heap.size 49 4 v ((b.log.drop (fr - b.base - 1).toNat).take (to + 1 - fr).toNat).length (enC ((b.log.drop (fr - b.base - 1).toNat).take (to + 1 - fr).toNat)) := by
  obtain ⟨lv, pf, h⟩ := h
  have c4 : w.cell? ⟨A, 4, none⟩ = some (.int .i64 b.base) := h.cell 4
  have c11 : w.cell? ⟨A, 11, none⟩ = some (lv) := h.cell 11
  have b0 := h.b0
  have b1 := h.b1
  have l1 := h.len
  have h3' : to ≤ b.base + b.log.length := h3
  obtain ⟨x, hx⟩ : ∃ x : Nat, fr = b.base + 1 + x := ⟨(fr - b.base - 1).toNat, by omega⟩
  obtain ⟨y, hy⟩ : ∃ y : Nat, to = b.base + y := ⟨(to - b.base).toNat, by omega⟩
  obtain ⟨x1, hx1⟩ : ∃ x1 : Nat, x + 1 = x1 := ⟨_, rfl⟩
  have w1 : IntKind.i64.wrap (fr - b.base) = (x1 : Int) := by rw [IntKind.wrap_i64]; omega
  have w2 : IntKind.i64.wrap ((x1 : Int) - 1) = (x : Int) := by rw [IntKind.wrap_i64]; omega
  have w3 : IntKind.i64.wrap (to - b.base) = (y : Int) := by rw [IntKind.wrap_i64]; omega
  have w4 : (0 : Int) ≤ x := by omega
  have w5 : (x : Int) ≤ y := by omega
  have ed : (fr - b.base - 1).toNat = x := by omega
  have et : (to + 1 - fr).toNat = y - x := by omega
  rw [ed, et]
  have hL := h.log
  have n1 : x ≤ y := by omega
  have n2 : y ≤ b.log.length := by omega
  clear h h1 h2 h3 h3' ed et hx hy hx1
  rcases hL with ⟨e, ad, rfl⟩ | ⟨g, o, cap, cur, rfl, h0, h1, h2, h4, h5, h6⟩
  · have e0 : b.log.length = 0 := by rw [e]; rfl
    have ey : y = 0 := by omega
    have ex : x = 0 := by omega
    subst ey
    subst ex
    have hrun := append_none w.drew none ad 0 0 0 (Nat.le_refl _)
    rw [e]
    clear e e0 n2
    go_enter Try.func39, Try.ntmps39
    go_wp2
    cases ad <;>
    · go_region_law (refine step_run (.const (.slice none 0 0)) (.tmp 26) rfl rfl hrun ?_)
      all_goals
        go_wp2
        go_ret
        exact ⟨_, rfl, (Below.refl _ _).drew, World.ownsRow_nil _ _ _ _⟩
  · have w6 : (y : Int) ≤ cap := by omega
    have n3 : y ≤ cap := by omega
    have hsrc : ∀ j u, (enC ((b.log.drop x).take (y - x)))[j]? = some u → w.drew.cell? ((⟨g, o + x * 4, none⟩ : Addr).add j) = some u := by
      intro j u hu
      have hj : j < (y - x) * 4 := by
        have := (List.getElem?_eq_some_iff.1 hu).1
        rw [enC_len] at this
        simp at this
        omega
      rw [add_at]
      show w.cell? _ = _
      rw [show o + x * 4 + j = o + (x * 4 + j) by omega, h6 _ (by omega), ← hu, enC_part b.log x (y - x) j (by omega) hj]
    have hlen : ((b.log.drop x).take (y - x)).length = y - x := by simp; omega
    by_cases hc : cap = x
    · obtain rfl : y = x := by omega
      subst hc
      have hrun := append_none w.drew none (some ⟨g, o, none⟩) 0 0 0 (Nat.le_refl _)
      rw [Nat.sub_self] at hlen ⊢
      clear h6 h5 h4 hsrc
      go_enter Try.func39, Try.ntmps39
      go_wp2
      go_region_law (refine step_run (.const (.slice none 0 0)) (.tmp 26) rfl rfl hrun ?_)
      all_goals
        go_wp2
        go_ret
        exact ⟨_, rfl, (Below.refl _ _).drew, by rw [List.take_zero]; exact World.ownsRow_nil _ _ _ _⟩
    · obtain ⟨v', w', hrun, ho, hg, hat⟩ := ens_run (w := w.drew) (v := .slice none 0 0) (base := w.heap.size) (n := 0) (xs := []) (ad := some ⟨g, o + x * 4, none⟩) (m := y - x) (c := cap - x) (World.ownsRow_nil _ _ _ _) (Nat.le_refl _) (.inr ⟨_, rfl, by rw [enC_len, hlen], hsrc⟩) (enC_one _) (by omega)
      rw [Nat.zero_add, List.nil_append] at ho
      have hb : Below w.heap.size w w' := ⟨hg.os, hg.tape, hg.output, hg.size, fun k hk => hg.block k hk (by simp [Value.ownBlock])⟩
      have HO := Lib.hid ho
      have HB := Lib.hid hb
      have HL := Lib.hid hlen
      clear h6 h5 h4 hsrc ho hb hlen hg hat
      go_enter Try.func39, Try.ntmps39
      go_wp2
      go_region_law (refine step_run (.const (.slice none 0 0)) (.tmp 26) rfl rfl hrun ?_)
      all_goals
        go_wp2
        go_ret
        exact ⟨_, rfl, HB.out, by rw [HL.out]; exact HO.out⟩
end
end Go.Proofs.Ytmiagjcihmenfaa
