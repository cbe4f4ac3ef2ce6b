/- The walks of the program's New, Cut, Entry; a ballot that is none. -/
import Derived.Test.YtmiagjcihmenfaaQm
import Derived.Test.YtmiagjcihmenfaaPh
namespace Go.Proofs.Ytmiagjcihmenfaa
open Go.RowKit

section
variable {w w' : World} {A : Nat} {S T : Nat → Prop} {b : Bs} {lv : Value} {pf : Int}
theorem new_no (w : World) (id size : Int) (h : ¬ (1 ≤ size ∧ size ≤ 5 ∧ 0 ≤ id ∧ id < size)) : Calls Try.prog 11 #[.int .i64 id, .int .i64 size] w fun e w' => e = .returned (.tuple #[.pointer none, .int .i64 1]) ∧ w' = w := by
  have h1 := within_any w size 1 5
  have h2 := within_any w id 0 (size - 1)
  by_cases q1 : 1 ≤ size ∧ size ≤ 5
  · rw [decide_eq_true q1.1, decide_eq_true q1.2] at h1
    have hb : (decide (0 ≤ id) && decide (id ≤ size - 1)) = false := by
      by_cases z : 0 ≤ id
      · rw [decide_eq_false (show ¬ id ≤ size - 1 by omega), Bool.and_false]
      · rw [decide_eq_false z, Bool.false_and]
    rw [hb] at h2
    obtain ⟨q1a, q1b⟩ := q1
    clear hb h
    go_enter Try.func11, Try.ntmps11
    go_wp2_with fail
    refine h1.mono ?_
    rintro e1 w1 ⟨rfl, rfl⟩
    go_wp2_with fail
    refine h2.mono ?_
    rintro e2 w2 ⟨rfl, rfl⟩
    clear h1 h2
    go_wp2
    refine bodyPost_ret (v := .tuple #[.pointer none, .int .i64 1]) (by simp [results, Try.results11, go_sem]) rfl ?_
    exact ⟨rfl, rfl⟩
  · have hb : (decide (1 ≤ size) && decide (size ≤ 5)) = false := by
      by_cases z : 1 ≤ size
      · rw [decide_eq_false (show ¬ size ≤ 5 from fun y => q1 ⟨z, y⟩), Bool.and_false]
      · rw [decide_eq_false z, Bool.false_and]
    rw [hb] at h1
    clear hb h q1
    go_enter Try.func11, Try.ntmps11
    go_wp2_with fail
    refine h1.mono ?_
    rintro e1 w1 ⟨rfl, rfl⟩
    clear h1 h2
    go_wp2
    refine bodyPost_ret (v := .tuple #[.pointer none, .int .i64 1]) (by simp [results, Try.results11, go_sem]) rfl ?_
    exact ⟨rfl, rfl⟩
theorem new_ok (id size : Nat) (h1 : 1 ≤ size) (h2 : size ≤ 5) (h3 : id < size) : Ok (Bs.new id size) := by
  refine ⟨⟨h3, h2, rfl, rfl, rfl, Int.le_refl _, Int.le_refl _, Int.le_refl _, Int.le_refl _, ?_, Int.le_refl _⟩, ?_, (fun q => by cases q), rfl⟩
  · show (-1 : Int) < size
    omega
  · intro k _
    show (List.replicate 5 false).getD k false = false
    rw [List.getD_eq_getElem?_getD, List.getElem?_replicate]
    split <;> rfl
theorem new_yes (w : World) (id size : Nat) (h1 : 1 ≤ size) (h2 : size ≤ 5) (h3 : id < size) : Calls Try.prog 11 #[.int .i64 id, .int .i64 size] w fun e w' => e = .returned (.tuple #[.pointer (some ⟨w.heap.size, 0, none⟩), .int .i64 0]) ∧ Pb w' w.heap.size (fun k => k = w.heap.size) (Bs.new id size) ∧ Below w.heap.size w w' := by
  have c1 := within_any w size 1 5
  have c2 := within_any w id 0 (size - 1)
  rw [decide_eq_true (show (1 : Int) ≤ size by omega), decide_eq_true (show (size : Int) ≤ 5 by omega)] at c1
  rw [decide_eq_true (show (0 : Int) ≤ id by omega), decide_eq_true (show (id : Int) ≤ size - 1 by omega)] at c2
  have s1 : (1 : Int) ≤ size := by omega
  have s5 : (size : Int) ≤ 5 := by omega
  have hP : Pb (w.alloc (.cells (pC (Bs.new id size) (.slice none 0 0) 0) 78)) w.heap.size (fun k => k = w.heap.size) (Bs.new id size) := by
    refine ⟨.slice none 0 0, 0, ⟨heap_alloc_new w _, Lg.nil _, rfl, fun k hk => (by rw [lgB_zero] at hk; cases hk), fun k hk => ?_, Nat.zero_le _, Int.le_refl _, by show (0 : Int) ≤ _; omega, .inr (.inl ⟨rfl, rfl⟩), h3, h2⟩⟩
    rw [show k = w.heap.size from hk]
    simp
  have HP := Lib.hid hP
  clear hP
  go_enter Try.func11, Try.ntmps11
  go_wp2_with fail
  refine c1.mono ?_
  rintro e1 w1 ⟨rfl, rfl⟩
  go_wp2_with fail
  refine c2.mono ?_
  rintro e2 w2 ⟨rfl, rfl⟩
  clear c1 c2
  go_wp2
  refine bodyPost_ret (v := .tuple #[.pointer (some ⟨w2.heap.size, 0, none⟩), .int .i64 0]) (by simp [results, Try.results11, go_sem]) rfl ?_
  exact ⟨rfl, HP.out, (Below.refl _ _).alloc (Nat.le_refl _) _⟩
set_option maxHeartbeats 1000000 in
theorem cut_p (h : Pb w A S b) (hI : b.Inv) (hbl : b.last ≤ 4398046511104) (i : Int) (snap : ByteArray) : Calls Try.prog 31 #[.pointer (some ⟨A, 0, none⟩), .int .i64 i, .string snap] w fun e w' => e = .returned (.bool (b.cut i snap).1) ∧ Pt w w' A S (b.cut i snap).2 := by
  have hbc := hI.bc
  have hcl := hI.cl
  by_cases hi : b.base < i ∧ i ≤ b.commit
  · have ec : b.cut i snap = (true, b.rebase i (b.termAt i) snap (b.log.drop (i - b.base).toNat)) := if_pos hi
    have ht := termOf_any h i (by omega) (by omega)
    have hlt := h.lt
    obtain ⟨lv, pf, hv⟩ := h
    have c4 : w.cell? ⟨A, 4, none⟩ = some (.int .i64 b.base) := hv.cell 4
    have c6 : w.cell? ⟨A, 6, none⟩ = some (.int .i64 b.commit) := hv.cell 6
    have hbe := fun n => behind_any (hv.on (below_draw (Below.refl _ w) n)) (i := i) (by omega) (by omega)
    have hl : (b.log.drop (i - b.base).toNat).length = b.log.length - (i - b.base).toNat := by simp
    obtain ⟨tm, htm⟩ : ∃ tm, b.termAt i = tm := ⟨_, rfl⟩
    rw [htm] at ht ec
    have b1 := hv.b1
    have b0 := hv.b0
    have hlast : b.last ≤ 4398047411104 := by have := hv.len; unfold Bs.last; omega
    have hreb : ∀ n, Calls Try.prog 54 #[.pointer (some ⟨A, 0, none⟩), .int .i64 i] (w.drewN n) fun e w' => ∃ ad cap, e = .returned (.slice ad (b.log.drop (i - b.base).toNat).length cap) ∧ Calls Try.prog 52 #[.pointer (some ⟨A, 0, none⟩), .int .i64 i, .int .i64 tm, .string snap, .slice ad (b.log.drop (i - b.base).toNat).length cap] w' fun e w' => e = .returned (.tuple #[]) ∧ Pt w w' A S (b.cut i snap).2 := by
      intro n
      refine (hbe n).mono ?_
      rintro e w' ⟨ad, cap, rfl, q1, q2, q3⟩
      have hfS : Fr w w' S := ((Fr.refl w S).drewN n).step (q2.mono (fun k hk => hv.cov k hk)) (fun k hk => .inl hk)
      rw [← hl] at q1 q3 ⊢
      refine ⟨ad, cap, rfl, (rebase_p (tm := tm) (snap := snap) ((q2.block A (hlt A hv.covA) (fun q => hv.neA A q rfl)).trans hv.ob) q1 hv.covA (fun k hk => hv.cov k (q3 k hk)) (fun k hk => Nat.lt_of_lt_of_le (hlt k hk) hfS.size) (by have := hv.len; rw [hl]; omega) (by omega) ?_ hv.idl hv.sz).mono ?_⟩
      · omega
      · rintro e w'' ⟨rfl, r1, r2⟩
        refine ⟨rfl, ?_⟩
        rw [ec]
        have em : ({ b.rebase i tm snap (b.log.drop (i - b.base).toNat) with commit := max b.commit i } : Bs) = b.rebase i tm snap (b.log.drop (i - b.base).toNat) := by
          rw [show max b.commit i = b.commit by omega]
          rfl
        rw [em] at r1
        exact Pt.start r1 (hfS.trans r2)
    have e1 : (b.cut i snap).1 = true := by rw [ec]
    rw [e1]
    obtain ⟨L, hL⟩ : ∃ L, (b.log.drop (i - b.base).toNat).length = L := ⟨_, rfl⟩
    rw [hL] at hreb
    have HR := Lib.hid hreb
    obtain ⟨hi1, hi2⟩ := hi
    clear hv hbe hl ec e1 hreb hL htm hlt hI
    go_enter Try.func31, Try.ntmps31
    go_wp2_with fail
    refine ht.mono ?_
    rintro e2 w2 ⟨rfl, n2, rfl⟩
    clear ht
    go_wp2_with fail
    refine (HR.out n2).mono ?_
    rintro e3 w3 ⟨ad, cap, rfl, hc3⟩
    go_wp2_with fail
    refine hc3.mono ?_
    rintro e4 w4 ⟨rfl, q⟩
    have HQ := Lib.hid q
    clear q hc3
    go_wp2
    go_ret
    exact ⟨rfl, HQ.out⟩
  · have ec : b.cut i snap = (false, b) := if_neg hi
    rw [ec]
    have HH := Lib.hid h
    obtain ⟨lv, pf, hv⟩ := h
    have c4 : w.cell? ⟨A, 4, none⟩ = some (.int .i64 b.base) := hv.cell 4
    have c6 : w.cell? ⟨A, 6, none⟩ = some (.int .i64 b.commit) := hv.cell 6
    clear hv ec
    by_cases q1 : i ≤ b.base
    · go_enter Try.func31, Try.ntmps31
      go_wp2
      go_ret
      exact ⟨rfl, Pt.same HH.out (Below.refl _ _)⟩
    · have q2 : b.commit < i := by omega
      go_enter Try.func31, Try.ntmps31
      go_wp2
      go_ret
      exact ⟨rfl, Pt.same HH.out (Below.refl _ _)⟩
abbrev en0 : En := ⟨0, 0, 0, noT⟩
set_option maxHeartbeats 1000000 in
set_option maxRecDepth 100000 in
theorem entry_p (h : Pb w A S b) (i : Int) : Calls Try.prog 24 #[.pointer (some ⟨A, 0, none⟩), .int .i64 i] w fun e w' => e = .returned (.tuple #[enV ((b.at? i).getD en0), .bool (b.at? i).isSome]) ∧ Below w.heap.size w w' := by
  obtain ⟨lv, pf, hv⟩ := h
  have hal : Below w.heap.size w (w.alloc (enO en0)) := (Below.refl _ w).alloc (Nat.le_refl _) _
  have hv1 := hv.alloc (enO en0)
  have b1 := hv.b1
  have b0 := hv.b0
  have l1 := hv.len
  have c4 : (w.alloc (.cells #[.int .i64 0, .int .i64 0, .int .i64 0, .string ⟨#[]⟩] 49)).cell? ⟨A, 4, none⟩ = some (.int .i64 b.base) := hv1.cell 4
  have c5 : (w.alloc (.cells #[.int .i64 0, .int .i64 0, .int .i64 0, .string ⟨#[]⟩] 49)).cell? ⟨A, 5, none⟩ = some (.int .i64 b.last) := hv1.cell 5
  have c11 : (w.alloc (.cells #[.int .i64 0, .int .i64 0, .int .i64 0, .string ⟨#[]⟩] 49)).cell? ⟨A, 11, none⟩ = some (lv) := hv1.cell 11
  by_cases hi : b.base < i ∧ i ≤ b.last
  · obtain ⟨k, hk⟩ : ∃ k : Nat, i = b.base + 1 + k := ⟨(i - b.base - 1).toNat, by omega⟩
    have hi2 : i ≤ b.base + b.log.length := hi.2
    have hkl : k < b.log.length := by omega
    have ea : b.at? i = some b.log[k] := by
      unfold Bs.at?
      rw [if_pos hi.1, show (i - b.base - 1).toNat = k by omega, List.getElem?_eq_getElem hkl]
    rw [ea]
    obtain ⟨g, o, cap, rfl, x0, x1, x2, x3⟩ := hv1.log.get hkl
    obtain ⟨y, hy⟩ : ∃ y, b.log[k] = y := ⟨_, rfl⟩
    rw [hy] at x0 x1 x2 x3 ⊢
    obtain ⟨k1, hk1⟩ : ∃ k1 : Nat, k + 1 = k1 := ⟨_, rfl⟩
    have i1 : IntKind.i64.wrap (i - b.base) = (k1 : Int) := by rw [IntKind.wrap_i64]; omega
    have i5 : IntKind.i64.wrap ((k1 : Int) - 1) = (k : Int) := by rw [IntKind.wrap_i64]; omega
    have w2 : (0 : Int) ≤ k := by omega
    have w3 : (k : Int) < b.log.length := by omega
    obtain ⟨hi1, hi3⟩ := hi
    have hg : g ≠ w.heap.size := by
      intro e
      have h1 := hv1.log.lt g
      rcases hv.log with ⟨z, _⟩ | ⟨g', o', cap', cur, z, z1, _, _, z3, _⟩
      · rw [z] at hkl; simp at hkl
      · cases z
        have := blk_lt z3
        omega
    clear hv hv1 ea hy hk hk1 hi2
    go_enter Try.func24, Try.ntmps24
    go_wp2
    go_region
    go_wp2
    refine bodyPost_ret (v := .tuple #[enV y, .bool true]) (by simp [results, Try.results24, go_sem]) rfl ?_
    exact ⟨rfl, ((Below.refl _ _).alloc (Nat.le_refl _) _).drew⟩
  · have ea : b.at? i = none := Bs.at_none (by omega)
    rw [ea]
    clear hv hv1 ea
    by_cases q1 : i ≤ b.base
    · go_enter Try.func24, Try.ntmps24
      go_wp2
      refine bodyPost_ret (v := .tuple #[enV en0, .bool false]) (by simp [results, Try.results24, go_sem]) rfl ?_
      exact ⟨rfl, hal⟩
    · have q2 : b.last < i := by omega
      go_enter Try.func24, Try.ntmps24
      go_wp2
      refine bodyPost_ret (v := .tuple #[enV en0, .bool false]) (by simp [results, Try.results24, go_sem]) rfl ?_
      exact ⟨rfl, hal⟩
end
end Go.Proofs.Ytmiagjcihmenfaa
