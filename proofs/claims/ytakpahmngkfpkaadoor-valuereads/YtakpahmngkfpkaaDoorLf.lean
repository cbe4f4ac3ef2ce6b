/- The walk of the statement ValueBack: it answers true at every value and every text. -/
import Derived.Test.YtakpahmngkfpkaaDoorLa
import Derived.Test.YtakpahmngkfpkaaDoorWl
namespace Go.Proofs.YtakpahmngkfpkaaDoor
open Go.RowKit

/-- A box of three cells at block b. -/
structure Bx (b : Nat) (x y z : Value) (W : World) : Prop where
  c0 : W.cell? ⟨b, 0, none⟩ = some x
  c1 : W.cell? ⟨b, 1, none⟩ = some y
  c2 : W.cell? ⟨b, 2, none⟩ = some z
  lt : b < W.heap.size
theorem Bx.on {b : Nat} {x y z : Value} {W w' : World} (h : Bx b x y z W) (hb : Below W.heap.size W w') : Bx b x y z w' :=
  ⟨by rw [(bcell hb).1 _ _ h.lt]; exact h.c0, by rw [(bcell hb).1 _ _ h.lt]; exact h.c1, by rw [(bcell hb).1 _ _ h.lt]; exact h.c2, Nat.lt_of_lt_of_le h.lt hb.size⟩
theorem Bx.mk' (W : World) (x y z : Value) (t : TypeId) : Bx W.heap.size x y z (W.alloc (.cells #[x, y, z] t)) :=
  ⟨by simp, by simp, by simp, by simp⟩

theorem read_prt (k n : Int) (s : ByteArray) (w : World) (hg : Gd w) (hn : -9223372036854775808 ≤ n ∧ n ≤ 9223372036854775807) (hr : rightB k n s = true) :
    Calls Tryd.prog 16 #[.string ⟨(prt k n s).toArray⟩] w fun e w' => e = .returned (.tuple #[.agg #[.int .i64 k, .int .i64 n, .string s], .int .i64 0]) ∧ Below w.heap.size w w' := by
  have h := read_some ⟨(prt k n s).toArray⟩ k n s.data.toList w hg (readL_prt k n s hn.1 hn.2 hr)
  have e : (⟨s.data.toList.toArray⟩ : ByteArray) = s := by obtain ⟨⟨l⟩⟩ := s; rfl
  rw [e] at h
  exact h

set_option maxHeartbeats 2000000 in
theorem back_no_none (k n : Int) (s : ByteArray) (t : ByteArray) (w : World) (hg : Gd w) (hr : rightB k n s = false) (h : readL t.data.toList = none) :
    Calls Tryd.prog 7 #[.agg #[.int .i64 k, .int .i64 n, .string s], .string t] w fun e w' => e = .returned (.bool true) ∧ Below w.heap.size w w' := by
  have H := Lib.hid h
  clear h
  go_enter Tryd.func7, Tryd.ntmps7
  go_wp2_with (go_at_call 14; refine (print_no _ _ _ _ hr).mono ?_; rintro e w1 ⟨rfl, hb1⟩; refine Hid.out ?_)
  refine Lib.hid ?_
  have hw1 : Below w.heap.size w w1 := ((Below.refl _ w).alloc (Nat.le_refl _) _).trans (hb1.mono (by simp))
  have g1 := hg.on hw1
  have z1 := hw1.size
  go_wp2_with (go_at_call 16; refine (read_none _ _ g1 H.out).mono ?_; rintro e w2 ⟨rfl, hb2⟩; refine Hid.out ?_)
  refine Lib.hid ?_
  have hw2 : Below w.heap.size w w2 := hw1.trans (hb2.mono z1)
  have z2 := hw2.size
  have B2 := Bx.mk' w2 (.int .i64 0) (.int .i64 0) (.string ⟨#[]⟩) 23
  have hw3 : Below w.heap.size w (w2.alloc (.cells #[.int .i64 0, .int .i64 0, .string ⟨#[]⟩] 23)) := hw2.alloc z2 _
  go_wp2_with (go_at_call 9; refine (awake_any _ (hg.on hw3)).mono ?_; rintro e w4 ⟨rfl, hb4⟩; refine Hid.out ?_)
  refine Lib.hid ?_
  obtain ⟨c0, c1, c2, c3⟩ := B2.on hb4
  go_wp2
  go_ret
  exact ⟨rfl, hw3.trans (hb4.mono hw3.size)⟩

set_option maxHeartbeats 2000000 in
theorem back_no_some (k n : Int) (s : ByteArray) (t : ByteArray) (w : World) (hg : Gd w) (hr : rightB k n s = false) (k2 n2 : Int) (b2 : List UInt8) (h : readL t.data.toList = some (k2, n2, b2)) :
    Calls Tryd.prog 7 #[.agg #[.int .i64 k, .int .i64 n, .string s], .string t] w fun e w' => e = .returned (.bool true) ∧ Below w.heap.size w w' := by
  obtain ⟨hr2, hp2, m0, m1⟩ := readL_back h
  have hp' : (prt k2 n2 ⟨b2.toArray⟩ == t.toList) = true := by rw [toL, hp2, beq_iff_eq]
  have HR := Lib.hid hr2
  have H := Lib.hid h
  clear h hr2 hp2
  go_enter Tryd.func7, Tryd.ntmps7
  go_wp2_with (go_at_call 14; refine (print_no _ _ _ _ hr).mono ?_; rintro e w1 ⟨rfl, hb1⟩; refine Hid.out ?_)
  refine Lib.hid ?_
  have hw1 : Below w.heap.size w w1 := ((Below.refl _ w).alloc (Nat.le_refl _) _).trans (hb1.mono (by simp))
  have g1 := hg.on hw1
  have z1 := hw1.size
  go_wp2_with (go_at_call 16; refine (read_some _ k2 n2 b2 _ g1 H.out).mono ?_; rintro e w2 ⟨rfl, hb2⟩; refine Hid.out ?_)
  refine Lib.hid ?_
  have hw2 : Below w.heap.size w w2 := hw1.trans (hb2.mono z1)
  have z2 := hw2.size
  have B2 := Bx.mk' w2 (.int .i64 k2) (.int .i64 n2) (.string ⟨b2.toArray⟩) 23
  have hw3 : Below w.heap.size w (w2.alloc (.cells #[.int .i64 k2, .int .i64 n2, .string ⟨b2.toArray⟩] 23)) := hw2.alloc z2 _
  have z3 := hw3.size
  go_wp2_with (go_at_call 14; refine (print_yes _ _ _ _ (hg.on hw3) m0 m1 HR.out).mono ?_; rintro e w4 ⟨rfl, hb4⟩; refine Hid.out ?_)
  refine Lib.hid ?_
  have hw4 : Below w.heap.size w w4 := hw3.trans (hb4.mono z3)
  have z4 := hw4.size
  have B4 := B2.on hb4
  go_wp2_with (go_at_call 9; refine (awake_any _ (hg.on hw4)).mono ?_; rintro e w5 ⟨rfl, hb5⟩; refine Hid.out ?_)
  refine Lib.hid ?_
  have hw5 : Below w.heap.size w w5 := hw4.trans (hb5.mono z4)
  have z5 := hw5.size
  obtain ⟨c0, c1, c2, c3⟩ := B4.on hb5
  go_wp2_with (go_at_call 10; refine (check_t _ _ _ _ HR.out).mono ?_; rintro e w6 ⟨rfl, hb6⟩; refine Hid.out ?_)
  refine Lib.hid ?_
  go_wp2
  go_ret
  exact ⟨rfl, hw5.trans (hb6.mono z5)⟩

set_option maxHeartbeats 2000000 in
theorem back_yes_none (k n : Int) (s : ByteArray) (t : ByteArray) (w : World) (hg : Gd w) (hn : -9223372036854775808 ≤ n ∧ n ≤ 9223372036854775807) (hr : rightB k n s = true) (h : readL t.data.toList = none) :
    Calls Tryd.prog 7 #[.agg #[.int .i64 k, .int .i64 n, .string s], .string t] w fun e w' => e = .returned (.bool true) ∧ Below w.heap.size w w' := by
  have H := Lib.hid h
  clear h
  go_enter Tryd.func7, Tryd.ntmps7
  go_wp2_with (go_at_call 14; refine (print_yes _ _ _ _ (hg.on ((Below.refl _ w).alloc (Nat.le_refl _) _)) hn.1 hn.2 hr).mono ?_; rintro e w0 ⟨rfl, hb0⟩; refine Hid.out ?_)
  refine Lib.hid ?_
  have hw0 : Below w.heap.size w w0 := ((Below.refl _ w).alloc (Nat.le_refl _) _).trans (hb0.mono (by simp))
  have g0 := hg.on hw0
  have B0 := (Bx.mk' w (.int .i64 k) (.int .i64 n) (.string s) 23).on hb0
  have z0 := hw0.size
  go_wp2_with (go_at_call 16; refine (read_prt k n s _ g0 hn hr).mono ?_; rintro e wa ⟨rfl, hba⟩; refine Hid.out ?_)
  refine Lib.hid ?_
  have hwa : Below w.heap.size w wa := hw0.trans (hba.mono z0)
  have za := hwa.size
  obtain ⟨a0, a1, a2, a3⟩ := B0.on hba
  have hw1 : Below w.heap.size w (wa.alloc (.cells #[.int .i64 k, .int .i64 n, .string s] 23)) := hwa.alloc za _
  have g1 := hg.on hw1
  have z1 := hw1.size
  go_wp2_with (go_at_call 16; refine (read_none _ _ g1 H.out).mono ?_; rintro e w2 ⟨rfl, hb2⟩; refine Hid.out ?_)
  refine Lib.hid ?_
  have hw2 : Below w.heap.size w w2 := hw1.trans (hb2.mono z1)
  have z2 := hw2.size
  have B2 := Bx.mk' w2 (.int .i64 0) (.int .i64 0) (.string ⟨#[]⟩) 23
  have hw3 : Below w.heap.size w (w2.alloc (.cells #[.int .i64 0, .int .i64 0, .string ⟨#[]⟩] 23)) := hw2.alloc z2 _
  go_wp2_with (go_at_call 9; refine (awake_any _ (hg.on hw3)).mono ?_; rintro e w4 ⟨rfl, hb4⟩; refine Hid.out ?_)
  refine Lib.hid ?_
  obtain ⟨c0, c1, c2, c3⟩ := B2.on hb4
  go_wp2
  go_ret
  exact ⟨rfl, hw3.trans (hb4.mono hw3.size)⟩

set_option maxHeartbeats 2000000 in
theorem back_yes_some (k n : Int) (s : ByteArray) (t : ByteArray) (w : World) (hg : Gd w) (hn : -9223372036854775808 ≤ n ∧ n ≤ 9223372036854775807) (hr : rightB k n s = true) (k2 n2 : Int) (b2 : List UInt8) (h : readL t.data.toList = some (k2, n2, b2)) :
    Calls Tryd.prog 7 #[.agg #[.int .i64 k, .int .i64 n, .string s], .string t] w fun e w' => e = .returned (.bool true) ∧ Below w.heap.size w w' := by
  obtain ⟨hr2, hp2, m0, m1⟩ := readL_back h
  have hp' : (prt k2 n2 ⟨b2.toArray⟩ == t.toList) = true := by rw [toL, hp2, beq_iff_eq]
  have HR := Lib.hid hr2
  have H := Lib.hid h
  clear h hr2 hp2
  go_enter Tryd.func7, Tryd.ntmps7
  go_wp2_with (go_at_call 14; refine (print_yes _ _ _ _ (hg.on ((Below.refl _ w).alloc (Nat.le_refl _) _)) hn.1 hn.2 hr).mono ?_; rintro e w0 ⟨rfl, hb0⟩; refine Hid.out ?_)
  refine Lib.hid ?_
  have hw0 : Below w.heap.size w w0 := ((Below.refl _ w).alloc (Nat.le_refl _) _).trans (hb0.mono (by simp))
  have g0 := hg.on hw0
  have B0 := (Bx.mk' w (.int .i64 k) (.int .i64 n) (.string s) 23).on hb0
  have z0 := hw0.size
  go_wp2_with (go_at_call 16; refine (read_prt k n s _ g0 hn hr).mono ?_; rintro e wa ⟨rfl, hba⟩; refine Hid.out ?_)
  refine Lib.hid ?_
  have hwa : Below w.heap.size w wa := hw0.trans (hba.mono z0)
  have za := hwa.size
  obtain ⟨a0, a1, a2, a3⟩ := B0.on hba
  have hw1 : Below w.heap.size w (wa.alloc (.cells #[.int .i64 k, .int .i64 n, .string s] 23)) := hwa.alloc za _
  have g1 := hg.on hw1
  have z1 := hw1.size
  go_wp2_with (go_at_call 16; refine (read_some _ k2 n2 b2 _ g1 H.out).mono ?_; rintro e w2 ⟨rfl, hb2⟩; refine Hid.out ?_)
  refine Lib.hid ?_
  have hw2 : Below w.heap.size w w2 := hw1.trans (hb2.mono z1)
  have z2 := hw2.size
  have B2 := Bx.mk' w2 (.int .i64 k2) (.int .i64 n2) (.string ⟨b2.toArray⟩) 23
  have hw3 : Below w.heap.size w (w2.alloc (.cells #[.int .i64 k2, .int .i64 n2, .string ⟨b2.toArray⟩] 23)) := hw2.alloc z2 _
  have z3 := hw3.size
  go_wp2_with (go_at_call 14; refine (print_yes _ _ _ _ (hg.on hw3) m0 m1 HR.out).mono ?_; rintro e w4 ⟨rfl, hb4⟩; refine Hid.out ?_)
  refine Lib.hid ?_
  have hw4 : Below w.heap.size w w4 := hw3.trans (hb4.mono z3)
  have z4 := hw4.size
  have B4 := B2.on hb4
  go_wp2_with (go_at_call 9; refine (awake_any _ (hg.on hw4)).mono ?_; rintro e w5 ⟨rfl, hb5⟩; refine Hid.out ?_)
  refine Lib.hid ?_
  have hw5 : Below w.heap.size w w5 := hw4.trans (hb5.mono z4)
  have z5 := hw5.size
  obtain ⟨c0, c1, c2, c3⟩ := B4.on hb5
  go_wp2_with (go_at_call 10; refine (check_t _ _ _ _ HR.out).mono ?_; rintro e w6 ⟨rfl, hb6⟩; refine Hid.out ?_)
  refine Lib.hid ?_
  go_wp2
  go_ret
  exact ⟨rfl, hw5.trans (hb6.mono z5)⟩

theorem back_any (k n : Int) (s : ByteArray) (t : ByteArray) (w : World) (hg : Gd w) (hn : -9223372036854775808 ≤ n ∧ n ≤ 9223372036854775807) :
    Calls Tryd.prog 7 #[.agg #[.int .i64 k, .int .i64 n, .string s], .string t] w fun e w' => e = .returned (.bool true) ∧ Below w.heap.size w w' := by
  cases hr : rightB k n s
  · cases h : readL t.data.toList with
    | none => exact back_no_none k n s t w hg hr h
    | some p => obtain ⟨k2, n2, b2⟩ := p; exact back_no_some k n s t w hg hr k2 n2 b2 h
  · cases h : readL t.data.toList with
    | none => exact back_yes_none k n s t w hg hn hr h
    | some p => obtain ⟨k2, n2, b2⟩ := p; exact back_yes_some k n s t w hg hn hr k2 n2 b2 h
end Go.Proofs.YtakpahmngkfpkaaDoor
