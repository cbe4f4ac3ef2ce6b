/- The walk of DriveSwaps. -/
import Derived.Test.YtphpadgmhanabaaLc
namespace Go.Proofs.Ytphpadgmhanabaa
open Go.RowKit Go.Maps

theorem str_self (s : ByteArray) : (s.toList == s.toList) = true := by simp
set_option maxHeartbeats 4000000 in
set_option maxRecDepth 100000 in
theorem swaps_law (old data other : ByteArray) (n : Int) {kv : Value} {keep : List Int} {w : World} (hn : -9223372036854775808 ≤ n ∧ n ≤ 9223372036854775807) (hI : Ints w kv keep) (hz : keep.length * 8 ≤ 140737488355328)
    (h0 : old.size ≤ 140737488355328) (h1 : data.size ≤ 140737488355328) (h2 : other.size ≤ 140737488355328) :
    Calls Try.prog 5 #[.string old, .string data, .string other, .int .i64 n, kv] w fun e w' => e = .returned (.bool true) ∧ Below w.heap.size w w' := by
  go_enter Try.func5, Try.ntmps5
  go_wp2_with fail
  refine (own_new (Below.refl _ w)).mono ?_
  rintro e w1 ⟨A, rfl, o1⟩
  go_wp2_with fail
  refine (awake_any w1).mono ?_
  rintro e w2 ⟨rfl, hb2⟩
  have o2 := o1.on hb2
  clear o1 hb2
  go_wp2_with fail
  refine (own_swap o2 (n := nF) (d := old) (by decide) h0 (by omega)).mono ?_
  rintro e w3 ⟨rfl, o3⟩
  have o3' : Own w w3 A 1 [⟨nF, old, old.size⟩] 0 false := o3
  clear o3
  rw [show pw (downB 0 false) = 0 from rfl]
  go_wp2_with fail
  refine (own_swap o3' (n := nG) (d := other) (by decide) h2 (by omega)).mono ?_
  rintro e w4 ⟨rfl, o4⟩
  have o4' : Own w w4 A 2 [⟨nF, old, old.size⟩, ⟨nG, other, other.size⟩] 0 false := o4
  clear o4
  rw [show pw (downB 0 false) = 0 from rfl]
  go_wp2_with fail
  refine (own_arm o4' hn).mono ?_
  rintro e w5 ⟨rfl, o5⟩
  have o5' : Own w w5 A 2 [⟨nF, old, old.size⟩, ⟨nG, other, other.size⟩] n false := o5
  clear o5
  go_wp2_with fail
  refine (own_swap o5' (n := nF) (d := data) (by decide) h1 (by omega)).mono ?_
  rintro e w6 ⟨rfl, o6⟩
  have hI6 := hI.on o6.below
  obtain ⟨v7, w7, hrun, hI7, hb7⟩ := copy_run hI6 hz
  cases hg : downB n false with
  | true =>
    rw [hg] at o6
    have o6' : Own w w6 A 3 [⟨nF, old, old.size⟩, ⟨nG, other, other.size⟩] (leftB n) true := o6
    clear o6
    have o7 := o6'.on hb7
    rw [show pw true = 50 from rfl]
    have hc := own_crash o7 hI7
    rw [swap_safe] at hc
    have HG := Lib.hid hg
    clear hg hI hI6 hI7
    go_wp2_with (at_builtin; refine wpl_run _ _ rfl hrun ?_)
    refine hc.mono ?_
    rintro e w8 ⟨B, rfl, o8, _⟩
    go_wp2_with fail
    refine (own_read o8 (n := nF) (by decide)).mono ?_
    rintro e w9 ⟨rfl, rfl⟩
    rw [swapF]
    go_wp2_with fail
    refine (own_read o8 (n := nG) (by decide)).mono ?_
    rintro e w10 ⟨rfl, rfl⟩
    rw [swapG]
    have e1 := str_self other
    have e2 := str_self old
    go_wp2
    go_ret
    exact ⟨rfl, o8.below⟩
  | false =>
    rw [hg] at o6
    have o6' : Own w w6 A 3 [⟨nF, data, data.size⟩, ⟨nG, other, other.size⟩] (leftB n) false := o6
    clear o6
    have o7 := o6'.on hb7
    rw [show pw false = 0 from rfl]
    have hc := own_crash o7 hI7
    rw [swap_safe] at hc
    have HG := Lib.hid hg
    clear hg hI hI6 hI7
    go_wp2_with (at_builtin; refine wpl_run _ _ rfl hrun ?_)
    refine hc.mono ?_
    rintro e w8 ⟨B, rfl, o8, _⟩
    go_wp2_with fail
    refine (own_read o8 (n := nF) (by decide)).mono ?_
    rintro e w9 ⟨rfl, rfl⟩
    rw [swapF]
    go_wp2_with fail
    refine (own_read o8 (n := nG) (by decide)).mono ?_
    rintro e w10 ⟨rfl, rfl⟩
    rw [swapG]
    have e1 := str_self other
    have e2 := str_self data
    go_wp2
    go_ret
    exact ⟨rfl, o8.below⟩
end Go.Proofs.Ytphpadgmhanabaa
