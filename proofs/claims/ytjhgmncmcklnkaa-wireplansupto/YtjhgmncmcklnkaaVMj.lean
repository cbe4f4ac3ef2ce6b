/- The walks of job, and of lists of them. -/
import Derived.Test.YtjhgmncmcklnkaaVMg
namespace Go.Proofs.Ytjhgmncmcklnkaa
open Go.RowKit

theorem arr22 {vs : Array Value} (h : vs.size = 22) : ∃ a0 a1 a2 a3 a4 a5 a6 a7 a8 a9 a10 a11 a12 a13 a14 a15 a16 a17 a18 a19 a20 a21, vs = #[a0, a1, a2, a3, a4, a5, a6, a7, a8, a9, a10, a11, a12, a13, a14, a15, a16, a17, a18, a19, a20, a21] := by
  obtain ⟨l⟩ := vs
  match l, h with
  | [a0, a1, a2, a3, a4, a5, a6, a7, a8, a9, a10, a11, a12, a13, a14, a15, a16, a17, a18, a19, a20, a21], _ => exact ⟨a0, a1, a2, a3, a4, a5, a6, a7, a8, a9, a10, a11, a12, a13, a14, a15, a16, a17, a18, a19, a20, a21, rfl⟩
abbrev jobT : List Ty := [.num, .num, .num, .num, .num, .num, .text, .text, .text, .text, .yes, .num, .num, .num, .text, .list columnT, .num, .yes, .yes, .text, .num, .num]
section
variable {w w' w1 w2 : World} {A : Nat} {S S1 : Nat → Prop} {s s1 : TS} {B o : Nat} {t u : List Ty} {x y : List At} {rv : Value}
set_option maxHeartbeats 4000000 in
set_option maxRecDepth 100000 in
theorem job_any (h : Pre w A S s B o jobT x) : Calls Try.prog 77 #[.pointer (some ⟨A, 0, none⟩), .pointer (some ⟨B, o, none⟩)] w fun e w' => e = .returned (.tuple #[]) ∧ Post w w' A S s B o jobT x := by
  obtain ⟨y1, x1, rfl, P1, N1⟩ := Pre.part (t := [.num, .num]) (u := [.num, .num, .num, .num, .text, .text, .text, .text, .yes, .num, .num, .num, .text, .list columnT, .num, .yes, .yes, .text, .num, .num]) (o' := o + 2) (by simp) rfl h
  have h1 := nums_at (m := 2) #[.pointer (some ⟨B, o, none⟩), .pointer (some ⟨B, o + 1, none⟩)] P1 (by omega) (by omega) (fun i hi => by
    have : i = 0 ∨ i = 1 := by omega
    rcases this with rfl | rfl <;> rfl)
  have H1 := Lib.hid N1
  clear P1 N1 h
  go_enter Try.func77, Try.ntmps77
  go_wp2
  go_cut [] (fun wx => Post w wx A S s B (o) [.num, .num] y1)
  case first =>
    go_region_with (go_at_call 52; refine (h1 _ (by exact ⟨rfl, rfl, rfl, rfl⟩)).mono ?_; rintro e1 w1 ⟨rfl, q⟩)
    all_goals
      go_wp2_with fail
      go_meet
      exact q
  case rest =>
    have q1 := hcut
    clear hcut h1
    obtain ⟨S1, s1, Z2, C1⟩ := H1.out _ q1
    have HC1 := Lib.hid C1
    clear C1 q1 H1
    obtain ⟨y2, x2, rfl, P2, N2⟩ := Pre.part (t := [.num, .num, .num]) (u := [.num, .text, .text, .text, .text, .yes, .num, .num, .num, .text, .list columnT, .num, .yes, .yes, .text, .num, .num]) (o' := o + 5) (by simp) rfl Z2
    have h2 := tid_any P2
    have H2 := Lib.hid N2
    clear P2 N2 Z2
    go_wp2_with (go_at_call 57; refine h2.mono ?_; rintro e2 v2 ⟨rfl, q2⟩; refine Hid.out ?_)
    refine Lib.hid ?_
    clear h2
    obtain ⟨S2, s2, Z3, C2⟩ := H2.out _ q2
    have HC2 := Lib.hid C2
    clear C2 q2 H2
    obtain ⟨y3, x3, rfl, P3, N3⟩ := Pre.part (t := [.num, .text, .text, .text, .text, .yes, .num, .num, .num, .text, .list columnT]) (u := [.num, .yes, .yes, .text, .num, .num]) (o' := o + 16) (by simp) rfl Z3
    have h3 := ddl_any P3
    have H3 := Lib.hid N3
    clear P3 N3 Z3
    go_wp2_with (go_at_call 62; refine h3.mono ?_; rintro e3 v3 ⟨rfl, q3⟩; refine Hid.out ?_)
    refine Lib.hid ?_
    clear h3
    obtain ⟨S3, s3, Z4, C3⟩ := H3.out _ q3
    have HC3 := Lib.hid C3
    clear C3 q3 H3
    obtain ⟨y4, x4, rfl, P4, N4⟩ := Pre.part (t := [.num]) (u := [.yes, .yes, .text, .num, .num]) (o' := o + 17) (by simp) rfl Z4
    have h4 := nums_at (m := 1) #[.pointer (some ⟨B, o + 16, none⟩)] P4 (by omega) (by omega) (fun i hi => by
      have : i = 0 := by omega
      subst this
      rfl)
    have H4 := Lib.hid N4
    clear P4 N4 Z4
    go_wp2_with (go_at_call 52; refine (h4 _ (by exact ⟨rfl, rfl, rfl, rfl⟩)).mono ?_; rintro e4 v4 ⟨rfl, q4⟩; refine Hid.out ?_)
    refine Lib.hid ?_
    clear h4
    obtain ⟨S4, s4, Z5, C4⟩ := H4.out _ q4
    have HC4 := Lib.hid C4
    clear C4 q4 H4
    obtain ⟨y5, x5, rfl, P5, N5⟩ := Pre.part (t := [.yes]) (u := [.yes, .text, .num, .num]) (o' := o + 18) (by simp) rfl Z5
    have h5 := yes_any P5
    have H5 := Lib.hid N5
    clear P5 N5 Z5
    go_wp2_with (go_at_call 53; refine h5.mono ?_; rintro e5 v5 ⟨rfl, q5⟩; refine Hid.out ?_)
    refine Lib.hid ?_
    clear h5
    obtain ⟨S5, s5, Z6, C5⟩ := H5.out _ q5
    have HC5 := Lib.hid C5
    clear C5 q5 H5
    obtain ⟨y6, x6, rfl, P6, N6⟩ := Pre.part (t := [.yes]) (u := [.text, .num, .num]) (o' := o + 19) (by simp) rfl Z6
    have h6 := yes_any P6
    have H6 := Lib.hid N6
    clear P6 N6 Z6
    go_wp2_with (go_at_call 53; refine h6.mono ?_; rintro e6 v6 ⟨rfl, q6⟩; refine Hid.out ?_)
    refine Lib.hid ?_
    clear h6
    obtain ⟨S6, s6, Z7, C6⟩ := H6.out _ q6
    have HC6 := Lib.hid C6
    clear C6 q6 H6
    obtain ⟨y7, x7, rfl, P7, N7⟩ := Pre.part (t := [.text]) (u := [.num, .num]) (o' := o + 20) (by simp) rfl Z7
    have h7 := text_any P7
    have H7 := Lib.hid N7
    clear P7 N7 Z7
    go_wp2_with (go_at_call 56; refine h7.mono ?_; rintro e7 v7 ⟨rfl, q7⟩; refine Hid.out ?_)
    refine Lib.hid ?_
    clear h7
    obtain ⟨S7, s7, Z8, C7⟩ := H7.out _ q7
    have HC7 := Lib.hid C7
    clear C7 q7 H7
    obtain ⟨y8, x8, rfl, P8, N8⟩ := Pre.part (t := [.num]) (u := [.num]) (o' := o + 21) (by simp) rfl Z8
    have h8 := nums_at (m := 1) #[.pointer (some ⟨B, o + 20, none⟩)] P8 (by omega) (by omega) (fun i hi => by
      have : i = 0 := by omega
      subst this
      rfl)
    have H8 := Lib.hid N8
    clear P8 N8 Z8
    go_wp2_with (go_at_call 52; refine (h8 _ (by exact ⟨rfl, rfl, rfl, rfl⟩)).mono ?_; rintro e8 v8 ⟨rfl, q8⟩; refine Hid.out ?_)
    refine Lib.hid ?_
    clear h8
    obtain ⟨S8, s8, Z9, C8⟩ := H8.out _ q8
    have HC8 := Lib.hid C8
    clear C8 q8 H8
    have P9 := Z9
    have h9 := errno_any P9
    clear P9 Z9
    go_wp2_with (go_at_call 63; refine h9.mono ?_; rintro e9 v9 ⟨rfl, q9⟩; refine Hid.out ?_)
    refine Lib.hid ?_
    clear h9
    go_wp2
    go_end0
    exact ⟨rfl, (HC1.out _ (HC2.out _ (HC3.out _ (HC4.out _ (HC5.out _ (HC6.out _ (HC7.out _ (HC8.out _ q9))))))))⟩
end
end Go.Proofs.Ytjhgmncmcklnkaa
