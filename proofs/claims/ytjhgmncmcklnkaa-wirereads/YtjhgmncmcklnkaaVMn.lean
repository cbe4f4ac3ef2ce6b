/- The walk of delta. -/
import Derived.Test.YtjhgmncmcklnkaaVC
namespace Go.Proofs.Ytjhgmncmcklnkaa
open Go.RowKit

abbrev deltaT : List Ty := [.num, .num, .yes, .num, .num, .text, .num, .list entryT]
section
variable {w w' w1 w2 : World} {A : Nat} {S S1 : Nat → Prop} {s s1 : TS} {B o : Nat} {t u : List Ty} {x y : List At} {rv : Value}
set_option maxHeartbeats 4000000 in
set_option maxRecDepth 100000 in
theorem delta_any (h : Pre w A S s B o deltaT x) : Calls Try.prog 33 #[.pointer (some ⟨A, 0, none⟩), .pointer (some ⟨B, o, none⟩)] w fun e w' => e = .returned (.tuple #[]) ∧ Post w w' A S s B o deltaT x := by
  obtain ⟨y1, x1, rfl, P1, N1⟩ := Pre.part (t := [.num, .num]) (u := [.yes, .num, .num, .text, .num, .list entryT]) (o' := o + 2) (by simp) rfl h
  have h1 := nums_at (m := 2) #[.pointer (some ⟨B, o, none⟩), .pointer (some ⟨B, o + 1, none⟩)] P1 (by omega) (by omega) (fun i hi => by
    have : i = 0 ∨ i = 1 := by omega
    rcases this with rfl | rfl <;> rfl)
  have H1 := Lib.hid N1
  clear P1 N1 h
  go_enter Try.func33, Try.ntmps33
  go_wp2
  go_cut [] (fun wx => Post w wx A S s B (o) [.num, .num] y1)
  case first =>
    go_region_with (go_at_call 52; refine (h1 _ (by exact ⟨rfl, rfl, rfl, rfl⟩)).mono ?_; rintro e1 w1 ⟨rfl, q⟩)
    all_goals
      go_wp2_with fail
      go_meet
      exact q
  case rest =>
    have q1 := hcut
    clear hcut h1
    obtain ⟨S1, s1, Z2, C1⟩ := H1.out _ q1
    have HC1 := Lib.hid C1
    clear C1 q1 H1
    obtain ⟨y2, x2, rfl, P2, N2⟩ := Pre.part (t := [.yes]) (u := [.num, .num, .text, .num, .list entryT]) (o' := o + 3) (by simp) rfl Z2
    have h2 := yes_any P2
    have H2 := Lib.hid N2
    clear P2 N2 Z2
    go_wp2_with (go_at_call 53; refine h2.mono ?_; rintro e2 v2 ⟨rfl, q2⟩; refine Hid.out ?_)
    refine Lib.hid ?_
    clear h2
    obtain ⟨S2, s2, Z3, C2⟩ := H2.out _ q2
    have HC2 := Lib.hid C2
    clear C2 q2 H2
    obtain ⟨y3, x3, rfl, P3, N3⟩ := Pre.part (t := [.num, .num]) (u := [.text, .num, .list entryT]) (o' := o + 5) (by simp) rfl Z3
    have h3 := nums_at (m := 2) #[.pointer (some ⟨B, o + 3, none⟩), .pointer (some ⟨B, o + 4, none⟩)] P3 (by omega) (by omega) (fun i hi => by
      have : i = 0 ∨ i = 1 := by omega
      rcases this with rfl | rfl <;> rfl)
    have H3 := Lib.hid N3
    clear P3 N3 Z3
    go_wp2
    go_cut [] (fun wx => Post v2 wx A S2 s2 B (o + 3) [.num, .num] y3)
    case first =>
      go_region_with (go_at_call 52; refine (h3 _ (by exact ⟨rfl, rfl, rfl, rfl⟩)).mono ?_; rintro e1 w1 ⟨rfl, q⟩)
      all_goals
        go_wp2_with fail
        go_meet
        exact q
    case rest =>
      have q3 := hcut
      clear hcut h3
      obtain ⟨S3, s3, Z4, C3⟩ := H3.out _ q3
      have HC3 := Lib.hid C3
      clear C3 q3 H3
      obtain ⟨y4, x4, rfl, P4, N4⟩ := Pre.part (t := [.text]) (u := [.num, .list entryT]) (o' := o + 6) (by simp) rfl Z4
      have h4 := text_any P4
      have H4 := Lib.hid N4
      clear P4 N4 Z4
      go_wp2_with (go_at_call 56; refine h4.mono ?_; rintro e4 v4 ⟨rfl, q4⟩; refine Hid.out ?_)
      refine Lib.hid ?_
      clear h4
      obtain ⟨S4, s4, Z5, C4⟩ := H4.out _ q4
      have HC4 := Lib.hid C4
      clear C4 q4 H4
      obtain ⟨y5, x5, rfl, P5, N5⟩ := Pre.part (t := [.num]) (u := [.list entryT]) (o' := o + 7) (by simp) rfl Z5
      have h5 := nums_at (m := 1) #[.pointer (some ⟨B, o + 6, none⟩)] P5 (by omega) (by omega) (fun i hi => by
        have : i = 0 := by omega
        subst this
        rfl)
      have H5 := Lib.hid N5
      clear P5 N5 Z5
      go_wp2_with (go_at_call 52; refine (h5 _ (by exact ⟨rfl, rfl, rfl, rfl⟩)).mono ?_; rintro e5 v5 ⟨rfl, q5⟩; refine Hid.out ?_)
      refine Lib.hid ?_
      clear h5
      obtain ⟨S5, s5, Z6, C5⟩ := H5.out _ q5
      have HC5 := Lib.hid C5
      clear C5 q5 H5
      have P6 := Z6
      have h6 := entrys_any P6
      clear P6 Z6
      go_wp2_with (go_at_call 54; refine h6.mono ?_; rintro e6 v6 ⟨rfl, q6⟩; refine Hid.out ?_)
      refine Lib.hid ?_
      clear h6
      go_wp2
      go_end0
      exact ⟨rfl, (HC1.out _ (HC2.out _ (HC3.out _ (HC4.out _ (HC5.out _ q6)))))⟩
end
end Go.Proofs.Ytjhgmncmcklnkaa
