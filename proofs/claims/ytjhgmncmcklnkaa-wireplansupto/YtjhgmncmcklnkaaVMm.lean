/- The walk of msg. -/
import Derived.Test.YtjhgmncmcklnkaaVC
namespace Go.Proofs.Ytjhgmncmcklnkaa
open Go.RowKit

abbrev msgT : List Ty := [.num, .num, .num, .num, .num, .num, .num, .yes, .list entryT, .text]
section
variable {w w' w1 w2 : World} {A : Nat} {S S1 : Nat → Prop} {s s1 : TS} {B o : Nat} {t u : List Ty} {x y : List At} {rv : Value}
set_option maxHeartbeats 4000000 in
set_option maxRecDepth 100000 in
theorem msg_any (h : Pre w A S s B o msgT x) : Calls Try.prog 26 #[.pointer (some ⟨A, 0, none⟩), .pointer (some ⟨B, o, none⟩)] w fun e w' => e = .returned (.tuple #[]) ∧ Post w w' A S s B o msgT x := by
  obtain ⟨y1, x1, rfl, P1, N1⟩ := Pre.part (t := [.num, .num, .num, .num, .num, .num, .num]) (u := [.yes, .list entryT, .text]) (o' := o + 7) (by simp) rfl h
  have h1 := nums_at (m := 7) #[.pointer (some ⟨B, o, none⟩), .pointer (some ⟨B, o + 1, none⟩), .pointer (some ⟨B, o + 2, none⟩), .pointer (some ⟨B, o + 3, none⟩), .pointer (some ⟨B, o + 4, none⟩), .pointer (some ⟨B, o + 5, none⟩), .pointer (some ⟨B, o + 6, none⟩)] P1 (by omega) (by omega) (fun i hi => by
    have : i = 0 ∨ i = 1 ∨ i = 2 ∨ i = 3 ∨ i = 4 ∨ i = 5 ∨ i = 6 := by omega
    rcases this with rfl | rfl | rfl | rfl | rfl | rfl | rfl <;> rfl)
  have H1 := Lib.hid N1
  clear P1 N1 h
  go_enter Try.func26, Try.ntmps26
  go_wp2
  go_cut [] (fun wx => Post w wx A S s B (o) [.num, .num, .num, .num, .num, .num, .num] y1)
  case first =>
    go_region_with (go_at_call 52; refine (h1 _ (by exact ⟨rfl, rfl, rfl, rfl⟩)).mono ?_; rintro e1 w1 ⟨rfl, q⟩)
    all_goals
      go_wp2_with fail
      go_meet
      exact q
  case rest =>
    have q1 := hcut
    clear hcut h1
    obtain ⟨S1, s1, Z2, C1⟩ := H1.out _ q1
    have HC1 := Lib.hid C1
    clear C1 q1 H1
    obtain ⟨y2, x2, rfl, P2, N2⟩ := Pre.part (t := [.yes]) (u := [.list entryT, .text]) (o' := o + 8) (by simp) rfl Z2
    have h2 := yes_any P2
    have H2 := Lib.hid N2
    clear P2 N2 Z2
    go_wp2_with (go_at_call 53; refine h2.mono ?_; rintro e2 v2 ⟨rfl, q2⟩; refine Hid.out ?_)
    refine Lib.hid ?_
    clear h2
    obtain ⟨S2, s2, Z3, C2⟩ := H2.out _ q2
    have HC2 := Lib.hid C2
    clear C2 q2 H2
    obtain ⟨y3, x3, rfl, P3, N3⟩ := Pre.part (t := [.list entryT]) (u := [.text]) (o' := o + 9) (by simp) rfl Z3
    have h3 := entrys_any P3
    have H3 := Lib.hid N3
    clear P3 N3 Z3
    go_wp2_with (go_at_call 54; refine h3.mono ?_; rintro e3 v3 ⟨rfl, q3⟩; refine Hid.out ?_)
    refine Lib.hid ?_
    clear h3
    obtain ⟨S3, s3, Z4, C3⟩ := H3.out _ q3
    have HC3 := Lib.hid C3
    clear C3 q3 H3
    have P4 := Z4
    have h4 := text_any P4
    clear P4 Z4
    go_wp2_with (go_at_call 56; refine h4.mono ?_; rintro e4 v4 ⟨rfl, q4⟩; refine Hid.out ?_)
    refine Lib.hid ?_
    clear h4
    go_wp2
    go_end0
    exact ⟨rfl, (HC1.out _ (HC2.out _ (HC3.out _ q4)))⟩
end
end Go.Proofs.Ytjhgmncmcklnkaa
