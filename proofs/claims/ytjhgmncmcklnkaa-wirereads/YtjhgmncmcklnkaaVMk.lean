/- The walk of shard. -/
import Derived.Test.YtjhgmncmcklnkaaVMd
import Derived.Test.YtjhgmncmcklnkaaVMe
import Derived.Test.YtjhgmncmcklnkaaVMf
namespace Go.Proofs.Ytjhgmncmcklnkaa
open Go.RowKit

abbrev shardT : List Ty := [.list rowT, .list lockT, .list recordT, .list tidT, .num]
section
variable {w w' w1 w2 : World} {A : Nat} {S S1 : Nat → Prop} {s s1 : TS} {B o : Nat} {t u : List Ty} {x y : List At} {rv : Value}
set_option maxHeartbeats 4000000 in
set_option maxRecDepth 100000 in
theorem shard_any (h : Pre w A S s B o shardT x) : Calls Try.prog 44 #[.pointer (some ⟨A, 0, none⟩), .pointer (some ⟨B, o, none⟩)] w fun e w' => e = .returned (.tuple #[]) ∧ Post w w' A S s B o shardT x := by
  obtain ⟨y1, x1, rfl, P1, N1⟩ := Pre.part (t := [.list rowT]) (u := [.list lockT, .list recordT, .list tidT, .num]) (o' := o + 1) (by simp) rfl h
  have h1 := rows_any P1
  have H1 := Lib.hid N1
  clear P1 N1 h
  go_enter Try.func44, Try.ntmps44
  go_wp2_with (go_at_call 66; refine h1.mono ?_; rintro e1 v1 ⟨rfl, q1⟩; refine Hid.out ?_)
  refine Lib.hid ?_
  clear h1
  obtain ⟨S1, s1, Z2, C1⟩ := H1.out _ q1
  have HC1 := Lib.hid C1
  clear C1 q1 H1
  obtain ⟨y2, x2, rfl, P2, N2⟩ := Pre.part (t := [.list lockT]) (u := [.list recordT, .list tidT, .num]) (o' := o + 2) (by simp) rfl Z2
  have h2 := locks_any P2
  have H2 := Lib.hid N2
  clear P2 N2 Z2
  go_wp2_with (go_at_call 68; refine h2.mono ?_; rintro e2 v2 ⟨rfl, q2⟩; refine Hid.out ?_)
  refine Lib.hid ?_
  clear h2
  obtain ⟨S2, s2, Z3, C2⟩ := H2.out _ q2
  have HC2 := Lib.hid C2
  clear C2 q2 H2
  obtain ⟨y3, x3, rfl, P3, N3⟩ := Pre.part (t := [.list recordT]) (u := [.list tidT, .num]) (o' := o + 3) (by simp) rfl Z3
  have h3 := records_any P3
  have H3 := Lib.hid N3
  clear P3 N3 Z3
  go_wp2_with (go_at_call 70; refine h3.mono ?_; rintro e3 v3 ⟨rfl, q3⟩; refine Hid.out ?_)
  refine Lib.hid ?_
  clear h3
  obtain ⟨S3, s3, Z4, C3⟩ := H3.out _ q3
  have HC3 := Lib.hid C3
  clear C3 q3 H3
  obtain ⟨y4, x4, rfl, P4, N4⟩ := Pre.part (t := [.list tidT]) (u := [.num]) (o' := o + 4) (by simp) rfl Z4
  have h4 := tids_any P4
  have H4 := Lib.hid N4
  clear P4 N4 Z4
  go_wp2_with (go_at_call 72; refine h4.mono ?_; rintro e4 v4 ⟨rfl, q4⟩; refine Hid.out ?_)
  refine Lib.hid ?_
  clear h4
  obtain ⟨S4, s4, Z5, C4⟩ := H4.out _ q4
  have HC4 := Lib.hid C4
  clear C4 q4 H4
  have P5 := Z5
  have h5 := nums_at (m := 1) #[.pointer (some ⟨B, o + 4, none⟩)] P5 (by omega) (by omega) (fun i hi => by
    have : i = 0 := by omega
    subst this
    rfl)
  clear P5 Z5
  go_wp2_with (go_at_call 52; refine (h5 _ (by exact ⟨rfl, rfl, rfl, rfl⟩)).mono ?_; rintro e5 v5 ⟨rfl, q5⟩; refine Hid.out ?_)
  refine Lib.hid ?_
  clear h5
  go_wp2
  go_end0
  exact ⟨rfl, (HC1.out _ (HC2.out _ (HC3.out _ (HC4.out _ q5))))⟩
end
end Go.Proofs.Ytjhgmncmcklnkaa
