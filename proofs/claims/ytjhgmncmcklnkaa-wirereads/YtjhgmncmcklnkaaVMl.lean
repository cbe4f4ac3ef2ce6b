/- The walk of plan. -/
import Derived.Test.YtjhgmncmcklnkaaVMb
import Derived.Test.YtjhgmncmcklnkaaVMi
import Derived.Test.YtjhgmncmcklnkaaVMj
import Derived.Test.YtjhgmncmcklnkaaVMo
namespace Go.Proofs.Ytjhgmncmcklnkaa
open Go.RowKit

abbrev planT : List Ty := [.num, .num, .list tableT, .list leaseT, .list jobT]
section
variable {w w' w1 w2 : World} {A : Nat} {S S1 : Nat → Prop} {s s1 : TS} {B o : Nat} {t u : List Ty} {x y : List At} {rv : Value}
set_option maxHeartbeats 4000000 in
set_option maxRecDepth 100000 in
theorem plan_any (h : Pre w A S s B o planT x) : Calls Try.prog 49 #[.pointer (some ⟨A, 0, none⟩), .pointer (some ⟨B, o, none⟩)] w fun e w' => e = .returned (.tuple #[]) ∧ Post w w' A S s B o planT x := by
  obtain ⟨y1, x1, rfl, P1, N1⟩ := Pre.part (t := [.num, .num, .list tableT]) (u := [.list leaseT, .list jobT]) (o' := o + 3) (by simp) rfl h
  have h1 := schema_any P1
  have H1 := Lib.hid N1
  clear P1 N1 h
  go_enter Try.func49, Try.ntmps49
  go_wp2_with (go_at_call 73; refine h1.mono ?_; rintro e1 v1 ⟨rfl, q1⟩; refine Hid.out ?_)
  refine Lib.hid ?_
  clear h1
  obtain ⟨S1, s1, Z2, C1⟩ := H1.out _ q1
  have HC1 := Lib.hid C1
  clear C1 q1 H1
  obtain ⟨y2, x2, rfl, P2, N2⟩ := Pre.part (t := [.list leaseT]) (u := [.list jobT]) (o' := o + 4) (by simp) rfl Z2
  have h2 := leases_any P2
  have H2 := Lib.hid N2
  clear P2 N2 Z2
  go_wp2_with (go_at_call 74; refine h2.mono ?_; rintro e2 v2 ⟨rfl, q2⟩; refine Hid.out ?_)
  refine Lib.hid ?_
  clear h2
  obtain ⟨S2, s2, Z3, C2⟩ := H2.out _ q2
  have HC2 := Lib.hid C2
  clear C2 q2 H2
  have P3 := Z3
  have h3 := jobs_any P3
  clear P3 Z3
  go_wp2_with (go_at_call 76; refine h3.mono ?_; rintro e3 v3 ⟨rfl, q3⟩; refine Hid.out ?_)
  refine Lib.hid ?_
  clear h3
  go_wp2
  go_end0
  exact ⟨rfl, (HC1.out _ (HC2.out _ q3))⟩
end
end Go.Proofs.Ytjhgmncmcklnkaa
