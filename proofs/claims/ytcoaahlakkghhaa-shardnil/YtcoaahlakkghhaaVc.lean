/- The walk of sort.Search, at two functions. -/
import Derived.Test.YtcoaahlakkghhaaVb
import Derived.Laws.EntriesVeiled
import Derived.Lib.SmallJoins
namespace Go.Proofs.Ytcoaahlakkghhaa
open Go.RowKit

def SearchAns (n : Nat) (p : Nat → Bool) (w : World) (e : Ending) (w' : World) : Prop := ∃ s : Nat, e = .returned (.int .i64 (s : Int)) ∧ s ≤ n ∧ (∀ i, i < s → p i = false) ∧ (∀ i, s ≤ i → i < n → p i = true) ∧ ∃ m, w' = w.drewN m
theorem SearchAns.mk {n : Nat} {p : Nat → Bool} {w : World} {s m : Nat} (h1 : s ≤ n) (h2 : ∀ i, i < s → p i = false) (h3 : ∀ i, s ≤ i → i < n → p i = true) : SearchAns n p w (.returned (.int .i64 (s : Int))) (w.drewN m) := ⟨s, rfl, h1, h2, h3, m, rfl⟩
def SI (n : Nat) (p : Nat → Bool) (w : World) (iv jv : Value) (wr : World) : Prop := ∃ i j m : Nat, iv = .int .i64 (i : Int) ∧ jv = .int .i64 (j : Int) ∧ i ≤ j ∧ j ≤ n ∧ (∀ k, k < i → p k = false) ∧ (∀ k, j ≤ k → k < n → p k = true) ∧ wr = w.drewN m
section
variable {w : World} {n : Nat} {p : Nat → Bool} {c1 c2 : Value}
theorem half (i j : Nat) (h : i < j) : i ≤ (i + j) / 2 ∧ (i + j) / 2 < j := by omega
set_option maxHeartbeats 1000000 in
set_option maxRecDepth 100000 in
theorem search_35 (hn : n ≤ 900000) (hf : ∀ m i : Nat, i < n → Calls Try.prog 97 #[.int .i64 (i : Int), c1, c2] (w.drewN m) fun e w' => e = .returned (.bool (p i)) ∧ ∃ m', w' = w.drewN m') (hm : ∀ a b, a ≤ b → b < n → p a = true → p b = true) :
    Calls Try.prog 96 #[.int .i64 (n : Int), .func (.func 97) #[] #[c1, c2]] w fun e w' => SearchAns n p w e w' := by
  go_enter Try.func96, Try.ntmps96
  go_wp2
  go_loopw [5, 6] (fun iv jv wr => SI n p w iv jv wr) (fun iv jv _ => (intOf jv).toNat - (intOf iv).toNat)
  case atStart => exact ⟨0, n, 0, rfl, rfl, Nat.zero_le _, Nat.le_refl _, fun k hk => by omega, fun k h1 h2 => by omega, rfl⟩
  case round =>
    obtain ⟨i, j, m, rfl, rfl, hij, hjn, h1, h2, rfl⟩ := hrel
    by_cases hlt : i < j
    · have k1 : (i : Int) < j := by omega
      obtain ⟨q1, q2⟩ := half i j hlt
      obtain ⟨h, hh⟩ : ∃ h, (i + j) / 2 = h := ⟨_, rfl⟩
      rw [hh] at q1 q2
      have hc := hf m h (by omega)
      have hI : ((i : Int) + (j : Int)) / 2 = (h : Int) := by omega
      have hlo : p h = false → ∀ k, k < h + 1 → p k = false := fun hp k hk => by
        cases hq : p k with
        | false => rfl
        | true =>
          have := hm k h (by omega) (by omega) hq
          rw [hp] at this
          cases this
      have hhi : p h = true → ∀ k, h ≤ k → k < n → p k = true := fun hp k h3 h4 => hm h k h3 h4 hp
      have HLO := Lib.hid hlo
      have HHI := Lib.hid hhi
      have H1 := Lib.hid h1
      have H2 := Lib.hid h2
      clear hlo hhi h1 h2 hh hf hm
      cases hp : p h with
      | true =>
        rw [hp] at hc
        go_wp2_with fail
        refine hc.mono ?_
        rintro e w' ⟨rfl, m', rfl⟩
        go_wp2
        exact ⟨⟨i, h, m', rfl, rfl, q1, by omega, H1.out, HHI.out hp, rfl⟩, by simp [intOf]; omega⟩
      | false =>
        rw [hp] at hc
        go_wp2_with fail
        refine hc.mono ?_
        rintro e w' ⟨rfl, m', rfl⟩
        go_wp2
        exact ⟨⟨h + 1, j, m', by go_num, rfl, by omega, by omega, HLO.out hp, H2.out, rfl⟩, by simp [intOf]; omega⟩
    · have k1 : ¬ (i : Int) < j := by omega
      have e : i = j := by omega
      subst e
      have H1 := Lib.hid h1
      have H2 := Lib.hid h2
      clear h1 h2 hf hm
      go_wp2
      go_ret
      exact SearchAns.mk (by omega) H1.out H2.out
set_option maxHeartbeats 1000000 in
set_option maxRecDepth 100000 in
theorem search_36 (hn : n ≤ 900000) (hf : ∀ m i : Nat, i < n → Calls Try.prog 98 #[.int .i64 (i : Int), c1, c2] (w.drewN m) fun e w' => e = .returned (.bool (p i)) ∧ ∃ m', w' = w.drewN m') (hm : ∀ a b, a ≤ b → b < n → p a = true → p b = true) :
    Calls Try.prog 96 #[.int .i64 (n : Int), .func (.func 98) #[] #[c1, c2]] w fun e w' => SearchAns n p w e w' := by
  go_enter Try.func96, Try.ntmps96
  go_wp2
  go_loopw [5, 6] (fun iv jv wr => SI n p w iv jv wr) (fun iv jv _ => (intOf jv).toNat - (intOf iv).toNat)
  case atStart => exact ⟨0, n, 0, rfl, rfl, Nat.zero_le _, Nat.le_refl _, fun k hk => by omega, fun k h1 h2 => by omega, rfl⟩
  case round =>
    obtain ⟨i, j, m, rfl, rfl, hij, hjn, h1, h2, rfl⟩ := hrel
    by_cases hlt : i < j
    · have k1 : (i : Int) < j := by omega
      obtain ⟨q1, q2⟩ := half i j hlt
      obtain ⟨h, hh⟩ : ∃ h, (i + j) / 2 = h := ⟨_, rfl⟩
      rw [hh] at q1 q2
      have hc := hf m h (by omega)
      have hI : ((i : Int) + (j : Int)) / 2 = (h : Int) := by omega
      have hlo : p h = false → ∀ k, k < h + 1 → p k = false := fun hp k hk => by
        cases hq : p k with
        | false => rfl
        | true =>
          have := hm k h (by omega) (by omega) hq
          rw [hp] at this
          cases this
      have hhi : p h = true → ∀ k, h ≤ k → k < n → p k = true := fun hp k h3 h4 => hm h k h3 h4 hp
      have HLO := Lib.hid hlo
      have HHI := Lib.hid hhi
      have H1 := Lib.hid h1
      have H2 := Lib.hid h2
      clear hlo hhi h1 h2 hh hf hm
      cases hp : p h with
      | true =>
        rw [hp] at hc
        go_wp2_with fail
        refine hc.mono ?_
        rintro e w' ⟨rfl, m', rfl⟩
        go_wp2
        exact ⟨⟨i, h, m', rfl, rfl, q1, by omega, H1.out, HHI.out hp, rfl⟩, by simp [intOf]; omega⟩
      | false =>
        rw [hp] at hc
        go_wp2_with fail
        refine hc.mono ?_
        rintro e w' ⟨rfl, m', rfl⟩
        go_wp2
        exact ⟨⟨h + 1, j, m', by go_num, rfl, by omega, by omega, HLO.out hp, H2.out, rfl⟩, by simp [intOf]; omega⟩
    · have k1 : ¬ (i : Int) < j := by omega
      have e : i = j := by omega
      subst e
      have H1 := Lib.hid h1
      have H2 := Lib.hid h2
      clear h1 h2 hf hm
      go_wp2
      go_ret
      exact SearchAns.mk (by omega) H1.out H2.out
end
end Go.Proofs.Ytcoaahlakkghhaa
