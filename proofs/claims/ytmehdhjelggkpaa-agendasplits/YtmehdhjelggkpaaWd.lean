/- The walk of container/heap's down over a queue. -/
import Derived.Test.YtmehdhjelggkpaaWc
namespace Go.Proofs.Ytmehdhjelggkpaa
open Go.RowKit

/-- What down answers and leaves. -/
def DownPost (w : World) (A g cap N n i0 : Nat) (mv : Value) (c : Int) (f : Nat → Th) (S : Nat → Prop) (e : Ending) (w' : World) : Prop :=
  ∃ f', Qs w' A (.slice (some ⟨g, 0, none⟩) N cap) mv c f' N ∧ Sift f f' n ∧ Fr w w' S ∧ ((e = .returned (.bool true) ∧ Heap f' n) ∨ (e = .returned (.bool false) ∧ Up f' n i0))
theorem down_end {w w' : World} {A g cap N n i0 k : Nat} {mv : Value} {c : Int} {f f' : Nat → Th} {S : Nat → Prop} (h : Qs w' A (.slice (some ⟨g, 0, none⟩) N cap) mv c f' N) (hs : Sift f f' n) (hf : Fr w w' S) (hd : Down f' n i0 k) (hk : i0 ≤ k)
    (hl : ∀ j, 0 < j → j < n → par j = k → ¬ ahead (f' j) (f' k)) : DownPost w A g cap N n i0 mv c f S (.returned (.bool (decide (i0 < k)))) w' := by
  refine ⟨f', h, hs, hf, ?_⟩
  by_cases e : i0 < k
  · exact .inl ⟨by rw [decide_eq_true e], down_moved hd e hl⟩
  · have : k = i0 := by omega
    subst this
    exact .inr ⟨by rw [decide_eq_false (Nat.lt_irrefl k)], down_stays hd hl⟩
theorem par_child {j k : Nat} (h : par j = k) (h0 : 0 < j) : j = 2 * k + 1 ∨ j = 2 * k + 2 := by unfold par at h; omega

set_option maxHeartbeats 4000000 in
set_option maxRecDepth 100000 in
theorem down_any {w : World} {A g cap N n i0 : Nat} {mv : Value} {c : Int} {f : Nat → Th} {S : Nat → Prop} (h : Qs w A (.slice (some ⟨g, 0, none⟩) N cap) mv c f N) (hc : Cov S (.slice (some ⟨g, 0, none⟩) N cap) f N) (hn : n ≤ N) (hi : i0 < n) (hd : Down f n i0 i0) :
    Calls Try.prog 26 #[.iface 60 (.pointer (some ⟨A, 0, none⟩)), .int .i64 i0, .int .i64 n] w fun e w' => DownPost w A g cap N n i0 mv c f S e w' := by
  have hN := h.small
  go_enter Try.func26, Try.ntmps26
  go_wp2
  go_loopw [7] (fun t wr => ∃ (k : Nat) (f' : Nat → Th), t = .int .i64 k ∧ k < n ∧ i0 ≤ k ∧ Qs wr A (.slice (some ⟨g, 0, none⟩) N cap) mv c f' N ∧ Down f' n i0 k ∧ Sift f f' n ∧ Fr w wr S) (fun t _ => n - (intOf t).toNat)
  case atStart => exact ⟨i0, f, rfl, hi, Nat.le_refl _, h, hd, Sift.refl _ _, Fr.refl _ _⟩
  case round =>
    obtain ⟨k, f', rfl, hk, hik, hq, hd', hs, hfr⟩ := hrel
    have hcl := hq.slot
    have hc' := hs.cov hc hn
    have hm1 : ∀ w', w'.cell? ⟨A, 0, none⟩ = some (.slice (some ⟨g, 0, none⟩) N cap) → (method 186 60 (.pointer (some ⟨A, 0, none⟩)) "Less").run Try.prog w' = .ok (46, .slice (some ⟨g, 0, none⟩) N cap) w' := fun w' => m_less w' A _
    have hm2 : ∀ w', w'.cell? ⟨A, 0, none⟩ = some (.slice (some ⟨g, 0, none⟩) N cap) → (method 186 60 (.pointer (some ⟨A, 0, none⟩)) "Swap").run Try.prog w' = .ok (47, .slice (some ⟨g, 0, none⟩) N cap) w' := fun w' => m_swap w' A _
    have b2 : (n : Int) ≤ 1000000 := by omega
    have b3 : (k : Int) < n := by omega
    obtain ⟨j1, hj1⟩ : ∃ j1, j1 = 2 * k + 1 := ⟨_, rfl⟩
    obtain ⟨j2, hj2⟩ : ∃ j2, j2 = 2 * k + 2 := ⟨_, rfl⟩
    have e1 : 2 * (k : Int) + 1 = (j1 : Int) := by omega
    have e2 : (j1 : Int) + 1 = (j2 : Int) := by omega
    have z1 : (0 : Int) ≤ j1 := by omega
    have kN : k < N := by omega
    have hch : ∀ j, 0 < j → j < n → par j = k → j = j1 ∨ j = j2 := fun j a _ b => by rw [hj1, hj2]; exact par_child b a
    have HC := Lib.hid hch
    have p1 : par j1 = k := by rw [hj1]; unfold par; omega
    have p2 : par j2 = k := by rw [hj2]; unfold par; omega
    have P1 := Lib.hid p1
    have P2 := Lib.hid p2
    have k1 : k < j1 := by omega
    have k2 : k < j2 := by omega
    clear p1 p2 hch
    by_cases q1 : j1 < n
    · have q1' : (j1 : Int) < n := by omega
      have j1N : j1 < N := by omega
      have J1 := Lib.hid hj1
      have J2 := Lib.hid hj2
      clear hj1 hj2
      by_cases q2 : j2 < n
      · have q2' : (j2 : Int) < n := by omega
        have j2N : j2 < N := by omega
        by_cases a2 : aheadB (f' j2) (f' j1) = true
        · have A2 := Lib.hid a2
          have hl : ∀ j, 0 < j → j < n → par j = k → ¬ ahead (f' j) (f' j2) := fun j a b d => by
            rcases HC.out j a b d with rfl | rfl
            · exact ahead_not ((aheadB_iff _ _).1 A2.out)
            · exact ahead_self _
          have HL := Lib.hid hl
          clear hl
          by_cases a3 : aheadB (f' j2) (f' k) = true
          · have A3 := Lib.hid a3
            have kJ : k ≠ j2 := by omega
            go_wp2_with fail
            refine (less_q hq j2N j1N).mono ?_
            rintro e w' ⟨rfl, nd, rfl⟩
            go_wp2_with fail
            refine (less_q (hq.drewN nd) j2N kN).mono ?_
            rintro e w' ⟨rfl, nd2, rfl⟩
            go_wp2_with fail
            refine (swap_q (hq.drewN _) hc' kN j2N kJ).mono ?_
            rintro e w' ⟨rfl, hq2, hfr2⟩
            go_wp2
            go_roundw
            case rel => exact ⟨j2, swp f' k j2, rfl, q2, by omega, hq2, (down_step hd' hik q2 (by omega) P2.out ((aheadB_iff _ _).1 A3.out) HL.out).1, hs.swp hk q2, hfr.trans (Fr.trans ((Fr.refl _ _).drewN _) hfr2)⟩
            case measure => simp [intOf]; omega
          · have a3' : aheadB (f' j2) (f' k) = false := by simpa using a3
            have A3 := Lib.hid a3'
            have kJ : k ≠ j2 := by omega
            clear a3
            have hl2 : ∀ j, 0 < j → j < n → par j = k → ¬ ahead (f' j) (f' k) := fun j a b d => ahead_no_trans ((aheadB_no _ _).1 A3.out) (HL.out j a b d)
            have HL2 := Lib.hid hl2
            clear hl2
            go_wp2_with fail
            refine (less_q hq j2N j1N).mono ?_
            rintro e w' ⟨rfl, nd, rfl⟩
            go_wp2_with fail
            refine (less_q (hq.drewN nd) j2N kN).mono ?_
            rintro e w' ⟨rfl, nd2, rfl⟩
            go_wp2
            go_ret
            exact down_end (hq.drewN _) hs (hfr.drewN _) hd' hik HL2.out
        · have a2' : aheadB (f' j2) (f' j1) = false := by simpa using a2
          have A2 := Lib.hid a2'
          have hl : ∀ j, 0 < j → j < n → par j = k → ¬ ahead (f' j) (f' j1) := fun j a b d => by
            rcases HC.out j a b d with rfl | rfl
            · exact ahead_self _
            · exact (aheadB_no _ _).1 A2.out
          have HL := Lib.hid hl
          clear hl a2
          by_cases a3 : aheadB (f' j1) (f' k) = true
          · have A3 := Lib.hid a3
            have kJ : k ≠ j1 := by omega
            go_wp2_with fail
            refine (less_q hq j2N j1N).mono ?_
            rintro e w' ⟨rfl, nd, rfl⟩
            go_wp2_with fail
            refine (less_q (hq.drewN nd) j1N kN).mono ?_
            rintro e w' ⟨rfl, nd2, rfl⟩
            go_wp2_with fail
            refine (swap_q (hq.drewN _) hc' kN j1N kJ).mono ?_
            rintro e w' ⟨rfl, hq2, hfr2⟩
            go_wp2
            go_roundw
            case rel => exact ⟨j1, swp f' k j1, rfl, q1, by omega, hq2, (down_step hd' hik q1 (by omega) P1.out ((aheadB_iff _ _).1 A3.out) HL.out).1, hs.swp hk q1, hfr.trans (Fr.trans ((Fr.refl _ _).drewN _) hfr2)⟩
            case measure => simp [intOf]; omega
          · have a3' : aheadB (f' j1) (f' k) = false := by simpa using a3
            have A3 := Lib.hid a3'
            have kJ : k ≠ j1 := by omega
            clear a3
            have hl2 : ∀ j, 0 < j → j < n → par j = k → ¬ ahead (f' j) (f' k) := fun j a b d => ahead_no_trans ((aheadB_no _ _).1 A3.out) (HL.out j a b d)
            have HL2 := Lib.hid hl2
            clear hl2
            go_wp2_with fail
            refine (less_q hq j2N j1N).mono ?_
            rintro e w' ⟨rfl, nd, rfl⟩
            go_wp2_with fail
            refine (less_q (hq.drewN nd) j1N kN).mono ?_
            rintro e w' ⟨rfl, nd2, rfl⟩
            go_wp2
            go_ret
            exact down_end (hq.drewN _) hs (hfr.drewN _) hd' hik HL2.out
      · have q2' : ¬ (j2 : Int) < n := by omega
        have hl : ∀ j, 0 < j → j < n → par j = k → ¬ ahead (f' j) (f' j1) := fun j a b d => by
          rcases HC.out j a b d with rfl | rfl
          · exact ahead_self _
          · omega
        have HL := Lib.hid hl
        clear hl
        by_cases a3 : aheadB (f' j1) (f' k) = true
        · have A3 := Lib.hid a3
          have kJ : k ≠ j1 := by omega
          go_wp2_with fail
          refine (less_q hq j1N kN).mono ?_
          rintro e w' ⟨rfl, nd2, rfl⟩
          go_wp2_with fail
          refine (swap_q (hq.drewN _) hc' kN j1N kJ).mono ?_
          rintro e w' ⟨rfl, hq2, hfr2⟩
          go_wp2
          go_roundw
          case rel => exact ⟨j1, swp f' k j1, rfl, q1, by omega, hq2, (down_step hd' hik q1 (by omega) P1.out ((aheadB_iff _ _).1 A3.out) HL.out).1, hs.swp hk q1, hfr.trans (Fr.trans ((Fr.refl _ _).drewN _) hfr2)⟩
          case measure => simp [intOf]; omega
        · have a3' : aheadB (f' j1) (f' k) = false := by simpa using a3
          have A3 := Lib.hid a3'
          have kJ : k ≠ j1 := by omega
          clear a3
          have hl2 : ∀ j, 0 < j → j < n → par j = k → ¬ ahead (f' j) (f' k) := fun j a b d => ahead_no_trans ((aheadB_no _ _).1 A3.out) (HL.out j a b d)
          have HL2 := Lib.hid hl2
          clear hl2
          go_wp2_with fail
          refine (less_q hq j1N kN).mono ?_
          rintro e w' ⟨rfl, nd2, rfl⟩
          go_wp2
          go_ret
          exact down_end (hq.drewN _) hs (hfr.drewN _) hd' hik HL2.out
    · have q1' : ¬ (j1 : Int) < n := by omega
      have q1'' : (n : Int) ≤ j1 := by omega
      have hl : ∀ j, 0 < j → j < n → par j = k → ¬ ahead (f' j) (f' k) := fun j a b d => by
        rcases HC.out j a b d with rfl | rfl <;> omega
      have HL := Lib.hid hl
      clear hl hj1 hj2
      go_wp2
      go_ret
      exact down_end hq hs hfr hd' hik HL.out
end Go.Proofs.Ytmehdhjelggkpaa
