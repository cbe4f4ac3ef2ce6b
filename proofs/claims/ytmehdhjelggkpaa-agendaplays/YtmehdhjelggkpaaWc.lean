/- The walks of container/heap's up and down over a queue. -/
import Derived.Test.YtmehdhjelggkpaaWb
import Derived.Lib.Hide
namespace Go.Proofs.Ytmehdhjelggkpaa
open Go.RowKit

theorem m_len (w : World) (A : Nat) (v : Value) (h : w.cell? ⟨A, 0, none⟩ = some v) : (method 186 60 (.pointer (some ⟨A, 0, none⟩)) "Len").run Try.prog w = .ok (45, v) w := meth w A v "Len" 45 41 h (by kernel_rfl) 185
theorem m_less (w : World) (A : Nat) (v : Value) (h : w.cell? ⟨A, 0, none⟩ = some v) : (method 186 60 (.pointer (some ⟨A, 0, none⟩)) "Less").run Try.prog w = .ok (46, v) w := meth w A v "Less" 46 45 h (by kernel_rfl) 185
theorem m_swap (w : World) (A : Nat) (v : Value) (h : w.cell? ⟨A, 0, none⟩ = some v) : (method 186 60 (.pointer (some ⟨A, 0, none⟩)) "Swap").run Try.prog w = .ok (47, v) w := meth w A v "Swap" 47 42 h (by kernel_rfl) 185

/-- f' is f with its first n things in another order. -/
structure Sift (f f' : Nat → Th) (n : Nat) : Prop where
  perm : (row f' n).Perm (row f n)
  rest : ∀ k, n ≤ k → f' k = f k
theorem Sift.refl (f : Nat → Th) (n : Nat) : Sift f f n := ⟨List.Perm.refl _, fun _ _ => rfl⟩
theorem Sift.swp {f f' : Nat → Th} {n i j : Nat} (h : Sift f f' n) (hi : i < n) (hj : j < n) : Sift f (swp f' i j) n :=
  ⟨(row_swp f' n i j hi hj).trans h.perm, fun k hk => by rw [swp_o f' i j k (by omega) (by omega)]; exact h.rest k hk⟩
theorem Sift.trans {f f' f'' : Nat → Th} {n : Nat} (h : Sift f f' n) (k : Sift f' f'' n) : Sift f f'' n := ⟨k.perm.trans h.perm, fun j hj => (k.rest j hj).trans (h.rest j hj)⟩
theorem Sift.cov {f f' : Nat → Th} {n N : Nat} {S : Nat → Prop} {v : Value} (h : Sift f f' n) (hc : Cov S v f N) (hn : n ≤ N) : Cov S v f' N :=
  ⟨hc.row, fun i hi => by
    by_cases e : i < n
    · obtain ⟨k, hk, q⟩ := mem_row.1 (h.perm.mem_iff.1 (mem_row.2 ⟨i, e, rfl⟩))
      rw [← q]
      exact hc.th k (by omega)
    · rw [h.rest i (by omega)]
      exact hc.th i hi⟩

set_option maxHeartbeats 1000000 in
set_option maxRecDepth 100000 in
theorem up_any {w : World} {A g cap N n j : Nat} {mv : Value} {c : Int} {f : Nat → Th} {S : Nat → Prop} (h : Qs w A (.slice (some ⟨g, 0, none⟩) N cap) mv c f N) (hc : Cov S (.slice (some ⟨g, 0, none⟩) N cap) f N) (hn : n ≤ N) (hj : j < n) (hu : Up f n j) :
    Calls Try.prog 27 #[.iface 60 (.pointer (some ⟨A, 0, none⟩)), .int .i64 j] w fun e w' => e = .returned (.tuple #[]) ∧ ∃ f', Qs w' A (.slice (some ⟨g, 0, none⟩) N cap) mv c f' N ∧ Heap f' n ∧ Sift f f' n ∧ Fr w w' S := by
  have hN := h.small
  go_enter Try.func27, Try.ntmps27
  go_wp2
  go_loopw [1] (fun t wr => ∃ (k : Nat) (f' : Nat → Th), t = .int .i64 k ∧ k < n ∧ Qs wr A (.slice (some ⟨g, 0, none⟩) N cap) mv c f' N ∧ Up f' n k ∧ Sift f f' n ∧ Fr w wr S) (fun t _ => (intOf t).toNat)
  case atStart => exact ⟨j, f, rfl, hj, h, hu, Sift.refl _ _, Fr.refl _ _⟩
  case round =>
    obtain ⟨k, f', rfl, hk, hq, hu', hs, hfr⟩ := hrel
    have hcl := hq.slot
    have hc' := hs.cov hc hn
    have hm1 : ∀ w', w'.cell? ⟨A, 0, none⟩ = some (.slice (some ⟨g, 0, none⟩) N cap) → (method 186 60 (.pointer (some ⟨A, 0, none⟩)) "Less").run Try.prog w' = .ok (46, .slice (some ⟨g, 0, none⟩) N cap) w' := fun w' => m_less w' A _
    have hm2 : ∀ w', w'.cell? ⟨A, 0, none⟩ = some (.slice (some ⟨g, 0, none⟩) N cap) → (method 186 60 (.pointer (some ⟨A, 0, none⟩)) "Swap").run Try.prog w' = .ok (47, .slice (some ⟨g, 0, none⟩) N cap) w' := fun w' => m_swap w' A _
    by_cases hk0 : k = 0
    · subst hk0
      go_wp2
      go_end0
      exact ⟨rfl, f', hq, up_done hu' (.inl rfl), hs, hfr⟩
    · have b1 : (1 : Int) ≤ k := by omega
      have b2 : (k : Int) ≤ 1000000 := by omega
      obtain ⟨m, hm⟩ : ∃ m, m = par k := ⟨_, rfl⟩
      have he : ((k : Int) - 1) / 2 = (m : Int) := by rw [hm]; unfold par; omega
      have hmk : m < k := by rw [hm]; unfold par; omega
      have hne : ¬ (m : Int) = (k : Int) := by omega
      have hkN : k < N := by omega
      have hmN : m < N := by omega
      have HM := Lib.hid hm
      clear hm
      by_cases ha : aheadB (f' k) (f' m) = true
      · have HA := Lib.hid ha
        go_wp2_with (first
          | (go_at_call 46; refine (less_q hq hkN hmN).mono ?_; rintro e w' ⟨rfl, nd, rfl⟩)
          | (go_at_call 47; refine (swap_q (hq.drewN _) hc' hmN hkN (Nat.ne_of_lt hmk)).mono ?_; rintro e w' ⟨rfl, hq2, hfr2⟩))
        go_roundw
        case rel => exact ⟨m, swp f' m k, rfl, by omega, hq2, by rw [HM.out]; exact up_step hu' (by omega) hk (by rw [← HM.out]; exact (aheadB_iff _ _).1 HA.out), hs.swp (by omega) hk, hfr.trans (Fr.trans ((Fr.refl _ _).drewN _) hfr2)⟩
        case measure => simp [intOf]; omega
      · have ha' : aheadB (f' k) (f' m) = false := by simpa using ha
        have HA := Lib.hid ha'
        go_wp2_with (first
          | (go_at_call 46; refine (less_q hq hkN hmN).mono ?_; rintro e w' ⟨rfl, nd, rfl⟩))
        go_end0
        exact ⟨rfl, f', hq.drewN _, up_done hu' (.inr (by rw [← HM.out]; exact (aheadB_no _ _).1 HA.out)), hs, hfr.drewN _⟩
end Go.Proofs.Ytmehdhjelggkpaa
