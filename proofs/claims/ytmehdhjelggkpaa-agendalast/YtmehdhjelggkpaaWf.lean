/- The walks of container/heap's Fix, Remove and Push over a queue. -/
import Derived.Test.YtmehdhjelggkpaaWd
import Derived.Test.YtmehdhjelggkpaaWe
namespace Go.Proofs.Ytmehdhjelggkpaa
open Go.RowKit

set_option maxHeartbeats 1000000 in
set_option maxRecDepth 100000 in
theorem fix_any {w : World} {A g cap n i : Nat} {mv : Value} {c : Int} {f : Nat → Th} {S : Nat → Prop} (h : Qs w A (.slice (some ⟨g, 0, none⟩) n cap) mv c f n) (hc : Cov S (.slice (some ⟨g, 0, none⟩) n cap) f n) (hi : i < n) (hd : Down f n i i) :
    Calls Try.prog 23 #[.iface 60 (.pointer (some ⟨A, 0, none⟩)), .int .i64 i] w fun e w' => e = .returned (.tuple #[]) ∧ ∃ f', Qs w' A (.slice (some ⟨g, 0, none⟩) n cap) mv c f' n ∧ Heap f' n ∧ Sift f f' n ∧ Fr w w' S := by
  have hm0 := m_len w A _ h.slot
  go_enter Try.func23, Try.ntmps23
  go_wp2_with fail
  refine (len_any _ _ _ _).mono ?_
  rintro e w' ⟨rfl, rfl⟩
  go_wp2_with fail
  refine (down_any h hc (Nat.le_refl _) hi hd).mono ?_
  rintro e w1 ⟨f1, hq, hs, hf, ⟨rfl, hh⟩ | ⟨rfl, hu⟩⟩
  · go_wp2
    go_end0
    exact ⟨rfl, f1, hq, hh, hs, hf⟩
  · go_wp2_with fail
    refine (up_any hq (hs.cov hc (Nat.le_refl _)) (Nat.le_refl _) hi hu).mono ?_
    rintro e w2 ⟨rfl, f2, hq2, hh2, hs2, hf2⟩
    go_wp2
    go_end0
    exact ⟨rfl, f2, hq2, hh2, hs.trans hs2, hf.trans hf2⟩

theorem swp_last_row (f : Nat → Th) (f' : Nat → Th) (n i : Nat) (hi : i < n + 1) (hs : Sift (swp f i n) f' n) : (f i :: row f' n).Perm (row f (n + 1)) := (List.Perm.cons _ hs.perm).trans (row_swap_last f n i hi)

set_option maxHeartbeats 1000000 in
set_option maxRecDepth 100000 in
theorem remove_last {w : World} {A g cap n : Nat} {mv : Value} {c : Int} {f : Nat → Th} {S : Nat → Prop} (h : Qs w A (.slice (some ⟨g, 0, none⟩) (n + 1) cap) mv c f (n + 1)) (hc : Cov S (.slice (some ⟨g, 0, none⟩) (n + 1) cap) f (n + 1)) (hA : S A) :
    Calls Try.prog 25 #[.iface 60 (.pointer (some ⟨A, 0, none⟩)), .int .i64 n] w fun e w' => ∃ r, e = .returned r ∧ Qs w' A (.slice (some ⟨g, 0, none⟩) n cap) mv c f n ∧ Fr w w' S ∧ w'.heap[(f n).blk]? = some (thO (f n) n) := by
  have hm0 := m_len w A _ h.slot
  have hm3 : ∀ w', (method 186 60 (.pointer (some ⟨A, 0, none⟩)) "Pop").run Try.prog w' = .ok (48, .pointer (some ⟨A, 0, none⟩)) w' := fun w' => by kernel_rfl
  have n0 : (0 : Int) ≤ n := by omega
  have n1 : (n : Int) ≤ 1000000 := by have := h.small; omega
  go_enter Try.func25, Try.ntmps25
  go_wp2_with fail
  refine (len_any _ _ _ _).mono ?_
  rintro e w' ⟨rfl, rfl⟩
  go_wp2_with fail
  refine (qpop_any h hc hA).mono ?_
  rintro e w1 ⟨rfl, hq, hf, hl⟩
  go_wp2
  go_ret
  exact ⟨_, rfl, hq, hf, hl⟩

set_option maxHeartbeats 2000000 in
set_option maxRecDepth 100000 in
theorem remove_mid {w : World} {A g cap n i : Nat} {mv : Value} {c : Int} {f : Nat → Th} {S : Nat → Prop} (h : Qs w A (.slice (some ⟨g, 0, none⟩) (n + 1) cap) mv c f (n + 1)) (hc : Cov S (.slice (some ⟨g, 0, none⟩) (n + 1) cap) f (n + 1)) (hA : S A) (hi : i < n) (hh : Heap f (n + 1)) :
    Calls Try.prog 25 #[.iface 60 (.pointer (some ⟨A, 0, none⟩)), .int .i64 i] w fun e w' => ∃ r, e = .returned r ∧ ∃ f', Qs w' A (.slice (some ⟨g, 0, none⟩) n cap) mv c f' n ∧ Heap f' n ∧ Sift (swp f i n) f' n ∧ Fr w w' S ∧ w'.heap[(f i).blk]? = some (thO (f i) n) := by
  have hcl := h.slot
  have hm0 := m_len w A _ h.slot
  have hm2 := m_swap w A _ h.slot
  have hm3 : ∀ w', (method 186 60 (.pointer (some ⟨A, 0, none⟩)) "Pop").run Try.prog w' = .ok (48, .pointer (some ⟨A, 0, none⟩)) w' := fun w' => by kernel_rfl
  have n0 : (0 : Int) ≤ n := by omega
  have n1 : (n : Int) ≤ 1000000 := by have := h.small; omega
  have ne : ¬ (n : Int) = (i : Int) := by omega
  go_enter Try.func25, Try.ntmps25
  go_wp2_with fail
  refine (len_any _ _ _ _).mono ?_
  rintro e w' ⟨rfl, rfl⟩
  go_wp2_with fail
  refine (swap_q h hc (by omega : i < n + 1) (by omega : n < n + 1) (by omega : i ≠ n)).mono ?_
  rintro e w1 ⟨rfl, hq1, hf1⟩
  have hc1 : Cov S (.slice (some ⟨g, 0, none⟩) (n + 1) cap) (swp f i n) (n + 1) := Qs.cov h hc (row_swp f (n + 1) i n (by omega) (by omega))
  go_wp2_with fail
  refine (down_any hq1 hc1 (Nat.le_succ n) hi (down_swap_last hh hi)).mono ?_
  rintro e w2 ⟨f2, hq2, hs2, hf2, ⟨rfl, hh2⟩ | ⟨rfl, hu⟩⟩
  · go_wp2_with fail
    refine (qpop_any hq2 (hs2.cov hc1 (Nat.le_succ n)) hA).mono ?_
    rintro e w3 ⟨rfl, hq3, hf3, hl3⟩
    rw [hs2.rest n (Nat.le_refl n), swp_r] at hl3
    go_wp2
    go_ret
    exact ⟨_, rfl, f2, hq3, hh2, hs2, (hf1.trans hf2).trans hf3, hl3⟩
  · go_wp2_with fail
    refine (up_any hq2 (hs2.cov hc1 (Nat.le_succ n)) (Nat.le_succ n) hi hu).mono ?_
    rintro e w3 ⟨rfl, f3, hq3, hh3, hs3, hf3⟩
    go_wp2_with fail
    refine (qpop_any hq3 ((hs2.trans hs3).cov hc1 (Nat.le_succ n)) hA).mono ?_
    rintro e w4 ⟨rfl, hq4, hf4, hl4⟩
    rw [(hs2.trans hs3).rest n (Nat.le_refl n), swp_r] at hl4
    go_wp2
    go_ret
    exact ⟨_, rfl, f3, hq4, hh3, hs2.trans hs3, ((hf1.trans hf2).trans hf3).trans hf4, hl4⟩

theorem remove_any {w : World} {A g cap n i : Nat} {mv : Value} {c : Int} {f : Nat → Th} {S : Nat → Prop} (h : Qs w A (.slice (some ⟨g, 0, none⟩) (n + 1) cap) mv c f (n + 1)) (hc : Cov S (.slice (some ⟨g, 0, none⟩) (n + 1) cap) f (n + 1)) (hA : S A) (hi : i < n + 1) (hh : Heap f (n + 1)) :
    Calls Try.prog 25 #[.iface 60 (.pointer (some ⟨A, 0, none⟩)), .int .i64 i] w fun e w' => ∃ r, e = .returned r ∧ ∃ f', Qs w' A (.slice (some ⟨g, 0, none⟩) n cap) mv c f' n ∧ Heap f' n ∧ (f i :: row f' n).Perm (row f (n + 1)) ∧ Fr w w' S ∧ w'.heap[(f i).blk]? = some (thO (f i) n) := by
  by_cases e : i = n
  · subst e
    refine (remove_last h hc hA).mono ?_
    rintro e w' ⟨r, rfl, hq, hf, hl⟩
    refine ⟨r, rfl, f, hq, heap_less hh (Nat.le_succ _), ?_, hf, hl⟩
    rw [row_succ]
    exact List.perm_append_comm (l₁ := [f i])
  · refine (remove_mid h hc hA (by omega) hh).mono ?_
    rintro e w' ⟨r, rfl, f', hq, hh', hs, hf, hl⟩
    exact ⟨r, rfl, f', hq, hh', swp_last_row f f' n i hi hs, hf, hl⟩

set_option maxHeartbeats 1000000 in
set_option maxRecDepth 100000 in
theorem push_any {w : World} {A : Nat} {v mv : Value} {c : Int} {f : Nat → Th} {n : Nat} {x : Th} {S : Nat → Prop} {pl : Int} (h : Qs w A v mv c f n) (hx : w.heap[x.blk]? = some (thO x pl)) (hc : Cov S v f n) (hA : S A) (hxS : S x.blk) (hn : n < 1000000) (hne : ∀ i, i < n → (f i).blk ≠ x.blk) (hh : Heap f n) :
    Calls Try.prog 28 #[.iface 60 (.pointer (some ⟨A, 0, none⟩)), .iface 54 (.pointer (some ⟨x.blk, 0, none⟩))] w fun e w' => e = .returned (.tuple #[]) ∧ ∃ v' f', Qs w' A v' mv c f' (n + 1) ∧ Heap f' (n + 1) ∧ (row f' (n + 1)).Perm (x :: row f n) ∧ Fr w w' S ∧ (∀ k, v'.ownBlock = some k → S k ∨ w.heap.size ≤ k) := by
  have hm3 : ∀ w', (method 186 60 (.pointer (some ⟨A, 0, none⟩)) "Push").run Try.prog w' = .ok (49, .pointer (some ⟨A, 0, none⟩)) w' := fun w' => by kernel_rfl
  have n0 : (0 : Int) ≤ n := by omega
  have n1 : (n : Int) ≤ 1000000 := by omega
  go_enter Try.func28, Try.ntmps28
  go_wp2_with fail
  refine (qpush_any h hx hc hA hxS hn hne).mono ?_
  rintro e w1 ⟨rfl, v', hq, hf, hl⟩
  obtain ⟨g, cap, rfl⟩ := hq.form (by omega)
  have hm0 := m_len w1 A _ hq.slot
  have hc1 : Cov (fun k => S k ∨ w.heap.size ≤ k) (.slice (some ⟨g, 0, none⟩) (n + 1) cap) (put f n x) (n + 1) := ⟨fun k hk => hl k hk, fun i hi => .inl (by
    by_cases e : i = n
    · subst e; rw [put_at]; exact hxS
    · rw [put_o _ _ _ _ e]; exact hc.th i (by omega))⟩
  go_wp2_with fail
  refine (len_any _ _ _ _).mono ?_
  rintro e w' ⟨rfl, rfl⟩
  go_wp2_with fail
  refine (up_any hq hc1 (Nat.le_refl _) (by omega : n < n + 1) (up_push hh x)).mono ?_
  rintro e w2 ⟨rfl, f2, hq2, hh2, hs2, hf2⟩
  go_wp2
  go_end0
  refine ⟨rfl, _, f2, hq2, hh2, hs2.perm.trans ?_, hf.step hf2 (fun j q => q), hl⟩
  rw [row_succ, put_at, row_congr (g := f) (fun k hk => put_o _ _ _ _ (by omega))]
  exact List.perm_append_comm
end Go.Proofs.Ytmehdhjelggkpaa
