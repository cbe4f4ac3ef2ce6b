/- The walks of the statements' awake and of DiaryNil. -/
import Derived.Test.YtoipmpaebngppaaEg
namespace Go.Proofs.Ytoipmpaebngppaa
open Go.RowKit Go.Maps

theorem ints_one (w : World) (x : Int) : Ints (w.alloc (.cells #[.int .i64 x] 3)) (.slice (some ⟨w.heap.size, 0, none⟩) 1 1) [x] := by
  refine ⟨_, 1, rfl, by simp [maxLen], fun i hi => ⟨w.heap.size, 0, rfl, by simp, ?_⟩⟩
  have : i = 0 := by simp at hi; omega
  subst this
  rw [cell_blk (heap_alloc_new w _)]
  rfl
theorem strs_one (w : World) (x : ByteArray) : Ls [x] (some ⟨w.heap.size, 0, none⟩) (w.alloc (.cells #[.string x] 9)) := by
  refine ⟨fun i hi => ⟨w.heap.size, 0, rfl, by simp, ?_⟩⟩
  have : i = 0 := by simp at hi; omega
  subst this
  rw [cell_blk (heap_alloc_new w _)]
  rfl
abbrev pA : ByteArray := ⟨#[97]⟩
abbrev pB : ByteArray := ⟨#[98]⟩
theorem big_A : bigL [pA] = false := by decide
theorem big_B : bigL [pB] = false := by decide
/-- The states of awake, one behind the other. -/
def sA0 : Ds := ⟨[], 0, false⟩
def sA1 : Ds := ⟨[⟨nF, recsB [pA], 9⟩], 0, false⟩
def sA2 : Ds := ⟨[⟨nF, recsB [pA], 9⟩], 2, false⟩
def sA3 : Ds := ⟨[⟨nF, recsB [pA] ++ recsB [pB], 9⟩], 0, true⟩
theorem size_A : (recsB [pA]).size = 9 := by
  have := sumS_cons pA []
  rw [sumS_nil] at this
  exact this
theorem size_B : (recsB [pB]).size = 9 := by
  have := sumS_cons pB []
  rw [sumS_nil] at this
  exact this
theorem wk1 : sA0.dApp nF [pA] = (sA1, 0) := by
  have e1 : sA0.app nF (recsB [pA]) = ⟨[⟨nF, recsB [pA], 0⟩], 0, false⟩ := by
    have : (⟨#[]⟩ : ByteArray) ++ recsB [pA] = recsB [pA] := ByteArray.empty_append
    show (⟨[⟨nF, ⟨#[]⟩ ++ recsB [pA], 0⟩], 0, false⟩ : Ds) = _
    rw [this]
  have e2 : (⟨[⟨nF, recsB [pA], 0⟩], 0, false⟩ : Ds).syn nF = sA1 := by
    show (⟨[⟨nF, recsB [pA], (recsB [pA]).size⟩], 0, false⟩ : Ds) = _
    rw [size_A]
    rfl
  unfold Ds.dApp
  rw [big_A, e1]
  simp only [Bool.false_eq_true, if_false, List.length_cons, List.length_nil, Nat.zero_add, e2]
  rfl
theorem wk2 : sA1.arm 2 = sA2 := rfl
theorem wk3 : sA2.dApp nF [pB] = (sA3, 50) := by
  have e1 : sA2.app nF (recsB [pB]) = ⟨[⟨nF, recsB [pA] ++ recsB [pB], 9⟩], 1, false⟩ := rfl
  have e2 : (⟨[⟨nF, recsB [pA] ++ recsB [pB], 9⟩], 1, false⟩ : Ds).syn nF = sA3 := rfl
  unfold Ds.dApp
  rw [big_B, e1]
  simp only [Bool.false_eq_true, if_false, List.length_cons, List.length_nil, Nat.zero_add, e2]
  rfl
theorem wk4 : (sA3.crash [5]).text nF = (recsB [pA] ++ recsB [pB]).extract 0 14 := by
  show (recsB [pA] ++ recsB [pB]).extract 0 (keptN ⟨nF, recsB [pA] ++ recsB [pB], 9⟩ 5) = _
  have : keptN ⟨nF, recsB [pA] ++ recsB [pB], 9⟩ 5 = 14 := by
    unfold keptN
    show 9 + (min (5 : Int) (((recsB [pA] ++ recsB [pB]).size : Int) - (9 : Nat))).toNat = 14
    rw [ByteArray.size_append, size_A, size_B]
    rfl
  rw [this]
/-- Of two records that are cut off in the second one, one is found. -/
theorem wk5 {ps : List ByteArray} {k : Nat} (h : Scans ((sA3.crash [5]).text nF).data.toList (lists ps) k) : ps = [pA] ∧ k = 9 := by
  have e : ((sA3.crash [5]).text nF).data.toList = (recs [pA.data.toList, pB.data.toList]).take 14 := by
    rw [wk4, ext_list, app_list, recsB_list, recsB_list, List.drop_zero, ← recs_append]
    rfl
  have hc := scans_cut [pA.data.toList, pB.data.toList] 14 1 (by decide) (by decide) (by decide) (.inr ⟨by decide, by decide⟩)
  rw [e] at h
  obtain ⟨h1, h2⟩ := scans_one h hc
  exact ⟨lists_inj h1, h2⟩
theorem wk6 : ((sA3.crash [5]).dOpn nF 9).down = false := by
  unfold Ds.dOpn
  split
  · rfl
  · rfl

set_option maxHeartbeats 2000000 in
set_option maxRecDepth 100000 in
theorem awake_any (w : World) : Calls Try.prog 7 #[] w fun e w' => e = .returned (.bool true) ∧ Below w.heap.size w w' := by
  go_enter Try.func7, Try.ntmps7
  go_wp2_with fail
  refine (do_new (Below.refl _ w)).mono ?_
  rintro e w1 ⟨A, rfl, h1⟩
  go_wp2_with fail
  refine (do_open h1 (n := nF) (by decide) (by decide) (by omega)).mono ?_
  rintro e w2 ⟨ps, k, hsc, hk, hps, hc⟩
  have hk0 : k = 0 := by
    have : k ≤ 0 := hk
    omega
  subst hk0
  have hp0 : ps = [] := by
    have : 8 * ps.length ≤ 0 := hps
    exact List.length_eq_zero_iff.1 (by omega)
  subst hp0
  rcases hc with ⟨hd, _⟩ | ⟨_, X, ad, cap, rfl, h2, _⟩
  · cases hd
  have h2' : DD w w2 A X 1 sA0 nF := h2
  clear h2 hsc hk hps h1
  have hal := (Below.refl _ w2).alloc (Nat.le_refl _) (.cells #[.string pA] 9)
  go_wp2_with fail
  refine (dd_append (h2'.on hal) (strs_one w2 pA) (by rw [sumS_cons, sumS_nil]; decide) (by decide) (by decide) (by omega)).mono ?_
  rw [wk1]
  rintro e w3 ⟨rfl, h3⟩
  clear h2' hal
  go_wp2_with fail
  refine (dd_arm h3 (m := 2) (by omega)).mono ?_
  rw [wk2]
  rintro e w4 ⟨rfl, h4⟩
  have hal := (Below.refl _ w4).alloc (Nat.le_refl _) (.cells #[.string pB] 9)
  go_wp2_with fail
  refine (dd_append (h4.on hal) (strs_one w4 pB) (by rw [sumS_cons, sumS_nil]; decide) (by decide) ?_ (by omega)).mono ?_
  · show (recsB [pA]).size ≤ _
    rw [size_A]
    decide
  rw [wk3]
  rintro e w5 ⟨rfl, h5⟩
  clear h4 h3 hal
  have hal := (Below.refl _ w5).alloc (Nat.le_refl _) (.cells #[.int .i64 5] 3)
  go_wp2_with fail
  refine (do_crash (h5.out.on hal) (ints_one w5 5)).mono ?_
  rintro e w6 ⟨B, rfl, h6⟩
  clear h5 hal
  go_wp2_with fail
  refine (do_open h6 (n := nF) (by decide) ?_ (by omega)).mono ?_
  · rw [wk4]
    simp [ByteArray.size_append, size_A, size_B]
  rintro e w7 ⟨ps, k, hsc, _, _, hc⟩
  obtain ⟨rfl, rfl⟩ := wk5 hsc
  rcases hc with ⟨hd, _⟩ | ⟨_, X2, ad2, cap2, rfl, h7, hls⟩
  · rw [wk6] at hd
    cases hd
  obtain ⟨b, o, rfl, hbl, c0⟩ := hls.at' 0 (by simp)
  simp at c0
  have hb7 := h7.below
  clear hls hsc h6 h7
  go_wp2
  go_ret
  exact ⟨rfl, hb7⟩
end Go.Proofs.Ytoipmpaebngppaa
