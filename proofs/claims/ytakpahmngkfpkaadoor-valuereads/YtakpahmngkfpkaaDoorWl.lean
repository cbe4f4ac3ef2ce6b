/- value.Read at every text, in one word: what readL says. -/
import Derived.Test.YtakpahmngkfpkaaDoorWg
import Derived.Test.YtakpahmngkfpkaaDoorZc
import Derived.Lib.ParseIntBTie
namespace Go.Proofs.YtakpahmngkfpkaaDoor
open Go.RowKit

theorem ba_of {s : ByteArray} {l : List UInt8} (h : s.data.toList = l) : s = ⟨l.toArray⟩ := by
  obtain ⟨⟨m⟩⟩ := s
  simp at h
  subst h
  rfl
theorem sz_of (s : ByteArray) : s.size = s.data.toList.length := Array.length_toList.symm
theorem toL (s : ByteArray) : s.toList = s.data.toList := Lib.toList_data s
theorem nonempty_of {s : ByteArray} (h : 0 < s.data.toList.length) : s.toList.isEmpty = false := by
  rw [toL]
  cases hl : s.data.toList with
  | nil => rw [hl] at h; simp at h
  | cons a b => rfl
theorem head_of {s : ByteArray} {c : UInt8} {r : List UInt8} (h : s.data.toList = c :: r) (h0 : 0 < s.size) : s[0] = c := by
  have e := ba_of h
  subst e
  rfl
theorem notnull {s : ByteArray} (h : s.data.toList ≠ nullL) : (s.toList == [110, 117, 108, 108]) = false := by
  rw [toL, beq_eq_false_iff_ne]
  exact h

theorem right1 (v : Int) : rightB 1 v ⟨#[]⟩ = true := by unfold rightB; rw [if_neg (by decide), if_pos (by decide)]; decide +kernel
theorem prt1 (v : Int) (s : ByteArray) : prt 1 v s = Lib.itoa v := by unfold prt; rw [if_pos (by decide)]
theorem prt2 (v : Int) (s : ByteArray) : prt 2 v s = 39 :: (dbl s.data.toList ++ [39]) := by unfold prt; rw [if_neg (by decide), if_pos (by decide)]
theorem prt0 (v : Int) (s : ByteArray) : prt 0 v s = nullL := by unfold prt; rw [if_neg (by decide), if_neg (by decide)]; rfl
theorem right2 (s : ByteArray) : rightB 2 0 s = decide (s.size ≤ 64) := by
  unfold rightB
  rw [if_neg (by decide), if_neg (by decide)]
  simp only [beq_self_eq_true, Bool.true_and]
  by_cases h : s.size ≤ 64
  · rw [decide_eq_true h, decide_eq_true (by omega)]
  · rw [decide_eq_false h, decide_eq_false (by omega)]

theorem read_some (s : ByteArray) (k n : Int) (b : List UInt8) (w : World) (hg : Gd w) (h : readL s.data.toList = some (k, n, b)) :
    Calls Tryd.prog 16 #[.string s] w fun e w' => e = .returned (.tuple #[.agg #[.int .i64 k, .int .i64 n, .string ⟨b.toArray⟩], .int .i64 0]) ∧ Below w.heap.size w w' := by
  obtain ⟨hl0, hl1⟩ := readL_len h
  have hsz := sz_of s
  have hne := nonempty_of hl0
  unfold readL at h
  split at h
  · rename_i e
    have es := ba_of e
    injection h with h
    simp only [Prod.mk.injEq] at h
    obtain ⟨rfl, rfl, rfl⟩ := h
    subst es
    exact read_yes _ 0 0 ⟨#[]⟩ w hg hne (by decide) (by decide) (by decide) (fun w _ => guess_null w) (by decide +kernel) (by decide +kernel)
  · rename_i hnn
    have hnull := notnull hnn
    split at h
    · rename_i v hv
      injection h with h
      simp only [Prod.mk.injEq] at h
      obtain ⟨rfl, rfl, rfl⟩ := h
      obtain ⟨hi, hp, h0, h1, c, r, hc, hd⟩ := numL_itoa hv
      have hq : ((s[0].toNat : Int) == 39) = false := by
        rw [head_of hc (by omega), beq_eq_false_iff_ne]
        omega
      refine read_yes s 1 v ⟨#[]⟩ w hg hne (by omega) h0 h1 (fun w _ => guess_int s w (by omega) (by omega) hnull hq v hp) (right1 v) ?_
      rw [prt1, toL, hi, beq_iff_eq]
    · rw [Option.map_eq_some_iff] at h
      obtain ⟨t, ht, h⟩ := h
      simp only [Prod.mk.injEq] at h
      obtain ⟨rfl, rfl, rfl⟩ := h
      obtain ⟨e, htl⟩ := textL_some ht
      have hq : ((s[0].toNat : Int) == 39) = true := by
        rw [head_of e (by omega)]
        rfl
      have hbl : bareL (s.data.toList.drop 1) = t := by rw [e]; exact bare_dbl t
      refine read_yes s 2 0 ⟨t.toArray⟩ w hg hne (by omega) (by decide) (by decide) (fun w _ => hbl ▸ guess_text s w (by omega) (by omega) hnull hq) ?_ ?_
      · rw [right2, decide_eq_true_iff, sz_of]
        simpa using htl
      · rw [prt2, toL, e, beq_iff_eq]

theorem read_none (s : ByteArray) (w : World) (hg : Gd w) (h : readL s.data.toList = none) :
    Calls Tryd.prog 16 #[.string s] w fun e w' => e = errRead ∧ Below w.heap.size w w' := by
  have hsz := sz_of s
  by_cases h0 : s.size = 0
  · refine read_empty s w ?_
    rw [toL]
    rw [List.isEmpty_iff, ← List.length_eq_zero_iff]
    omega
  · have hne := nonempty_of (s := s) (by omega)
    by_cases h1 : (130 : Int) < (s.size : Int)
    · exact read_long s w hne h1
    · have hnn : s.data.toList ≠ nullL := by
        intro e
        unfold readL at h
        rw [if_pos e] at h
        cases h
      have hnull := notnull hnn
      have hnum : numL s.data.toList = none := by
        unfold readL at h
        rw [if_neg hnn] at h
        split at h
        · cases h
        · assumption
      have htext : textL s.data.toList = none := by
        unfold readL at h
        rw [if_neg hnn, hnum] at h
        simpa using h
      cases hq : ((s[0].toNat : Int) == 39)
      · cases hp : Lib.parseIntB 64 s.data.toList
        · rename_i v
          have hb : -9223372036854775808 ≤ v ∧ v ≤ 9223372036854775807 := by
            have h2 := Lib.parseIntB_bounds hp
            rw [show ((2 ^ (64 - 1) : Nat) : Int) = 9223372036854775808 from rfl] at h2
            omega
          refine read_other s 1 v ⟨#[]⟩ w hg hne (by omega) hb.1 hb.2 (fun w _ => guess_int s w (by omega) (by omega) hnull hq v hp) (right1 v) ?_
          rw [prt1, toL, beq_eq_false_iff_ne]
          intro e
          rw [← e, numL_of_itoa v hb.1 hb.2] at hnum
          cases hnum
        all_goals
          refine read_other s 0 0 ⟨#[]⟩ w hg hne (by omega) (by decide) (by decide) (fun w hg => guess_no s w hg (by omega) (by omega) hnull hq (fun v hv => by rw [hp] at hv; cases hv)) (by decide +kernel) ?_
          rw [prt0, toL, beq_eq_false_iff_ne]
          exact fun e => hnn e.symm
      · cases hr : rightB 2 0 ⟨(bareL (s.data.toList.drop 1)).toArray⟩
        · exact read_wrong s 2 0 _ w hg hne (by omega) (fun w _ => guess_text s w (by omega) (by omega) hnull hq) hr
        · refine read_other s 2 0 _ w hg hne (by omega) (by decide) (by decide) (fun w _ => guess_text s w (by omega) (by omega) hnull hq) hr ?_
          rw [prt2, toL, beq_eq_false_iff_ne]
          intro e
          rw [right2, decide_eq_true_iff, sz_of] at hr
          have ht := textL_of (bareL (s.data.toList.drop 1)) (by simpa using hr)
          rw [show (39 :: (dbl (bareL (s.data.toList.drop 1)) ++ [39])) = s.data.toList from e, htext] at ht
          cases ht

theorem readL_prt (k n : Int) (s : ByteArray) (h0 : -9223372036854775808 ≤ n) (h1 : n ≤ 9223372036854775807) (hr : rightB k n s = true) : readL (prt k n s) = some (k, n, s.data.toList) := by
  have hk := right_kind hr
  unfold rightB at hr
  rcases hk with rfl | rfl | ⟨rfl, hs⟩
  · rw [if_pos (by decide), Bool.and_eq_true, beq_iff_eq, toL, List.isEmpty_iff] at hr
    rw [prt0, hr.1, hr.2]
    rfl
  · rw [if_neg (by decide), if_pos (by decide), toL, List.isEmpty_iff] at hr
    rw [prt1, hr]
    unfold readL
    have hn := numL_of_itoa n h0 h1
    rw [if_neg, hn]
    obtain ⟨_, _, _, _, c, r, hc, hd⟩ := numL_itoa hn
    rw [hc]
    intro e
    simp only [nullL, List.cons.injEq] at e
    rw [e.1] at hd
    revert hd
    decide
  · rw [if_neg (by decide), if_neg (by decide), Bool.and_eq_true, Bool.and_eq_true, beq_iff_eq, beq_iff_eq] at hr
    rw [prt2, hr.1.2]
    unfold readL
    have hn : numL (39 :: (dbl s.data.toList ++ [39])) = none := by
      cases hv : numL (39 :: (dbl s.data.toList ++ [39])) with
      | none => rfl
      | some v =>
        obtain ⟨_, _, _, _, c, r, hc, hd⟩ := numL_itoa hv
        simp only [List.cons.injEq] at hc
        rw [← hc.1] at hd
        exact absurd hd (by decide)
    rw [if_neg (by simp [nullL]), hn, textL_of _ (by rw [← sz_of]; exact hs)]
    rfl

theorem readL_back {l : List UInt8} {k n : Int} {b : List UInt8} (h : readL l = some (k, n, b)) : rightB k n ⟨b.toArray⟩ = true ∧ prt k n ⟨b.toArray⟩ = l ∧ -9223372036854775808 ≤ n ∧ n ≤ 9223372036854775807 := by
  unfold readL at h
  split at h
  · rename_i e
    injection h with h
    simp only [Prod.mk.injEq] at h
    obtain ⟨rfl, rfl, rfl⟩ := h
    exact ⟨by decide +kernel, by rw [prt0, e], by decide, by decide⟩
  · split at h
    · rename_i v hv
      injection h with h
      simp only [Prod.mk.injEq] at h
      obtain ⟨rfl, rfl, rfl⟩ := h
      obtain ⟨hi, _, h0, h1, _⟩ := numL_itoa hv
      exact ⟨right1 v, by rw [prt1, hi], h0, h1⟩
    · rw [Option.map_eq_some_iff] at h
      obtain ⟨t, ht, h⟩ := h
      simp only [Prod.mk.injEq] at h
      obtain ⟨rfl, rfl, rfl⟩ := h
      obtain ⟨e, htl⟩ := textL_some ht
      refine ⟨?_, by rw [prt2, e], by decide, by decide⟩
      rw [right2, decide_eq_true_iff, sz_of]
      simpa using htl
end Go.Proofs.YtakpahmngkfpkaaDoor
