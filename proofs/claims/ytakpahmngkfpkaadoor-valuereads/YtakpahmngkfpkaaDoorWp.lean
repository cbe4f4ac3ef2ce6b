/- The document's Read at every text, in one word: what readL says. -/
import Derived.Test.YtakpahmngkfpkaaDoorWl
import Derived.Test.YtakpahmngkfpkaaDoorWn
import Derived.Test.YtakpahmngkfpkaaDoorWo
namespace Go.Proofs.YtakpahmngkfpkaaDoor
open Go.RowKit

theorem number_some (s : ByteArray) (w : World) (v : Int) (h : numL s.data.toList = some v) :
    Calls Tryd.prog 27 #[.string s] w fun e w' => e = .returned (.tuple #[.int .i64 v, .bool true]) ∧ Below w.heap.size w w' := by
  refine (number_any s w).mono ?_
  rintro e w' ⟨V, b, rfl, hr, hb⟩
  unfold numRel at hr
  rw [h] at hr
  obtain ⟨rfl, rfl⟩ := hr
  exact ⟨rfl, hb⟩
theorem number_none (s : ByteArray) (w : World) (h : numL s.data.toList = none) :
    Calls Tryd.prog 27 #[.string s] w fun e w' => ∃ V, e = .returned (.tuple #[.int .i64 V, .bool false]) ∧ Below w.heap.size w w' := by
  refine (number_any s w).mono ?_
  rintro e w' ⟨V, b, rfl, hr, hb⟩
  unfold numRel at hr
  rw [h] at hr
  have hb2 : b = false := hr
  subst hb2
  exact ⟨V, rfl, hb⟩

theorem last_of {s : ByteArray} {c : UInt8} {r : List UInt8} (hl : s.data.toList = c :: r) (h : 2 ≤ s.size) : r.getLast? = some s[s.size - 1] := by
  have hz := szl' s
  rw [hl, List.length_cons] at hz
  have e : s[s.size - 1] = s.data.toList[s.size - 1]'(by rw [← szl']; omega) := rfl
  rw [e]
  have e2 : s.data.toList.getLast? = some (s.data.toList[s.size - 1]'(by rw [← szl']; omega)) := by
    have hk : s.data.toList.length - 1 = s.size - 1 := by rw [szl' s]
    rw [List.getLast?_eq_getElem?, hk, List.getElem?_eq_getElem]
  rw [← e2, hl]
  cases r with
  | nil => simp at hz; omega
  | cons a b => rfl

theorem text_some (s : ByteArray) (w : World) (hsz : s.size ≤ 140737488351232) (t : List UInt8) (h : textL s.data.toList = some t) :
    Calls Tryd.prog 28 #[.string s] w fun e w' => e = .returned (.tuple #[.string ⟨t.toArray⟩, .bool true]) ∧ Below w.heap.size w w' := by
  obtain ⟨e, ht⟩ := textL_some h
  have hz := szl' s
  have h2 : 2 ≤ s.size := by rw [hz, e]; simp
  have hq : ((s[0].toNat : Int) != 39) = false := by rw [head_of e (by omega)]; rfl
  have hlast : s[s.size - 1] = 39 := by
    have := last_of e h2
    rw [List.getLast?_append] at this
    simpa using this.symm
  have he : ((s[s.size - 1].toNat : Int) != 39) = false := by rw [hlast]; rfl
  have hm : unq (midL s) = some t := by
    unfold midL
    rw [e]
    show unq ((dbl t ++ [39]).dropLast) = _
    rw [List.dropLast_concat, unq_dbl]
  refine (text_mid s w h2 hq he hsz).mono ?_
  rintro x w' ⟨x, b, rfl, hr, hb⟩
  unfold midRel at hr
  rw [hm] at hr
  obtain ⟨rfl, rfl⟩ := hr
  rw [decide_eq_true (by omega)]
  exact ⟨rfl, hb⟩

theorem text_none (s : ByteArray) (w : World) (hsz : s.size ≤ 140737488351232) (h : textL s.data.toList = none) :
    Calls Tryd.prog 28 #[.string s] w fun e w' => ∃ x, e = .returned (.tuple #[.string x, .bool false]) ∧ Below w.heap.size w w' := by
  have fin : (Calls Tryd.prog 28 #[.string s] w fun e w' => e = .returned (.tuple #[.string ⟨#[]⟩, .bool false]) ∧ Below w.heap.size w w') → Calls Tryd.prog 28 #[.string s] w fun e w' => ∃ x, e = .returned (.tuple #[.string x, .bool false]) ∧ Below w.heap.size w w' := by
    intro h
    refine h.mono ?_
    rintro e w' ⟨rfl, hb⟩
    exact ⟨_, rfl, hb⟩
  by_cases h2 : s.size < 2
  · exact fin (text_short s w h2)
  · cases hq : ((s[0].toNat : Int) != 39)
    · cases he : ((s[s.size - 1].toNat : Int) != 39)
      · refine (text_mid s w (by omega) hq he hsz).mono ?_
        rintro x w' ⟨x, b, rfl, hr, hb⟩
        cases hl : s.data.toList with
        | nil =>
          have hz := szl' s
          rw [hl, List.length_nil] at hz
          omega
        | cons c r =>
          have hlast := last_of hl (by omega)
          have c39 : c.toNat = 39 := by
            rw [bne_eq_false_iff_eq, head_of hl (by omega)] at hq
            omega
          have l39 : s[s.size - 1] = 39 := by
            rw [bne_eq_false_iff_eq] at he
            exact is39 (by omega)
          have hmid : midL s = r.dropLast := by unfold midL; rw [hl]; rfl
          rw [hl] at h
          unfold textL at h
          dsimp only at h
          rw [if_pos ⟨c39, by rw [hlast, l39]⟩, ← hmid] at h
          unfold midRel at hr
          cases hu : unq (midL s) with
          | none =>
            rw [hu] at hr
            have hb2 : b = false := hr
            subst hb2
            exact ⟨_, rfl, hb⟩
          | some t =>
            rw [hu] at hr h
            obtain ⟨rfl, rfl⟩ := hr
            simp only [Option.bind_some] at h
            split at h
            · cases h
            · rw [decide_eq_false (by omega)]
              exact ⟨_, rfl, hb⟩
      · exact fin (text_noend s w (by omega) hq he (by unfold maxLen; omega))
    · exact fin (text_noquote s w (by omega) hq)

set_option maxHeartbeats 1000000 in
theorem refRead_null (w : World) :
    Calls Tryd.prog 17 #[.string ⟨#[110, 117, 108, 108]⟩] w fun e w' => e = .returned (.tuple #[.agg #[.int .i64 0, .int .i64 0, .string ⟨#[]⟩], .int .i64 0]) ∧ Below w.heap.size w w' := by
  go_enter Tryd.func17, Tryd.ntmps17
  go_wp2
  exact bodyPost_ret (v := .tuple #[.agg #[.int .i64 0, .int .i64 0, .string ⟨#[]⟩], .int .i64 0]) (by simp [results, Tryd.results17, go_sem]) rfl ⟨rfl, (Below.refl _ _).alloc (Nat.le_refl _) _⟩

set_option maxHeartbeats 1000000 in
theorem refRead_num (s : ByteArray) (w : World) (hn : (s.toList == [110, 117, 108, 108]) = false) (v : Int) (h : numL s.data.toList = some v) :
    Calls Tryd.prog 17 #[.string s] w fun e w' => e = .returned (.tuple #[.agg #[.int .i64 1, .int .i64 v, .string ⟨#[]⟩], .int .i64 0]) ∧ Below w.heap.size w w' := by
  have H := Lib.hid h
  clear h
  go_enter Tryd.func17, Tryd.ntmps17
  go_wp2_with (go_at_call 27; refine (number_some _ _ v H.out).mono ?_; rintro e w1 ⟨rfl, hb1⟩; refine Hid.out ?_)
  refine Lib.hid ?_
  obtain ⟨c0, c1, c2, hlt⟩ := box_cells hb1
  obtain ⟨f0, f1, f2⟩ := box_more hb1
  have hbw : Below w.heap.size w w1 := ((Below.refl _ w).alloc (Nat.le_refl _) _).trans (hb1.mono (by simp))
  go_wp2
  exact bodyPost_ret (v := .tuple #[.agg #[.int .i64 1, .int .i64 v, .string ⟨#[]⟩], .int .i64 0]) (by simp [results, Tryd.results17, go_sem, c0, c1, c2]) rfl ⟨rfl, ((hbw.setCell (by simp) _).setCell (by simp) _).setCell (by simp) _⟩

set_option maxHeartbeats 1000000 in
theorem refRead_text (s : ByteArray) (w : World) (hsz : s.size ≤ 140737488351232) (hn : (s.toList == [110, 117, 108, 108]) = false) (h : numL s.data.toList = none) (t : List UInt8) (ht : textL s.data.toList = some t) :
    Calls Tryd.prog 17 #[.string s] w fun e w' => e = .returned (.tuple #[.agg #[.int .i64 2, .int .i64 0, .string ⟨t.toArray⟩], .int .i64 0]) ∧ Below w.heap.size w w' := by
  have H := Lib.hid h
  have HT := Lib.hid ht
  clear h ht
  go_enter Tryd.func17, Tryd.ntmps17
  go_wp2_with (go_at_call 27; refine (number_none _ _ H.out).mono ?_; rintro e w1 ⟨V, rfl, hb1⟩; refine Hid.out ?_)
  refine Lib.hid ?_
  go_wp2_with (go_at_call 28; refine (text_some _ _ hsz t HT.out).mono ?_; rintro e w2 ⟨rfl, hb2⟩; refine Hid.out ?_)
  refine Lib.hid ?_
  have hb3 := hb1.trans (hb2.mono hb1.size)
  obtain ⟨c0, c1, c2, hlt⟩ := box_cells hb3
  obtain ⟨f0, f1, f2⟩ := box_more hb3
  have hbw : Below w.heap.size w w2 := ((Below.refl _ w).alloc (Nat.le_refl _) _).trans (hb3.mono (by simp))
  go_wp2
  exact bodyPost_ret (v := .tuple #[.agg #[.int .i64 2, .int .i64 0, .string ⟨t.toArray⟩], .int .i64 0]) (by simp [results, Tryd.results17, go_sem, c0, c1, c2]) rfl ⟨rfl, ((hbw.setCell (by simp) _).setCell (by simp) _).setCell (by simp) _⟩

set_option maxHeartbeats 1000000 in
theorem refRead_no (s : ByteArray) (w : World) (hsz : s.size ≤ 140737488351232) (hn : (s.toList == [110, 117, 108, 108]) = false) (h : numL s.data.toList = none) (ht : textL s.data.toList = none) :
    Calls Tryd.prog 17 #[.string s] w fun e w' => e = .returned (.tuple #[.agg #[.int .i64 0, .int .i64 0, .string ⟨#[]⟩], .int .i64 10]) ∧ Below w.heap.size w w' := by
  have H := Lib.hid h
  have HT := Lib.hid ht
  clear h ht
  go_enter Tryd.func17, Tryd.ntmps17
  go_wp2_with (go_at_call 27; refine (number_none _ _ H.out).mono ?_; rintro e w1 ⟨V, rfl, hb1⟩; refine Hid.out ?_)
  refine Lib.hid ?_
  go_wp2_with (go_at_call 28; refine (text_none _ _ hsz HT.out).mono ?_; rintro e w2 ⟨x, rfl, hb2⟩; refine Hid.out ?_)
  refine Lib.hid ?_
  have hb3 := hb1.trans (hb2.mono hb1.size)
  obtain ⟨c0, c1, c2, hlt⟩ := box_cells hb3
  obtain ⟨f0, f1, f2⟩ := box_more hb3
  have hbw : Below w.heap.size w w2 := ((Below.refl _ w).alloc (Nat.le_refl _) _).trans (hb3.mono (by simp))
  go_wp2
  exact bodyPost_ret (v := .tuple #[.agg #[.int .i64 0, .int .i64 0, .string ⟨#[]⟩], .int .i64 10]) (by simp [results, Tryd.results17, go_sem, c0, c1, c2]) rfl ⟨rfl, ((hbw.setCell (by simp) _).setCell (by simp) _).setCell (by simp) _⟩

theorem refRead_some (s : ByteArray) (w : World) (hsz : s.size ≤ 140737488351232) (k n : Int) (b : List UInt8) (h : readL s.data.toList = some (k, n, b)) :
    Calls Tryd.prog 17 #[.string s] w fun e w' => e = .returned (.tuple #[.agg #[.int .i64 k, .int .i64 n, .string ⟨b.toArray⟩], .int .i64 0]) ∧ Below w.heap.size w w' := by
  unfold readL at h
  split at h
  · rename_i e
    have es := ba_of e
    injection h with h
    simp only [Prod.mk.injEq] at h
    obtain ⟨rfl, rfl, rfl⟩ := h
    subst es
    exact refRead_null w
  · rename_i hnn
    have hnull := notnull hnn
    split at h
    · rename_i v hv
      injection h with h
      simp only [Prod.mk.injEq] at h
      obtain ⟨rfl, rfl, rfl⟩ := h
      exact refRead_num s w hnull v hv
    · rename_i hnum
      rw [Option.map_eq_some_iff] at h
      obtain ⟨t, ht, h⟩ := h
      simp only [Prod.mk.injEq] at h
      obtain ⟨rfl, rfl, rfl⟩ := h
      exact refRead_text s w hsz hnull hnum t ht

theorem refRead_none (s : ByteArray) (w : World) (hsz : s.size ≤ 140737488351232) (h : readL s.data.toList = none) :
    Calls Tryd.prog 17 #[.string s] w fun e w' => e = .returned (.tuple #[.agg #[.int .i64 0, .int .i64 0, .string ⟨#[]⟩], .int .i64 10]) ∧ Below w.heap.size w w' := by
  unfold readL at h
  split at h
  · cases h
  · rename_i hnn
    have hnull := notnull hnn
    split at h
    · cases h
    · rename_i hnum
      exact refRead_no s w hsz hnull hnum (by simpa using h)
end Go.Proofs.YtakpahmngkfpkaaDoor
