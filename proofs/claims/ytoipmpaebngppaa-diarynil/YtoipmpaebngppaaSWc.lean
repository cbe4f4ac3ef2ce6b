/- The walks of strip.firstPayload and strip.Put. -/
import Derived.Test.YtoipmpaebngppaaSWb
import Derived.Test.YtoipmpaebngppaaSSh
import Derived.Deep.QuietTactic
import Derived.BigQuiet
namespace Go.Proofs.Ytoipmpaebngppaa
open Go.RowKit

theorem ext_list (s : ByteArray) (a b : Nat) : (s.extract a b).data.toList = (s.data.toList.drop a).take (b - a) := by
  simp
theorem ext_size (s : ByteArray) (a b : Nat) (h : b ≤ s.size) : (s.extract a b).size = b - a := by
  simp
  omega

theorem first_short (s : ByteArray) (w : World) (h8 : s.size < 8) :
    Calls Try.prog 41 #[.string s] w fun e w' => e = .returned (.tuple #[.string ⟨#[]⟩, .bool false]) ∧ Below w.heap.size w w' := by
  go_enter Try.func41, Try.ntmps41
  go_wp2
  go_ret2
  exact ⟨rfl, Below.refl _ _⟩

set_option maxHeartbeats 1000000 in
set_option maxRecDepth 100000 in
theorem first_walk (s H M R p T : ByteArray) (w : World) (n : Nat) (b : Bool) (h8 : 8 ≤ s.size) (hs : s.size ≤ maxLen) (eH : s.extract 0 4 = H) (eM : s.extract 4 8 = M) (eR : s.extract 8 s.size = R) (eP : R.extract 0 n = p)
    (hH : H.size = 4) (hn : num 0 H.data.toList = n) (hm : n ≤ 65536) (hl : n ≤ R.size) (hp : p.size ≤ 65536)
    (hT : (⟨(le4 (sumL (H.data.toList ++ p.data.toList))).toArray⟩ : ByteArray) = T) (hb : (M.toList == T.toList) = b) :
    Calls Try.prog 41 #[.string s] w fun e w' => e = .returned (.tuple #[.string p, .bool b]) ∧ Below w.heap.size w w' := by
  unfold maxLen at hs
  have h8' : (8 : Int) ≤ s.size := by omega
  have hm' : (n : Int) ≤ 65536 := by omega
  have hl' : (n : Int) ≤ R.size := by omega
  have HH := Lib.hid hH
  have HN := Lib.hid hn
  have HT := Lib.hid hT
  have HP : Hid (H.size + p.size ≤ 1000000) := by
    show _ ≤ _
    omega
  clear hH hn hT hp
  go_enter Try.func41, Try.ntmps41
  go_wp2
  go_quiet (fail)
  go_wp2_with (first | (go_at_call 54; refine (lengthOf_any _ _ HH.out).mono ?_; rintro e w1 ⟨rfl, rfl⟩; rw [HN.out]; refine Hid.out ?_) | (go_at_call 55; refine (sumText_any _ _ _ HP.out).mono ?_; rintro e w1 ⟨rfl, hb1⟩; rw [HT.out]; refine Hid.out ?_))
  refine Lib.hid ?_
  go_wp2_with (first | (go_at_call 54; refine (lengthOf_any _ _ HH.out).mono ?_; rintro e w1 ⟨rfl, rfl⟩; rw [HN.out]; refine Hid.out ?_) | (go_at_call 55; refine (sumText_any _ _ _ HP.out).mono ?_; rintro e w1 ⟨rfl, hb1⟩; rw [HT.out]; refine Hid.out ?_))
  refine Lib.hid ?_
  go_wp2
  go_ret2
  exact ⟨rfl, (below_drewN (Below.refl _ _) nq).trans hb1⟩

set_option maxHeartbeats 1000000 in
set_option maxRecDepth 100000 in
theorem first_bad (s H M R : ByteArray) (w : World) (n : Nat) (h8 : 8 ≤ s.size) (hs : s.size ≤ maxLen) (eH : s.extract 0 4 = H) (eM : s.extract 4 8 = M) (eR : s.extract 8 s.size = R)
    (hH : H.size = 4) (hn : num 0 H.data.toList = n) (h : 65536 < n ∨ (n ≤ 65536 ∧ R.size < n)) :
    Calls Try.prog 41 #[.string s] w fun e w' => e = .returned (.tuple #[.string ⟨#[]⟩, .bool false]) ∧ Below w.heap.size w w' := by
  unfold maxLen at hs
  have h8' : (8 : Int) ≤ s.size := by omega
  have HH := Lib.hid hH
  have HN := Lib.hid hn
  clear hH hn
  rcases h with h | ⟨h, h'⟩
  · have hm' : (65536 : Int) < n := by omega
    go_enter Try.func41, Try.ntmps41
    go_wp2
    go_quiet (fail)
    go_wp2_with (go_at_call 54; refine (lengthOf_any _ _ HH.out).mono ?_; rintro e w1 ⟨rfl, rfl⟩; rw [HN.out]; refine Hid.out ?_)
    refine Lib.hid ?_
    go_wp2
    go_ret2
    exact ⟨rfl, below_drewN (Below.refl _ _) nq⟩
  · have hm' : (n : Int) ≤ 65536 := by omega
    have hl' : (R.size : Int) < n := by omega
    go_enter Try.func41, Try.ntmps41
    go_wp2
    go_quiet (fail)
    go_wp2_with (go_at_call 54; refine (lengthOf_any _ _ HH.out).mono ?_; rintro e w1 ⟨rfl, rfl⟩; rw [HN.out]; refine Hid.out ?_)
    refine Lib.hid ?_
    go_wp2
    go_ret2
    exact ⟨rfl, below_drewN (Below.refl _ _) nq⟩

theorem of_list {a : ByteArray} {l : List UInt8} (h : a.data.toList = l) : a = ⟨l.toArray⟩ := by
  subst h
  rfl
theorem same_bytes {a b : ByteArray} (h : a.data.toList = b.data.toList) : a = b := by
  rw [of_list h]
theorem toL (s : ByteArray) : s.toList = s.data.toList := ByteArray.toList_eq s
theorem len_size (s : ByteArray) : s.data.toList.length = s.size := by simp

/-- What the first record is, if there is one. -/
theorem first_any (s : ByteArray) (w : World) (hs : s.size ≤ maxLen) :
    (NoRec s.data.toList ∧ ∃ q, Calls Try.prog 41 #[.string s] w fun e w' => e = .returned (.tuple #[.string q, .bool false]) ∧ Below w.heap.size w w') ∨
    (∃ p : ByteArray, p.size ≤ 65536 ∧ 8 + p.size ≤ s.size ∧ s.data.toList = recL p.data.toList ++ s.data.toList.drop (8 + p.size) ∧ Calls Try.prog 41 #[.string s] w fun e w' => e = .returned (.tuple #[.string p, .bool true]) ∧ Below w.heap.size w w') := by
  by_cases h8 : s.size < 8
  · exact .inl ⟨noRec_short (by rw [len_size]; exact h8), _, first_short s w h8⟩
  · obtain ⟨H, eH⟩ : ∃ H, s.extract 0 4 = H := ⟨_, rfl⟩
    obtain ⟨M, eM⟩ : ∃ M, s.extract 4 8 = M := ⟨_, rfl⟩
    obtain ⟨R, eR⟩ : ∃ R, s.extract 8 s.size = R := ⟨_, rfl⟩
    have hH : H.size = 4 := by rw [← eH, ext_size _ _ _ (by omega)]
    have hR : R.size = s.size - 8 := by rw [← eR, ext_size _ _ _ (by omega)]
    have lH : H.data.toList = s.data.toList.take 4 := by rw [← eH, ext_list]; rfl
    have lM : M.data.toList = (s.data.toList.drop 4).take 4 := by rw [← eM, ext_list]
    have lR : R.data.toList = s.data.toList.drop 8 := by rw [← eR]; rw [ext_list, List.take_of_length_le (by simp)]
    obtain ⟨n, hn⟩ : ∃ n, num 0 H.data.toList = n := ⟨_, rfl⟩
    have hn' : num 0 (s.data.toList.take 4) = n := by rw [← lH]; exact hn
    have hRl : (s.data.toList.drop 8).length = R.size := by rw [← lR, len_size]
    by_cases hb : 65536 < n ∨ (n ≤ 65536 ∧ R.size < n)
    · refine .inl ⟨first_no _ (.inr ?_), _, first_bad s H M R w n (by omega) hs eH eM eR hH hn hb⟩
      rw [hn', hRl]
      rcases hb with hb | ⟨_, hb⟩
      · exact .inl hb
      · exact .inr (.inl hb)
    · obtain ⟨p, eP⟩ : ∃ p, R.extract 0 n = p := ⟨_, rfl⟩
      have hp : p.size = n := by rw [← eP, ext_size _ _ _ (by omega)]; rfl
      have lp : p.data.toList = (s.data.toList.drop 8).take n := by rw [← eP, ext_list, lR]; rfl
      have hw := fun b hb => first_walk s H M R p ⟨(le4 (sumL (H.data.toList ++ p.data.toList))).toArray⟩ w n b (by omega) hs eH eM eR eP hH hn (by omega) (by omega) (by omega) rfl hb
      by_cases hq : (s.data.toList.drop 4).take 4 = le4 (sumL (s.data.toList.take 4 ++ (s.data.toList.drop 8).take n))
      · refine .inr ⟨p, by omega, by omega, ?_, hw true ?_⟩
        · have := first_yes s.data.toList n (by rw [len_size]; omega) hn' (by rw [hRl]; omega) hq
          rw [lp, hp]
          exact this
        · rw [beq_iff_eq, toL, toL, lM, hq, lH, lp]
      · refine .inl ⟨first_no _ (.inr (.inr (.inr ?_))), _, hw false ?_⟩
        · rw [hn']
          exact hq
        · rw [beq_eq_false_iff_ne, toL, toL, lM, lH, lp]
          exact hq

/-! ### Put -/
def recB (p : ByteArray) : ByteArray := ⟨(recL p.data.toList).toArray⟩
theorem recB_list (p : ByteArray) : (recB p).data.toList = recL p.data.toList := by simp [recB]
theorem recB_size (p : ByteArray) : (recB p).size = 8 + p.size := by rw [← len_size, recB_list, rec_len, len_size]

theorem put_big (p : ByteArray) (w : World) (hs : p.size ≤ maxLen) (h : 65536 < p.size) :
    Calls Try.prog 45 #[.string p] w fun e w' => e = .returned (.tuple #[.string ⟨#[]⟩, .int .i64 30]) ∧ Below w.heap.size w w' := by
  unfold maxLen at hs
  have h' : (65536 : Int) < p.size := by omega
  go_enter Try.func45, Try.ntmps45
  go_wp2
  go_ret2
  exact ⟨rfl, Below.refl _ _⟩

set_option maxHeartbeats 1000000 in
set_option maxRecDepth 100000 in
theorem put_any (p : ByteArray) (w : World) (h : p.size ≤ 65536) :
    Calls Try.prog 45 #[.string p] w fun e w' => e = .returned (.tuple #[.string (recB p), .int .i64 0]) ∧ Below w.heap.size w w' := by
  have h' : (p.size : Int) ≤ 65536 := by omega
  obtain ⟨H, eH⟩ : ∃ H : ByteArray, ⟨(be 4 p.size).toArray⟩ = H := ⟨_, rfl⟩
  have lH : H.data.toList = be 4 p.size := by rw [← eH]
  have hH : H.size = 4 := by rw [← len_size, lH, be_len]
  obtain ⟨T, eT⟩ : ∃ T : ByteArray, ⟨(le4 (sumL (H.data.toList ++ p.data.toList))).toArray⟩ = T := ⟨_, rfl⟩
  have lT : T.data.toList = le4 (sumL (H.data.toList ++ p.data.toList)) := by rw [← eT]
  have hT : T.size = 4 := by rw [← len_size, lT, le4_len]
  have HE : Hid (recB p = H ++ T ++ p) := by
    show _ = _
    apply same_bytes
    rw [recB_list]
    unfold recL headL
    rw [len_size]
    simp [lT, lH]
  have HH := Lib.hid eH
  have HT := Lib.hid eT
  have HP : Hid (H.size + p.size ≤ 1000000) := by
    show _ ≤ _
    omega
  clear eH eT lH lT
  go_enter Try.func45, Try.ntmps45
  go_wp2_with (first | (go_at_call 57; refine (lengthText_any p.size _ h).mono ?_; rintro e w1 ⟨rfl, hb1⟩; rw [HH.out]; refine Hid.out ?_) | (go_at_call 55; refine (sumText_any _ _ _ HP.out).mono ?_; rintro e w2 ⟨rfl, hb2⟩; rw [HT.out]; refine Hid.out ?_))
  refine Lib.hid ?_
  go_wp2_with (first | (go_at_call 57; refine (lengthText_any p.size _ h).mono ?_; rintro e w1 ⟨rfl, hb1⟩; rw [HH.out]; refine Hid.out ?_) | (go_at_call 55; refine (sumText_any _ _ _ HP.out).mono ?_; rintro e w2 ⟨rfl, hb2⟩; rw [HT.out]; refine Hid.out ?_))
  refine Lib.hid ?_
  go_wp2
  go_ret2
  rw [HE.out]
  exact ⟨rfl, hb1.trans (hb2.mono hb1.size)⟩
end Go.Proofs.Ytoipmpaebngppaa
