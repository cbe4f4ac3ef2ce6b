/- The walk of the statement KeysBack: it answers true at every list and every text. -/
import Derived.Test.YtgagbfdknncadaaLa
namespace Go.Proofs.Ytgagbfdknncadaa
open Go.RowKit

theorem fits_of {M : List V} (h : ∀ v ∈ M, Right v) : Fits M := ⟨fun v hv => ⟨(h v hv).lo, (h v hv).hi⟩⟩
theorem enc_of {M : List V} (hl : M.length ≤ 8) (h : ∀ v ∈ M, Right v) : encE M = 0 ∧ encS M = encL M := by
  have hall : M.all rightV = true := List.all_eq_true.2 fun v hv => rightV_of (h v hv)
  have h8 : ¬ 8 < M.length := by omega
  unfold encE encS
  rw [if_neg h8, if_neg h8, if_pos hall, if_pos hall]
  exact ⟨rfl, rfl⟩


set_option maxHeartbeats 4000000 in
theorem back_no_none (A : List V) (ad : Option Addr) (cap : Nat) (s : ByteArray) (w : World) (hA : Li A ad w) (fA : Fits A) (hs : s.size ≤ maxLen) (h0 : encE A ≠ 0) (h : decL 8 s.data.toList = none) :
    Calls Try.prog 5 #[.slice ad A.length cap, .string s] w fun e w' => e = .returned (.bool true) ∧ Below w.heap.size w w' := by
  have t0 : (encE A == 0) = false := by rw [beq_eq_false_iff_ne]; exact h0
  have H := Lib.hid h
  clear h h0
  go_enter Try.func5, Try.ntmps5
  go_wp2_with (go_at_call 9; refine (encode_any A ad cap _ hA fA).mono ?_; rintro e w1 ⟨rfl, hb1⟩; refine Hid.out ?_)
  refine Lib.hid ?_
  go_wp2_with (go_at_call 13; refine (decode_no s _ hs H.out).mono ?_; rintro e w2 ⟨rfl, hb2⟩; refine Hid.out ?_)
  refine Lib.hid ?_
  have hw2 := hb1.trans (hb2.mono hb1.size)
  go_wp2_with (go_at_call 11; refine (awake_any _).mono ?_; rintro e w3 ⟨rfl, hb3⟩; refine Hid.out ?_)
  refine Lib.hid ?_
  go_wp2
  go_ret
  exact ⟨rfl, hw2.trans (hb3.mono hw2.size)⟩

set_option maxHeartbeats 4000000 in
theorem back_no_some (A : List V) (ad : Option Addr) (cap : Nat) (s : ByteArray) (w : World) (hA : Li A ad w) (fA : Fits A) (hs : s.size ≤ maxLen) (h0 : encE A ≠ 0) (M : List V) (h : decL 8 s.data.toList = some M) :
    Calls Try.prog 5 #[.slice ad A.length cap, .string s] w fun e w' => e = .returned (.bool true) ∧ Below w.heap.size w w' := by
  have t0 : (encE A == 0) = false := by rw [beq_eq_false_iff_ne]; exact h0
  obtain ⟨mL, mR, mE⟩ := encL_decL 8 _ M h
  have fM := fits_of mR
  obtain ⟨e1, e2⟩ := enc_of mL mR
  have t2 : (encS M == s.toList) = true := by rw [e2, mE, toL]; simp
  have HE := Lib.hid e1
  have H := Lib.hid h
  clear h h0 mR mE e1 e2
  go_enter Try.func5, Try.ntmps5
  go_wp2_with (go_at_call 9; refine (encode_any A ad cap _ hA fA).mono ?_; rintro e w1 ⟨rfl, hb1⟩; refine Hid.out ?_)
  refine Lib.hid ?_
  go_wp2_with (go_at_call 13; refine (decode_yes s _ hs M H.out).mono ?_; rintro e w2 ⟨ad2, cap2, rfl, hb2, hM2, _⟩; refine Hid.out ?_)
  refine Lib.hid ?_
  have hw2 := hb1.trans (hb2.mono hb1.size)
  go_wp2_with (go_at_call 9; refine (encode_any M ad2 cap2 _ hM2 fM).mono ?_; rw [HE.out]; rintro e w3 ⟨rfl, hb3⟩; refine Hid.out ?_)
  refine Lib.hid ?_
  have hw3 := hw2.trans (hb3.mono hw2.size)
  go_wp2_with (go_at_call 11; refine (awake_any _).mono ?_; rintro e w4 ⟨rfl, hb4⟩; refine Hid.out ?_)
  refine Lib.hid ?_
  go_wp2
  go_ret
  exact ⟨rfl, hw3.trans (hb4.mono hw3.size)⟩

theorem decode_key (A : List V) (w : World) (fA : Fits A) (h0 : encE A = 0) :
    Calls Try.prog 13 #[.string ⟨(encS A).toArray⟩] w fun e w' => ∃ ad cap, e = .returned (.tuple #[.slice ad A.length cap, .int .i64 0]) ∧ Below w.heap.size w w' ∧ Li A ad w' := by
  obtain ⟨lA, rA, eA⟩ := enc_ok fA h0
  refine (decode_yes ⟨(encS A).toArray⟩ w (encS_max fA) A (by show decL 8 (encS A) = _; rw [eA]; exact decL_encL 8 A lA rA)).mono ?_
  rintro e w' ⟨ad, cap, rfl, hb, hl, _⟩
  exact ⟨ad, cap, rfl, hb, hl⟩

set_option maxHeartbeats 4000000 in
theorem back_yes_none (A : List V) (ad : Option Addr) (cap : Nat) (s : ByteArray) (w : World) (hA : Li A ad w) (fA : Fits A) (hs : s.size ≤ maxLen) (h0 : encE A = 0) (h : decL 8 s.data.toList = none) :
    Calls Try.prog 5 #[.slice ad A.length cap, .string s] w fun e w' => e = .returned (.bool true) ∧ Below w.heap.size w w' := by
  have lA := (enc_ok fA h0).1
  have H0 := Lib.hid h0
  have H := Lib.hid h
  clear h h0
  go_enter Try.func5, Try.ntmps5
  go_wp2_with (go_at_call 9; refine (encode_any A ad cap _ hA fA).mono ?_; rw [H0.out]; rintro e w1 ⟨rfl, hb1⟩; refine Hid.out ?_)
  refine Lib.hid ?_
  have hA1 := hA.on hb1
  go_wp2_with (go_at_call 13; refine (decode_key A _ fA H0.out).mono ?_; rintro e wa ⟨ada, capa, rfl, hba, hLa⟩; refine Hid.out ?_)
  refine Lib.hid ?_
  have hA2 := hA1.on hba
  have hwa := hb1.trans (hba.mono hb1.size)
  go_wp2_with (go_at_call 12; refine (same_t A ada ad capa cap _ hLa hA2 (by omega)).mono ?_; rintro e wb ⟨rfl, hbb⟩; refine Hid.out ?_)
  refine Lib.hid ?_
  have hwb := hwa.trans (hbb.mono hwa.size)
  go_wp2_with (go_at_call 13; refine (decode_no s _ hs H.out).mono ?_; rintro e w2 ⟨rfl, hb2⟩; refine Hid.out ?_)
  refine Lib.hid ?_
  have hw2 := hwb.trans (hb2.mono hwb.size)
  go_wp2_with (go_at_call 11; refine (awake_any _).mono ?_; rintro e w3 ⟨rfl, hb3⟩; refine Hid.out ?_)
  refine Lib.hid ?_
  go_wp2
  go_ret
  exact ⟨rfl, hw2.trans (hb3.mono hw2.size)⟩

set_option maxHeartbeats 4000000 in
theorem back_yes_some (A : List V) (ad : Option Addr) (cap : Nat) (s : ByteArray) (w : World) (hA : Li A ad w) (fA : Fits A) (hs : s.size ≤ maxLen) (h0 : encE A = 0) (M : List V) (h : decL 8 s.data.toList = some M) :
    Calls Try.prog 5 #[.slice ad A.length cap, .string s] w fun e w' => e = .returned (.bool true) ∧ Below w.heap.size w w' := by
  have lA := (enc_ok fA h0).1
  obtain ⟨mL, mR, mE⟩ := encL_decL 8 _ M h
  have fM := fits_of mR
  obtain ⟨e1, e2⟩ := enc_of mL mR
  have t2 : (encS M == s.toList) = true := by rw [e2, mE, toL]; simp
  have HE := Lib.hid e1
  have H0 := Lib.hid h0
  have H := Lib.hid h
  clear h h0 mR mE e1 e2
  go_enter Try.func5, Try.ntmps5
  go_wp2_with (go_at_call 9; refine (encode_any A ad cap _ hA fA).mono ?_; rw [H0.out]; rintro e w1 ⟨rfl, hb1⟩; refine Hid.out ?_)
  refine Lib.hid ?_
  have hA1 := hA.on hb1
  go_wp2_with (go_at_call 13; refine (decode_key A _ fA H0.out).mono ?_; rintro e wa ⟨ada, capa, rfl, hba, hLa⟩; refine Hid.out ?_)
  refine Lib.hid ?_
  have hA2 := hA1.on hba
  have hwa := hb1.trans (hba.mono hb1.size)
  go_wp2_with (go_at_call 12; refine (same_t A ada ad capa cap _ hLa hA2 (by omega)).mono ?_; rintro e wb ⟨rfl, hbb⟩; refine Hid.out ?_)
  refine Lib.hid ?_
  have hwb := hwa.trans (hbb.mono hwa.size)
  go_wp2_with (go_at_call 13; refine (decode_yes s _ hs M H.out).mono ?_; rintro e w2 ⟨ad2, cap2, rfl, hb2, hM2, _⟩; refine Hid.out ?_)
  refine Lib.hid ?_
  have hw2 := hwb.trans (hb2.mono hwb.size)
  go_wp2_with (go_at_call 9; refine (encode_any M ad2 cap2 _ hM2 fM).mono ?_; rw [HE.out]; rintro e w3 ⟨rfl, hb3⟩; refine Hid.out ?_)
  refine Lib.hid ?_
  have hw3 := hw2.trans (hb3.mono hw2.size)
  go_wp2_with (go_at_call 11; refine (awake_any _).mono ?_; rintro e w4 ⟨rfl, hb4⟩; refine Hid.out ?_)
  refine Lib.hid ?_
  go_wp2
  go_ret
  exact ⟨rfl, hw3.trans (hb4.mono hw3.size)⟩

theorem back_any (A : List V) (ad : Option Addr) (cap : Nat) (s : ByteArray) (w : World) (hA : Li A ad w) (fA : Fits A) (hs : s.size ≤ maxLen) :
    Calls Try.prog 5 #[.slice ad A.length cap, .string s] w fun e w' => e = .returned (.bool true) ∧ Below w.heap.size w w' := by
  by_cases h0 : encE A = 0
  · cases h : decL 8 s.data.toList with
    | none => exact back_yes_none A ad cap s w hA fA hs h0 h
    | some M => exact back_yes_some A ad cap s w hA fA hs h0 M h
  · cases h : decL 8 s.data.toList with
    | none => exact back_no_none A ad cap s w hA fA hs h0 h
    | some M => exact back_no_some A ad cap s w hA fA hs h0 M h
end Go.Proofs.Ytgagbfdknncadaa
