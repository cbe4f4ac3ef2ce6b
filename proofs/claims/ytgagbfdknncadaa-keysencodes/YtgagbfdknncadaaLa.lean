/- The walk of the statement KeysOrder: it answers true at every two lists. -/
import Derived.Test.YtgagbfdknncadaaWl
namespace Go.Proofs.Ytgagbfdknncadaa
open Go.RowKit

theorem enc_ok {L : List V} (hf : Fits L) (h : encE L = 0) : L.length ≤ 8 ∧ (∀ v ∈ L, Right v) ∧ encS L = encL L := by
  unfold encE at h
  unfold encS
  split at h
  · cases h
  · rename_i h8
    split at h
    · rename_i hall
      refine ⟨by omega, fun v hv => right_of (List.all_eq_true.1 hall v hv) (hf.at' v hv), ?_⟩
      rw [if_neg h8, if_pos hall]
    · cases h
theorem encS_len {L : List V} (hf : Fits L) : (encS L).length ≤ 1048 := by
  unfold encS
  split
  · simp
  · rename_i h8
    split
    · rename_i hall
      have := encL_len L (fun v hv => right_of (List.all_eq_true.1 hall v hv) (hf.at' v hv))
      omega
    · simp
theorem encS_max {L : List V} (hf : Fits L) : (⟨(encS L).toArray⟩ : ByteArray).size ≤ maxLen := by
  have := encS_len hf
  show (encS L).toArray.size ≤ _
  rw [List.size_toArray]
  unfold maxLen
  omega

set_option maxHeartbeats 4000000 in
theorem order_a (A B : List V) (ad ad' : Option Addr) (cap cap' : Nat) (w : World) (hA : Li A ad w) (hB : Li B ad' w) (fA : Fits A) (fB : Fits B) (h : encE A ≠ 0) :
    Calls Try.prog 6 #[.slice ad A.length cap, .slice ad' B.length cap'] w fun e w' => e = .returned (.bool true) ∧ Below w.heap.size w w' := by
  have t1 : (encE A != 0) = true := by rw [bne_iff_ne]; exact h
  clear h
  go_enter Try.func6, Try.ntmps6
  go_wp2_with (go_at_call 9; refine (encode_any A ad cap _ hA fA).mono ?_; rintro e w1 ⟨rfl, hb1⟩; refine Hid.out ?_)
  refine Lib.hid ?_
  have hB1 := hB.on hb1
  go_wp2_with (go_at_call 9; refine (encode_any B ad' cap' _ hB1 fB).mono ?_; rintro e w2 ⟨rfl, hb2⟩; refine Hid.out ?_)
  refine Lib.hid ?_
  go_wp2_with (go_at_call 11; refine (awake_any _).mono ?_; rintro e w3 ⟨rfl, hb3⟩; refine Hid.out ?_)
  refine Lib.hid ?_
  go_wp2
  go_ret
  have z2 := hb2.size
  exact ⟨rfl, (hb1.trans (hb2.mono hb1.size)).trans (hb3.mono (Nat.le_trans hb1.size z2))⟩

set_option maxHeartbeats 4000000 in
theorem order_b (A B : List V) (ad ad' : Option Addr) (cap cap' : Nat) (w : World) (hA : Li A ad w) (hB : Li B ad' w) (fA : Fits A) (fB : Fits B) (h0 : encE A = 0) (h : encE B ≠ 0) :
    Calls Try.prog 6 #[.slice ad A.length cap, .slice ad' B.length cap'] w fun e w' => e = .returned (.bool true) ∧ Below w.heap.size w w' := by
  have t0 : (encE A != 0) = false := by rw [h0]; rfl
  have t1 : (encE B != 0) = true := by rw [bne_iff_ne]; exact h
  clear h h0
  go_enter Try.func6, Try.ntmps6
  go_wp2_with (go_at_call 9; refine (encode_any A ad cap _ hA fA).mono ?_; rintro e w1 ⟨rfl, hb1⟩; refine Hid.out ?_)
  refine Lib.hid ?_
  have hB1 := hB.on hb1
  go_wp2_with (go_at_call 9; refine (encode_any B ad' cap' _ hB1 fB).mono ?_; rintro e w2 ⟨rfl, hb2⟩; refine Hid.out ?_)
  refine Lib.hid ?_
  go_wp2_with (go_at_call 11; refine (awake_any _).mono ?_; rintro e w3 ⟨rfl, hb3⟩; refine Hid.out ?_)
  refine Lib.hid ?_
  go_wp2
  go_ret
  have z2 := hb2.size
  exact ⟨rfl, (hb1.trans (hb2.mono hb1.size)).trans (hb3.mono (Nat.le_trans hb1.size z2))⟩

set_option maxHeartbeats 4000000 in
theorem order_c (A B : List V) (ad ad' : Option Addr) (cap cap' : Nat) (w : World) (hA : Li A ad w) (hB : Li B ad' w) (fA : Fits A) (fB : Fits B) (sA : Sz A) (sB : Sz B) (hA0 : encE A = 0) (hB0 : encE B = 0) :
    Calls Try.prog 6 #[.slice ad A.length cap, .slice ad' B.length cap'] w fun e w' => e = .returned (.bool true) ∧ Below w.heap.size w w' := by
  have t0 : (encE A != 0) = false := by rw [hA0]; rfl
  have t1 : (encE B != 0) = false := by rw [hB0]; rfl
  obtain ⟨lA, rA, eA⟩ := enc_ok fA hA0
  obtain ⟨lB, rB, eB⟩ := enc_ok fB hB0
  have HC : Hid (Lib.compareBytes (encS A) (encS B) = standsL A B) := by
    show _ = _
    rw [eA, eB]
    exact cb_encL A B rA rB
  have m1 := encS_max fA
  have m2 := encS_max fB
  clear hA0 hB0 rA rB eA eB
  go_enter Try.func6, Try.ntmps6
  go_wp2_with (go_at_call 9; refine (encode_any A ad cap _ hA fA).mono ?_; rintro e w1 ⟨rfl, hb1⟩; refine Hid.out ?_)
  refine Lib.hid ?_
  have hB1 := hB.on hb1
  go_wp2_with (go_at_call 9; refine (encode_any B ad' cap' _ hB1 fB).mono ?_; rintro e w2 ⟨rfl, hb2⟩; refine Hid.out ?_)
  refine Lib.hid ?_
  have hw2 : Below w.heap.size w w2 := hb1.trans (hb2.mono hb1.size)
  go_wp2_with (go_at_call 11; refine (awake_any _).mono ?_; rintro e w3 ⟨rfl, hb3⟩; refine Hid.out ?_)
  refine Lib.hid ?_
  have hw3 := hw2.trans (hb3.mono hw2.size)
  go_wp2_with (go_at_call 15; refine (stands_any _ _ _ m1 m2).mono ?_; rintro e w4 ⟨rfl, hb4⟩; refine Hid.out ?_)
  refine Lib.hid ?_
  have hw4 := hw3.trans (hb4.mono hw3.size)
  go_wp2_with (go_at_call 16; refine (refStands_any A B ad ad' cap cap' _ (hA.on hw4) (hB.on hw4) sA sB (by omega) (by omega)).mono ?_; rintro e w5 ⟨rfl, hb5⟩; refine Hid.out ?_)
  refine Lib.hid ?_
  have hw5 := hw4.trans (hb5.mono hw4.size)
  go_wp2
  go_ret
  refine ⟨?_, hw5⟩
  have e : Lib.compareBytes (⟨(encS A).toArray⟩ : ByteArray).data.toList (⟨(encS B).toArray⟩ : ByteArray).data.toList = standsL A B := HC.out
  first
    | rw [e]; simp
    | simp [HC.out]

theorem order_any (A B : List V) (ad ad' : Option Addr) (cap cap' : Nat) (w : World) (hA : Li A ad w) (hB : Li B ad' w) (fA : Fits A) (fB : Fits B) (sA : Sz A) (sB : Sz B) :
    Calls Try.prog 6 #[.slice ad A.length cap, .slice ad' B.length cap'] w fun e w' => e = .returned (.bool true) ∧ Below w.heap.size w w' := by
  by_cases h1 : encE A = 0
  · by_cases h2 : encE B = 0
    · exact order_c A B ad ad' cap cap' w hA hB fA fB sA sB h1 h2
    · exact order_b A B ad ad' cap cap' w hA hB fA fB h1 h2
  · exact order_a A B ad ad' cap cap' w hA hB fA fB h1
end Go.Proofs.Ytgagbfdknncadaa
