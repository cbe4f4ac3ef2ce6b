/- The walk of the statement KeysUnder: it answers true at every two lists. -/
import Derived.Test.YtgagbfdknncadaaLa
namespace Go.Proofs.Ytgagbfdknncadaa
open Go.RowKit

theorem li_take {B : List V} {ad : Option Addr} {w : World} (h : Li B ad w) (m : Nat) : Li (B.take m) ad w := by
  refine ⟨fun i hi => ?_⟩
  rw [List.length_take] at hi
  obtain ⟨b, o, ha, hl, c⟩ := h.at' i (by omega)
  refine ⟨b, o, ha, hl, ?_⟩
  rw [List.getElem_take]
  exact c

set_option maxHeartbeats 4000000 in
theorem under_a (A B : List V) (ad ad' : Option Addr) (cap cap' : Nat) (w : World) (hA : Li A ad w) (hB : Li B ad' w) (fA : Fits A) (fB : Fits B) (h : encE A ≠ 0) :
    Calls Try.prog 7 #[.slice ad A.length cap, .slice ad' B.length cap'] w fun e w' => e = .returned (.bool true) ∧ Below w.heap.size w w' := by
  have t1 : (encE A != 0) = true := by rw [bne_iff_ne]; exact h
  clear h
  go_enter Try.func7, Try.ntmps7
  go_wp2_with (go_at_call 9; refine (encode_any A ad cap _ hA fA).mono ?_; rintro e w1 ⟨rfl, hb1⟩; refine Hid.out ?_)
  refine Lib.hid ?_
  have hB1 := hB.on hb1
  go_wp2_with (go_at_call 9; refine (encode_any B ad' cap' _ hB1 fB).mono ?_; rintro e w2 ⟨rfl, hb2⟩; refine Hid.out ?_)
  refine Lib.hid ?_
  have hw2 := hb1.trans (hb2.mono hb1.size)
  go_wp2_with (go_at_call 11; refine (awake_any _).mono ?_; rintro e w3 ⟨rfl, hb3⟩; refine Hid.out ?_)
  refine Lib.hid ?_
  have hw3 := hw2.trans (hb3.mono hw2.size)
  go_wp2_with (go_at_call 11; refine (awake_any _).mono ?_; rintro e w4 ⟨rfl, hb4⟩; refine Hid.out ?_)
  refine Lib.hid ?_
  go_wp2
  go_ret
  exact ⟨rfl, hw3.trans (hb4.mono hw3.size)⟩

set_option maxHeartbeats 4000000 in
theorem under_b (A B : List V) (ad ad' : Option Addr) (cap cap' : Nat) (w : World) (hA : Li A ad w) (hB : Li B ad' w) (fA : Fits A) (fB : Fits B) (h0 : encE A = 0) (h : encE B ≠ 0) :
    Calls Try.prog 7 #[.slice ad A.length cap, .slice ad' B.length cap'] w fun e w' => e = .returned (.bool true) ∧ Below w.heap.size w w' := by
  have t0 : (encE A != 0) = false := by rw [h0]; rfl
  have t1 : (encE B != 0) = true := by rw [bne_iff_ne]; exact h
  clear h h0
  go_enter Try.func7, Try.ntmps7
  go_wp2_with (go_at_call 9; refine (encode_any A ad cap _ hA fA).mono ?_; rintro e w1 ⟨rfl, hb1⟩; refine Hid.out ?_)
  refine Lib.hid ?_
  have hB1 := hB.on hb1
  go_wp2_with (go_at_call 9; refine (encode_any B ad' cap' _ hB1 fB).mono ?_; rintro e w2 ⟨rfl, hb2⟩; refine Hid.out ?_)
  refine Lib.hid ?_
  have hw2 := hb1.trans (hb2.mono hb1.size)
  go_wp2_with (go_at_call 11; refine (awake_any _).mono ?_; rintro e w3 ⟨rfl, hb3⟩; refine Hid.out ?_)
  refine Lib.hid ?_
  have hw3 := hw2.trans (hb3.mono hw2.size)
  go_wp2_with (go_at_call 11; refine (awake_any _).mono ?_; rintro e w4 ⟨rfl, hb4⟩; refine Hid.out ?_)
  refine Lib.hid ?_
  go_wp2
  go_ret
  exact ⟨rfl, hw3.trans (hb4.mono hw3.size)⟩

/-- The lists begin alike: what the span says. -/
def Beg (A B : List V) (r : Bool) : Prop := r = true ↔ (Lib.compareBytes (encS A) (encS B) ≤ 0 ∧ Lib.compareBytes (encS B) (encS A ++ [255]) < 0)

set_option maxHeartbeats 1000000 in
theorem in_at (A B : List V) (fA : Fits A) (fB : Fits B) (r : Bool) (hr : Beg A B r) (w : World) :
    Calls Try.prog 17 #[.string ⟨(encS B).toArray⟩, .agg #[.string ⟨(encS A).toArray⟩, .string (ByteArray.mk (encS A).toArray ++ ByteArray.mk #[255])]] w fun e w' => e = .returned (.bool r) ∧ Below w.heap.size w w' := by
  have hz := encS_len fA
  refine in_any ⟨(encS B).toArray⟩ ⟨(encS A).toArray⟩ (ByteArray.mk (encS A).toArray ++ ByteArray.mk #[255]) w (encS_max fB) (encS_max fA) ?_ r ?_
  · rw [ByteArray.size_append]
    show (encS A).toArray.size + 1 ≤ _
    rw [List.size_toArray]
    unfold maxLen
    omega
  · have e : (ByteArray.mk (encS A).toArray ++ ByteArray.mk #[255]).data.toList = encS A ++ [255] := by rw [ByteArray.data_append, Array.toList_append]
    rw [e]
    exact hr

set_option maxHeartbeats 4000000 in
theorem under_long (A B : List V) (ad ad' : Option Addr) (cap cap' : Nat) (w : World) (hA : Li A ad w) (hB : Li B ad' w) (fA : Fits A) (fB : Fits B) (hA0 : encE A = 0) (hB0 : encE B = 0) (hl : ¬ A.length ≤ B.length) :
    Calls Try.prog 7 #[.slice ad A.length cap, .slice ad' B.length cap'] w fun e w' => e = .returned (.bool true) ∧ Below w.heap.size w w' := by
  have t0 : (encE A != 0) = false := by rw [hA0]; rfl
  have t1 : (encE B != 0) = false := by rw [hB0]; rfl
  obtain ⟨lA, rA, eA⟩ := enc_ok fA hA0
  obtain ⟨lB, rB, eB⟩ := enc_ok fB hB0
  have HB : Hid (Beg A B false) := by
    show _ ↔ _
    rw [eA, eB, under_iff A B rA rB]
    refine ⟨fun h => (by cases h), fun h => ?_⟩
    have := congrArg List.length h
    rw [List.length_take] at this
    omega
  have hz := encS_len fA
  have t2 : ¬ (A.length : Int) ≤ (B.length : Int) := by omega
  have hzz : (⟨(encS A).toArray⟩ : ByteArray).size ≤ 5000 := by show (encS A).toArray.size ≤ _; rw [List.size_toArray]; omega
  clear hA0 hB0 rA rB eA eB
  go_enter Try.func7, Try.ntmps7
  go_wp2_with (go_at_call 9; refine (encode_any A ad cap _ hA fA).mono ?_; rintro e w1 ⟨rfl, hb1⟩; refine Hid.out ?_)
  refine Lib.hid ?_
  have hB1 := hB.on hb1
  go_wp2_with (go_at_call 9; refine (encode_any B ad' cap' _ hB1 fB).mono ?_; rintro e w2 ⟨rfl, hb2⟩; refine Hid.out ?_)
  refine Lib.hid ?_
  have hw2 := hb1.trans (hb2.mono hb1.size)
  go_wp2_with (go_at_call 11; refine (awake_any _).mono ?_; rintro e w3 ⟨rfl, hb3⟩; refine Hid.out ?_)
  refine Lib.hid ?_
  have hw3 := hw2.trans (hb3.mono hw2.size)
  go_wp2_with (go_at_call 18; refine (under_any _ _ hzz).mono ?_; rintro e w4 ⟨rfl, hb4⟩; refine Hid.out ?_)
  refine Lib.hid ?_
  have hw4 := hw3.trans (hb4.mono hw3.size)
  go_wp2_with (go_at_call 17; refine (in_at A B fA fB false HB.out _).mono ?_; rintro e w5 ⟨rfl, hb5⟩; refine Hid.out ?_)
  refine Lib.hid ?_
  go_wp2
  go_ret
  exact ⟨rfl, hw4.trans (hb5.mono hw4.size)⟩

theorem same_any (L M : List V) (ad ad' : Option Addr) (cap cap' : Nat) (w : World) (hL : Li L ad w) (hM : Li M ad' w) (hmax : L.length ≤ 100) (r : Bool) (hr : r = true ↔ L = M) :
    Calls Try.prog 12 #[.slice ad L.length cap, .slice ad' M.length cap'] w fun e w' => e = .returned (.bool r) ∧ Below w.heap.size w w' := by
  cases r with
  | true =>
    have e := hr.1 rfl
    subst e
    exact same_t L ad ad' cap cap' w hL hM (by omega)
  | false => exact same_f L M ad ad' cap cap' w hL hM (by omega) (fun e => by have := hr.2 e; cases this)

set_option maxHeartbeats 4000000 in
theorem under_short (A B : List V) (ad ad' : Option Addr) (cap cap' : Nat) (w : World) (hA : Li A ad w) (hB : Li B ad' w) (fA : Fits A) (fB : Fits B) (hc : B.length ≤ cap') (hn : ad' = none → cap' = 0) (hA0 : encE A = 0) (hB0 : encE B = 0) (hl : A.length ≤ B.length) (r : Bool) (hr : r = true ↔ A = B.take A.length) :
    Calls Try.prog 7 #[.slice ad A.length cap, .slice ad' B.length cap'] w fun e w' => e = .returned (.bool true) ∧ Below w.heap.size w w' := by
  have t0 : (encE A != 0) = false := by rw [hA0]; rfl
  have t1 : (encE B != 0) = false := by rw [hB0]; rfl
  obtain ⟨lA, rA, eA⟩ := enc_ok fA hA0
  obtain ⟨lB, rB, eB⟩ := enc_ok fB hB0
  have HB : Hid (Beg A B r) := by
    show _ ↔ _
    rw [eA, eB, under_iff A B rA rB]
    exact hr
  have HR := Lib.hid hr
  have hz := encS_len fA
  have t2 : (A.length : Int) ≤ (B.length : Int) := by omega
  have hzz : (⟨(encS A).toArray⟩ : ByteArray).size ≤ 5000 := by show (encS A).toArray.size ≤ _; rw [List.size_toArray]; omega
  have htl : (B.take A.length).length = A.length := by rw [List.length_take]; omega
  have hsm : ∀ W : World, Below w.heap.size w W → ∀ cc : Nat, Calls Try.prog 12 #[.slice ad A.length cap, .slice ad' A.length cc] W fun e w' => e = .returned (.bool r) ∧ Below W.heap.size W w' := by
    intro W hW cc
    have h := same_any A (B.take A.length) ad ad' cap cc W (hA.on hW) (li_take (hB.on hW) _) (by omega) r HR.out
    rw [htl] at h
    exact h
  have m1 : min (A.length : Int) (B.length : Int) = (A.length : Int) := by omega
  clear hA0 hB0 rA rB eA eB hr htl
  cases ad' with
  | none =>
    have hc0 := hn rfl
    have hB0 : B.length = 0 := by omega
    have hA0 : A.length = 0 := by omega
    subst hc0
    rw [hB0] at t2 m1 hl hc ⊢
    rw [hA0] at t2 m1 hl hsm ⊢
    go_enter Try.func7, Try.ntmps7
    go_wp2_with (go_at_call 9; refine (show Calls Try.prog 9 #[.slice ad 0 cap] _ _ from hA0 ▸ encode_any A ad cap _ hA fA).mono ?_; rintro e w1 ⟨rfl, hb1⟩; refine Hid.out ?_)
    refine Lib.hid ?_
    have hB1 := hB.on hb1
    go_wp2_with (go_at_call 9; refine (show Calls Try.prog 9 #[.slice none 0 0] _ _ from hB0 ▸ encode_any B none 0 _ hB1 fB).mono ?_; rintro e w2 ⟨rfl, hb2⟩; refine Hid.out ?_)
    refine Lib.hid ?_
    have hw2 := hb1.trans (hb2.mono hb1.size)
    go_wp2_with (go_at_call 11; refine (awake_any _).mono ?_; rintro e w3 ⟨rfl, hb3⟩; refine Hid.out ?_)
    refine Lib.hid ?_
    have hw3 := hw2.trans (hb3.mono hw2.size)
    go_wp2_with (go_at_call 12; refine (hsm _ hw3 _).mono ?_; rintro e w3' ⟨rfl, hb3'⟩; refine Hid.out ?_)
    refine Lib.hid ?_
    have hw3' := hw3.trans (hb3'.mono hw3.size)
    go_wp2_with (go_at_call 18; refine (under_any _ _ hzz).mono ?_; rintro e w4 ⟨rfl, hb4⟩; refine Hid.out ?_)
    refine Lib.hid ?_
    have hw4 := hw3'.trans (hb4.mono hw3'.size)
    go_wp2_with (go_at_call 17; refine (in_at A B fA fB r HB.out _).mono ?_; rintro e w5 ⟨rfl, hb5⟩; refine Hid.out ?_)
    refine Lib.hid ?_
    go_wp2
    go_ret
    refine ⟨?_, hw4.trans (hb5.mono hw4.size)⟩
    cases r <;> rfl
  | some a =>
    have x1 : (A.length : Int) ≤ (cap' : Int) := by omega
    go_enter Try.func7, Try.ntmps7
    go_wp2_with (go_at_call 9; refine (encode_any A ad cap _ hA fA).mono ?_; rintro e w1 ⟨rfl, hb1⟩; refine Hid.out ?_)
    refine Lib.hid ?_
    have hB1 := hB.on hb1
    go_wp2_with (go_at_call 9; refine (encode_any B (some a) cap' _ hB1 fB).mono ?_; rintro e w2 ⟨rfl, hb2⟩; refine Hid.out ?_)
    refine Lib.hid ?_
    have hw2 := hb1.trans (hb2.mono hb1.size)
    go_wp2_with (go_at_call 11; refine (awake_any _).mono ?_; rintro e w3 ⟨rfl, hb3⟩; refine Hid.out ?_)
    refine Lib.hid ?_
    have hw3 := hw2.trans (hb3.mono hw2.size)
    go_wp2_with (go_at_call 12; refine (hsm _ hw3 _).mono ?_; rintro e w3' ⟨rfl, hb3'⟩; refine Hid.out ?_)
    refine Lib.hid ?_
    have hw3' := hw3.trans (hb3'.mono hw3.size)
    go_wp2_with (go_at_call 18; refine (under_any _ _ hzz).mono ?_; rintro e w4 ⟨rfl, hb4⟩; refine Hid.out ?_)
    refine Lib.hid ?_
    have hw4 := hw3'.trans (hb4.mono hw3'.size)
    go_wp2_with (go_at_call 17; refine (in_at A B fA fB r HB.out _).mono ?_; rintro e w5 ⟨rfl, hb5⟩; refine Hid.out ?_)
    refine Lib.hid ?_
    go_wp2
    go_ret
    refine ⟨?_, hw4.trans (hb5.mono hw4.size)⟩
    cases r <;> rfl

theorem under_law (A B : List V) (ad ad' : Option Addr) (cap cap' : Nat) (w : World) (hA : Li A ad w) (hB : Li B ad' w) (fA : Fits A) (fB : Fits B) (hc : B.length ≤ cap') (hn : ad' = none → cap' = 0) :
    Calls Try.prog 7 #[.slice ad A.length cap, .slice ad' B.length cap'] w fun e w' => e = .returned (.bool true) ∧ Below w.heap.size w w' := by
  by_cases h1 : encE A = 0
  · by_cases h2 : encE B = 0
    · by_cases hl : A.length ≤ B.length
      · by_cases he : A = B.take A.length
        · exact under_short A B ad ad' cap cap' w hA hB fA fB hc hn h1 h2 hl true ⟨fun _ => he, fun _ => rfl⟩
        · exact under_short A B ad ad' cap cap' w hA hB fA fB hc hn h1 h2 hl false ⟨fun h => (by cases h), fun h => absurd h he⟩
      · exact under_long A B ad ad' cap cap' w hA hB fA fB h1 h2 hl
    · exact under_b A B ad ad' cap cap' w hA hB fA fB h1 h2
  · exact under_a A B ad ad' cap cap' w hA hB fA fB h1
end Go.Proofs.Ytgagbfdknncadaa
