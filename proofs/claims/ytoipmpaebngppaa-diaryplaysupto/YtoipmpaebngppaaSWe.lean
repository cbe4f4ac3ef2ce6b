/- The walks of the document's Put and of awake. -/
import Derived.Test.YtoipmpaebngppaaSWd
namespace Go.Proofs.Ytoipmpaebngppaa
open Go.RowKit

theorem refPut_big (p : ByteArray) (w : World) (hs : p.size ≤ maxLen) (h : 65536 < p.size) :
    Calls Try.prog 40 #[.string p] w fun e w' => e = .returned (.tuple #[.string ⟨#[]⟩, .int .i64 30]) ∧ Below w.heap.size w w' := by
  unfold maxLen at hs
  have h' : (65536 : Int) < p.size := by omega
  go_enter Try.func40, Try.ntmps40
  go_wp2
  go_ret2
  exact ⟨rfl, Below.refl _ _⟩

set_option maxHeartbeats 2000000 in
set_option maxRecDepth 100000 in
theorem refPut_any (p : ByteArray) (w : World) (h : p.size ≤ 65536) :
    Calls Try.prog 40 #[.string p] w fun e w' => e = .returned (.tuple #[.string (recB p), .int .i64 0]) ∧ Below w.heap.size w w' := by
  have h' : (p.size : Int) ≤ 65536 := by omega
  obtain ⟨n, hn⟩ : ∃ n, p.size = n := ⟨_, rfl⟩
  have HB : Hid (be 4 n = [UInt8.ofNat (n / 16777216), UInt8.ofNat (n / 65536), UInt8.ofNat (n / 256), UInt8.ofNat n]) := by
    show _ = _
    simp [be]
  have h1 := byte_at n 16777216
  have h2 := byte_at n 65536
  have h3 := byte_at n 256
  have h4 := byte_of n
  generalize UInt8.ofNat (n / 16777216) = a at *
  generalize UInt8.ofNat (n / 65536) = b at *
  generalize UInt8.ofNat (n / 256) = c at *
  generalize UInt8.ofNat n = d at *
  have h1 : (n : Int) / 16777216 = (a.toNat : Int) := by rw [← h1]; show _ = (n : Int) / 16777216 % 256; omega
  have h2 : (n : Int) / 65536 % 256 = (b.toNat : Int) := h2
  have h3 : (n : Int) / 256 % 256 = (c.toNat : Int) := h3
  rw [← hn] at h1 h2 h3 h4 HB
  have ha := a.toNat_lt
  have hb := b.toNat_lt
  have hc := c.toNat_lt
  have hd := d.toNat_lt
  clear hn
  obtain ⟨H, eH⟩ : ∃ H : ByteArray, (⟨#[a, b, c, d]⟩ : ByteArray) = H := ⟨_, rfl⟩
  have lH : H.data.toList = be 4 p.size := by rw [← eH, HB.out]
  have hH : H.size = 4 := by rw [← len_size, lH, be_len]
  have hcv := fun t => conv4 w t a b c d
  rw [eH] at hcv
  obtain ⟨X, eX⟩ : ∃ X : ByteArray, H ++ p = X := ⟨_, rfl⟩
  have hX : X.size ≤ maxLen := by
    rw [← eX, ByteArray.size_append]
    unfold maxLen
    omega
  obtain ⟨m, em⟩ : ∃ m, sumL X.data.toList = m := ⟨_, rfl⟩
  have hm : m < 4294967296 := by rw [← em]; exact sumL_lt _
  have HM := Lib.hid em
  have HL : Hid (le4 m = [UInt8.ofNat m, UInt8.ofNat (m / 256), UInt8.ofNat (m / 65536), UInt8.ofNat (m / 16777216)]) := rfl
  have g1 := byte_at m 16777216
  have g2 := byte_at m 65536
  have g3 := byte_at m 256
  have g4 := byte_of m
  generalize UInt8.ofNat (m / 16777216) = a' at *
  generalize UInt8.ofNat (m / 65536) = b' at *
  generalize UInt8.ofNat (m / 256) = c' at *
  generalize UInt8.ofNat m = d' at *
  have g1 : (m : Int) / 16777216 = (a'.toNat : Int) := by rw [← g1]; show _ = (m : Int) / 16777216 % 256; omega
  have g2 : (m : Int) / 65536 % 256 = (b'.toNat : Int) := g2
  have g3 : (m : Int) / 256 % 256 = (c'.toNat : Int) := g3
  have ha' := a'.toNat_lt
  have hb' := b'.toNat_lt
  have hc' := c'.toNat_lt
  have hd' := d'.toNat_lt
  obtain ⟨T, eT⟩ : ∃ T : ByteArray, (⟨#[d', c', b', a']⟩ : ByteArray) = T := ⟨_, rfl⟩
  have hcw := fun W t => conv4 W t d' c' b' a'
  rw [eT] at hcw
  have lT : T.data.toList = le4 m := by rw [← eT, HL.out]
  have hT : T.size = 4 := by rw [← len_size, lT, le4_len]
  have HE : Hid (recB p = H ++ T ++ p) := by
    show _ = _
    apply same_bytes
    rw [recB_list]
    unfold recL headL
    rw [len_size]
    simp [lT, lH, ← em, ← eX]
  clear em lT lH eT eH HB HL
  go_enter Try.func40, Try.ntmps40
  go_wp2_with (go_at_call 53; refine (refSum_any _ _ hX).mono ?_; rintro e w1 ⟨rfl, rfl⟩; rw [HM.out]; refine Hid.out ?_)
  refine Lib.hid ?_
  have hcx := hcw (w.alloc (.cells #[.int .u8 a.toNat, .int .u8 b.toNat, .int .u8 c.toNat, .int .u8 d.toNat] 5))
  have hz : (w.alloc (.cells #[.int .u8 a.toNat, .int .u8 b.toNat, .int .u8 c.toNat, .int .u8 d.toNat] 5)).heap.size = w.heap.size + 1 := by simp
  rw [hz] at hcx
  clear hcw hz
  go_wp2
  go_ret2
  rw [HE.out]
  exact ⟨rfl, ((Below.refl _ _).alloc (Nat.le_refl _) _).alloc (by simp) _⟩
end Go.Proofs.Ytoipmpaebngppaa
