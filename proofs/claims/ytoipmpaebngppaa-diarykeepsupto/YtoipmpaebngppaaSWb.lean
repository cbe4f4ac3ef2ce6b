/- The walks of strip.lengthText, strip.sumText and strip.lengthOf. -/
import Derived.Test.YtoipmpaebngppaaSWa
namespace Go.Proofs.Ytoipmpaebngppaa
open Go.RowKit

theorem bcell {W w1 : World} (hb : Below W.heap.size W w1) : (∀ b o, b < W.heap.size → w1.cell? ⟨b, o, none⟩ = W.cell? ⟨b, o, none⟩) ∧ (∀ b o, b < W.heap.size → w1.frozen? ⟨b, o, none⟩ = W.frozen? ⟨b, o, none⟩) :=
  ⟨fun b o h => hb.cell (p := ⟨b, o, none⟩) h, fun b o h => hb.frozen (p := ⟨b, o, none⟩) h⟩

/-- Four bytes that are built are read as a text. -/
theorem conv4 (w : World) (t : TypeId) (a b c d : UInt8) : (Go.convert 73 9 (.slice (some ⟨w.heap.size, 0, none⟩) 4 4)).run Try.prog (w.alloc (.cells #[.int .u8 a.toNat, .int .u8 b.toNat, .int .u8 c.toNat, .int .u8 d.toNat] t)) = .ok (.string ⟨#[a, b, c, d]⟩) (w.alloc (.cells #[.int .u8 a.toNat, .int .u8 b.toNat, .int .u8 c.toNat, .int .u8 d.toNat] t)) := by
  refine run_convert_bytes_back (P := Try.prog) _ 73 9 5 ⟨w.heap.size, 0, none⟩ 4 [a, b, c, d] Try.underlying73 Try.underlying5 Try.underlying9 (fun j hj => ?_)
  match j, hj with
  | 0, _ => simp [Addr.add]
  | 1, _ => simp [Addr.add]
  | 2, _ => simp [Addr.add]
  | 3, _ => simp [Addr.add]

theorem byte_of (m : Nat) : (m : Int) % 256 = ((UInt8.ofNat m).toNat : Int) := by
  rw [UInt8.toNat_ofNat']
  show (m : Int) % ((256 : Nat) : Int) = _
  rw [← Int.natCast_emod]
theorem byte_at (m j : Nat) : (m : Int) / (j : Int) % 256 = ((UInt8.ofNat (m / j)).toNat : Int) := by
  rw [← byte_of, Int.natCast_ediv]

set_option maxHeartbeats 1000000 in
set_option maxRecDepth 100000 in
theorem lengthText_any (n : Nat) (w : World) (h : n ≤ 65536) :
    Calls Try.prog 57 #[.int .i64 n] w fun e w' => e = .returned (.string ⟨(be 4 n).toArray⟩) ∧ Below w.heap.size w w' := by
  have HB : Hid (be 4 n = [UInt8.ofNat (n / 16777216), UInt8.ofNat (n / 65536), UInt8.ofNat (n / 256), UInt8.ofNat n]) := by
    show _ = _
    simp [be]
  have h1 := byte_at n 16777216
  have h2 := byte_at n 65536
  have h3 := byte_at n 256
  have h4 := byte_of n
  generalize UInt8.ofNat (n / 16777216) = a at *
  generalize UInt8.ofNat (n / 65536) = b at *
  generalize UInt8.ofNat (n / 256) = c at *
  generalize UInt8.ofNat n = d at *
  have h1 : (n : Int) / 16777216 = (a.toNat : Int) := by rw [← h1]; show _ = (n : Int) / 16777216 % 256; omega
  have h2 : (n : Int) / 65536 = (b.toNat : Int) := by rw [← h2]; show _ = (n : Int) / 65536 % 256; omega
  have ha := a.toNat_lt
  have hb := b.toNat_lt
  have h3 : (n : Int) / 256 % 256 = (c.toNat : Int) := h3
  have hcv := fun t => conv4 w t a b c d
  go_enter Try.func57, Try.ntmps57
  go_wp2
  go_ret
  rw [HB.out]
  exact ⟨rfl, (Below.refl _ _).alloc (Nat.le_refl _) _⟩

set_option maxHeartbeats 1000000 in
set_option maxRecDepth 100000 in
theorem sumText_any (s p : ByteArray) (w : World) (h : s.size + p.size ≤ 1000000) :
    Calls Try.prog 55 #[.string s, .string p] w fun e w' => e = .returned (.string ⟨(le4 (sumL (s.data.toList ++ p.data.toList))).toArray⟩) ∧ Below w.heap.size w w' := by
  have hm := sumL_lt (s.data.toList ++ p.data.toList)
  have HC : Hid ((s ++ p).size ≤ maxLen ∧ sumL (s ++ p).data.toList = sumL (s.data.toList ++ p.data.toList)) := by
    refine ⟨?_, by simp⟩
    rw [ByteArray.size_append]
    unfold maxLen
    omega
  obtain ⟨n, hn⟩ : ∃ n, sumL (s.data.toList ++ p.data.toList) = n := ⟨_, rfl⟩
  rw [hn] at hm HC ⊢
  clear hn
  have HB : Hid (le4 n = [UInt8.ofNat n, UInt8.ofNat (n / 256), UInt8.ofNat (n / 65536), UInt8.ofNat (n / 16777216)]) := rfl
  have h1 := byte_at n 16777216
  have h2 := byte_at n 65536
  have h3 := byte_at n 256
  have h4 := byte_of n
  generalize UInt8.ofNat (n / 16777216) = a at *
  generalize UInt8.ofNat (n / 65536) = b at *
  generalize UInt8.ofNat (n / 256) = c at *
  generalize UInt8.ofNat n = d at *
  have h1 : (n : Int) / 16777216 = (a.toNat : Int) := by rw [← h1]; show _ = (n : Int) / 16777216 % 256; omega
  have ha := a.toNat_lt
  have h2 : (n : Int) / 65536 % 256 = (b.toNat : Int) := h2
  have h3 : (n : Int) / 256 % 256 = (c.toNat : Int) := h3
  have hcv := fun t => conv4 w t d c b a
  have hs : s.size + p.size ≤ maxLen := by unfold maxLen; omega
  go_enter Try.func55, Try.ntmps55
  go_wp2_with (go_at_call 63; refine (sum_any _ _ HC.out.1).mono ?_; rintro e w1 ⟨rfl, rfl⟩; rw [HC.out.2]; refine Hid.out ?_)
  refine Lib.hid ?_
  go_wp2
  go_ret
  rw [HB.out]
  exact ⟨rfl, (Below.refl _ _).alloc (Nat.le_refl _) _⟩

theorem or_step (m : Nat) (c : UInt8) (h : m < 16777216) : Go.bits .or .u32 ((m : Int) * 256) (c.toNat : Int) = ((m * 256 + c.toNat : Nat) : Int) := by
  have hc := c.toNat_lt
  have := u32_or_nat (m * 256) c.toNat (by omega) (by omega)
  rw [nat_join 8 (m * 256) c.toNat (by omega) (by omega)] at this
  rw [← this]
  congr 1
theorem num_step (s : ByteArray) (k : Nat) (h : k < s.size) : num 0 (s.data.toList.take (k + 1)) = num 0 (s.data.toList.take k) * 256 + s[k].toNat := by
  rw [take_snoc s k h, num_snoc]
theorem num_small (s : ByteArray) (k : Nat) (h : k ≤ 3) : num 0 (s.data.toList.take k) < 16777216 := by
  have h1 := num_lt (s.data.toList.take k)
  have h2 : (s.data.toList.take k).length ≤ k := List.length_take_le _ _
  have h3 : 256 ^ (s.data.toList.take k).length ≤ 256 ^ 3 := Nat.pow_le_pow_right (by omega) (by omega)
  omega

set_option maxHeartbeats 1000000 in
set_option maxRecDepth 100000 in
theorem lengthOf_any (s : ByteArray) (w : World) (hs : s.size = 4) :
    Calls Try.prog 54 #[.string s] w fun e w' => e = .returned (.int .u32 (num 0 s.data.toList)) ∧ w' = w := by
  have hs4 : s.size ≤ 4 := by omega
  have HR : Hid (s.data.toList = s.data.toList.take s.size) := by
    show _ = _
    rw [List.take_of_length_le (by simp)]
  go_enter Try.func54, Try.ntmps54
  go_wp2
  go_loop [3, 7] (fun v i => ∃ k : Nat, k ≤ s.size ∧ i = .int .i64 k ∧ v = .int .u32 (num 0 (s.data.toList.take k))) (fun _ i => s.size - (intOf i).toNat)
  case atStart => exact ⟨0, by omega, rfl, rfl⟩
  case round =>
    obtain ⟨k, hk, rfl, rfl⟩ := hrel
    by_cases hlt : k < s.size
    · have HS := Lib.hid (num_step s k hlt)
      have hm := num_small s k (by omega)
      obtain ⟨m, hM⟩ : ∃ m, num 0 (s.data.toList.take k) = m := ⟨_, rfl⟩
      rw [hM] at hm HS ⊢
      clear hM
      have ho := or_step m s[k] hm
      have hbl := (s[k]).toNat_lt
      go_wp2
      go_round
      case rel => exact ⟨k + 1, by omega, by go_num, by rw [HS.out]; first | rfl | go_num⟩
      case measure => simp [intOf]; omega
    · go_wp2
      go_ret
      have hk' : k = s.size := by omega
      exact ⟨ret_int (by rw [hk', ← HR.out]), rfl⟩
end Go.Proofs.Ytoipmpaebngppaa
