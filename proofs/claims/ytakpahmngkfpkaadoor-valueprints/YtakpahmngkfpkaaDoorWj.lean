/- The walk of the document's Digits: the digits of every number. -/
import Derived.Test.YtakpahmngkfpkaaDoorWd
import Derived.Test.YtakpahmngkfpkaaDoorZb
namespace Go.Proofs.YtakpahmngkfpkaaDoor
open Go.RowKit

def dd (m : Nat) : List UInt8 := if m = 0 then [] else Lib.decDigits m
theorem dd_step (m : Nat) (h : m ≠ 0) : dd m = dd (m / 10) ++ [UInt8.ofNat (48 + m % 10)] := by
  unfold dd
  rw [if_neg h, Lib.decDigits]
  by_cases h1 : m < 10
  · rw [dif_pos h1, if_pos (by omega), Nat.mod_eq_of_lt h1]; rfl
  · rw [dif_neg h1, if_neg (by omega)]

theorem conv_one (w : World) (c : Int) (h0 : 0 ≤ c) (h1 : c ≤ 255) : (Go.convert 45 9 (.slice (some ⟨w.heap.size, 0, none⟩) 1 1)).run Tryd.prog (w.alloc (.cells #[.int .u8 c] 5)) = .ok (.string ⟨#[UInt8.ofNat c.toNat]⟩) (w.alloc (.cells #[.int .u8 c] 5)) := by
  have hc : ((UInt8.ofNat c.toNat).toNat : Int) = c := by rw [UInt8.toNat_ofNat']; omega
  exact run_convert_bytes_back (P := Tryd.prog) _ 45 9 5 ⟨w.heap.size, 0, none⟩ 1 [UInt8.ofNat c.toNat] Tryd.underlying45 Tryd.underlying5 Tryd.underlying9 (fun j hj => by
    match j, hj with
    | 0, _ => simp only [List.getElem_cons_zero, hc]; simp [Addr.add])

theorem app_data (a b : ByteArray) : (a ++ b).data.toList = a.data.toList ++ b.data.toList := by
  rw [ByteArray.data_append, Array.toList_append]

theorem ret_str {a b : ByteArray} (h : a.data.toList = b.data.toList) : Ending.returned (.string a) = .returned (.string b) := by
  obtain ⟨⟨l⟩⟩ := a
  obtain ⟨⟨m⟩⟩ := b
  simp at h
  rw [h]

theorem itoa_of_nat (n : Int) : Lib.itoa n = if n < 0 then 45 :: Lib.decDigits n.natAbs else Lib.decDigits n.natAbs := by
  unfold Lib.itoa
  split
  · rfl
  · rw [show n.toNat = n.natAbs by omega]

set_option maxHeartbeats 1000000 in
set_option maxRecDepth 100000 in
theorem digits_pos (n : Int) (w : World) (h0 : -9223372036854775808 ≤ n) (h1 : n ≤ 9223372036854775807) (hn : (n == 0) = false) :
    Calls Tryd.prog 25 #[.int .i64 n] w fun e w' => e = .returned (.string ⟨(Lib.itoa n).toArray⟩) ∧ Below w.heap.size w w' := by
  have hn0 : n ≠ 0 := by simpa using hn
  go_enter Tryd.func25, Tryd.ntmps25
  go_wp2
  go_loopw [3, 4] (fun v i wr => ∃ (x : Int) (out : ByteArray), -9223372036854775808 ≤ x ∧ x ≤ 9223372036854775807 ∧ i = .int .i64 x ∧ v = .string out ∧ Hid (dd x.natAbs ++ out.data.toList = Lib.decDigits n.natAbs) ∧ Below w.heap.size w wr) (fun _ i _ => (intOf i).natAbs)
  case atStart => exact ⟨n, ⟨#[]⟩, h0, h1, rfl, rfl, (by show dd n.natAbs ++ [] = _; unfold dd; rw [if_neg (by omega), List.append_nil]), Below.refl _ _⟩
  case round =>
    obtain ⟨x, out, hx0, hx1, rfl, rfl, H, hb⟩ := hrel
    have hos : out.size ≤ 20 := by
      have h := congrArg List.length H.out
      have h2 := Lib.nDigits_le20 n.natAbs (by omega)
      rw [List.length_append, Lib.decDigits_length] at h
      have h3 : out.data.toList.length = out.size := Array.length_toList
      omega
    by_cases hz : x = 0
    · subst hz
      have HR : Hid (out.data.toList = Lib.decDigits n.natAbs) := by
        have h := H.out
        exact h
      clear H
      have HI := Lib.hid (itoa_of_nat n)
      by_cases hneg : n < 0
      · go_wp2
        go_ret
        refine ⟨ret_str ?_, hb⟩
        rw [app_data, HR.out, HI.out, if_pos hneg]
        rfl
      · go_wp2
        go_ret
        refine ⟨ret_str ?_, hb⟩
        rw [HR.out, HI.out, if_neg (by omega)]
    · have hz' : (x != 0) = true := by simp [hz]
      have a1 := Int.natAbs_tmod x 10
      have a2 := Int.natAbs_tdiv x 10
      obtain ⟨d, hd⟩ : ∃ d, x.tmod 10 = d := ⟨_, rfl⟩
      obtain ⟨y, hy⟩ : ∃ y, x.tdiv 10 = y := ⟨_, rfl⟩
      rw [hd] at a1
      rw [hy] at a2
      have a3 : d.natAbs = x.natAbs % 10 := a1
      have a4 : y.natAbs = x.natAbs / 10 := a2
      have hd0 : -9 ≤ d := by omega
      have hd1 : d ≤ 9 := by omega
      have hy0 : -922337203685477580 ≤ y := by omega
      have hy1 : y ≤ 922337203685477580 := by omega
      have HS : Hid (y.natAbs < x.natAbs) := by show _ < _; omega
      have HN : Hid (dd y.natAbs ++ ([UInt8.ofNat (48 + d.natAbs)] ++ out.data.toList) = Lib.decDigits n.natAbs) := by
        have h := H.out
        rw [dd_step x.natAbs (by omega)] at h
        show _ = _
        rw [a3, a4, ← List.append_assoc]
        exact h
      clear H a1 a2 a3 a4
      by_cases hneg : d < 0
      · have hcv := conv_one wr (48 + -d) (by omega) (by omega)
        have HD : Hid ((48 + -d).toNat = 48 + d.natAbs) := by show _ = _; omega
        go_wp2
        refine ⟨⟨y, _, by omega, by omega, rfl, rfl, ?_, hb.alloc hb.size _⟩, HS.out⟩
        show _ = _
        rw [app_data, HD.out]
        exact HN.out
      · have hcv := conv_one wr (48 + d) (by omega) (by omega)
        have HD : Hid ((48 + d).toNat = 48 + d.natAbs) := by show _ = _; omega
        go_wp2
        refine ⟨⟨y, _, by omega, by omega, rfl, rfl, ?_, hb.alloc hb.size _⟩, HS.out⟩
        show _ = _
        rw [app_data, HD.out]
        exact HN.out

set_option maxHeartbeats 400000 in
theorem digits_zero (w : World) : Calls Tryd.prog 25 #[.int .i64 0] w fun e w' => e = .returned (.string ⟨#[48]⟩) ∧ Below w.heap.size w w' := by
  go_enter Tryd.func25, Tryd.ntmps25
  go_wp2
  go_ret
  exact ⟨rfl, Below.refl _ _⟩

theorem itoa0 : Lib.itoa 0 = [48] := by decide +kernel

theorem digits_any (n : Int) (w : World) (h0 : -9223372036854775808 ≤ n) (h1 : n ≤ 9223372036854775807) :
    Calls Tryd.prog 25 #[.int .i64 n] w fun e w' => e = .returned (.string ⟨(Lib.itoa n).toArray⟩) ∧ Below w.heap.size w w' := by
  by_cases hn : n = 0
  · subst hn
    rw [itoa0]
    exact digits_zero w
  · exact digits_pos n w h0 h1 (by simpa using hn)
end Go.Proofs.YtakpahmngkfpkaaDoor
