/- The walk of the law's great. -/
import Derived.Test.YtmiagjcihmenfaaSb
namespace Go.Proofs.Ytmiagjcihmenfaa
open Go.RowKit

/-- How much a call counts. -/
def szO (p : Oq) : Nat := 1 + p.1.text.size + p.1.m.list.length + p.1.m.snap.size
def szL (L : List Oq) : Nat := (L.map szO).sum
theorem szL_take (L : List Oq) (k : Nat) (h : k < L.length) : szL (L.take (k + 1)) = szL (L.take k) + szO L[k] := by
  unfold szL
  rw [List.take_add_one, List.map_append, List.sum_append, List.getElem?_eq_getElem h]
  simp
theorem szL_all (L : List Oq) {k : Nat} (h : k = L.length) : szL (L.take k) = szL L := by rw [h, List.take_of_length_le (Nat.le_refl _)]
/-- What great answers. -/
def GreatAns (L : List Oq) (w : World) (e : Ending) (w' : World) : Prop := ∃ g, e = .returned (.bool g) ∧ (g = false → L.length ≤ 200 ∧ szL L ≤ 16384) ∧ Below w.heap.size w w'
section
variable {w : World} {L : List Oq} {ad : Option Addr} {cap : Nat}
set_option maxHeartbeats 4000000 in
set_option maxRecDepth 100000 in
theorem great_p (hL : Lo w L ad) (hc : L.length ≤ cap) (hm : cap ≤ maxLen) :
    Calls Try.prog 10 #[.slice ad L.length cap] w fun e w' => GreatAns L w e w' := by
  have l1 : (L.length : Int) ≤ 9223372036854775807 := by unfold maxLen at hm; omega
  go_enter Try.func10, Try.ntmps10
  go_wp2
  go_loopw [3, 8] (fun a i wr => ∃ k r : Nat, k ≤ L.length ∧ i = .int .i64 k ∧ a = .int .i64 r ∧ r ≤ 16384 ∧ Hid (r = szL (L.take k)) ∧ Below w.heap.size w wr) (fun _ i _ => L.length - (intOf i).toNat)
  case atStart => exact ⟨0, 0, Nat.zero_le _, rfl, rfl, Nat.zero_le _, Lib.hid rfl, Below.refl _ _⟩
  case round =>
    obtain ⟨k, r, hk, rfl, rfl, hr, HU, hb⟩ := hrel
    by_cases hlt : k < L.length
    · obtain ⟨b, o, rfl, hbl, c0, c1, c2, c3, c4, c5, c6, c7, c8, c9, c10, c11, c12, c13⟩ := (hL.on hb).at' k hlt
      have hs := hL.sz _ (List.getElem_mem hlt)
      have hks := szL_take L k hlt
      obtain ⟨x, hx⟩ : ∃ x, L[k] = x := ⟨_, rfl⟩
      rw [hx] at c0 c1 c2 c3 c4 c5 c6 c7 c8 c9 c10 c11 c12 c13 hs hks
      have k0 : (0 : Int) ≤ k := by omega
      have k1 : (k : Int) < L.length := by omega
      have r0 : (0 : Int) ≤ r := by omega
      have r1 : (r : Int) ≤ 16384 := by omega
      have s1 := hs.text
      have s2 := hs.list
      have s3 := hs.snap
      have g1 : (x.1.text.size : Int) ≤ 140737488355328 := by omega
      have g2 : (x.1.m.list.length : Int) ≤ 140737488355328 := by omega
      have g3 : (x.1.m.snap.size : Int) ≤ 140737488355328 := by omega
      have HS : Hid (r + szO x = szL (L.take (k + 1))) := by
        show _ = _
        have := HU.out
        omega
      obtain ⟨r', hr'⟩ : ∃ r', r + szO x = r' := ⟨_, rfl⟩
      have hsum : (r : Int) + (1 + (x.1.text.size : Int) + (x.1.m.list.length : Int) + (x.1.m.snap.size : Int)) = (r' : Int) := by
        rw [← hr']
        unfold szO
        omega
      rw [hr'] at HS
      have hal := hb.alloc hb.size (.cells #[.int .i64 x.1.kind, .int .i64 x.1.a, .int .i64 x.1.b, .string x.1.text, .int .i64 x.1.m.kind, .int .i64 x.1.m.fr, .int .i64 x.1.m.to, .int .i64 x.1.m.term, .int .i64 x.1.m.index, .int .i64 x.1.m.prev, .int .i64 x.1.m.commit, .bool x.1.m.good, .slice x.2.1 x.1.m.list.length x.2.2, .string x.1.m.snap] 36)
      have HA := Lib.hid hal
      clear hx hks hr' hs hal s1 s2 s3
      by_cases hg : 16384 < r'
      · have hgi : (16384 : Int) < r' := by omega
        go_wp2
        go_ret
        exact ⟨true, rfl, (fun h => by cases h), HA.out⟩
      · have hgi : ¬ (16384 : Int) < r' := by omega
        go_wp2
        go_roundw
        case rel => exact ⟨k + 1, r', hlt, by go_num, rfl, by omega, HS, HA.out⟩
        case measure => simp [intOf]; omega
    · have k1 : ¬ (k : Int) < L.length := by omega
      have e1 := szL_all L (k := k) (by omega)
      rw [← HU.out] at e1
      have HE := Lib.hid e1
      clear e1
      go_wp2
      go_ret
      refine ⟨_, rfl, fun h => ⟨?_, ?_⟩, hb⟩
      · have h' := of_decide_eq_false h
        omega
      · have := HE.out
        omega
end
end Go.Proofs.Ytmiagjcihmenfaa
