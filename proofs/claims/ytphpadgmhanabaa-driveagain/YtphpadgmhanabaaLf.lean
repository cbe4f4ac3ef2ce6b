/- The walk of DrivePlays. -/
import Derived.Test.YtphpadgmhanabaaOb
namespace Go.Proofs.Ytphpadgmhanabaa
open Go.RowKit Go.Maps

theorem done_all {w0 w : World} {A B N M : Nat} (h : Two w0 w A B N M) {x : O} (hn : x.name.size ≤ 65536) (hd : x.data.size ≤ 65536) (hkl : x.keep.length ≤ 65536) (hm : -9223372036854775808 ≤ x.n ∧ x.n ≤ 9223372036854775807) (hk : Ints w0 (.slice x.kad x.keep.length x.kc) x.keep) (hM : M ≤ 100000000) (hN : N < 900000) :
    Calls Try.prog 11 #[.pointer (some ⟨A, 0, none⟩), .pointer (some ⟨B, 0, none⟩), opV x.kind x.name x.data x.n (.slice x.kad x.keep.length x.kc)] w fun e w' => Done w0 N M e w' := by
  have hnm : x.name.size ≤ maxLen := by unfold maxLen; omega
  by_cases k1 : x.kind = 1
  · rw [k1]
    exact done_append h hnm hd hM hN
  · by_cases k2 : x.kind = 2
    · rw [k2]
      exact done_sync h hnm hN
    · by_cases k3 : x.kind = 3
      · rw [k3]
        exact done_swap h hnm hd hN
      · by_cases k4 : x.kind = 4
        · rw [k4]
          exact done_arm h hnm hm hN
        · by_cases k5 : x.kind = 5
          · rw [k5]
            exact done_crash h hnm hk (by omega) hN
          · exact done_read h k1 k2 k3 k4 k5 hnm hN
/-- Two drives without files. -/
theorem two_start {w0 w w1 : World} (hw : Below w0.heap.size w0 w) (hd : Dv w1 w.heap.size (fun k => k = w.heap.size) 0 [] 0 false (.map none) (fun _ => .slice none 0 0)) (hb : Below w.heap.size w w1) :
    Two w0 (w1.alloc (rfO (.slice none 0 0) false 0)) w.heap.size w1.heap.size 0 0 := by
  have hal : Below w1.heap.size w1 (w1.alloc (rfO (.slice none 0 0) false 0)) := (Below.refl _ w1).alloc (Nat.le_refl _) _
  have hlt := hd.lt w.heap.size rfl
  have hs := hw.size
  refine ⟨fun k => k = w.heap.size, fun k => k = w1.heap.size, [], 0, 0, false, ⟨⟨_, _, hd.stays (T := fun _ => False) (Fr.ofBelow _ hal) (fun _ _ q => q)⟩, ⟨.slice none 0 0, ⟨heap_alloc_new w1 _, World.ownsRow_nil _ _ _ _, List.Pairwise.nil, ?_, ?_, ?_, rfl, (fun k hk => by cases hk), (fun k hk => ?_), Nat.zero_le _, by omega⟩⟩, ?_, ?_, ?_, (hw.trans (hb.mono hs)).trans (hal.mono (Nat.le_trans hs hb.size)), fun _ => rfl, ?_⟩⟩
  · intro f hf; cases hf
  · intro f hf; cases hf
  · intro f hf; cases hf
  · have e : k = w1.heap.size := hk
    rw [e]
    simp
  · intro k a b
    have e1 : k = w.heap.size := a
    have e2 : k = w1.heap.size := b
    omega
  · intro k a
    have e1 : k = w.heap.size := a
    omega
  · intro k a
    have e1 : k = w1.heap.size := a
    omega
  · intro f hf; cases hf

set_option maxHeartbeats 4000000 in
set_option maxRecDepth 100000 in
theorem plays_law {L : List O} {ad : Option Addr} {cap : Nat} {w : World} (hL : Li L ad w) (hF : Fits L) :
    Calls Try.prog 3 #[.slice ad L.length cap] w fun e w' => e = .returned (.bool true) ∧ Below w.heap.size w w' := by
  have hlen := hF.len
  by_cases h200 : 200 < L.length
  · have q1 : (200 : Int) < L.length := by omega
    go_enter Try.func3, Try.ntmps3
    go_wp2_with fail
    refine (awake_any w).mono ?_
    rintro e w1 ⟨rfl, hb1⟩
    go_wp2_with fail
    refine (awake_any w1).mono ?_
    rintro e w2 ⟨rfl, hb2⟩
    go_wp2
    go_ret
    exact ⟨rfl, hb1.trans (hb2.mono hb1.size)⟩
  · have q1 : (L.length : Int) ≤ 200 := by omega
    go_enter Try.func3, Try.ntmps3
    go_wp2_with fail
    refine (awake_any w).mono ?_
    rintro e w1 ⟨rfl, hb1⟩
    have hL1 : Li L ad w1 := ⟨fun i hi => by
      obtain ⟨b, o, ha, hl, c⟩ := hL.at_on hb1 i hi
      exact ⟨b, o, ha, Nat.lt_of_lt_of_le hl hb1.size, c⟩, fun i hi => (hL.ints i hi).on hb1⟩
    go_wp2_with fail
    refine (bytes_any hL1 hF).mono ?_
    rintro e w2 ⟨r, rfl, hb2, hU⟩
    have hb12 := hb1.trans (hb2.mono hb1.size)
    by_cases hr : 65536 < r
    · have q2 : (65536 : Int) < r := by omega
      clear hU hL1
      go_wp2_with fail
      refine (awake_any w2).mono ?_
      rintro e w3 ⟨rfl, hb3⟩
      go_wp2
      go_ret
      exact ⟨rfl, hb12.trans (hb3.mono hb12.size)⟩
    · have q2 : (r : Int) ≤ 65536 := by omega
      have HU := Lib.hid (hU (by omega))
      clear hU hL1
      go_wp2_with fail
      refine (new_any w2).mono ?_
      rintro e w3 ⟨rfl, hd3, hb3, hz3⟩
      have h4 := two_start hb12 hd3 hb3
      clear hz3 hd3
      go_wp2
      go_loopw [3, 4, 5, 26] (fun a b _ i wr => ∃ k A B : Nat, k ≤ L.length ∧ i = .int .i64 k ∧ a = .pointer (some ⟨A, 0, none⟩) ∧ b = .pointer (some ⟨B, 0, none⟩) ∧ Two w wr A B k (k * 65536)) (fun _ _ _ i _ => L.length - (intOf i).toNat)
      case atStart => exact ⟨0, _, _, Nat.zero_le _, rfl, rfl, rfl, h4⟩
      case round =>
        obtain ⟨k, A, B, hk, rfl, rfl, rfl, ht⟩ := hrel
        by_cases hlt : k < L.length
        · obtain ⟨b, o, rfl, hbl, c0, c1, c2, c3, c4⟩ := hL.at_on ht.old k hlt
          have hmem : L[k] ∈ L := List.getElem_mem hlt
          obtain ⟨u1, u2, u3⟩ := HU.out k hlt
          have hki := hL.ints k hlt
          have hni := hF.n _ hmem
          obtain ⟨x, hx⟩ : ∃ x, L[k] = x := ⟨_, rfl⟩
          rw [hx] at c0 c1 c2 c3 c4 u1 u2 u3 hki hni
          obtain ⟨W, hW⟩ : ∃ W, W = wr.alloc (opO x.kind x.name x.data x.n (.slice x.kad x.keep.length x.kc)) := ⟨_, rfl⟩
          have htW : Two w W A B k (k * 65536) := by rw [hW]; exact ht.on ((Below.refl _ wr).alloc (Nat.le_refl _) _)
          have hdone := done_all htW u1 u2 u3 hni hki (by omega) (by omega)
          have k0 : (0 : Int) ≤ k := by omega
          have k1 : (k : Int) < L.length := by omega
          have HW := Lib.hid hW
          clear hx hmem hki hni u1 u2 u3 hW
          go_wp2_with fail
          rw [← HW.out]
          refine hdone.mono ?_
          rintro e w5 ⟨A', B', rfl, h5⟩
          have hsame := same_any h5 (by omega)
          go_wp2_with fail
          refine hsame.mono ?_
          rintro e w6 ⟨rfl, hb6⟩
          have h6 := h5.on hb6
          clear hdone hsame
          go_wp2
          go_roundw
          case rel => exact ⟨k + 1, A', B', by omega, by go_num, rfl, rfl, by rw [show (k + 1) * 65536 = k * 65536 + 65536 by omega]; exact h6⟩
          case measure => simp [intOf]; omega
        · have e : k = L.length := by omega
          have k1 : ¬ ((k : Int) < L.length) := by omega
          go_wp2
          go_ret
          exact ⟨rfl, ht.old⟩
end Go.Proofs.Ytphpadgmhanabaa
