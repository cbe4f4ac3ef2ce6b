/- The law SplitFinds. -/
import Derived.Test.YtonncfdkdibggaaVj
namespace Go.Proofs.Ytonncfdkdibggaa
open Go.RowKit
section
variable {w w' W V X : World} {L : List ByteArray} {v : Value}
def FJ (L : List ByteArray) (k : ByteArray) (w wr : World) (lo B : Nat) (nv iv : Value) : Prop := ∃ i : Nat, i ≤ L.length + 1 ∧ iv = .int .i64 (i : Int) ∧ nv = .int .i64 ((if findB L k < i then 1 else 0 : Nat) : Int) ∧ Below w.heap.size w wr ∧ Sp wr lo B L
set_option maxHeartbeats 2000000 in
set_option maxRecDepth 100000 in
theorem finds_law (hl : Ls w L v) (hs : Sz L) (hz : L.length * 16 ≤ 140737488355328) {k : ByteArray} (hk : k.size ≤ maxLen) : Calls Try.prog 4 #[v, .string k] w fun e w' => e = .returned (.bool true) ∧ Below w.heap.size w w' := by
  obtain ⟨ad', cap', wc, hrun, ho, hb⟩ := copy_run hl hz
  have hl' := hl
  obtain ⟨ad, cap, rfl, h0, h1, h2, _⟩ := hl'
  have hnew := new_any (Ls.own ho)
  have HB := Lib.hid hb
  have HL := Lib.hid hl
  have hmx : (L.length : Int) ≤ 9223372036854775806 := by omega
  clear ho hb h0 h1 h2 hl hz
  by_cases hok : okB L = true
  · go_enter Try.func4, Try.ntmps4
    go_wp2_with (first | (at_builtin; refine wpl_run2 _ _ rfl (by simp [Act.eval]) (by simp [Act.eval]) hrun ?_) | (go_at_call 8; refine hnew.mono ?_; rintro e w1 ⟨hb1, hq | hq⟩; rotate_left; exact absurd (hok.symm.trans hq.1) (by decide); obtain ⟨_, B, rfl, hsp⟩ := hq; refine Hid.out ?_))
    refine Lib.hid ?_
    have HSP := Lib.hid hsp
    have HB1 := Lib.hid (HB.out.trans (hb1.mono HB.out.size))
    have haw := awake_any w1
    clear hsp hb1 hnew hok
    go_wp2_with (go_at_call 10; refine haw.mono ?_; rintro e w2 ⟨rfl, hb2⟩; refine Hid.out ?_)
    refine Lib.hid ?_
    have HB2 := Lib.hid (HB1.out.trans (hb2.mono HB1.out.size))
    have HSP2 := Lib.hid (HSP.out.on hb2)
    clear hb2 haw
    obtain ⟨n, hn⟩ : ∃ n, L.length + 1 = n := ⟨_, rfl⟩
    have k1 : (L.length : Int) + 1 = (n : Int) := by omega
    have HN := Lib.hid hn
    clear hn
    go_wp2
    go_loopw [7, 26] (fun nv iv wr => FJ L k w wr _ B nv iv) (fun _ iv _ => n - (intOf iv).toNat)
    case atStart => exact ⟨0, Nat.zero_le _, rfl, rfl, HB2.out, HSP2.out⟩
    case round =>
      obtain ⟨i, hi, rfl, rfl, hbw, hsp⟩ := hrel
      obtain ⟨V, rfl⟩ : ∃ V, V = wr := ⟨_, rfl⟩
      have hle := find_le L k
      by_cases hlt : i < n
      · have hi' : i < L.length + 1 := by rw [HN.out]; exact hlt
        have k2 : (i : Int) < (n : Int) := by omega
        have hh := has_any (HL.out.on hbw) hs (i := i) (by omega) hk
        rw [has_find hsp.rise k (by omega : i ≤ L.length)] at hh
        obtain ⟨f, hf⟩ : ∃ f, findB L k = f := ⟨_, rfl⟩
        rw [hf] at hh hle
        have HF := Lib.hid hf
        have HSP3 := Lib.hid hsp
        have HBW := Lib.hid hbw
        clear hf hsp hbw
        by_cases hc : i = f
        · rw [decide_eq_true hc] at hh
          have z1 : (if findB L k < i then 1 else 0 : Nat) = 0 := if_neg (by rw [HF.out]; omega)
          rw [z1]
          have HCC := Lib.hid hc
          clear z1 hc
          go_wp2_with (go_at_call 12; refine hh.mono ?_; rintro e w3 ⟨rfl, hb3⟩; refine Hid.out ?_)
          refine Lib.hid ?_
          have hfd := find_any (HSP3.out.on hb3) k
          rw [HF.out, ← HCC.out] at hfd
          have HB3 := Lib.hid hb3
          clear hb3 hh
          go_wp2_with (go_at_call 13; refine hfd.mono ?_; rintro e w4 ⟨rfl, rfl⟩; refine Hid.out ?_)
          refine Lib.hid ?_
          go_wp2
          go_roundw
          case rel => exact ⟨i + 1, by omega, by go_num, by rw [if_pos (by rw [HF.out]; have := HCC.out; omega)]; rfl, HBW.out.trans (HB3.out.mono HBW.out.size), HSP3.out.on HB3.out⟩
          case measure => simp [intOf]; omega
        · rw [decide_eq_false hc] at hh
          have z1 : (if findB L k < i then 1 else 0 : Nat) = (if findB L k < i + 1 then 1 else 0 : Nat) := by
            by_cases q : findB L k < i
            · rw [if_pos q, if_pos (by omega)]
            · rw [if_neg q, if_neg (by rw [HF.out] at q ⊢; omega)]
          rw [z1]
          obtain ⟨m, hm⟩ : ∃ m, (if findB L k < i + 1 then 1 else 0 : Nat) = m := ⟨_, rfl⟩
          rw [hm]
          have HM := Lib.hid hm
          clear z1 hm hc
          go_wp2_with (go_at_call 12; refine hh.mono ?_; rintro e w3 ⟨rfl, hb3⟩; refine Hid.out ?_)
          refine Lib.hid ?_
          have HB3 := Lib.hid hb3
          clear hb3 hh
          go_wp2
          go_roundw
          case rel => exact ⟨i + 1, by omega, by go_num, by rw [HM.out], HBW.out.trans (HB3.out.mono HBW.out.size), HSP3.out.on HB3.out⟩
          case measure => simp [intOf]; omega
      · have k2 : ¬ ((i : Int) < (n : Int)) := by omega
        have e : (if findB L k < i then 1 else 0 : Nat) = 1 := if_pos (by have := HN.out; omega)
        rw [e]
        have HBW := Lib.hid hbw
        clear hsp hbw e hle
        go_wp2
        go_ret
        exact ⟨rfl, HBW.out⟩
  · have hok : okB L = false := by simpa using hok
    go_enter Try.func4, Try.ntmps4
    go_wp2_with (first | (at_builtin; refine wpl_run2 _ _ rfl (by simp [Act.eval]) (by simp [Act.eval]) hrun ?_) | (go_at_call 8; refine hnew.mono ?_; rintro e w1 ⟨hb1, hq | hq⟩; exact absurd (hok.symm.trans hq.1) (by decide); obtain ⟨_, rfl⟩ := hq; refine Hid.out ?_))
    refine Lib.hid ?_
    have HB1 := Lib.hid (HB.out.trans (hb1.mono HB.out.size))
    have haw := awake_any w1
    clear hb1 hnew hok
    go_wp2_with (go_at_call 10; refine haw.mono ?_; rintro e w3 ⟨rfl, hb3⟩; refine Hid.out ?_)
    refine Lib.hid ?_
    have HB3 := Lib.hid (HB1.out.trans (hb3.mono HB1.out.size))
    have haw2 := awake_any w3
    clear haw hb3
    go_wp2_with (go_at_call 10; refine haw2.mono ?_; rintro e w4 ⟨rfl, hb4⟩; refine Hid.out ?_)
    refine Lib.hid ?_
    have HB4 := Lib.hid (HB3.out.trans (hb4.mono HB3.out.size))
    clear haw2 hb4
    go_wp2
    go_ret
    exact ⟨rfl, HB4.out⟩
end
end Go.Proofs.Ytonncfdkdibggaa
