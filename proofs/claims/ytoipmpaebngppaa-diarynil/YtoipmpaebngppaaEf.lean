/- The walks of the program's diary, the second part: Rewrite and Open. -/
import Derived.Test.YtoipmpaebngppaaEe
namespace Go.Proofs.Ytoipmpaebngppaa
open Go.RowKit Go.Maps

section
variable {w w' w1 w2 : World} {A B X Y N M : Nat} {S T : Nat → Prop} {s : Ds} {n d : ByteArray} {L : List ByteArray} {ad : Option Addr} {cap : Nat}

set_option maxHeartbeats 2000000 in
set_option maxRecDepth 100000 in
theorem pd_rewrite (h : PD w B T N s) (hY : w.heap[Y]? = some (pdO B n)) (hL : Ls L ad w) (hz : sumS L ≤ 1000000000000) (hn : n.size ≤ maxLen) (hN : N < 900000) :
    Calls Try.prog 14 #[.pointer (some ⟨Y, 0, none⟩), .slice ad L.length cap] w fun e w' => e = .returned (.int .i64 (s.dRew n L).2) ∧ PD w' B (Gro T w w') (N + 1) (s.dRew n L).1 ∧ Fr w w' T := by
  cases hg : bigL L with
  | true =>
    have e1 : s.dRew n L = (s, 30) := by simp [Ds.dRew, hg]
    rw [e1]
    have hr := records_big (cap := cap) hL hz hg
    go_enter Try.func14, Try.ntmps14
    go_wp2_with fail
    refine hr.mono ?_
    rintro e w1 ⟨rfl, hb1⟩
    go_wp2
    go_ret
    exact ⟨rfl, h.grow hb1 hN, Fr.ofBelow _ hb1⟩
  | false =>
    have hr := records_ok (cap := cap) hL hz hg
    have hR : (recsB L).size = sumS L := rfl
    obtain ⟨R, eR⟩ : ∃ R, recsB L = R := ⟨_, rfl⟩
    rw [eR] at hR hr
    have hap := fun w1 (hb1 : Below w.heap.size w w1) => p_swp (n := n) (d := R) (h.on hb1) hn (by omega) hN
    obtain ⟨s1, es⟩ : ∃ s1, s.swp n R = s1 := ⟨_, rfl⟩
    have e1 : s.dRew n L = (s1, s1.code) := by simp [Ds.dRew, hg, eR, es]
    rw [e1]
    simp only [es] at hap
    clear eR es e1
    go_enter Try.func14, Try.ntmps14
    go_wp2_with fail
    refine hr.mono ?_
    rintro e w1 ⟨rfl, hb1⟩
    obtain ⟨c0, c1⟩ := dp_cells hY hb1
    have hcall := hap w1.drew (below_draw hb1 1)
    clear hap
    go_wp2
    go_region_with (go_at_call 24; refine hcall.mono ?_; rintro e w2 ⟨rfl, hd2, hf2⟩)
    all_goals
      go_wp2
      go_ret
      exact ⟨rfl, PD.shift h.lt hd2 hb1.size hf2.size, Fr.after (below_draw hb1 1) hf2⟩

set_option maxHeartbeats 2000000 in
set_option maxRecDepth 100000 in
theorem pd_open (h : PD w B T N s) (hn : n.size ≤ maxLen) (ho : (s.text n).size ≤ 1000000000000) (hN : N < 900000) :
    Calls Try.prog 10 #[.pointer (some ⟨B, 0, none⟩), .string n] w fun e w' => Opn PD pdO w B T N s n e w' := by
  have hrd := p_read h hn
  cases hd : s.down with
  | true =>
    rw [text_down hd, code_down hd] at hrd
    go_enter Try.func10, Try.ntmps10
    go_wp2_with fail
    refine hrd.mono ?_
    rintro e w1 ⟨rfl, hb1⟩
    go_wp2
    go_ret3
    refine ⟨[], 0, ?_, Nat.zero_le _, Nat.zero_le _, Fr.ofBelow _ hb1, Gro T w w1, fun j q => q, ?_, .inl ⟨?_, rfl⟩⟩
    · rw [text_down hd]
      exact scans_none noRec_nil
    · rw [opn_down hd]
      exact h.grow hb1 hN
    · rw [opn_down hd]
      exact hd
  | false =>
    rw [code_up hd] at hrd
    obtain ⟨t, et⟩ : ∃ t, s.text n = t := ⟨_, rfl⟩
    rw [et] at hrd ho
    go_enter Try.func10, Try.ntmps10
    go_wp2_with fail
    refine hrd.mono ?_
    rintro e w1 ⟨rfl, hb1⟩
    go_wp2_with fail
    refine (scan_any t w1 ho).mono ?_
    rintro e w2 ⟨v, ps, k, rfl, hown, hsc, hk, hps, hb2⟩
    have hb12 := hb1.trans (hb2.mono hb1.size)
    have HS := Lib.hid hsc
    clear hsc
    by_cases hkt : k < t.size
    · have hkt' : (k : Int) < t.size := by omega
      have eO : s.dOpn n k = s.swp n (t.extract 0 k) := by rw [← et] at hkt ⊢; exact opn_cut hkt
      obtain ⟨d, ed⟩ : ∃ d, t.extract 0 k = d := ⟨_, rfl⟩
      have hds : d.size ≤ 140737488355328 := by
        rw [← ed]
        simp
        omega
      have hcall := p_swp (n := n) (d := d) (h.on hb12) hn hds hN
      rw [ed] at eO
      rw [← eO] at hcall
      obtain ⟨s1, es⟩ : ∃ s1, s.dOpn n k = s1 := ⟨_, rfl⟩
      rw [es] at hcall
      have hsub : ∀ w3 : World, w2.heap.size ≤ w3.heap.size → ∀ j, Gro T w2 w3 j → Gro T w w3 j := by
        intro w3 _ j q
        rcases q with q | q
        · exact .inl q
        · exact .inr ⟨Nat.le_trans hb12.size q.1, q.2⟩
      cases hd1 : s1.down with
      | true =>
        rw [code_down hd1] at hcall
        go_wp2_with fail
        refine hcall.mono ?_
        rintro e w3 ⟨rfl, hd3, hf3⟩
        go_wp2
        go_ret3
        refine ⟨ps, k, by rw [et]; exact HS.out, by rw [et]; exact hk, by rw [et]; exact hps, Fr.after hb12 hf3, Gro T w2 w3, hsub w3 hf3.size, by rw [es]; exact hd3, .inl ⟨by rw [es]; exact hd1, rfl⟩⟩
      | false =>
        rw [code_up hd1] at hcall
        go_wp2_with fail
        refine hcall.mono ?_
        rintro e w3 ⟨rfl, hd3, hf3⟩
        go_wp2
        go_ret3
        have hal : Below w3.heap.size w3 (w3.alloc (pdO B n)) := (Below.refl _ w3).alloc (Nat.le_refl _) _
        have hz3 := hf3.size
        have hz2 := hb12.size
        refine ⟨ps, k, by rw [et]; exact HS.out, by rw [et]; exact hk, by rw [et]; exact hps, (Fr.after hb12 hf3).below hal, Gro T w2 w3, fun j q => ?_, by rw [es]; exact hd3.on hal, .inr ⟨by rw [es]; exact hd1, w3.heap.size, _, rfl, heap_alloc_new w3 _, fun q => ?_, by omega, ?_, fun j hj q => ?_⟩⟩
        · rcases hsub w3 hf3.size j q with q | q
          · exact .inl q
          · exact .inr ⟨q.1, Nat.lt_of_lt_of_le q.2 hal.size⟩
        · rcases q with q | q
          · have := h.lt _ q
            omega
          · omega
        · exact own_below (row_stays (w := w) (own_mono hown hb1.size) hf3 h.lt) hal
        · have q1 := hown.lt j hj
          have q2 := hb1.size
          rcases q with q | q
          · have := h.lt _ q
            omega
          · omega
    · have hkt' : ¬ (k : Int) < t.size := by omega
      have eO : s.dOpn n k = s := by rw [← et] at hkt; exact opn_all hkt
      go_wp2
      go_ret3
      have hal : Below w2.heap.size w2 (w2.alloc (pdO B n)) := (Below.refl _ w2).alloc (Nat.le_refl _) _
      have hz2 := hb12.size
      refine ⟨ps, k, by rw [et]; exact HS.out, by rw [et]; exact hk, by rw [et]; exact hps, (Fr.ofBelow T hb12).below hal, T, fun j q => .inl q, by rw [eO]; exact ((h.on hb12).on hal).more (by omega) (by omega), .inr ⟨by rw [eO]; exact hd, w2.heap.size, _, rfl, heap_alloc_new w2 _, fun q => ?_, hz2, ?_, fun j hj q => ?_⟩⟩
      · have := h.lt _ q
        omega
      · exact own_below (own_mono hown hb1.size) hal
      · have q1 := (hown.lt j hj).1
        have q2 := hb1.size
        have := h.lt _ q
        omega
end
end Go.Proofs.Ytoipmpaebngppaa
