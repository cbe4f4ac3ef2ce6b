/- The walk of the statement StripCuts. -/
import Derived.Test.YtjndlmeaddoccaaLd
namespace Go.Proofs.Ytjndlmeaddoccaa
open Go.RowKit

theorem same_n (L : List ByteArray) (n : Nat) (hn : L.length = n) (ad ad' : Option Addr) (cap cap' : Nat) (w : World) (hL : Ls L ad w) (hM : Ls L ad' w) (hmax : L.length ≤ 9223372036854775806) :
    Calls Try.prog 16 #[.slice ad n cap, .slice ad' n cap'] w fun e w' => e = .returned (.bool true) ∧ Below w.heap.size w w' := by
  subst hn
  exact same_t L ad ad' cap cap' w hL hM hmax

set_option maxHeartbeats 2000000 in
set_option maxRecDepth 100000 in
theorem cuts_any (L : List ByteArray) (ad : Option Addr) (cap : Nat) (cut : Int) (w : World) (hL : Ls L ad w) (hz : Sz L) (hmax : L.length ≤ 9223372036854775806) (hlc : L.length ≤ cap) (hnz : ad = none → cap = 0) (lo : -9223372036854775808 ≤ cut) (hi : cut ≤ 9223372036854775807) :
    Calls Try.prog 6 #[.slice ad L.length cap, .int .i64 cut] w fun e w' => e = .returned (.bool true) ∧ Below w.heap.size w w' := by
  go_enter Try.func6, Try.ntmps6
  go_wp2_with (go_at_call 17; refine (written_any L ad cap _ hL hz hmax).mono ?_; rintro e w1 ⟨hb1, he⟩; rcases he with rfl | ⟨S, v, rfl, hW, hown⟩ <;> refine Hid.out ?_)
  · refine Lib.hid ?_
    go_wp2_with (go_at_call 9; refine (awake_any _).mono ?_; rintro e w2 ⟨rfl, hb2⟩; refine Hid.out ?_)
    refine Lib.hid ?_
    go_wp2_with (go_at_call 9; refine (awake_any _).mono ?_; rintro e w3 ⟨rfl, hb3⟩; refine Hid.out ?_)
    refine Lib.hid ?_
    go_wp2
    go_ret
    exact ⟨rfl, (hb1.trans (hb2.mono hb1.size)).trans (hb3.mono (Nat.le_trans hb1.size hb2.size))⟩
  · obtain ⟨g, capv, rfl⟩ := own_form hown (by omega)
    have hSs := hW.size
    have hcount := hW.count (Nat.le_refl _)
    have hends := hW.ends
    have hall : ∀ p ∈ lists L, p.length ≤ 65536 := by
      intro q hq
      obtain ⟨p, hp, rfl⟩ := List.mem_map.1 hq
      have := hW.small p (by rw [List.take_of_length_le (Nat.le_refl _)]; exact hp)
      rw [len_size]
      omega
    have htext : S.data.toList = recs (lists L) := by
      have := hW.text
      rw [List.take_of_length_le (Nat.le_refl _)] at this
      exact this
    obtain ⟨c, hc⟩ : ∃ c : Nat, max 0 (min cut (S.size : Int)) = c := ⟨(max 0 (min cut (S.size : Int))).toNat, by omega⟩
    have hcS : c ≤ S.size := by omega
    have HA := Lib.hid hall
    have HT := Lib.hid htext
    clear hall htext hW hends
    refine Lib.hid ?_
    go_wp2_with (go_at_call 9; refine (awake_any _).mono ?_; rintro e w2 ⟨rfl, hb2⟩; refine Hid.out ?_)
    have z1 := hb1.size
    have z2 := hb2.size
    have hown2 := own_below hown hb2
    have hb12 : Below w.heap.size w w2 := hb1.trans (hb2.mono z1)
    have hL2 := hL.on hb12
    clear hb1 hb2 hown
    refine Lib.hid ?_
    go_wp2
    go_loop [8] (fun i => ∃ k : Nat, k ≤ L.length ∧ i = .int .i64 k ∧ Hid (ends (lists L) k ≤ c)) (fun i => L.length - (intOf i).toNat)
    case atStart => exact ⟨0, Nat.zero_le _, rfl, by rw [ends_zero]; exact Nat.zero_le c⟩
    case round =>
      obtain ⟨k, hk, rfl, HK⟩ := hrel
      by_cases hin : k < L.length ∧ ends (lists L) (k + 1) ≤ c
      · obtain ⟨hlt, hle⟩ := hin
        have c0 := hown2.cellAt (k + 1) (by omega)
        rw [endCells_at L L.length (k + 1) (by omega)] at c0
        obtain ⟨x, hx⟩ : ∃ x, ends (lists L) (k + 1) = x := ⟨_, rfl⟩
        rw [hx] at c0 hle
        have HX := Lib.hid hx
        clear hx
        have z3 : (k : Int) < (L.length : Int) := by omega
        have z4 : (x : Int) ≤ (c : Int) := by omega
        go_wp2
        go_round
        case rel => exact ⟨k + 1, by omega, by go_num, by show _ ≤ _; rw [HX.out]; exact hle⟩
        case measure => simp [intOf]; omega
      · have HD : Hid (Scans (S.data.toList.take c) ((lists L).take k) (ends (lists L) k)) := by
          show Scans _ _ _
          rw [HT.out]
          refine scans_cut (lists L) c k HA.out (by simpa [lists] using hk) HK.out ?_
          have hll : (lists L).length = L.length := by simp [lists]
          rw [hll]
          omega
        obtain ⟨E, hE⟩ : ∃ E, S.extract 0 c = E := ⟨_, rfl⟩
        have lE : E.data.toList = S.data.toList.take c := by rw [← hE, ext_list]; simp
        have sE : E.size ≤ 1000000000000 := by rw [← hE, ext_size _ _ _ hcS]; omega
        have HL := Lib.hid lE
        clear lE
        have c1 := hown2.cellAt k (by omega)
        rw [endCells_at L L.length k (by omega)] at c1
        obtain ⟨y, hy⟩ : ∃ y, ends (lists L) k = y := ⟨_, rfl⟩
        rw [hy] at c1
        have HY := Lib.hid hy
        clear hy
        by_cases hlt : k < L.length
        · have c0 := hown2.cellAt (k + 1) (by omega)
          rw [endCells_at L L.length (k + 1) (by omega)] at c0
          obtain ⟨x, hx⟩ : ∃ x, ends (lists L) (k + 1) = x := ⟨_, rfl⟩
          rw [hx] at c0 hin
          clear hx
          have z3 : (k : Int) < (L.length : Int) := by omega
          have z4 : (c : Int) < (x : Int) := by omega
          obtain ⟨b, o, rfl, _, _⟩ := hL2.at' k hlt
          have z5 : (k : Int) ≤ (cap : Int) := by omega
          go_wp2_with (go_at_call 14; refine (scan_any E _ sE).mono ?_; rintro e w5 ⟨v, ps, n, rfl, hown5, hsc, _, _, hb5⟩; refine Hid.out ?_)
          obtain ⟨e1, e2⟩ := scans_one (by rw [← HL.out]; exact hsc) HD.out
          rw [HY.out] at e2
          have e3 : ps = L.take k := lists_inj (by rw [e1]; exact List.map_take.symm)
          subst e2
          have hkl : (L.take k).length = k := by rw [List.length_take]; omega
          have hkm : (L.take k).length ≤ 9223372036854775806 := by rw [hkl]; omega
          obtain ⟨adl, capl, rfl, hls, _, _⟩ := Ls.own hown5
          subst e3
          rw [hkl]
          have hcx := (bcell hb5).1
          have hg5 := (hown2.lt g rfl).2
          have c2 : w5.cell? ⟨g, k, none⟩ = some (.int .i64 n) := by rw [hcx _ _ hg5]; exact c1
          have hL5 := (hL2.on hb5).take k
          have hbe : Below w.heap.size w w5 := hb12.trans (hb5.mono (by omega))
          have z6 : w2.heap.size ≤ w5.heap.size := hb5.size
          clear hcx hb5 hown5 hsc e1
          refine Lib.hid ?_
          go_wp2_with (go_at_call 16; refine (same_n (L.take k) k hkl _ _ _ _ _ hls hL5 hkm).mono ?_; rintro e w6 ⟨rfl, hb6⟩; refine Hid.out ?_)
          have c3 : w6.cell? ⟨g, k, none⟩ = some (.int .i64 n) := by rw [(bcell hb6).1 _ _ (by omega)]; exact c2
          refine Lib.hid ?_
          go_wp2
          go_ret
          exact ⟨rfl, hbe.trans (hb6.mono hbe.size)⟩
        · have hk' : k = L.length := by omega
          have z5 : (k : Int) ≤ (cap : Int) := by omega
          clear hin hk'
          rcases ad with _ | a
          · have hcap := hnz rfl
            subst hcap
            clear hnz
            go_wp2_with (go_at_call 14; refine (scan_any E _ sE).mono ?_; rintro e w5 ⟨v, ps, n, rfl, hown5, hsc, _, _, hb5⟩; refine Hid.out ?_)
            obtain ⟨e1, e2⟩ := scans_one (by rw [← HL.out]; exact hsc) HD.out
            rw [HY.out] at e2
            have e3 : ps = L.take k := lists_inj (by rw [e1]; exact List.map_take.symm)
            subst e2
            have hkl : (L.take k).length = k := by rw [List.length_take]; omega
            have hkm : (L.take k).length ≤ 9223372036854775806 := by rw [hkl]; omega
            obtain ⟨adl, capl, rfl, hls, _, _⟩ := Ls.own hown5
            subst e3
            rw [hkl]
            have hcx := (bcell hb5).1
            have hg5 := (hown2.lt g rfl).2
            have c2 : w5.cell? ⟨g, k, none⟩ = some (.int .i64 n) := by rw [hcx _ _ hg5]; exact c1
            have hL5 := (hL2.on hb5).take k
            have hbe : Below w.heap.size w w5 := hb12.trans (hb5.mono (by omega))
            have z6 : w2.heap.size ≤ w5.heap.size := hb5.size
            clear hcx hb5 hown5 hsc e1
            refine Lib.hid ?_
            go_wp2_with (go_at_call 16; refine (same_n (L.take k) k hkl _ _ _ _ _ hls hL5 hkm).mono ?_; rintro e w6 ⟨rfl, hb6⟩; refine Hid.out ?_)
            have c3 : w6.cell? ⟨g, k, none⟩ = some (.int .i64 n) := by rw [(bcell hb6).1 _ _ (by omega)]; exact c2
            refine Lib.hid ?_
            go_wp2
            go_ret
            exact ⟨rfl, hbe.trans (hb6.mono hbe.size)⟩
          · clear hnz
            go_wp2_with (go_at_call 14; refine (scan_any E _ sE).mono ?_; rintro e w5 ⟨v, ps, n, rfl, hown5, hsc, _, _, hb5⟩; refine Hid.out ?_)
            obtain ⟨e1, e2⟩ := scans_one (by rw [← HL.out]; exact hsc) HD.out
            rw [HY.out] at e2
            have e3 : ps = L.take k := lists_inj (by rw [e1]; exact List.map_take.symm)
            subst e2
            have hkl : (L.take k).length = k := by rw [List.length_take]; omega
            have hkm : (L.take k).length ≤ 9223372036854775806 := by rw [hkl]; omega
            obtain ⟨adl, capl, rfl, hls, _, _⟩ := Ls.own hown5
            subst e3
            rw [hkl]
            have hcx := (bcell hb5).1
            have hg5 := (hown2.lt g rfl).2
            have c2 : w5.cell? ⟨g, k, none⟩ = some (.int .i64 n) := by rw [hcx _ _ hg5]; exact c1
            have hL5 := (hL2.on hb5).take k
            have hbe : Below w.heap.size w w5 := hb12.trans (hb5.mono (by omega))
            have z6 : w2.heap.size ≤ w5.heap.size := hb5.size
            clear hcx hb5 hown5 hsc e1
            refine Lib.hid ?_
            go_wp2_with (go_at_call 16; refine (same_n (L.take k) k hkl _ _ _ _ _ hls hL5 hkm).mono ?_; rintro e w6 ⟨rfl, hb6⟩; refine Hid.out ?_)
            have c3 : w6.cell? ⟨g, k, none⟩ = some (.int .i64 n) := by rw [(bcell hb6).1 _ _ (by omega)]; exact c2
            refine Lib.hid ?_
            go_wp2
            go_ret
            exact ⟨rfl, hbe.trans (hb6.mono hbe.size)⟩
end Go.Proofs.Ytjndlmeaddoccaa
