/- The walk of the statement StripTurns. -/
import Derived.Test.YtjndlmeaddoccaaLb
import Derived.Lib.ConvBytes
namespace Go.Proofs.Ytjndlmeaddoccaa
open Go.RowKit

set_option maxHeartbeats 1000000 in
set_option maxRecDepth 100000 in
theorem turns_big (p : ByteArray) (bit : Int) (w : World) (hs : p.size ≤ maxLen) (h : 65536 < p.size) :
    Calls Try.prog 8 #[.string p, .int .i64 bit] w fun e w' => e = .returned (.bool true) ∧ Below w.heap.size w w' := by
  go_enter Try.func8, Try.ntmps8
  go_wp2_with (go_at_call 12; refine (put_big _ _ hs h).mono ?_; rintro e w1 ⟨rfl, hb1⟩; refine Hid.out ?_)
  refine Lib.hid ?_
  go_wp2_with (go_at_call 9; refine (awake_any _).mono ?_; rintro e w2 ⟨rfl, hb2⟩; refine Hid.out ?_)
  refine Lib.hid ?_
  go_wp2_with (go_at_call 9; refine (awake_any _).mono ?_; rintro e w3 ⟨rfl, hb3⟩; refine Hid.out ?_)
  refine Lib.hid ?_
  go_wp2
  go_ret
  exact ⟨rfl, (hb1.trans (hb2.mono hb1.size)).trans (hb3.mono (Nat.le_trans hb1.size hb2.size))⟩

set_option maxHeartbeats 1000000 in
set_option maxRecDepth 100000 in
theorem turns_out (p : ByteArray) (bit : Int) (w : World) (h : p.size ≤ 65536) (ho : bit < 32 ∨ (32 ≤ bit ∧ 8 * ((8 + p.size : Nat) : Int) ≤ bit)) :
    Calls Try.prog 8 #[.string p, .int .i64 bit] w fun e w' => e = .returned (.bool true) ∧ Below w.heap.size w w' := by
  have hz := recB_size p
  rw [← hz] at ho
  rcases ho with ho | ⟨h32, ho⟩
  all_goals
    go_enter Try.func8, Try.ntmps8
    go_wp2_with (go_at_call 12; refine (put_any _ _ h).mono ?_; rintro e w1 ⟨rfl, hb1⟩; refine Hid.out ?_)
    refine Lib.hid ?_
    go_wp2_with (go_at_call 9; refine (awake_any _).mono ?_; rintro e w2 ⟨rfl, hb2⟩; refine Hid.out ?_)
    refine Lib.hid ?_
    go_wp2_with (go_at_call 9; refine (awake_any _).mono ?_; rintro e w3 ⟨rfl, hb3⟩; refine Hid.out ?_)
    refine Lib.hid ?_
    go_wp2
    go_ret
    exact ⟨rfl, (hb1.trans (hb2.mono hb1.size)).trans (hb3.mono (Nat.le_trans hb1.size hb2.size))⟩

/-- One bit turned makes another byte. -/
theorem xor_bit (c : UInt8) (q : Nat) (h0 : q ≠ 0) (h : q < 256) : ∃ c' : UInt8, c' ≠ c ∧ Go.bits .xor .u8 (c.toNat : Int) (q : Int) = (c'.toNat : Int) := by
  have hc := c.toNat_lt
  have hx : c.toNat ^^^ q < 256 := Nat.xor_lt_two_pow (n := 8) hc h
  have e : (UInt8.ofNat (c.toNat ^^^ q)).toNat = c.toNat ^^^ q := by rw [UInt8.toNat_ofNat']; exact Nat.mod_eq_of_lt hx
  refine ⟨UInt8.ofNat (c.toNat ^^^ q), ?_, ?_⟩
  · intro h'
    have h2 := congrArg UInt8.toNat h'
    rw [e] at h2
    have h3 : c.toNat ^^^ q = c.toNat ^^^ 0 := by rw [h2, Nat.xor_zero]
    exact h0 (xor_cancel' h3)
  · rw [e]
    exact u8_xor_nat _ _ hc h

set_option maxHeartbeats 4000000 in
set_option maxRecDepth 100000 in
theorem turns_in (p : ByteArray) (i : Nat) (bit : Int) (w : World) (h : p.size ≤ 65536) (h4 : 4 ≤ i) (hi : i < 8 + p.size) (hd : bit / 8 = i) :
    Calls Try.prog 8 #[.string p, .int .i64 bit] w fun e w' => e = .returned (.bool true) ∧ Below w.heap.size w w' := by
  obtain ⟨R, eR⟩ : ∃ R, recB p = R := ⟨_, rfl⟩
  have hR : R.size = 8 + p.size := by rw [← eR]; exact recB_size p
  have lR : R.data.toList = recL p.data.toList := by rw [← eR]; exact recB_list p
  have HR := Lib.hid eR
  have HL := Lib.hid lR
  clear eR lR
  have b0 : 0 ≤ bit := by omega
  have b1 : 32 ≤ bit := by omega
  have b2 : bit < 8 * (R.size : Int) := by omega
  have i0 : (i : Int) < R.size := by omega
  have i1 : i < R.size := by omega
  have hRm : R.size ≤ 65544 := by omega
  clear hR
  have hil : i < R.data.toList.length := by rw [len_size]; exact i1
  obtain ⟨c, hc⟩ : ∃ c, R.data.toList[i] = c := ⟨_, rfl⟩
  have HN : ∀ c', c' ≠ c → Hid (NoRec (R.data.toList.set i c')) := by
    intro c' hne
    have hp : p.data.toList.length ≤ 65536 := by rw [len_size]; exact h
    have hl := HL.out
    show NoRec _
    have g : ∀ (l : List UInt8) (hl : l = recL p.data.toList) (hi : i < l.length), l[i] = c → NoRec (l.set i c') := by
      intro l hl hi hc
      subst hl
      exact noRec_turn p.data.toList hp i c' h4 hi (by rw [hc]; exact Ne.symm hne)
    exact g _ hl hil hc
  go_enter Try.func8, Try.ntmps8
  go_wp2_with (go_at_call 12; refine (put_any _ _ h).mono ?_; rintro e w1 ⟨rfl, hb1⟩; rw [HR.out]; refine Hid.out ?_)
  refine Lib.hid ?_
  go_wp2_with (go_at_call 9; refine (awake_any _).mono ?_; rintro e w2 ⟨rfl, hb2⟩; refine Hid.out ?_)
  obtain ⟨cap, W3, hcv, hb3, hcell, hfz, hz3⟩ : ∃ cap W3, (Go.convert 9 40 (.string R)).run Try.prog w2 = .ok (.slice (some ⟨w2.heap.size, 0, none⟩) R.size cap) W3 ∧ Below w2.heap.size w2 W3 ∧ (∀ j (hj : j < R.size), W3.cell? ⟨w2.heap.size, j, none⟩ = some (.int .u8 (R.data.toList[j]'(by rw [len_size]; exact hj)).toNat)) ∧ (∀ j, j < R.size → W3.frozen? ⟨w2.heap.size, j, none⟩ = false) ∧ W3.heap.size = w2.heap.size + 1 := by
    refine ⟨_, _, Lib.run_convert_string_bytes w2 9 40 5 R Try.underlying9 Try.underlying40 Try.underlying5, ⟨rfl, rfl, rfl, by rw [Lib.bytesWorld_size]; omega, fun k hk => Lib.bytesWorld_at_old w2 5 R k hk⟩, ?_, ?_, Lib.bytesWorld_size _ _ _⟩
    · intro j hj
      rw [Lib.bytesWorld_cell w2 5 R j hj]
      simp [List.getD, hj]
    · intro j hj
      unfold World.frozen?
      rw [Lib.bytesWorld_at_new]
      simp [Lib.bytesCells]
      omega
  have c0 := hcell i (by omega)
  have f0 := hfz i (by omega)
  rw [hc] at c0
  have hW : ∀ c' : UInt8, ∃ S : ByteArray, S.data.toList = R.data.toList.set i c' ∧ S.size = R.size ∧ (Go.convert 40 9 (.slice (some ⟨w2.heap.size, 0, none⟩) R.size cap)).run Try.prog (W3.setCell ⟨w2.heap.size, i, none⟩ (.int .u8 c'.toNat)).drew = .ok (.string S) (W3.setCell ⟨w2.heap.size, i, none⟩ (.int .u8 c'.toNat)).drew := by
    intro c'
    have hll : (R.data.toList.set i c').length = R.size := by rw [List.length_set, len_size]
    have hcv2 := run_convert_bytes_back (P := Try.prog) (W3.setCell ⟨w2.heap.size, i, none⟩ (.int .u8 c'.toNat)).drew 40 9 5 ⟨w2.heap.size, 0, none⟩ cap (R.data.toList.set i c') Try.underlying40 Try.underlying5 Try.underlying9 (by
      intro j hj
      rw [hll] at hj
      have e : (⟨w2.heap.size, 0, none⟩ : Addr).add j = ⟨w2.heap.size, j, none⟩ := by unfold Addr.add; split <;> simp_all
      rw [e]
      show (W3.setCell ⟨w2.heap.size, i, none⟩ (.int .u8 c'.toNat)).cell? ⟨w2.heap.size, j, none⟩ = _
      by_cases hij : i = j
      · subst hij
        rw [List.getElem_set_self]
        exact World.cell?_setCell_same _ _ _ c0
      · rw [List.getElem_set_ne hij]
        rw [← hcell j hj]
        exact World.cell?_setCell_other _ _ _ _ (by intro e; cases e; exact hij rfl))
    rw [hll] at hcv2
    exact ⟨⟨(R.data.toList.set i c').toArray⟩, by simp, by rw [← len_size]; exact hll, hcv2⟩
  clear hcell hfz
  have z1 := hb1.size
  have z2 := hb2.size
  have hbw : Below w.heap.size w W3 := (hb1.trans (hb2.mono z1)).trans (hb3.mono (by omega))
  have hbs := fun c' : UInt8 => hbw.setCell (p := ⟨w2.heap.size, i, none⟩) (by show w.heap.size ≤ w2.heap.size; omega) (.int .u8 c'.toNat)
  refine Lib.hid ?_
  have fin : ∀ (q : Nat), q ≠ 0 → q < 256 → ∃ c' : UInt8, ∃ S : ByteArray, Go.bits .xor .u8 (c.toNat : Int) (q : Int) = (c'.toNat : Int) ∧ Hid (NoRec S.data.toList) ∧ S.size = R.size ∧ (Go.convert 40 9 (.slice (some ⟨w2.heap.size, 0, none⟩) R.size cap)).run Try.prog (W3.setCell ⟨w2.heap.size, i, none⟩ (.int .u8 c'.toNat)).drew = .ok (.string S) (W3.setCell ⟨w2.heap.size, i, none⟩ (.int .u8 c'.toNat)).drew ∧ Below w.heap.size w (W3.setCell ⟨w2.heap.size, i, none⟩ (.int .u8 c'.toNat)) := by
    intro q h0 h1
    obtain ⟨c', hne, hx⟩ := xor_bit c q h0 h1
    obtain ⟨S, hS, hSs, hv⟩ := hW c'
    exact ⟨c', S, hx, by rw [hS]; exact HN c' hne, hSs, hv, hbs c'⟩
  clear hW hbs HN hbw hb3 hb2 hb1 HL hc hil
  have hb8 : bit % 8 = 0 ∨ bit % 8 = 1 ∨ bit % 8 = 2 ∨ bit % 8 = 3 ∨ bit % 8 = 4 ∨ bit % 8 = 5 ∨ bit % 8 = 6 ∨ bit % 8 = 7 := by omega
  rcases hb8 with hm | hm | hm | hm | hm | hm | hm | hm
  · obtain ⟨c', S, hx, HS, hSs, hv, hb⟩ := fin 1 (by decide) (by decide)
    have hx : Go.bits .xor .u8 (c.toNat : Int) 1 = (c'.toNat : Int) := hx
    go_wp2
    go_region
    go_wp2_with (go_at_call 14; refine (scan_any S _ (by omega)).mono ?_; rintro e w5 ⟨v, ps, n, rfl, hown, hsc, _, _, hb5⟩; refine Hid.out ?_)
    obtain ⟨e1, rfl⟩ := scans_one hsc (scans_none HS.out)
    have e2 : ps = [] := lists_inj e1
    subst e2
    obtain ⟨ad, cap', rfl, _, _, _⟩ := Ls.own hown
    refine Lib.hid ?_
    go_wp2
    go_ret
    exact ⟨rfl, (show Below w.heap.size w (W3.setCell ⟨w2.heap.size, i, none⟩ (.int .u8 c'.toNat)).drew from hb.trans ⟨rfl, rfl, rfl, Nat.le_refl _, fun _ _ => rfl⟩).trans (hb5.mono (hb.size))⟩
  · obtain ⟨c', S, hx, HS, hSs, hv, hb⟩ := fin 2 (by decide) (by decide)
    have hx : Go.bits .xor .u8 (c.toNat : Int) 2 = (c'.toNat : Int) := hx
    go_wp2
    go_region
    go_wp2_with (go_at_call 14; refine (scan_any S _ (by omega)).mono ?_; rintro e w5 ⟨v, ps, n, rfl, hown, hsc, _, _, hb5⟩; refine Hid.out ?_)
    obtain ⟨e1, rfl⟩ := scans_one hsc (scans_none HS.out)
    have e2 : ps = [] := lists_inj e1
    subst e2
    obtain ⟨ad, cap', rfl, _, _, _⟩ := Ls.own hown
    refine Lib.hid ?_
    go_wp2
    go_ret
    exact ⟨rfl, (show Below w.heap.size w (W3.setCell ⟨w2.heap.size, i, none⟩ (.int .u8 c'.toNat)).drew from hb.trans ⟨rfl, rfl, rfl, Nat.le_refl _, fun _ _ => rfl⟩).trans (hb5.mono (hb.size))⟩
  · obtain ⟨c', S, hx, HS, hSs, hv, hb⟩ := fin 4 (by decide) (by decide)
    have hx : Go.bits .xor .u8 (c.toNat : Int) 4 = (c'.toNat : Int) := hx
    go_wp2
    go_region
    go_wp2_with (go_at_call 14; refine (scan_any S _ (by omega)).mono ?_; rintro e w5 ⟨v, ps, n, rfl, hown, hsc, _, _, hb5⟩; refine Hid.out ?_)
    obtain ⟨e1, rfl⟩ := scans_one hsc (scans_none HS.out)
    have e2 : ps = [] := lists_inj e1
    subst e2
    obtain ⟨ad, cap', rfl, _, _, _⟩ := Ls.own hown
    refine Lib.hid ?_
    go_wp2
    go_ret
    exact ⟨rfl, (show Below w.heap.size w (W3.setCell ⟨w2.heap.size, i, none⟩ (.int .u8 c'.toNat)).drew from hb.trans ⟨rfl, rfl, rfl, Nat.le_refl _, fun _ _ => rfl⟩).trans (hb5.mono (hb.size))⟩
  · obtain ⟨c', S, hx, HS, hSs, hv, hb⟩ := fin 8 (by decide) (by decide)
    have hx : Go.bits .xor .u8 (c.toNat : Int) 8 = (c'.toNat : Int) := hx
    go_wp2
    go_region
    go_wp2_with (go_at_call 14; refine (scan_any S _ (by omega)).mono ?_; rintro e w5 ⟨v, ps, n, rfl, hown, hsc, _, _, hb5⟩; refine Hid.out ?_)
    obtain ⟨e1, rfl⟩ := scans_one hsc (scans_none HS.out)
    have e2 : ps = [] := lists_inj e1
    subst e2
    obtain ⟨ad, cap', rfl, _, _, _⟩ := Ls.own hown
    refine Lib.hid ?_
    go_wp2
    go_ret
    exact ⟨rfl, (show Below w.heap.size w (W3.setCell ⟨w2.heap.size, i, none⟩ (.int .u8 c'.toNat)).drew from hb.trans ⟨rfl, rfl, rfl, Nat.le_refl _, fun _ _ => rfl⟩).trans (hb5.mono (hb.size))⟩
  · obtain ⟨c', S, hx, HS, hSs, hv, hb⟩ := fin 16 (by decide) (by decide)
    have hx : Go.bits .xor .u8 (c.toNat : Int) 16 = (c'.toNat : Int) := hx
    go_wp2
    go_region
    go_wp2_with (go_at_call 14; refine (scan_any S _ (by omega)).mono ?_; rintro e w5 ⟨v, ps, n, rfl, hown, hsc, _, _, hb5⟩; refine Hid.out ?_)
    obtain ⟨e1, rfl⟩ := scans_one hsc (scans_none HS.out)
    have e2 : ps = [] := lists_inj e1
    subst e2
    obtain ⟨ad, cap', rfl, _, _, _⟩ := Ls.own hown
    refine Lib.hid ?_
    go_wp2
    go_ret
    exact ⟨rfl, (show Below w.heap.size w (W3.setCell ⟨w2.heap.size, i, none⟩ (.int .u8 c'.toNat)).drew from hb.trans ⟨rfl, rfl, rfl, Nat.le_refl _, fun _ _ => rfl⟩).trans (hb5.mono (hb.size))⟩
  · obtain ⟨c', S, hx, HS, hSs, hv, hb⟩ := fin 32 (by decide) (by decide)
    have hx : Go.bits .xor .u8 (c.toNat : Int) 32 = (c'.toNat : Int) := hx
    go_wp2
    go_region
    go_wp2_with (go_at_call 14; refine (scan_any S _ (by omega)).mono ?_; rintro e w5 ⟨v, ps, n, rfl, hown, hsc, _, _, hb5⟩; refine Hid.out ?_)
    obtain ⟨e1, rfl⟩ := scans_one hsc (scans_none HS.out)
    have e2 : ps = [] := lists_inj e1
    subst e2
    obtain ⟨ad, cap', rfl, _, _, _⟩ := Ls.own hown
    refine Lib.hid ?_
    go_wp2
    go_ret
    exact ⟨rfl, (show Below w.heap.size w (W3.setCell ⟨w2.heap.size, i, none⟩ (.int .u8 c'.toNat)).drew from hb.trans ⟨rfl, rfl, rfl, Nat.le_refl _, fun _ _ => rfl⟩).trans (hb5.mono (hb.size))⟩
  · obtain ⟨c', S, hx, HS, hSs, hv, hb⟩ := fin 64 (by decide) (by decide)
    have hx : Go.bits .xor .u8 (c.toNat : Int) 64 = (c'.toNat : Int) := hx
    go_wp2
    go_region
    go_wp2_with (go_at_call 14; refine (scan_any S _ (by omega)).mono ?_; rintro e w5 ⟨v, ps, n, rfl, hown, hsc, _, _, hb5⟩; refine Hid.out ?_)
    obtain ⟨e1, rfl⟩ := scans_one hsc (scans_none HS.out)
    have e2 : ps = [] := lists_inj e1
    subst e2
    obtain ⟨ad, cap', rfl, _, _, _⟩ := Ls.own hown
    refine Lib.hid ?_
    go_wp2
    go_ret
    exact ⟨rfl, (show Below w.heap.size w (W3.setCell ⟨w2.heap.size, i, none⟩ (.int .u8 c'.toNat)).drew from hb.trans ⟨rfl, rfl, rfl, Nat.le_refl _, fun _ _ => rfl⟩).trans (hb5.mono (hb.size))⟩
  · obtain ⟨c', S, hx, HS, hSs, hv, hb⟩ := fin 128 (by decide) (by decide)
    have hx : Go.bits .xor .u8 (c.toNat : Int) 128 = (c'.toNat : Int) := hx
    go_wp2
    go_region
    go_wp2_with (go_at_call 14; refine (scan_any S _ (by omega)).mono ?_; rintro e w5 ⟨v, ps, n, rfl, hown, hsc, _, _, hb5⟩; refine Hid.out ?_)
    obtain ⟨e1, rfl⟩ := scans_one hsc (scans_none HS.out)
    have e2 : ps = [] := lists_inj e1
    subst e2
    obtain ⟨ad, cap', rfl, _, _, _⟩ := Ls.own hown
    refine Lib.hid ?_
    go_wp2
    go_ret
    exact ⟨rfl, (show Below w.heap.size w (W3.setCell ⟨w2.heap.size, i, none⟩ (.int .u8 c'.toNat)).drew from hb.trans ⟨rfl, rfl, rfl, Nat.le_refl _, fun _ _ => rfl⟩).trans (hb5.mono (hb.size))⟩

theorem turns_any (p : ByteArray) (bit : Int) (w : World) (hs : p.size ≤ maxLen) :
    Calls Try.prog 8 #[.string p, .int .i64 bit] w fun e w' => e = .returned (.bool true) ∧ Below w.heap.size w w' := by
  by_cases h : p.size ≤ 65536
  · by_cases ho : bit < 32 ∨ (32 ≤ bit ∧ 8 * ((8 + p.size : Nat) : Int) ≤ bit)
    · exact turns_out p bit w h ho
    · exact turns_in p (bit / 8).toNat bit w h (by omega) (by omega) (by omega)
  · exact turns_big p bit w hs (by omega)
end Go.Proofs.Ytjndlmeaddoccaa
