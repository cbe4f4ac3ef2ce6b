/- LexPlaces. -/
import Derived.Test.YtcmdpahchbbicaaDoorXc
namespace Go.Proofs.YtcmdpahchbbicaaDoor
open Go.RowKit
theorem words_bad_at {s : ByteArray} {q : Nat} {e : Int} (h : wordsP s = .inl (q, e)) : q ≤ s.size := by
  unfold wordsP at h
  split at h
  · rw [← (Prod.mk.inj (Sum.inl.inj h)).1]
    omega
  · have h3 := lex_places s.data.toList s.data.toList 0 (by simp) (by omega)
    rw [h] at h3
    have e : s.data.toList.length = s.size := by rw [Array.length_toList]; rfl
    rw [e] at h3
    exact h3
/-- What the statement asks of each word. -/
theorem words_at {s : ByteArray} {L : List Wd} (h : wordsP s = .inr L) (i : Nat) (hi : i < L.length) : L[i].pl ≤ s.size ∧ (L[i].kind = 5 ↔ i + 1 = L.length) ∧ (L[i].kind ≠ 3 → s.extract L[i].pl (L[i].pl + L[i].text.length) = ⟨L[i].text.toArray⟩ ∧ L[i].pl + L[i].text.length ≤ s.size) ∧ (i + 1 = L.length → L[i].pl = s.size) ∧ ∀ h0 : 0 < i, L[i - 1].pl < L[i].pl := by
  obtain ⟨h1, h2⟩ := words_good h
  have h3 := lex_places s.data.toList s.data.toList 0 (by simp) (by omega)
  rw [h2] at h3
  have e : s.data.toList.length = s.size := by rw [Array.length_toList]; rfl
  obtain ⟨a1, a2, a3, a4, a5, a6⟩ := Pl.at h3 i hi
  rw [e] at a2 a4 a5
  refine ⟨a2, a3, fun q => ?_, a5, a6⟩
  obtain ⟨b1, b2⟩ := a4 q
  refine ⟨?_, b2⟩
  rw [ext_take]
  exact congrArg (fun l : List UInt8 => (⟨l.toArray⟩ : ByteArray)) b1.symm
set_option maxHeartbeats 8000000 in
set_option maxRecDepth 100000 in
theorem places_law {w : World} {s : ByteArray} (hg : Gd w.heap.size w) (hsz : (s.size : Int) ≤ 9223372036854775807) : Calls Tryd.prog 4 #[.string s] w fun e w' => e = .returned (.bool true) ∧ Below w.heap.size w w' := by
  have h1 := words_any (s := s) hg
  have HG := Lib.hid hg
  clear hg
  cases ho : wordsP s with
  | inl z9 =>
    obtain ⟨q, er⟩ := z9
    rw [ho] at h1
    have her := words_bad ho
    have hq := words_bad_at ho
    have hq0 : (0 : Int) ≤ (q : Int) := by omega
    have hq1 : (q : Int) ≤ (s.size : Int) := by omega
    have her1 : ¬ er = 0 := by omega
    have her2 : (er == 0) = false := by rw [beq_eq_false_iff_ne]; exact her1
    have her3 : (er != 0) = true := by rw [bne_iff_ne]; exact her1
    have H1 := Lib.hid h1
    clear h1 her ho
    go_enter Tryd.func4, Tryd.ntmps4
    go_wp2_with (go_at_call 7; refine (H1.out).mono ?_; rintro e w1 ⟨rfl, b1⟩; refine Hid.out ?_)
    refine Lib.hid ?_
    have HA1 := Lib.hid (awake_any (HG.out.up b1 b1.size))
    have B1 := Lib.hid b1
    clear b1
    go_wp2_with (go_at_call 9; refine (HA1.out).mono ?_; rintro e w2 ⟨rfl, b2⟩; refine Hid.out ?_)
    refine Lib.hid ?_
    have B2 := Lib.hid (B1.out.trans (b2.mono B1.out.size))
    have HA2 := Lib.hid (awake_any (HG.out.up B2.out B2.out.size))
    clear b2
    go_wp2_with (go_at_call 9; refine (HA2.out).mono ?_; rintro e w3 ⟨rfl, b3⟩; refine Hid.out ?_)
    refine Lib.hid ?_
    have B3 := Lib.hid (B2.out.trans (b3.mono B2.out.size))
    clear b3
    go_wp2
    go_ret
    exact ⟨rfl, B3.out⟩
  | inr L =>
    rw [ho] at h1
    obtain ⟨hl0, hl1⟩ := words_len ho
    have HAT := Lib.hid (words_at ho)
    have H1 := Lib.hid h1
    clear h1 ho
    go_enter Tryd.func4, Tryd.ntmps4
    go_wp2_with (go_at_call 7; refine (H1.out).mono ?_; rintro e w1 ⟨⟨v1, rfl, ho1⟩, b1⟩; refine Hid.out ?_)
    refine Lib.hid ?_
    have HA1 := Lib.hid (awake_any (HG.out.up b1 b1.size))
    have B1 := Lib.hid b1
    obtain ⟨ad, cap, rfl, hL⟩ := Lw.own ho1
    have HL := Lib.hid hL
    clear b1 ho1 hL
    go_wp2_with (go_at_call 9; refine (HA1.out).mono ?_; rintro e w2 ⟨rfl, b2⟩; refine Hid.out ?_)
    refine Lib.hid ?_
    have B2 := Lib.hid (B1.out.trans (b2.mono B1.out.size))
    have HL2 := Lib.hid (HL.out.on b2)
    clear b2 HL HA1 H1
    go_wp2
    go_loopw [38] (fun i wr => ∃ j : Nat, j ≤ L.length ∧ i = .int .i64 j ∧ Hid (Below w2.heap.size w2 wr)) (fun i _ => L.length - (intOf i).toNat)
    case atStart => exact ⟨0, Nat.zero_le _, rfl, Below.refl _ _⟩
    case round =>
      obtain ⟨j, hj, rfl, HB⟩ := hrel
      by_cases hlt : j < L.length
      · have hlt' : (j : Int) < (L.length : Int) := by omega
        have hj0 : (0 : Int) ≤ (j : Int) := by omega
        obtain ⟨a1, a2, a3, a4, a5⟩ := HAT.out j hlt
        obtain ⟨b, o, rfl, hb, c0, c1, c2, c3⟩ := (HL2.out.on HB.out) j hlt
        have hprev : 0 < j → wr.cell? ⟨b, o + (j - 1) * 4 + 1, none⟩ = some (.int .i64 L[j - 1].pl) := fun h0 => by
          obtain ⟨b', o', e', _, _, d1, _, _⟩ := (HL2.out.on HB.out) (j - 1) (by omega)
          cases e'
          exact d1
        obtain ⟨x, hx⟩ : ∃ x, L[j] = x := ⟨_, rfl⟩
        rw [hx] at a1 a2 a3 a4 a5 c0 c1 c2 c3
        obtain ⟨kd, pl, tx, nn⟩ := x
        simp only at a1 a2 a3 a4 a5 c0 c1 c2 c3
        obtain ⟨T, hT⟩ : ∃ T, (⟨tx.toArray⟩ : ByteArray) = T := ⟨_, rfl⟩
        have hTz : T.size = tx.length := by rw [← hT]; simp [ByteArray.size]
        rw [hT] at a3 c2
        rw [← hTz] at a3
        obtain ⟨W1, hW1⟩ : ∃ W1, W1 = wr.alloc (.cells #[.int .i64 kd, .int .i64 pl, .string T, .int .i64 nn] 31) := ⟨_, rfl⟩
        obtain ⟨Y, hY⟩ : ∃ Y, wr.heap.size = Y := ⟨_, rfl⟩
        have jY : W1.heap[Y]? = some (.cells #[.int .i64 kd, .int .i64 pl, .string T, .int .i64 nn] 31 (0, 0)) := by rw [hW1, ← hY]; exact heap_alloc_new wr _
        have hbW : Below wr.heap.size wr W1 := by rw [hW1]; exact (Below.refl _ wr).alloc (Nat.le_refl _) _
        have d0 := cell_blk jY 0
        have d1 := cell_blk jY 1
        have d2 := cell_blk jY 2
        simp only [List.getElem?_toArray, List.getElem?_cons_zero, List.getElem?_cons_succ] at d0 d1 d2
        have HBW : Hid (Below w2.heap.size w2 W1) := HB.out.trans (hbW.mono HB.out.size)
        have p0 : decide ((pl : Int) < 0) = false := decide_eq_false (by omega)
        have p1 : decide ((s.size : Int) < (pl : Int)) = false := decide_eq_false (by omega)
        have p1n : decide (s.size < pl) = false := decide_eq_false (by omega)
        have hpl : (0 : Int) ≤ (pl : Int) := by omega
        have hpl1 : (pl : Int) ≤ (s.size : Int) := by omega
        have HW1 := Lib.hid hW1
        have HY := Lib.hid hY
        have HA3 := Lib.hid a3
        have hlast : (kd == 5) = ((j : Int) == (L.length : Int) - 1) := by
          by_cases q : kd = 5
          · have := a2.1 q
            rw [q]
            have e : (j : Int) = (L.length : Int) - 1 := by omega
            rw [e]
            simp
          · have : ¬ j + 1 = L.length := fun z => q (a2.2 z)
            rw [beq_eq_false_iff_ne.2 q]
            symm
            rw [beq_eq_false_iff_ne]
            omega
        have HLA := Lib.hid hlast
        have hpc : 0 < j → W1.cell? ⟨b, o + (j - 1) * 4 + 1, none⟩ = some (.int .i64 L[j - 1].pl) := fun h0 => cell_on hbW (hprev h0)
        have HPC := Lib.hid hpc
        have HA5 := Lib.hid a5
        clear hW1 hY jY hbW hlast a1 a2 a3 a4 a5 hprev hx hT hTz hpc HAT
        go_upto_region 7 with fail
        rw [← HW1.out, HY.out]
        obtain ⟨qq, hq1⟩ : ∃ qq, (kd == 5) = qq := ⟨_, rfl⟩
        have hq2 : ((j : Int) == (L.length : Int) - 1) = qq := by rw [← HLA.out]; exact hq1
        by_cases h0 : 0 < j
        · have hjp := HPC.out h0
          have hlp := HA5.out h0
          obtain ⟨pp, hpp⟩ : ∃ pp, L[j - 1].pl = pp := ⟨_, rfl⟩
          rw [hpp] at hjp hlp
          have hj1 : (0 : Int) ≤ (j : Int) - 1 := by omega
          have hj2 : (j : Int) - 1 < (L.length : Int) := by omega
          have hj3 : ((j : Int) - 1).toNat = j - 1 := by omega
          have h0' : decide ((0 : Int) < (j : Int)) = true := decide_eq_true (by omega)
          have h0n : decide (0 < j) = true := decide_eq_true h0
          have hlen : decide (pl ≤ pp) = false := decide_eq_false (by omega)
          have hle : decide ((pl : Int) ≤ (pp : Int)) = false := decide_eq_false (by omega)
          clear hpp HPC HA5 HLA
          go_quiet (fail)
          obtain ⟨W2, hW2⟩ : ∃ W2, W2 = W1.drewN nq := ⟨_, rfl⟩
          have e0 : W2.cell? ⟨Y, 0, none⟩ = some (.int .i64 kd) := by rw [hW2]; exact d0
          have e1 : W2.cell? ⟨Y, 1, none⟩ = some (.int .i64 pl) := by rw [hW2]; exact d1
          have e2 : W2.cell? ⟨Y, 2, none⟩ = some (.string T) := by rw [hW2]; exact d2
          have HB2 : Hid (Below w2.heap.size w2 W2) := by rw [hW2]; exact ⟨HBW.out.os, HBW.out.tape, HBW.out.output, HBW.out.size, HBW.out.block⟩
          rw [← hW2]
          clear hW2 d0 d1 d2 HBW
          by_cases h3 : kd = 3
          · subst h3
            go_upto_region 9 with fail
            go_quiet (fail)
            have HB3 : Hid (Below w2.heap.size w2 (W2.drewN nq)) := ⟨HB2.out.os, HB2.out.tape, HB2.out.output, HB2.out.size, HB2.out.block⟩
            go_wp2
            exact ⟨⟨j + 1, by omega, by go_num, HB3⟩, by simp [intOf]; omega⟩
          · obtain ⟨x1, x2⟩ := HA3.out h3
            have hb3 : (kd == 3) = false := by rw [beq_eq_false_iff_ne]; exact h3
            have hb3' : (kd != 3) = true := by rw [bne_iff_ne]; exact h3
            have HX1 := Lib.hid x1
            have hmn : ¬ (s.size : Int) < (pl : Int) + (T.size : Int) := by omega
            clear x1
            go_upto_region 9 with fail
            have hx : ((s.extract pl (min (s.size : Int) ((pl : Int) + (T.size : Int))).toNat).toList == T.toList) = true := by
              rw [show (min (s.size : Int) ((pl : Int) + (T.size : Int))).toNat = pl + T.size by omega, HX1.out]
              simp
            go_quiet (fail)
            have HB3 : Hid (Below w2.heap.size w2 (W2.drewN nq)) := ⟨HB2.out.os, HB2.out.tape, HB2.out.output, HB2.out.size, HB2.out.block⟩
            go_wp2
            exact ⟨⟨j + 1, by omega, by go_num, HB3⟩, by simp [intOf]; omega⟩
        · have h0x : ¬ 0 < j := h0
          have h0' : decide ((0 : Int) < (j : Int)) = false := decide_eq_false (by omega)
          have h0n : decide (0 < j) = false := decide_eq_false (by omega)
          clear HPC HA5 HLA
          go_quiet (fail)
          obtain ⟨W2, hW2⟩ : ∃ W2, W2 = W1.drewN nq := ⟨_, rfl⟩
          have e0 : W2.cell? ⟨Y, 0, none⟩ = some (.int .i64 kd) := by rw [hW2]; exact d0
          have e1 : W2.cell? ⟨Y, 1, none⟩ = some (.int .i64 pl) := by rw [hW2]; exact d1
          have e2 : W2.cell? ⟨Y, 2, none⟩ = some (.string T) := by rw [hW2]; exact d2
          have HB2 : Hid (Below w2.heap.size w2 W2) := by rw [hW2]; exact ⟨HBW.out.os, HBW.out.tape, HBW.out.output, HBW.out.size, HBW.out.block⟩
          rw [← hW2]
          clear hW2 d0 d1 d2 HBW
          by_cases h3 : kd = 3
          · subst h3
            go_upto_region 9 with fail
            go_quiet (fail)
            have HB3 : Hid (Below w2.heap.size w2 (W2.drewN nq)) := ⟨HB2.out.os, HB2.out.tape, HB2.out.output, HB2.out.size, HB2.out.block⟩
            go_wp2
            exact ⟨⟨j + 1, by omega, by go_num, HB3⟩, by simp [intOf]; omega⟩
          · obtain ⟨x1, x2⟩ := HA3.out h3
            have hb3 : (kd == 3) = false := by rw [beq_eq_false_iff_ne]; exact h3
            have hb3' : (kd != 3) = true := by rw [bne_iff_ne]; exact h3
            have HX1 := Lib.hid x1
            have hmn : ¬ (s.size : Int) < (pl : Int) + (T.size : Int) := by omega
            clear x1
            go_upto_region 9 with fail
            have hx : ((s.extract pl (min (s.size : Int) ((pl : Int) + (T.size : Int))).toNat).toList == T.toList) = true := by
              rw [show (min (s.size : Int) ((pl : Int) + (T.size : Int))).toNat = pl + T.size by omega, HX1.out]
              simp
            go_quiet (fail)
            have HB3 : Hid (Below w2.heap.size w2 (W2.drewN nq)) := ⟨HB2.out.os, HB2.out.tape, HB2.out.output, HB2.out.size, HB2.out.block⟩
            go_wp2
            exact ⟨⟨j + 1, by omega, by go_num, HB3⟩, by simp [intOf]; omega⟩
      · have hlt' : ¬ (j : Int) < (L.length : Int) := by omega
        obtain ⟨a1, a2, a3, a4, a5⟩ := HAT.out (L.length - 1) (by omega)
        obtain ⟨b, o, rfl, hb, c0, c1, c2, c3⟩ := (HL2.out.on HB.out) (L.length - 1) (by omega)
        have hpl := a4 (by omega)
        rw [hpl] at c1
        have k0 : (0 : Int) ≤ (L.length : Int) - 1 := by omega
        have k1 : (L.length : Int) - 1 < (L.length : Int) := by omega
        have k2 : ((L.length : Int) - 1).toNat = L.length - 1 := by omega
        clear a1 a2 a3 a4 a5 c0 c2 c3 hpl HAT
        go_wp2
        go_ret
        exact ⟨by simp, B2.out.trans (HB.out.mono B2.out.size)⟩
end Go.Proofs.YtcmdpahchbbicaaDoor
