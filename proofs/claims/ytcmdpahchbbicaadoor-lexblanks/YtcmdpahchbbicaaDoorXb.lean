/- LexBlanks. -/
import Derived.Test.YtcmdpahchbbicaaDoorWt
import Derived.Test.YtcmdpahchbbicaaDoorXp
namespace Go.Proofs.YtcmdpahchbbicaaDoor
open Go.RowKit
abbrev blT : ByteArray := ⟨#[9, 32, 10, 32]⟩
theorem bl_all (c : Nat) : ∀ x ∈ (blT.extract 0 c).data.toList, isB x = true := by
  rw [Lib.extract_data]
  intro x hx
  have hx := List.mem_of_mem_drop (List.mem_of_mem_take hx)
  have h : ∀ x ∈ blT.data.toList, isB x = true := by decide
  exact h x hx
theorem bl_len (c : Nat) : (blT.extract 0 c).data.toList.length ≤ 4 := by
  rw [Lib.extract_data]
  have := List.length_take_le c (blT.data.toList.drop 0)
  have h4 : (blT.data.toList.drop 0).length = 4 := rfl
  rw [List.length_take, h4]
  omega
theorem allT_snoc (b : List UInt8) (L : List Wd) (x : Wd) : allT b (L ++ [x]) = allT b L ++ (b ++ prW x.kind x.text ++ [32]) := by simp [allT, oneT]
theorem prW_len (k : Int) (t : List UInt8) (h : t.length ≤ 1024) (h3 : k = 3 → t.length ≤ 64) : (prW k t).length ≤ 1024 := by
  unfold prW
  split
  · rename_i hk
    have := dbl_le t
    have := h3 hk
    simp
    omega
  · exact h
theorem allT_len (b : List UInt8) (hb : b.length ≤ 4) : ∀ (L : List Wd), (∀ x ∈ L, x.text.length ≤ 1024 ∧ (x.kind = 3 → x.text.length ≤ 64)) → (allT b L).length ≤ L.length * 1029
  | [], _ => by simp [allT]
  | x :: r, h => by
    have h1 := allT_len b hb r (fun y hy => h y (List.mem_cons_of_mem _ hy))
    obtain ⟨h2, h3⟩ := h x (List.mem_cons_self ..)
    have h4 := prW_len x.kind x.text h2 h3
    have e : allT b (x :: r) = oneT b x ++ allT b r := rfl
    have e2 : (oneT b x).length = b.length + (prW x.kind x.text).length + 1 := by simp [oneT]; omega
    rw [e, List.length_append, e2, List.length_cons]
    omega
theorem words_text {s : ByteArray} {L : List Wd} (h : wordsP s = .inr L) (h3 : ∀ x ∈ L, x.kind = 3 → x.text.length ≤ 64) : ∀ x ∈ L, x.text.length ≤ 1024 ∧ (x.kind = 3 → x.text.length ≤ 64) := by
  intro x hx
  obtain ⟨i, hi, rfl⟩ := List.getElem_of_mem hx
  obtain ⟨a1, _, a3, _, _⟩ := words_at h i hi
  have hs := (words_good h).1
  refine ⟨?_, h3 _ hx⟩
  by_cases hk : L[i].kind = 3
  · have := h3 _ hx hk
    omega
  · have := (a3 hk).2
    omega
set_option maxHeartbeats 8000000 in
set_option maxRecDepth 100000 in
theorem blanks_law {w : World} {s : ByteArray} {n : Int} (hg : Gd w.heap.size w) : Calls Tryd.prog 5 #[.string s, .int .i64 n] w fun e w' => e = .returned (.bool true) ∧ Below w.heap.size w w' := by
  have h1 := words_any (s := s) hg
  have HG := Lib.hid hg
  clear hg
  cases ho : wordsP s with
  | inl z9 =>
    obtain ⟨q, er⟩ := z9
    rw [ho] at h1
    have her := words_bad ho
    have her1 : ¬ er = 0 := by omega
    have her2 : (er == 0) = false := by rw [beq_eq_false_iff_ne]; exact her1
    have her3 : (er != 0) = true := by rw [bne_iff_ne]; exact her1
    have H1 := Lib.hid h1
    clear h1 her ho
    go_enter Tryd.func5, Tryd.ntmps5
    go_wp2_with (go_at_call 7; refine (H1.out).mono ?_; rintro e w1 ⟨rfl, b1⟩; refine Hid.out ?_)
    refine Lib.hid ?_
    have HA1 := Lib.hid (awake_any (HG.out.up b1 b1.size))
    have B1 := Lib.hid b1
    clear b1
    go_wp2_with (go_at_call 9; refine (HA1.out).mono ?_; rintro e w2 ⟨rfl, b2⟩; refine Hid.out ?_)
    refine Lib.hid ?_
    have B2 := Lib.hid (B1.out.trans (b2.mono B1.out.size))
    have HA2 := Lib.hid (awake_any (HG.out.up B2.out B2.out.size))
    clear b2
    go_wp2_with (go_at_call 9; refine (HA2.out).mono ?_; rintro e w3 ⟨rfl, b3⟩; refine Hid.out ?_)
    refine Lib.hid ?_
    have B3 := Lib.hid (B2.out.trans (b3.mono B2.out.size))
    clear b3
    go_wp2
    go_ret
    exact ⟨rfl, B3.out⟩
  | inr L =>
    rw [ho] at h1
    obtain ⟨hl0, hl1⟩ := words_len ho
    have H1 := Lib.hid h1
    by_cases hc : n < 0 ∨ (3 : Int) < n
    · by_cases hc0 : n < 0
      · clear hc h1 ho
        go_enter Tryd.func5, Tryd.ntmps5
        go_wp2_with (go_at_call 7; refine (H1.out).mono ?_; rintro e w1 ⟨⟨v1, rfl, ho1⟩, b1⟩; refine Hid.out ?_)
        refine Lib.hid ?_
        have HA1 := Lib.hid (awake_any (HG.out.up b1 b1.size))
        have B1 := Lib.hid b1
        clear b1 ho1
        go_wp2_with (go_at_call 9; refine (HA1.out).mono ?_; rintro e w2 ⟨rfl, b2⟩; refine Hid.out ?_)
        refine Lib.hid ?_
        have B2 := Lib.hid (B1.out.trans (b2.mono B1.out.size))
        have HA2 := Lib.hid (awake_any (HG.out.up B2.out B2.out.size))
        clear b2
        go_wp2_with (go_at_call 9; refine (HA2.out).mono ?_; rintro e w3 ⟨rfl, b3⟩; refine Hid.out ?_)
        refine Lib.hid ?_
        have B3 := Lib.hid (B2.out.trans (b3.mono B2.out.size))
        clear b3
        go_wp2
        go_ret
        exact ⟨rfl, B3.out⟩
      · have hc1 : (3 : Int) < n := by omega
        clear hc hc0 h1 ho
        have hc0' : ¬ n < 0 := by omega
        go_enter Tryd.func5, Tryd.ntmps5
        go_wp2_with (go_at_call 7; refine (H1.out).mono ?_; rintro e w1 ⟨⟨v1, rfl, ho1⟩, b1⟩; refine Hid.out ?_)
        refine Lib.hid ?_
        have HA1 := Lib.hid (awake_any (HG.out.up b1 b1.size))
        have B1 := Lib.hid b1
        clear b1 ho1
        go_wp2_with (go_at_call 9; refine (HA1.out).mono ?_; rintro e w2 ⟨rfl, b2⟩; refine Hid.out ?_)
        refine Lib.hid ?_
        have B2 := Lib.hid (B1.out.trans (b2.mono B1.out.size))
        have HA2 := Lib.hid (awake_any (HG.out.up B2.out B2.out.size))
        clear b2
        go_wp2_with (go_at_call 9; refine (HA2.out).mono ?_; rintro e w3 ⟨rfl, b3⟩; refine Hid.out ?_)
        refine Lib.hid ?_
        have B3 := Lib.hid (B2.out.trans (b3.mono B2.out.size))
        clear b3
        go_wp2
        go_ret
        exact ⟨rfl, B3.out⟩
    · have hc0 : ¬ n < 0 := by omega
      have hc1 : ¬ (3 : Int) < n := by omega
      obtain ⟨c, rfl⟩ : ∃ c : Nat, n = (c : Int) := ⟨n.toNat, by omega⟩
      have hc3 : (c : Int) + 1 ≤ 4 := by omega
      have hcn : ((c : Int) + 1).toNat = c + 1 := by omega
      have hcz : (0 : Int) ≤ (c : Int) + 1 := by omega
      obtain ⟨B, hB⟩ : ∃ B, blT.extract 0 (c + 1) = B := ⟨_, rfl⟩
      have hBl : B.data.toList.length ≤ 4 := by rw [← hB]; exact bl_len _
      have hBa : ∀ x ∈ B.data.toList, isB x = true := by rw [← hB]; exact bl_all _
      obtain ⟨h64, hsame⟩ := lex_same B.data.toList hBa s.data.toList 0 L (words_good ho).2
      have htx := words_text ho h64
      have hall := allT_len B.data.toList hBl L htx
      have HPRE : Hid (∀ j, j ≤ L.length → (allT B.data.toList (L.take j)).length ≤ 1100000) := fun j hj => by
        have h := allT_len B.data.toList hBl (L.take j) (fun x hx => htx x (List.mem_of_mem_take hx))
        have h2 : (L.take j).length ≤ 1025 := by rw [List.length_take]; omega
        omega
      have HTX := Lib.hid htx
      have HSAME := Lib.hid (hsame 0)
      have HBE := Lib.hid hB
      have hBz : B.size ≤ 4 := by rw [Array.length_toList] at hBl; exact hBl
      clear hc h1 ho hsame h64 htx hall hBa hBl hB
      go_enter Tryd.func5, Tryd.ntmps5
      go_wp2_with (go_at_call 7; refine (H1.out).mono ?_; rintro e w1 ⟨⟨v1, rfl, ho1⟩, b1⟩; refine Hid.out ?_)
      refine Lib.hid ?_
      have HA1 := Lib.hid (awake_any (HG.out.up b1 b1.size))
      have B1 := Lib.hid b1
      obtain ⟨ad, cap, rfl, hL⟩ := Lw.own ho1
      have HL := Lib.hid hL
      clear b1 ho1 hL
      go_wp2_with (go_at_call 9; refine (HA1.out).mono ?_; rintro e w2 ⟨rfl, b2⟩; refine Hid.out ?_)
      refine Lib.hid ?_
      have B2 := Lib.hid (B1.out.trans (b2.mono B1.out.size))
      have HL2 := Lib.hid (HL.out.on b2)
      clear b2 HL HA1 H1
      go_wp2
      go_loopw [8, 40] (fun t i wr => ∃ (j : Nat) (X : ByteArray), j ≤ L.length ∧ i = .int .i64 j ∧ t = .string X ∧ Hid (X.data.toList = allT B.data.toList (L.take j)) ∧ Hid (Below w2.heap.size w2 wr)) (fun _ i _ => L.length - (intOf i).toNat)
      case atStart => exact ⟨0, _, Nat.zero_le _, rfl, rfl, rfl, Below.refl _ _⟩
      case round =>
        obtain ⟨j, X, hj, rfl, rfl, HX, HB⟩ := hrel
        have hXz : X.size ≤ 1100000 := by
          have h := HPRE.out j hj
          rw [← HX.out, Array.length_toList] at h
          exact h
        by_cases hlt : j < L.length
        · have hlt' : (j : Int) < (L.length : Int) := by omega
          have hj0 : (0 : Int) ≤ (j : Int) := by omega
          obtain ⟨b, o, rfl, hb, c0, c1, c2, c3⟩ := (HL2.out.on HB.out) j hlt
          have htj := HTX.out L[j] (List.getElem_mem hlt)
          have hsn : L.take (j + 1) = L.take j ++ [L[j]] := by rw [List.take_add_one, List.getElem?_eq_getElem hlt]; rfl
          obtain ⟨x, hx⟩ : ∃ x, L[j] = x := ⟨_, rfl⟩
          rw [hx] at c0 c1 c2 c3 htj hsn
          obtain ⟨kd, pl, tx, nn⟩ := x
          simp only at c0 c1 c2 c3 htj
          obtain ⟨T, hT⟩ : ∃ T, (⟨tx.toArray⟩ : ByteArray) = T := ⟨_, rfl⟩
          have hTd : T.data.toList = tx := by rw [← hT]
          have hTz : T.size = tx.length := by rw [← hTd, Array.length_toList]; rfl
          have hTs : T.size ≤ 1024 := by omega
          rw [hT] at c2
          obtain ⟨W1, hW1⟩ : ∃ W1, W1 = wr.alloc (.cells #[.int .i64 kd, .int .i64 pl, .string T, .int .i64 nn] 31) := ⟨_, rfl⟩
          obtain ⟨Y, hY⟩ : ∃ Y, wr.heap.size = Y := ⟨_, rfl⟩
          have jY : W1.heap[Y]? = some (.cells #[.int .i64 kd, .int .i64 pl, .string T, .int .i64 nn] 31 (0, 0)) := by rw [hW1, ← hY]; exact heap_alloc_new wr _
          have hbW : Below wr.heap.size wr W1 := by rw [hW1]; exact (Below.refl _ wr).alloc (Nat.le_refl _) _
          have d0 := cell_blk jY 0
          have d2 := cell_blk jY 2
          simp only [List.getElem?_toArray, List.getElem?_cons_zero, List.getElem?_cons_succ] at d0 d2
          have HBW : Hid (Below w2.heap.size w2 W1) := HB.out.trans (hbW.mono HB.out.size)
          have HALL : Hid (allT B.data.toList (L.take (j + 1)) = X.data.toList ++ (B.data.toList ++ prW kd tx ++ [32])) := by
            show _ = _
            rw [hsn, allT_snoc, HX.out]
          have HW1 := Lib.hid hW1
          have HY := Lib.hid hY
          have HTD := Lib.hid hTd
          have x1 : ¬ 9223372036854775807 < X.size + (blT.extract 0 (c + 1)).size := by rw [HBE.out]; omega
          have x2 : ¬ 9223372036854775807 < (X ++ B).size + T.size := by rw [ByteArray.size_append]; omega
          have x3 : ¬ 9223372036854775807 < (X ++ B ++ T).size + 1 := by rw [ByteArray.size_append, ByteArray.size_append]; omega
          clear hW1 hY jY hbW hx hT hTz hsn HX
          go_upto_region 8 with fail
          rw [← HW1.out, HY.out]
          go_upto_region 9 with fail
          rw [HBE.out]
          by_cases hk3 : kd = 3
          · subst hk3
            have hT64 : T.size ≤ 64 := by have := htj.2 rfl; rw [← HTD.out, Array.length_toList] at this; exact this
            obtain ⟨P, hP⟩ : ∃ P : ByteArray, P = ⟨(39 :: (dbl T.data.toList ++ [39])).toArray⟩ := ⟨_, rfl⟩
            have hPd : P.data.toList = prW 3 tx := by rw [hP, ← HTD.out]; rfl
            have hPz : P.size ≤ 1024 := by
              have h1 := prW_len 3 tx htj.1 htj.2
              rw [← hPd, Array.length_toList] at h1
              exact h1
            have hpr : ∀ Z : World, Calls Tryd.prog 11 #[.agg #[.int .i64 2, .int .i64 0, .string T]] Z fun e w' => e = .returned (.tuple #[.string P, .int .i64 0]) ∧ Below Z.heap.size Z w' := fun Z => by rw [hP]; exact print_ref T Z hT64
            have HPR := Lib.hid hpr
            have HPD := Lib.hid hPd
            have y2 : ¬ 9223372036854775807 < (X ++ B).size + P.size := by rw [ByteArray.size_append]; omega
            have y3 : ¬ 9223372036854775807 < (X ++ B ++ P).size + 1 := by rw [ByteArray.size_append, ByteArray.size_append]; omega
            clear hP hpr hPd hT64
            go_wp2_with (go_at_call 11; refine (HPR.out _).mono ?_; rintro e w3 ⟨rfl, b3⟩; refine Hid.out ?_)
            refine Lib.hid ?_
            have HB3 := Lib.hid (HBW.out.trans (b3.mono HBW.out.size))
            have HD : Hid ((X ++ B ++ P ++ ⟨#[32]⟩).data.toList = allT B.data.toList (L.take (j + 1))) := by
              show _ = _
              rw [HALL.out, ← HPD.out]
              simp [ByteArray.data_append]
            clear b3
            go_wp2
            exact ⟨⟨j + 1, _, by omega, by go_num, rfl, HD, HB3⟩, by simp [intOf]; omega⟩
          · have hk3' : (kd == 3) = false := by rw [beq_eq_false_iff_ne]; exact hk3
            have HD : Hid ((X ++ B ++ T ++ ⟨#[32]⟩).data.toList = allT B.data.toList (L.take (j + 1))) := by
              show _ = _
              have e : prW kd tx = tx := by unfold prW; rw [if_neg hk3]
              rw [HALL.out, e, ← HTD.out]
              simp [ByteArray.data_append]
            go_wp2
            exact ⟨⟨j + 1, _, by omega, by go_num, rfl, HD, HBW⟩, by simp [intOf]; omega⟩
        · have hlt' : ¬ (j : Int) < (L.length : Int) := by omega
          have hXd : X.data.toList = allT B.data.toList L := by rw [HX.out, List.take_of_length_le (by omega)]
          clear HX HPRE HTX
          have BW := Lib.hid (B2.out.trans (HB.out.mono B2.out.size))
          by_cases hbig : 1024 < X.size
          · have hbig' : (1024 : Int) < (X.size : Int) := by omega
            clear hXd
            go_wp2
            go_ret
            exact ⟨rfl, BW.out⟩
          · have hbig' : ¬ (1024 : Int) < (X.size : Int) := by omega
            have hw2 := words_any (s := X) (HG.out.up BW.out BW.out.size)
            have hsm := HSAME.out
            rw [← hXd, ← words_small (by omega)] at hsm
            cases ho2 : wordsP X with
            | inl z9 => obtain ⟨q, er⟩ := z9; rw [ho2] at hsm; exact absurd hsm (by simp [SameW])
            | inr M =>
              rw [ho2] at hsm hw2
              obtain ⟨hMl, hMs⟩ := hsm
              have HMS := Lib.hid hMs
              have HML := Lib.hid hMl
              have H2 := Lib.hid hw2
              have HL3 := Lib.hid (HL2.out.on HB.out)
              clear hMl hMs hw2 ho2 hXd HSAME HL2 HB
              go_wp2_with (go_at_call 7; refine (H2.out).mono ?_; rintro e w3 ⟨⟨v3, rfl, ho3⟩, b3⟩; refine Hid.out ?_)
              refine Lib.hid ?_
              have B3 := Lib.hid (BW.out.trans (b3.mono BW.out.size))
              have HL4 := Lib.hid (HL3.out.on b3)
              obtain ⟨ad3, cap3, rfl, hM⟩ := Lw.own ho3
              have HM := Lib.hid hM
              have hml := HML.out
              rw [hml]
              clear b3 ho3 hM HL3 H2 hml
              go_wp2
              go_loopw [90] (fun i wr => ∃ j : Nat, j ≤ L.length ∧ i = .int .i64 j ∧ Hid (Below w3.heap.size w3 wr)) (fun i _ => L.length - (intOf i).toNat)
              case atStart => exact ⟨0, Nat.zero_le _, rfl, Below.refl _ _⟩
              case round =>
                obtain ⟨j, hj, rfl, HB⟩ := hrel
                by_cases hlt : j < L.length
                · have hlt' : (j : Int) < (L.length : Int) := by omega
                  have hj0 : (0 : Int) ≤ (j : Int) := by omega
                  have hjm : j < M.length := by rw [HML.out]; exact hlt
                  obtain ⟨m0, m2, m3⟩ := HMS.out j hlt hjm
                  obtain ⟨b, o, rfl, hb, c0, c1, c2, c3⟩ := (HL4.out.on HB.out) j hlt
                  obtain ⟨b', o', rfl, hb', d0, d1, d2, d3⟩ := (HM.out.on HB.out) j hjm
                  rw [m0] at d0
                  rw [m2] at d2
                  rw [m3] at d3
                  obtain ⟨x, hx⟩ : ∃ x, L[j] = x := ⟨_, rfl⟩
                  rw [hx] at c0 c1 c2 c3 d0 d2 d3
                  clear hx m0 m2 m3
                  go_upto_region 24 with fail
                  go_quiet (fail)
                  have HB2 : Hid (Below w3.heap.size w3 (wr.drewN nq)) := ⟨HB.out.os, HB.out.tape, HB.out.output, HB.out.size, HB.out.block⟩
                  go_wp2
                  exact ⟨⟨j + 1, by omega, by go_num, HB2⟩, by simp [intOf]; omega⟩
                · have hlt' : ¬ (j : Int) < (L.length : Int) := by omega
                  go_wp2
                  go_ret
                  exact ⟨rfl, B3.out.trans (HB.out.mono B3.out.size)⟩
end Go.Proofs.YtcmdpahchbbicaaDoor
