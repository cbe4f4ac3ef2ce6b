/- The walk of Words. -/
import Derived.Test.YtcmdpahchbbicaaDoorWm
namespace Go.Proofs.YtcmdpahchbbicaaDoor
open Go.RowKit
theorem lex_at {s : ByteArray} {j : Nat} {L : List Wd} {o : Out} (h : o = (lexL j (s.data.toList.drop j)).pre L) (hj : j < s.size) (hb : isB s[j] = false) : (∀ e, wordL s[j] (s.data.toList.drop (j + 1)) = .inl e → o = .inl (j, e)) ∧ (∀ k t v m, wordL s[j] (s.data.toList.drop (j + 1)) = .inr (k, t, v, m) → 1 ≤ m ∧ j + m ≤ s.size ∧ o = (lexL (j + m + cnt isB (s.data.toList.drop (j + m))) (s.data.toList.drop (j + m + cnt isB (s.data.toList.drop (j + m))))).pre (L ++ [⟨k, j, t, v⟩])) := by
  rw [drop_at s j hj] at h
  refine ⟨fun e he => ?_, fun k t v m hw => ?_⟩
  · rw [h, lex_bad j hb he]
    rfl
  · have hm := word_len hw
    rw [List.length_drop, Array.length_toList] at hm
    have e0 : s.data.size = s.size := rfl
    refine ⟨hm.1, by omega, ?_⟩
    rw [h, lex_word j hb hw, pre_cons, ← drop_at s j hj, List.drop_drop, lex_past (s.data.toList.drop (j + m)) (j + m), List.drop_drop]
theorem not_blank {s : ByteArray} {p : Nat} (h : p + cnt isB (s.data.toList.drop p) < s.size) : isB s[p + cnt isB (s.data.toList.drop p)] = false := by
  have key : ∀ (l : List UInt8) (hl : cnt isB l < l.length), isB (l[cnt isB l]'hl) = false := by
    intro l
    induction l with
    | nil => intro hl; simp at hl
    | cons c r ih =>
      intro hl
      by_cases hc : isB c = true
      · have e := cnt_yes (r := r) hc
        have hl2 : cnt isB r < r.length := by rw [e] at hl; simpa using hl
        have : (c :: r)[cnt isB (c :: r)] = r[cnt isB r] := by simp [e]
        rw [this]
        exact ih hl2
      · have hc' : isB c = false := by simpa using hc
        have e := cnt_no (r := r) hc'
        have : (c :: r)[cnt isB (c :: r)] = c := by simp [e]
        rw [this]
        exact hc'
  have h2 := key (s.data.toList.drop p) (by rw [List.length_drop, Array.length_toList]; have e0 : s.data.size = s.size := rfl; omega)
  rw [List.getElem_drop] at h2
  exact h2
theorem results_three {fn : Func} {t u r : Tmp} {x y z : Value} {tmps : Array Value} {w : World} (h : fn.results = #[.tmp t, .tmp u, .tmp r]) (ht : tmps.getD t undef = x) (hu : tmps.getD u undef = y) (hr : tmps.getD r undef = z) : (results fn tmps).run Tryd.prog w = .ok (.tuple #[x, y, z]) w := by
  have ht2 : tmps[t]?.getD undef = x := by simpa using ht
  have hu2 : tmps[u]?.getD undef = y := by simpa using hu
  have hr2 : tmps[r]?.getD undef = z := by simpa using hr
  simp [results, h, ht2, hu2, hr2]
set_option maxHeartbeats 4000000 in
set_option maxRecDepth 100000 in
theorem words_any {w : World} {s : ByteArray} (hg : Gd w.heap.size w) : Calls Tryd.prog 7 #[.string s] w fun e w' => WAns w.heap.size (wordsP s) e w' ∧ Below w.heap.size w w' := by
  obtain ⟨iV, hi, hz0, hz1, hz2⟩ := info_parts infoW
  obtain ⟨o, ho⟩ : ∃ o, wordsP s = o := ⟨_, rfl⟩
  rw [ho]
  by_cases hs : s.size ≤ 1024
  · have hs' : ¬ (1024 : Int) < (s.size : Int) := by omega
    have HO : Hid (o = lexL 0 s.data.toList) := by rw [← ho]; unfold wordsP; rw [if_neg (by omega)]; rfl
    obtain ⟨w0, hw0⟩ : ∃ w0, w0 = w.alloc (.cells #[.string s, .int .i64 0] 40) := ⟨_, rfl⟩
    obtain ⟨R, hR⟩ : ∃ R, w.heap.size = R := ⟨_, rfl⟩
    have jR : Rd w0 R s 0 := by rw [hw0, ← hR]; exact heap_alloc_new w _
    have hb0 : Below w.heap.size w w0 := by rw [hw0]; exact (Below.refl _ w).alloc (Nat.le_refl _) _
    have HBG := Lib.hid (begin_any w0 R)
    have HW := Lib.hid hw0
    have HR := Lib.hid hR
    have JR := Lib.hid jR
    have HB := Lib.hid hb0
    have HG := Lib.hid hg
    clear ho hw0 hR jR hb0 hg
    go_enter Tryd.func7, Tryd.ntmps7
    go_upto_region 4 with fail
    rw [← HW.out, HR.out]
    go_wp2_with (go_at_call 12; refine (HBG.out).mono ?_; rintro e w1 ⟨⟨cs, rfl, hT⟩, hb1⟩; refine Hid.out ?_)
    refine Lib.hid ?_
    obtain ⟨T, hTs⟩ : ∃ T, w1.heap.size = T := ⟨_, rfl⟩
    have jT0 : (w1.alloc (.cells Tryd.zeroCells42 42)).heap[T]? = some (.cells Tryd.zeroCells42 42 (0, 0)) := by rw [← hTs]; exact heap_alloc_new w1 _
    obtain ⟨W2, hW2, jT, fT⟩ := sets_row jT0 cs (by rw [hT.size, zero_size])
    have hst := store_row (ty := 42) jT0 (by rw [hT.size, zero_size]) (by rw [hT.size]; kernel_rfl) hT.one
    rw [← hW2] at hst
    have hRT : R < T := by have h1 := blk_lt JR.out; have h2 := hb1.size; omega
    have jR2 : Rd W2 R s 0 := by
      show W2.heap[R]? = _
      rw [fT.block R (by simp; omega) (by omega), Below.heap_alloc _ _ _ (by omega)]
      exact (hb1.block R (blk_lt JR.out)).trans JR.out
    have hwR := HR.out
    have hbw1 : Below w.heap.size w w1 := HB.out.trans (hb1.mono HB.out.size)
    have hb2 : Below w.heap.size w W2 := (hbw1.alloc hbw1.size _).trans (fT.toBelow (fun k hk e => by omega) (by simp; omega))
    have c02 : W2.cell? ⟨R, 0, none⟩ = some (.string s) := cell_blk jR2 0
    have hT2 : T < W2.heap.size := blk_lt jT
    obtain ⟨B1, hB1⟩ : ∃ B1, W2.heap.size = B1 := ⟨_, rfl⟩
    rw [hB1] at hT2
    have HST := Lib.hid hst
    have HTS := Lib.hid hTs
    have HT := Lib.hid hT
    have HB1 := Lib.hid hB1
    have JT2 := Lib.hid jT
    have JR2 := Lib.hid jR2
    have HB2 := Lib.hid hb2
    have HP0 := Lib.hid (past_any (k := 0) (t := ⟨#[32, 9, 10]⟩) isB c02 isB_in (by omega) hs)
    have HL0 : Hid (o = (lexL (0 + cnt isB (s.data.toList.drop 0)) (s.data.toList.drop (0 + cnt isB (s.data.toList.drop 0)))).pre []) := by
      show _ = _
      rw [pre_nil, HO.out, lex_past]
      simp
    have hroom0 := cnt_room isB s 0 (by omega)
    have hnb0 := not_blank (s := s) (p := 0)
    obtain ⟨j0, hj0⟩ : ∃ j0, 0 + cnt isB (s.data.toList.drop 0) = j0 := ⟨_, rfl⟩
    rw [hj0] at HP0 HL0 hroom0
    have HNB : Hid (∀ h : j0 < s.size, isB s[j0] = false) := by subst hj0; exact hnb0
    clear hst hTs jT0 hW2 fT jR2 hwR hbw1 hb2 c02 hT jT hnb0 hj0 hb1 hB1
    go_wp2_with (first | (refine wpl_store _ _ rfl rfl rfl (by rw [HTS.out]; exact HST.out) ?_; rw [HTS.out]) | (go_at_call 13; refine (HP0.out).mono ?_; rintro e w3 ⟨rfl, rfl⟩))
    go_loopw [7, 8] (fun v i wr => ∃ (j p : Nat) (L : List Wd), i = .int .i64 j ∧ j ≤ s.size ∧ L.length ≤ j ∧ Hid (∀ h : j < s.size, isB s[j] = false) ∧ Hid (o = (lexL j (s.data.toList.drop j)).pre L) ∧ Hid (wr.ownsRow B1 31 4 v L.length (wdC L)) ∧ Hid (Rd wr R s p) ∧ Hid (wr.heap[T]? = some (.cells cs 42 (0, 0))) ∧ Hid (Below w.heap.size w wr) ∧ B1 ≤ wr.heap.size) (fun _ i _ => s.size - (intOf i).toNat)
    case atStart => exact ⟨j0, 0, [], rfl, hroom0, Nat.zero_le _, HNB, HL0, World.ownsRow_nil _ _ _ _, JR2, JT2, HB2, Nat.le_of_eq HB1.out.symm⟩
    case round =>
      clear HNB HL0 JR2 JT2 HB2 hroom0 HO HP0 HST
      obtain ⟨j, p, L, rfl, hj, hLj, HNB, HL, HOWN, JR3, JT3, HB3, hB1w⟩ := hrel
      by_cases hlt : j < s.size
      · have hlt' : (j : Int) < (s.size : Int) := by omega
        have hj0' : (0 : Int) ≤ (j : Int) := by omega
        have hjn : ((j : Int)).toNat = j := by omega
        obtain ⟨hbad, hgood⟩ := lex_at HL.out hlt (HNB.out hlt)
        have hcx : s[j].toNat < 256 := s[j].toNat_lt
        have hcx' : (s[j].toNat : Int) < 256 := by omega
        have cT : wr.cell? ⟨T, s[j].toNat, none⟩ = some (begV R s[j]) := (cell_blk JT3.out _).trans (HT.out.get s[j])
        rcases read_all (B0 := w.heap.size) (R := R) (s := s) (j := j) (Nat.le_of_eq HR.out) hs hlt with ⟨hnil, hw⟩ | ⟨f, hf, hgo, hcall⟩
        · rw [hnil] at cT
          have HO2 := Lib.hid (hbad 170 hw)
          have heq := eqn_run
          clear hbad hgood hw hnil HNB HL HOWN JR3 JT3
          go_wp2
          exact bodyPost_ret (results_three rfl rfl rfl rfl) rfl ⟨by rw [HO2.out]; rfl, HB3.out⟩
        · rw [hf] at cT
          have heq := eqf_run (.func f) #[.pointer (some ⟨R, 0, none⟩)] #[]
          obtain ⟨W4, hW4⟩ : ∃ W4, W4 = wr.setCell ⟨R, 1, none⟩ (.int .i64 j) := ⟨_, rfl⟩
          have cR := cell_blk JR3.out 1
          have fR := frozen_blk JR3.out 1
          have jR4 : Rd W4 R s j := by
            show W4.heap[R]? = _
            rw [hW4]; exact set_blk JR3.out _
          have hTR : T ≠ R := by omega
          have jT4 : W4.heap[T]? = some (.cells cs 42 (0, 0)) := by rw [hW4, set_other (a := ⟨R, 1, none⟩) _ hTR]; exact JT3.out
          have hwR := HR.out
          have hb4 : Below w.heap.size w W4 := by rw [hW4]; exact HB3.out.setCell (by simp; omega) _
          have hz4 : W4.heap.size = wr.heap.size := by rw [hW4]; simp [World.setCell]
          have how4 : W4.ownsRow B1 31 4 u7 L.length (wdC L) := own_like HOWN.out (fun q hq => by
            have := (HOWN.out.lt q hq).1
            rw [hW4, set_other (a := ⟨R, 1, none⟩) _ (by simp; omega)])
          have hc := hcall W4 (HG.out.on hb4) hb4.size jR4
          obtain ⟨wo, hwo⟩ : ∃ wo, wordL s[j] (s.data.toList.drop (j + 1)) = wo := ⟨_, rfl⟩
          rw [hwo] at hc hbad hgood
          have HW4 := Lib.hid hW4
          have JR4 := Lib.hid jR4
          have JT4 := Lib.hid jT4
          have HB4 := Lib.hid hb4
          have HZ4 := Lib.hid hz4
          have HOW4 := Lib.hid how4
          have HC := Lib.hid hc
          clear hW4 jR4 jT4 hb4 hz4 how4 hc hcall hf HNB HL HOWN JR3 JT3 HB3 hwR
          go_upto_region 13 with fail
          rw [← HW4.out]
          cases wo with
          | inl er =>
            have her := word_err hwo
            have her1 : ¬ er = 0 := by omega
            have her2 : (er == 0) = false := by rw [beq_eq_false_iff_ne]; exact her1
            have her3 : (er != 0) = true := by rw [bne_iff_ne]; exact her1
            have HO2 := Lib.hid (hbad er rfl)
            clear hbad hgood hwo her
            go_wp2_with fail
            refine (HC.out).mono ?_
            rintro e w5 ⟨rfl, f5⟩
            have hwR := HR.out
            have hb5 : Below w.heap.size w w5 := HB4.out.trans (f5.toBelow (fun q hq e => by omega) HB4.out.size)
            have HB5 := Lib.hid (hb5.alloc hb5.size (.cells zW 31))
            clear hb5 f5 hwR
            go_wp2
            exact bodyPost_ret (results_three rfl rfl rfl rfl) rfl ⟨by rw [HO2.out]; rfl, HB5.out⟩
          | inr x =>
            obtain ⟨kd, t, v, m⟩ := x
            obtain ⟨hm1, hm2, hO⟩ := hgood kd t v m rfl
            have HO2 := Lib.hid hO
            clear hbad hgood hwo hO
            go_wp2_with fail
            refine (HC.out).mono ?_
            rintro e w5 ⟨rfl, jR5, f5⟩
            have hwR := HR.out
            have hz4 := HZ4.out
            have hz5 := f5.size
            have hb5 : Below w.heap.size w w5 := HB4.out.trans (f5.toBelow (fun q hq e => by omega) HB4.out.size)
            have jT5 : w5.heap[T]? = some (.cells cs 42 (0, 0)) := (f5.block T (blk_lt JT4.out) (by omega)).trans JT4.out
            have how5 : w5.ownsRow B1 31 4 u7 L.length (wdC L) := own_like HOW4.out (fun q hq => by
              have h1 := HOW4.out.lt q hq
              exact f5.block q h1.2 (by omega))
            obtain ⟨TX, hTX⟩ : ∃ TX, (⟨t.toArray⟩ : ByteArray) = TX := ⟨_, rfl⟩
            obtain ⟨W6, hW6⟩ : ∃ W6, W6 = w5.alloc (.cells #[.int .i64 kd, .int .i64 j, .string TX, .int .i64 v] 31) := ⟨_, rfl⟩
            obtain ⟨Y, hY⟩ : ∃ Y, w5.heap.size = Y := ⟨_, rfl⟩
            have jY : W6.heap[Y]? = some (.cells #[.int .i64 kd, .int .i64 j, .string TX, .int .i64 v] 31 (0, 0)) := by rw [hW6, ← hY]; exact heap_alloc_new w5 _
            have hb56 : Below w5.heap.size w5 W6 := by rw [hW6]; exact (Below.refl _ w5).alloc (Nat.le_refl _) _
            have hown : W6.ownsRow B1 31 4 u7 L.length (wdC L) := own_below how5 hb56
            have jR6 : Rd W6 R s (j + m) := (hb56.block R (blk_lt jR5)).trans jR5
            have jT6 : W6.heap[T]? = some (.cells cs 42 (0, 0)) := (hb56.block T (blk_lt jT5)).trans jT5
            have hb6 : Below w.heap.size w W6 := hb5.trans (hb56.mono hb5.size)
            have hz6 := hb56.size
            have hB16 : B1 ≤ W6.heap.size := by omega
            have hld := load_row (ty := 31) jY Tryd.underlying31 rfl (by kernel_rfl)
            have HW6 := Lib.hid hW6
            have HY := Lib.hid hY
            have HTX := Lib.hid hTX
            have JR6 := Lib.hid jR6
            have JT6 := Lib.hid jT6
            have HB6 := Lib.hid hb6
            rw [hTX]
            clear hW6 hY hTX jR6 jT6 hb6 hz6 hz5 hz4 hb56 how5 jT5 jR5 hb5 f5 hwR jY HC HOW4 JT4 JR4 HB4 HZ4 HW4
            go_upto_region 16 with fail
            rw [← HW6.out, HY.out]
            go_wp2_with (first | (at_builtin; refine wpList_append_own _ rfl _ _ 22 rfl B1 31 iV (.agg zW) 4 40 Tryd.underlying22 hi hz0 hz1 hz2 rfl (by decide) _ _ _ rfl (hown.alloc _) ⟨W6.heap.size, 0, none⟩ 1 1 [.int .i64 kd, .int .i64 j, .string TX, .int .i64 v] rfl rfl (news_four _ _ _ _ _ _) (by intro u' hu'; simp at hu'; rcases hu' with rfl | rfl | rfl | rfl <;> rfl) (by unfold maxLen; omega) (by omega) (by simp; omega) ?_; intro v2 w7 hown2 hgrow2 _; refine Hid.out ?_) | refine wpl_load _ rfl rfl hld ?_)
            refine Lib.hid ?_
            have hwR := HR.out
            have hne : ∀ q, q < B1 → some q ≠ u7.ownBlock := fun q hq e => by have := (hown.lt q e.symm).1; omega
            have hblk : ∀ q ob, q < B1 → W6.heap[q]? = some ob → w7.heap[q]? = some ob := fun q ob hq hqb => by
              have h1 := blk_lt hqb
              rw [hgrow2.block q (by simp; omega) (hne q hq), Below.heap_alloc _ _ _ h1]
              exact hqb
            have jR7 : Rd w7 R s (j + m) := hblk R _ (by omega) JR6.out
            have jT7 := hblk T _ hT2 JT6.out
            have hb7 : Below w.heap.size w w7 := (HB6.out.alloc HB6.out.size _).grown hgrow2 (by have := HB6.out.size; simp; omega) (fun k hk => by have := (hown.lt k hk).1; omega)
            have hz7 : B1 ≤ w7.heap.size := by have := hgrow2.size; simp at this; omega
            have hown3 : w7.ownsRow B1 31 4 v2 (L ++ [(⟨kd, j, t, v⟩ : Wd)]).length (wdC (L ++ [(⟨kd, j, t, v⟩ : Wd)])) := own_word (x := ⟨kd, j, t, v⟩) (by rw [← HTX.out] at hown2; exact hown2)
            have c07 : w7.cell? ⟨R, 0, none⟩ = some (.string s) := cell_blk jR7 0
            have c17 : w7.cell? ⟨R, 1, none⟩ = some (.int .i64 ((j + m : Nat) : Int)) := cell_blk jR7 1
            have hroom7 := cnt_room isB s (j + m) hm2
            have HNB7 : Hid (∀ h : j + m + cnt isB (s.data.toList.drop (j + m)) < s.size, isB s[j + m + cnt isB (s.data.toList.drop (j + m))] = false) := fun h => not_blank h
            have HP7 := Lib.hid (past_any (k := j + m) (t := ⟨#[32, 9, 10]⟩) isB c07 isB_in hm2 hs)
            obtain ⟨j7, hj7⟩ : ∃ j7, j + m + cnt isB (s.data.toList.drop (j + m)) = j7 := ⟨_, rfl⟩
            rw [hj7] at HO2 hroom7 HP7
            have HNB8 : Hid (∀ h : j7 < s.size, isB s[j7] = false) := by subst hj7; exact HNB7
            have hjj : j + m ≤ j7 := by omega
            have HOWN7 := Lib.hid hown3
            have JR7 := Lib.hid jR7
            have JT7 := Lib.hid jT7
            have HB7 := Lib.hid hb7
            clear HNB7 hj7 hown3 jR7 jT7 hb7 hblk hne hgrow2 hown2 hown hwR hld JR6 JT6 HB6
            go_wp2_with (go_at_call 13; refine (HP7.out).mono ?_; rintro e w8 ⟨rfl, rfl⟩)
            exact ⟨⟨j7, j + m, L ++ [⟨kd, j, t, v⟩], by first | rfl | trivial, hroom7, by simp; omega, HNB8, HO2, HOWN7, JR7, JT7, HB7, hz7⟩, by simp [intOf]; omega⟩
      · have hlt' : ¬ (j : Int) < (s.size : Int) := by omega
        have hjs : j = s.size := by omega
        have HO2 : Hid (o = .inr (L ++ [(⟨5, s.size, [], 0⟩ : Wd)])) := by
          rw [HL.out, List.drop_eq_nil_of_le (by rw [hjs]; simp), lex_nil, hjs]
          rfl
        have hown := HOWN.out
        clear HL HNB HOWN JR3 JT3 hjs
        go_upto_region 17 with fail
        go_wp2_with ((at_builtin; refine wpList_append_own _ rfl _ _ 22 rfl B1 31 iV (.agg zW) 4 40 Tryd.underlying22 hi hz0 hz1 hz2 rfl (by decide) _ _ _ rfl (hown.alloc _) ⟨wr.heap.size, 0, none⟩ 1 1 [.int .i64 5, .int .i64 (s.size : Int), .string ⟨#[]⟩, .int .i64 0] rfl rfl (news_four _ _ _ _ _ _) (by intro u' hu'; simp at hu'; rcases hu' with rfl | rfl | rfl | rfl <;> rfl) (by unfold maxLen; omega) (by omega) (by simp; omega) ?_; intro v2 w7 hown2 hgrow2 _; refine Hid.out ?_))
        refine Lib.hid ?_
        have hwR := HR.out
        have hb7 : Below w.heap.size w w7 := (HB3.out.alloc HB3.out.size _).grown hgrow2 (by have := HB3.out.size; simp; omega) (fun k hk => by have := (hown.lt k hk).1; omega)
        have hown3 : w7.ownsRow B1 31 4 v2 (L ++ [(⟨5, s.size, [], 0⟩ : Wd)]).length (wdC (L ++ [(⟨5, s.size, [], 0⟩ : Wd)])) := own_word (x := ⟨5, s.size, [], 0⟩) hown2
        have HOWN7 := Lib.hid (own_mono hown3 (by omega : w.heap.size ≤ B1))
        have HB7 := Lib.hid hb7
        clear hb7 hown3 hown2 hown hgrow2 hwR
        go_wp2
        exact bodyPost_ret (results_three rfl rfl rfl rfl) rfl ⟨by rw [HO2.out]; exact ⟨_, rfl, HOWN7.out⟩, HB7.out⟩
  · have hs' : (1024 : Int) < (s.size : Int) := by omega
    have HO : Hid (o = .inl (0, 30)) := by rw [← ho]; unfold wordsP; rw [if_pos (by omega)]; rfl
    clear hg ho
    go_enter Tryd.func7, Tryd.ntmps7
    go_wp2
    exact bodyPost_ret (results_three rfl rfl rfl rfl) rfl ⟨by rw [HO.out]; rfl, Below.refl _ _⟩
end Go.Proofs.YtcmdpahchbbicaaDoor
