/- The walks of the document's Words and Same. -/
import Derived.Test.YtcmdpahchbbicaaDoorRe
import Derived.Test.YtcmdpahchbbicaaDoorWq
namespace Go.Proofs.YtcmdpahchbbicaaDoor
open Go.RowKit
theorem lex_at2 {s : ByteArray} {j : Nat} {L : List Wd} {o : Out} (h : o = (lexL j (s.data.toList.drop j)).pre L) (hj : j < s.size) : (isB s[j] = true → o = (lexL (j + 1) (s.data.toList.drop (j + 1))).pre L) ∧ (isB s[j] = false → (∀ e, wordL s[j] (s.data.toList.drop (j + 1)) = .inl e → o = .inl (j, e)) ∧ (∀ k t v m, wordL s[j] (s.data.toList.drop (j + 1)) = .inr (k, t, v, m) → 1 ≤ m ∧ j + m ≤ s.size ∧ o = (lexL (j + m) (s.data.toList.drop (j + m))).pre (L ++ [⟨k, j, t, v⟩]))) := by
  rw [drop_at s j hj] at h
  refine ⟨fun hb => by rw [h, lex_blank j hb], fun hb => ⟨fun e he => ?_, fun k t v m hw => ?_⟩⟩
  · rw [h, lex_bad j hb he]
    rfl
  · have hm := word_len hw
    rw [List.length_drop, Array.length_toList] at hm
    have e0 : s.data.size = s.size := rfl
    refine ⟨hm.1, by omega, ?_⟩
    rw [h, lex_word j hb hw, pre_cons, ← drop_at s j hj, List.drop_drop]
set_option maxHeartbeats 4000000 in
set_option maxRecDepth 100000 in
theorem words_ref {w : World} {s : ByteArray} : Calls Tryd.prog 8 #[.string s] w fun e w' => WAns w.heap.size (wordsP s) e w' ∧ Below w.heap.size w w' := by
  obtain ⟨iV, hi, hz0, hz1, hz2⟩ := info_parts infoW
  obtain ⟨o, ho⟩ : ∃ o, wordsP s = o := ⟨_, rfl⟩
  rw [ho]
  by_cases hs : s.size ≤ 1024
  · have hs' : ¬ (1024 : Int) < (s.size : Int) := by omega
    have HL0 : Hid (o = (lexL 0 (s.data.toList.drop 0)).pre []) := by
      show _ = _
      rw [pre_nil, ← ho]
      unfold wordsP
      rw [if_neg (by omega), List.drop_zero]
    clear ho
    go_enter Tryd.func8, Tryd.ntmps8
    go_wp2
    go_loopw [5, 6] (fun v i wr => ∃ (j : Nat) (L : List Wd), i = .int .i64 j ∧ j ≤ s.size ∧ L.length ≤ j ∧ Hid (o = (lexL j (s.data.toList.drop j)).pre L) ∧ Hid (wr.ownsRow w.heap.size 31 4 v L.length (wdC L)) ∧ Hid (Below w.heap.size w wr)) (fun _ i _ => s.size - (intOf i).toNat)
    case atStart => exact ⟨0, [], rfl, by omega, Nat.zero_le _, HL0, World.ownsRow_nil _ _ _ _, Below.refl _ _⟩
    case round =>
      clear HL0
      obtain ⟨j, L, rfl, hj, hLj, HL, HOWN, HB⟩ := hrel
      by_cases hlt : j < s.size
      · have hlt' : (j : Int) < (s.size : Int) := by omega
        obtain ⟨hbl, hwd⟩ := lex_at2 HL.out hlt
        by_cases hb : isB s[j] = true
        · have HL2 := Lib.hid (hbl hb)
          have hb3 := (isB_iff s[j]).1 hb
          clear hbl hwd HL
          by_cases h32 : s[j].toNat = 32
          · have h32' : ((s[j].toNat : Int) == 32) = true := by rw [h32]; rfl
            clear h32 hb3 hb
            go_wp2
            exact ⟨⟨j + 1, L, by go_num, by omega, by omega, HL2, HOWN, HB⟩, by simp [intOf]; omega⟩
          · have h32' : ((s[j].toNat : Int) == 32) = false := by rw [beq_eq_false_iff_ne]; exact fun e => h32 (Int.ofNat_inj.1 e)
            by_cases h9 : s[j].toNat = 9
            · have h9' : ((s[j].toNat : Int) == 9) = true := by rw [h9]; rfl
              clear h9 h32 hb3 hb
              go_wp2
              exact ⟨⟨j + 1, L, by go_num, by omega, by omega, HL2, HOWN, HB⟩, by simp [intOf]; omega⟩
            · have h9' : ((s[j].toNat : Int) == 9) = false := by rw [beq_eq_false_iff_ne]; exact fun e => h9 (Int.ofNat_inj.1 e)
              have h10 : s[j].toNat = 10 := by omega
              have h10' : ((s[j].toNat : Int) == 10) = true := by rw [h10]; rfl
              clear h9 h32 h10 hb3 hb
              go_wp2
              exact ⟨⟨j + 1, L, by go_num, by omega, by omega, HL2, HOWN, HB⟩, by simp [intOf]; omega⟩
        · have hbf : isB s[j] = false := by simpa using hb
          obtain ⟨hbad, hgood⟩ := hwd hbf
          have hb3 : ¬ (s[j].toNat = 32 ∨ s[j].toNat = 9 ∨ s[j].toNat = 10) := fun q => hb ((isB_iff s[j]).2 q)
          have h32' : ((s[j].toNat : Int) == 32) = false := by rw [beq_eq_false_iff_ne]; omega
          have h9' : ((s[j].toNat : Int) == 9) = false := by rw [beq_eq_false_iff_ne]; omega
          have h10' : ((s[j].toNat : Int) == 10) = false := by rw [beq_eq_false_iff_ne]; omega
          have h1 := one_any (w := wr) hs hlt
          obtain ⟨wo, hwo⟩ : ∃ wo, wordL s[j] (s.data.toList.drop (j + 1)) = wo := ⟨_, rfl⟩
          rw [hwo] at h1 hbad hgood
          have H1 := Lib.hid h1
          clear h1 hbl hwd HL hb hbf hb3
          cases wo with
          | inl er =>
            have her := word_err hwo
            have her1 : ¬ er = 0 := by omega
            have her2 : (er == 0) = false := by rw [beq_eq_false_iff_ne]; exact her1
            have her3 : (er != 0) = true := by rw [bne_iff_ne]; exact her1
            have HO2 := Lib.hid (hbad er rfl)
            clear hbad hgood hwo her HOWN
            go_wp2_with (go_at_call 14; refine (H1.out).mono ?_; rintro e w5 ⟨rfl, b5⟩; refine Hid.out ?_)
            refine Lib.hid ?_
            have hb5 : Below w.heap.size w w5 := HB.out.trans (b5.mono HB.out.size)
            have HB5 := Lib.hid (hb5.alloc hb5.size (.cells zW 31))
            clear hb5 b5
            go_wp2
            exact bodyPost_ret (results_three rfl rfl rfl rfl) rfl ⟨by rw [HO2.out]; rfl, HB5.out⟩
          | inr x =>
            obtain ⟨kd, t, v, m⟩ := x
            obtain ⟨hm1, hm2, hO⟩ := hgood kd t v m rfl
            have HO2 := Lib.hid hO
            clear hbad hgood hwo hO
            go_wp2_with (go_at_call 14; refine (H1.out).mono ?_; rintro e w5 ⟨rfl, b5⟩; refine Hid.out ?_)
            refine Lib.hid ?_
            have hb5 : Below w.heap.size w w5 := HB.out.trans (b5.mono HB.out.size)
            have how5 := own_below HOWN.out b5
            obtain ⟨TX, hTX⟩ : ∃ TX, (⟨t.toArray⟩ : ByteArray) = TX := ⟨_, rfl⟩
            obtain ⟨W6, hW6⟩ : ∃ W6, W6 = w5.alloc (.cells #[.int .i64 kd, .int .i64 j, .string TX, .int .i64 v] 31) := ⟨_, rfl⟩
            obtain ⟨Y, hY⟩ : ∃ Y, w5.heap.size = Y := ⟨_, rfl⟩
            have jY : W6.heap[Y]? = some (.cells #[.int .i64 kd, .int .i64 j, .string TX, .int .i64 v] 31 (0, 0)) := by rw [hW6, ← hY]; exact heap_alloc_new w5 _
            have hb56 : Below w5.heap.size w5 W6 := by rw [hW6]; exact (Below.refl _ w5).alloc (Nat.le_refl _) _
            have hown := own_below how5 hb56
            have hb6 : Below w.heap.size w W6 := hb5.trans (hb56.mono hb5.size)
            have hB16 : w.heap.size ≤ W6.heap.size := hb6.size
            have hld := load_row (ty := 31) jY Tryd.underlying31 rfl (by kernel_rfl)
            have HW6 := Lib.hid hW6
            have HY := Lib.hid hY
            have HTX := Lib.hid hTX
            have HB6 := Lib.hid hb6
            rw [hTX]
            clear hW6 hY hTX hb6 hb56 how5 hb5 b5 jY HOWN H1 HB
            go_upto_region 11 with fail
            rw [← HW6.out, HY.out]
            go_wp2_with (first | (at_builtin; refine wpList_append_own _ rfl _ _ 22 rfl w.heap.size 31 iV (.agg zW) 4 40 Tryd.underlying22 hi hz0 hz1 hz2 rfl (by decide) _ _ _ rfl (hown.alloc _) ⟨W6.heap.size, 0, none⟩ 1 1 [.int .i64 kd, .int .i64 j, .string TX, .int .i64 v] rfl rfl (news_four _ _ _ _ _ _) (by intro u' hu'; simp at hu'; rcases hu' with rfl | rfl | rfl | rfl <;> rfl) (by unfold maxLen; omega) (by omega) (by simp; omega) ?_; intro v2 w7 hown2 hgrow2 _; refine Hid.out ?_) | refine wpl_load _ rfl rfl hld ?_)
            refine Lib.hid ?_
            have hb7 : Below w.heap.size w w7 := (HB6.out.alloc HB6.out.size _).grown hgrow2 (by have := HB6.out.size; simp; omega) (fun k hk => (hown.lt k hk).1)
            have hown3 : w7.ownsRow w.heap.size 31 4 v2 (L ++ [(⟨kd, j, t, v⟩ : Wd)]).length (wdC (L ++ [(⟨kd, j, t, v⟩ : Wd)])) := own_word (x := ⟨kd, j, t, v⟩) (by rw [← HTX.out] at hown2; exact hown2)
            have HOWN7 := Lib.hid hown3
            have HB7 := Lib.hid hb7
            clear hown3 hb7 hgrow2 hown2 hown hld HB6
            go_wp2
            exact ⟨⟨j + m, L ++ [⟨kd, j, t, v⟩], by first | rfl | (go_num; rfl) | go_num | trivial, hm2, by simp; omega, HO2, HOWN7, HB7⟩, by simp [intOf]; omega⟩
      · have hlt' : ¬ (j : Int) < (s.size : Int) := by omega
        have hjs : j = s.size := by omega
        have HO2 : Hid (o = .inr (L ++ [⟨5, s.size, [], 0⟩])) := by
          rw [HL.out, List.drop_eq_nil_of_le (by rw [hjs]; simp), lex_nil, hjs]
          rfl
        have hown := HOWN.out
        have hBw := HB.out.size
        clear HL HOWN hjs
        go_upto_region 13 with fail
        go_wp2_with ((at_builtin; refine wpList_append_own _ rfl _ _ 22 rfl w.heap.size 31 iV (.agg zW) 4 40 Tryd.underlying22 hi hz0 hz1 hz2 rfl (by decide) _ _ _ rfl (hown.alloc _) ⟨wr.heap.size, 0, none⟩ 1 1 [.int .i64 5, .int .i64 (s.size : Int), .string ⟨#[]⟩, .int .i64 0] rfl rfl (news_four _ _ _ _ _ _) (by intro u' hu'; simp at hu'; rcases hu' with rfl | rfl | rfl | rfl <;> rfl) (by unfold maxLen; omega) (by omega) (by simp; omega) ?_; intro v2 w7 hown2 hgrow2 _; refine Hid.out ?_))
        refine Lib.hid ?_
        have hb7 : Below w.heap.size w w7 := (HB.out.alloc HB.out.size _).grown hgrow2 (by have := HB.out.size; simp; omega) (fun k hk => (hown.lt k hk).1)
        have hown3 : w7.ownsRow w.heap.size 31 4 v2 (L ++ [(⟨5, s.size, [], 0⟩ : Wd)]).length (wdC (L ++ [(⟨5, s.size, [], 0⟩ : Wd)])) := own_word (x := ⟨5, s.size, [], 0⟩) hown2
        have HOWN7 := Lib.hid hown3
        have HB7 := Lib.hid hb7
        clear hb7 hown3 hown2 hown hgrow2
        go_wp2
        exact bodyPost_ret (results_three rfl rfl rfl rfl) rfl ⟨by rw [HO2.out]; exact ⟨_, rfl, HOWN7.out⟩, HB7.out⟩
  · have hs' : (1024 : Int) < (s.size : Int) := by omega
    have HO : Hid (o = .inl (0, 30)) := by rw [← ho]; unfold wordsP; rw [if_pos (by omega)]; rfl
    clear ho
    go_enter Tryd.func8, Tryd.ntmps8
    go_wp2
    exact bodyPost_ret (results_three rfl rfl rfl rfl) rfl ⟨by rw [HO.out]; rfl, Below.refl _ _⟩
set_option maxHeartbeats 2000000 in
set_option maxRecDepth 100000 in
theorem same_any {w : World} {L : List Wd} {ad ad' : Option Addr} {cap cap' : Nat} (hL : Lw L ad w) (hM : Lw L ad' w) (hz : L.length ≤ 2000) :
    Calls Tryd.prog 10 #[.slice ad L.length cap, .slice ad' L.length cap'] w fun e w' => e = .returned (.bool true) ∧ Below w.heap.size w w' := by
  have HL := Lib.hid hL
  have HM := Lib.hid hM
  clear hL hM
  go_enter Tryd.func10, Tryd.ntmps10
  go_wp2
  go_loopw [5] (fun i wr => ∃ j : Nat, j ≤ L.length ∧ i = .int .i64 j ∧ Hid (Below w.heap.size w wr)) (fun i _ => L.length - (intOf i).toNat)
  case atStart => exact ⟨0, Nat.zero_le _, rfl, Below.refl _ _⟩
  case round =>
    obtain ⟨j, hj, rfl, HB⟩ := hrel
    by_cases hlt : j < L.length
    · have hlt' : (j : Int) < (L.length : Int) := by omega
      have hj0 : (0 : Int) ≤ (j : Int) := by omega
      obtain ⟨b, o, rfl, hb, c0, c1, c2, c3⟩ := (HL.out.on HB.out) j hlt
      obtain ⟨b', o', rfl, hb', d0, d1, d2, d3⟩ := (HM.out.on HB.out) j hlt
      obtain ⟨x, hx⟩ : ∃ x, L[j] = x := ⟨_, rfl⟩
      rw [hx] at c0 c1 c2 c3 d0 d1 d2 d3
      clear hx
      go_upto_region 6 with fail
      go_quiet (fail)
      have HB2 : Hid (Below w.heap.size w (wr.drewN nq)) := ⟨HB.out.os, HB.out.tape, HB.out.output, HB.out.size, HB.out.block⟩
      go_wp2
      exact ⟨⟨j + 1, by omega, by go_num, HB2⟩, by simp [intOf]; omega⟩
    · have hlt' : ¬ (j : Int) < (L.length : Int) := by omega
      go_wp2
      go_ret
      exact ⟨rfl, HB.out⟩
end Go.Proofs.YtcmdpahchbbicaaDoor
