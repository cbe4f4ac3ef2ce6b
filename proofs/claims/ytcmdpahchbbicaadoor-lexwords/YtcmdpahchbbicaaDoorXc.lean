/- LexCuts. -/
import Derived.Test.YtcmdpahchbbicaaDoorWq
import Derived.Test.YtcmdpahchbbicaaDoorLc
namespace Go.Proofs.YtcmdpahchbbicaaDoor
open Go.RowKit
theorem lex_err : ∀ (l : List UInt8) (p : Nat) (q : Nat) (e : Int), lexL p l = .inl (q, e) → e = 21 ∨ e = 170 ∨ e = 171 ∨ e = 172 := by
  refine lex_ind (C := fun p l o => ∀ (q : Nat) (e : Int), o = .inl (q, e) → e = 21 ∨ e = 170 ∨ e = 171 ∨ e = 172) ?_ ?_ ?_ ?_
  · intro p q e h
    cases h
  · intro p c r _ ih q e h
    exact ih q e h
  · intro p c r e' _ hw q e h
    have : e' = e := (Prod.mk.inj (Sum.inl.inj h)).2
    subst this
    exact word_err hw
  · intro p c r k t v m _ _ ih q e h
    cases hq : lexL (p + m) ((c :: r).drop m) with
    | inl z9 =>
      obtain ⟨q', e'⟩ := z9
      rw [hq] at h
      have h2 := Prod.mk.inj (Sum.inl.inj h)
      exact ih q e (by rw [hq, h2.1, h2.2])
    | inr L => rw [hq] at h; cases h
theorem words_bad {s : ByteArray} {q : Nat} {e : Int} (h : wordsP s = .inl (q, e)) : e = 21 ∨ e = 30 ∨ e = 170 ∨ e = 171 ∨ e = 172 := by
  unfold wordsP at h
  split at h
  · exact .inr (.inl (Prod.mk.inj (Sum.inl.inj h)).2.symm)
  · rcases lex_err _ _ _ _ h with h | h | h | h
    · exact .inl h
    · exact .inr (.inr (.inl h))
    · exact .inr (.inr (.inr (.inl h)))
    · exact .inr (.inr (.inr (.inr h)))
theorem words_good {s : ByteArray} {L : List Wd} (h : wordsP s = .inr L) : s.size ≤ 1024 ∧ lexL 0 s.data.toList = .inr L := by
  unfold wordsP at h
  split at h
  · cases h
  · exact ⟨by omega, h⟩
theorem words_small {s : ByteArray} (h : s.size ≤ 1024) : wordsP s = lexL 0 s.data.toList := by
  unfold wordsP
  rw [if_neg (by omega)]
theorem good_len {s : List UInt8} {p : Nat} : ∀ {L : List Wd}, Pl s p L → L.length ≤ s.length + 1 - p
  | [], h => absurd h (by simp [Pl])
  | [x], h => by
    have := h.2.2.2
    simp
    omega
  | x :: y :: r, h => by
    have h1 := good_len h.2.2.2.2
    have h2 := h.2.1
    have h3 := h.2.2.1
    simp at h1 ⊢
    omega
theorem words_len {s : ByteArray} {L : List Wd} (h : wordsP s = .inr L) : 0 < L.length ∧ L.length ≤ 1025 := by
  obtain ⟨h1, h2⟩ := words_good h
  have h3 := lex_places s.data.toList s.data.toList 0 (by simp) (by omega)
  rw [h2] at h3
  have h4 := good_len h3
  have e : s.data.toList.length = s.size := by rw [Array.length_toList]; rfl
  obtain ⟨y, r, rfl⟩ := Pl.ne h3
  constructor
  · simp
  · omega
set_option maxHeartbeats 4000000 in
set_option maxRecDepth 100000 in
theorem cuts_law {w : World} {s : ByteArray} {cut : Int} (hg : Gd w.heap.size w) (hsz : (s.size : Int) ≤ 9223372036854775807) : Calls Tryd.prog 6 #[.string s, .int .i64 cut] w fun e w' => e = .returned (.bool true) ∧ Below w.heap.size w w' := by
  have h1 := words_any (s := s) hg
  have HG := Lib.hid hg
  clear hg
  cases ho : wordsP s with
  | inl z9 =>
    obtain ⟨q, er⟩ := z9
    rw [ho] at h1
    have her := words_bad ho
    have her1 : ¬ er = 0 := by omega
    have her2 : (er == 0) = false := by rw [beq_eq_false_iff_ne]; exact her1
    have her3 : (er != 0) = true := by rw [bne_iff_ne]; exact her1
    have H1 := Lib.hid h1
    clear h1 her ho
    go_enter Tryd.func6, Tryd.ntmps6
    go_wp2_with (go_at_call 7; refine (H1.out).mono ?_; rintro e w1 ⟨rfl, b1⟩; refine Hid.out ?_)
    refine Lib.hid ?_
    have HA1 := Lib.hid (awake_any (HG.out.up b1 b1.size))
    have B1 := Lib.hid b1
    clear b1
    go_wp2_with (go_at_call 9; refine (HA1.out).mono ?_; rintro e w2 ⟨rfl, b2⟩; refine Hid.out ?_)
    refine Lib.hid ?_
    have B2 := Lib.hid (B1.out.trans (b2.mono B1.out.size))
    have HA2 := Lib.hid (awake_any (HG.out.up B2.out B2.out.size))
    clear b2
    go_wp2_with (go_at_call 9; refine (HA2.out).mono ?_; rintro e w3 ⟨rfl, b3⟩; refine Hid.out ?_)
    refine Lib.hid ?_
    have B3 := Lib.hid (B2.out.trans (b3.mono B2.out.size))
    clear b3
    go_wp2
    go_ret
    exact ⟨rfl, B3.out⟩
  | inr L =>
    rw [ho] at h1
    obtain ⟨hs, hlex⟩ := words_good ho
    obtain ⟨hl0, hl1⟩ := words_len ho
    have H1 := Lib.hid h1
    have HLEX := Lib.hid hlex
    clear h1 ho hlex
    by_cases hc : cut < 0 ∨ (s.size : Int) < cut
    · by_cases hc0 : cut < 0
      · clear hc HLEX
        go_enter Tryd.func6, Tryd.ntmps6
        go_wp2_with (go_at_call 7; refine (H1.out).mono ?_; rintro e w1 ⟨⟨v1, rfl, ho1⟩, b1⟩; refine Hid.out ?_)
        refine Lib.hid ?_
        have HA1 := Lib.hid (awake_any (HG.out.up b1 b1.size))
        have B1 := Lib.hid b1
        clear b1 ho1
        go_wp2_with (go_at_call 9; refine (HA1.out).mono ?_; rintro e w2 ⟨rfl, b2⟩; refine Hid.out ?_)
        refine Lib.hid ?_
        have B2 := Lib.hid (B1.out.trans (b2.mono B1.out.size))
        have HA2 := Lib.hid (awake_any (HG.out.up B2.out B2.out.size))
        clear b2
        go_wp2_with (go_at_call 9; refine (HA2.out).mono ?_; rintro e w3 ⟨rfl, b3⟩; refine Hid.out ?_)
        refine Lib.hid ?_
        have B3 := Lib.hid (B2.out.trans (b3.mono B2.out.size))
        clear b3
        go_wp2
        go_ret
        exact ⟨rfl, B3.out⟩
      · have hc1 : (s.size : Int) < cut := by omega
        have hc0' : ¬ cut < 0 := hc0
        clear hc HLEX hc0
        go_enter Tryd.func6, Tryd.ntmps6
        go_wp2_with (go_at_call 7; refine (H1.out).mono ?_; rintro e w1 ⟨⟨v1, rfl, ho1⟩, b1⟩; refine Hid.out ?_)
        refine Lib.hid ?_
        have HA1 := Lib.hid (awake_any (HG.out.up b1 b1.size))
        have B1 := Lib.hid b1
        clear b1 ho1
        go_wp2_with (go_at_call 9; refine (HA1.out).mono ?_; rintro e w2 ⟨rfl, b2⟩; refine Hid.out ?_)
        refine Lib.hid ?_
        have B2 := Lib.hid (B1.out.trans (b2.mono B1.out.size))
        have HA2 := Lib.hid (awake_any (HG.out.up B2.out B2.out.size))
        clear b2
        go_wp2_with (go_at_call 9; refine (HA2.out).mono ?_; rintro e w3 ⟨rfl, b3⟩; refine Hid.out ?_)
        refine Lib.hid ?_
        have B3 := Lib.hid (B2.out.trans (b3.mono B2.out.size))
        clear b3
        go_wp2
        go_ret
        exact ⟨rfl, B3.out⟩
    · have hc0 : ¬ cut < 0 := by omega
      have hc1 : ¬ (s.size : Int) < cut := by omega
      obtain ⟨c, rfl⟩ : ∃ c : Nat, cut = (c : Int) := ⟨cut.toNat, by omega⟩
      have hcs : c ≤ s.size := by omega
      have hcs' : (c : Int) ≤ (s.size : Int) := by omega
      have hcn : ((c : Int)).toNat = c := by omega
      obtain ⟨E, hE⟩ : ∃ E, s.extract 0 c = E := ⟨_, rfl⟩
      have hEd : E.data.toList = s.data.toList.take c := by rw [← hE, Lib.extract_data]; simp
      have hEz : E.size ≤ 1024 := by rw [← hE]; simp; omega
      have hcut := lex_cuts s.data.toList 0 c L HLEX.out
      rw [← hEd, ← words_small hEz] at hcut
      have HE := Lib.hid hE
      have HCUT := Lib.hid hcut
      clear hc hE hEd hEz hcut HLEX hs
      go_enter Tryd.func6, Tryd.ntmps6
      go_wp2_with (go_at_call 7; refine (H1.out).mono ?_; rintro e w1 ⟨⟨v1, rfl, ho1⟩, b1⟩; refine Hid.out ?_)
      refine Lib.hid ?_
      have HA1 := Lib.hid (awake_any (HG.out.up b1 b1.size))
      have B1 := Lib.hid b1
      obtain ⟨ad, cap, rfl, hL⟩ := Lw.own ho1
      have HL := Lib.hid hL
      clear b1 ho1 hL
      go_wp2_with (go_at_call 9; refine (HA1.out).mono ?_; rintro e w2 ⟨rfl, b2⟩; refine Hid.out ?_)
      refine Lib.hid ?_
      have B2 := Lib.hid (B1.out.trans (b2.mono B1.out.size))
      have HL2 := Lib.hid (HL.out.on b2)
      have h2 := words_any (s := E) (HG.out.up B2.out B2.out.size)
      clear b2 HL HA1 H1
      cases ho2 : wordsP E with
      | inl z9 =>
        obtain ⟨q, er⟩ := z9
        rw [ho2] at h2
        have her : er = 170 ∨ er = 171 := by have := HCUT.out; rw [ho2] at this; exact this
        have H2 := Lib.hid h2
        clear h2 ho2 HCUT
        go_upto_region 4 with fail
        rcases her with rfl | rfl
        · go_wp2_with (go_at_call 7; rw [HE.out]; refine (H2.out).mono ?_; rintro e w3 ⟨rfl, b3⟩; refine Hid.out ?_)
          refine Lib.hid ?_
          have B3 := Lib.hid (B2.out.trans (b3.mono B2.out.size))
          clear b3
          go_wp2
          go_ret
          exact ⟨rfl, B3.out⟩
        · go_wp2_with (go_at_call 7; rw [HE.out]; refine (H2.out).mono ?_; rintro e w3 ⟨rfl, b3⟩; refine Hid.out ?_)
          refine Lib.hid ?_
          have B3 := Lib.hid (B2.out.trans (b3.mono B2.out.size))
          clear b3
          go_wp2
          go_ret
          exact ⟨rfl, B3.out⟩
      | inr M =>
        rw [ho2] at h2
        obtain ⟨hm0, hm1⟩ := words_len ho2
        have HC2 : Hid (∀ i, i + 2 < M.length → i < L.length ∧ M[i]? = L[i]?) := by have := HCUT.out; rw [ho2] at this; exact this
        have H2 := Lib.hid h2
        clear h2 ho2 HCUT
        go_upto_region 4 with fail
        go_wp2_with (go_at_call 7; rw [HE.out]; refine (H2.out).mono ?_; rintro e w3 ⟨⟨v3, rfl, ho3⟩, b3⟩; refine Hid.out ?_)
        refine Lib.hid ?_
        have B3 := Lib.hid (B2.out.trans (b3.mono B2.out.size))
        have HL3 := Lib.hid (HL2.out.on b3)
        obtain ⟨ad3, cap3, rfl, hM⟩ := Lw.own ho3
        have HM := Lib.hid hM
        clear b3 ho3 hM HL2 H2
        go_wp2
        go_loopw [11] (fun i wr => ∃ j : Nat, j ≤ M.length ∧ i = .int .i64 j ∧ Hid (Below w3.heap.size w3 wr)) (fun i _ => M.length - (intOf i).toNat)
        case atStart => exact ⟨0, Nat.zero_le _, rfl, Below.refl _ _⟩
        case round =>
          obtain ⟨j, hj, rfl, HB⟩ := hrel
          by_cases hlt : j + 2 < M.length
          · have hlt' : (j : Int) + 2 < (M.length : Int) := by omega
            have hjm : j < M.length := by omega
            obtain ⟨hjl, hjq⟩ := HC2.out j hlt
            have hjl2 : j < L.length := hjl
            have hw : M[j] = L[j] := by
              rw [List.getElem?_eq_getElem hjm, List.getElem?_eq_getElem hjl2] at hjq
              exact Option.some.inj hjq
            obtain ⟨b, o, rfl, hb, c0, c1, c2, c3⟩ := (HL3.out.on HB.out) j hjl2
            obtain ⟨b', o', rfl, hb', d0, d1, d2, d3⟩ := (HM.out.on HB.out) j hjm
            rw [hw] at d0 d1 d2 d3
            obtain ⟨x, hx⟩ : ∃ x, L[j] = x := ⟨_, rfl⟩
            rw [hx] at c0 c1 c2 c3 d0 d1 d2 d3
            have hjl' : (j : Int) < (L.length : Int) := by omega
            have hge : decide ((L.length : Int) ≤ (j : Int)) = false := decide_eq_false (by omega)
            have hj0 : (0 : Int) ≤ (j : Int) := by omega
            have hjm' : (j : Int) < (M.length : Int) := by omega
            clear hx hw hjq HC2
            go_upto_region 10 with fail
            go_quiet (fail)
            have HB2 : Hid (Below w3.heap.size w3 (wr.drewN nq)) := ⟨HB.out.os, HB.out.tape, HB.out.output, HB.out.size, HB.out.block⟩
            go_wp2
            exact ⟨⟨j + 1, by omega, by go_num, HB2⟩, by simp [intOf]; omega⟩
          · have hlt' : ¬ (j : Int) + 2 < (M.length : Int) := by omega
            go_wp2
            go_ret
            exact ⟨rfl, B3.out.trans (HB.out.mono B3.out.size)⟩
end Go.Proofs.YtcmdpahchbbicaaDoor
