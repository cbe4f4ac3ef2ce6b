/- The walk of the document's Decode: any bytes' list, or none. -/
import Derived.Test.YtbepekgaipipjaaWn
namespace Go.Proofs.Ytbepekgaipipjaa
open Go.RowKit

/-- What first answers: a value and how many bytes it takes. -/
def FirstIs (s : ByteArray) (c : UInt8) (x : V) (n : Nat) : Prop :=
  (n = 0 ∧ dec1 c (s.data.toList.drop 1) = none) ∨ (0 < n ∧ n ≤ s.size ∧ rightV x = false ∧ dec1 c (s.data.toList.drop 1) = none) ∨ (0 < n ∧ n ≤ s.size ∧ rightV x = true ∧ dec1 c (s.data.toList.drop 1) = some (x, s.data.toList.drop n))

theorem first_any (s : ByteArray) (h0 : 0 < s.size) (hm : s.size ≤ 140737488351232) :
    ∃ (x : V) (n : Nat), FirstIs s s[0] x n ∧ ∀ w : World, Calls Try.prog 43 #[.string s] w fun e w' => e = .returned (.tuple #[.agg #[.int .i64 x.k, .int .i64 x.n, .string x.s], .int .i64 n]) ∧ Below w.heap.size w w' := by
  rcases (show s[0].toNat = 1 ∨ s[0].toNat = 2 ∨ s[0].toNat = 3 ∨ (s[0].toNat = 0 ∨ 4 ≤ s[0].toNat) by omega) with hq | hq | hq | hq
  · exact ⟨nullV, 1, .inr (.inr ⟨by omega, h0, by decide +kernel, dec1_null _ _ hq⟩), fun w => first_null s w h0 hq⟩
  · by_cases h9 : 9 ≤ s.size
    · refine ⟨numV ((s.data.toList.drop 1).take 8), 9, .inr (.inr ⟨by omega, h9, rightV_of (right_num _ (by simp; omega)), ?_⟩), fun w => first_num s w h9 hq⟩
      rw [dec1_num _ _ hq (by simp; omega), List.drop_drop]
    · exact ⟨nullV, 0, .inl ⟨rfl, dec1_short _ _ hq (by simp; omega)⟩, fun w => first_short s w h0 hq (by omega)⟩
  · cases hu : unesc (s.data.toList.drop 1) with
    | none =>
      refine ⟨nullV, 0, .inl ⟨rfl, by rw [dec1_text _ _ hq]; unfold decText; rw [hu]⟩, fun w => (first_text s w h0 hm hq).mono ?_⟩
      rintro e w' ⟨⟨t, i, _, h, _⟩ | ⟨_, rfl⟩, hb⟩
      · rw [hu] at h; cases h
      · exact ⟨rfl, hb⟩
    | some p =>
      obtain ⟨t, r⟩ := p
      have hl := esc_unesc _ _ _ _ (Nat.le_refl _) hu
      have hlen := congrArg List.length hl
      simp at hlen
      have hr : ∀ i, i + 1 < s.size → r = s.data.toList.drop (i + 2) → i + 2 = s.size - r.length := by
        intro i hi e
        have := congrArg List.length e
        simp at this
        omega
      have hcalls : ∀ w : World, Calls Try.prog 43 #[.string s] w fun e w' => e = .returned (.tuple #[.agg #[.int .i64 (textV t).k, .int .i64 (textV t).n, .string (textV t).s], .int .i64 ((s.size - r.length : Nat) : Int)]) ∧ Below w.heap.size w w' := by
        intro w
        refine (first_text s w h0 hm hq).mono ?_
        rintro e w' ⟨⟨t', i, hi, h, rfl⟩ | ⟨h, _⟩, hb⟩
        · rw [hu] at h
          simp only [Option.some.injEq, Prod.mk.injEq] at h
          obtain ⟨rfl, h2⟩ := h
          rw [hr i hi h2]
          exact ⟨rfl, hb⟩
        · rw [hu] at h; cases h
      have hdrop : s.data.toList.drop (s.size - r.length) = r := by
        have e : s.data.toList.drop 1 = (esc t ++ [0, 1]) ++ r := by rw [hl]; simp
        have e2 : s.size - r.length = 1 + (esc t ++ [0, 1]).length := by simp; omega
        rw [e2, ← List.drop_drop, e, List.drop_left]
      by_cases ht : t.length ≤ 64
      · refine ⟨textV t, s.size - r.length, .inr (.inr ⟨by omega, by omega, rightV_of (right_text t ht), ?_⟩), hcalls⟩
        rw [dec1_text _ _ hq, hdrop]
        unfold decText
        rw [hu]
        show (if t.length ≤ 64 then _ else _) = _
        rw [if_pos ht]
      · refine ⟨textV t, s.size - r.length, .inr (.inl ⟨by omega, by omega, ?_, ?_⟩), hcalls⟩
        · have e : (textV t).s.size = t.length := List.size_toArray
          have e2 : decide (((textV t).s.size : Int) ≤ 64) = false := by rw [e]; simp; omega
          show ((2 : Int) == 2 && ((0 : Int) == 0) && decide (((textV t).s.size : Int) ≤ 64)) = false
          rw [e2]
          rfl
        · rw [dec1_text _ _ hq]
          unfold decText
          rw [hu]
          show (if t.length ≤ 64 then _ else _) = _
          rw [if_neg ht]
  · exact ⟨nullV, 0, .inl ⟨rfl, dec1_other _ _ hq⟩, fun w => first_other s w h0 hq⟩

theorem len1 (s : ByteArray) (h : 0 < s.size) : s.data.toList = s[0] :: s.data.toList.drop 1 := by
  rw [← drop_at' s 0 h, List.drop_zero]

set_option maxHeartbeats 8000000 in
set_option maxRecDepth 100000 in
theorem refDecode_any (s : ByteArray) (w : World) (hm : s.size ≤ 140737488351232) :
    Calls Try.prog 21 #[.string s] w (DecPost s.data.toList w) := by
  obtain ⟨iV, hi, hz0, hz1, hz2⟩ := info_parts infoV
  have hst := decAt_start s
  obtain ⟨L, hL⟩ : ∃ L, s.data.toList = L := ⟨_, rfl⟩
  rw [hL] at hst ⊢
  have HS := Lib.hid hst
  clear hL hst
  go_enter Try.func21, Try.ntmps21
  go_wp2
  go_loopw [0, 4] (fun sv v wr => ∃ (s' : ByteArray) (M : List V), sv = .string s' ∧ wr.ownsRow w.heap.size 23 3 v M.length (flat M) ∧ Below w.heap.size w wr ∧ M.length ≤ 8 ∧ s'.size ≤ 140737488351232 ∧ Hid (DecAt L M s')) (fun sv _ _ => match sv with | .string s => s.size | _ => 0)
  case atStart => exact ⟨s, [], rfl, World.ownsRow_nil _ _ _ _, Below.refl _ _, by simp, hm, HS⟩
  case round =>
    clear HS
    obtain ⟨s', M, rfl, hown, hb, hML, hsm, HD⟩ := hrel
    obtain ⟨ad, cp, rfl⟩ := own_form hown
    have hsz := hb.size
    by_cases hpos : 0 < s'.size
    · have tp : (s'.size : Int) > 0 := by omega
      obtain ⟨x, n, hF, hcalls⟩ := first_any s' hpos hsm
      have HL1 := Lib.hid (len1 s' hpos)
      have HN : Hid ((n = 0 ∧ decL 8 L = none) ∨ (0 < n ∧ rightV x = false ∧ decL 8 L = none) ∨ (0 < n ∧ rightV x = true ∧ M.length = 8 ∧ decL 8 L = none) ∨ (0 < n ∧ n ≤ s'.size ∧ rightV x = true ∧ M.length < 8 ∧ DecAt L (M ++ [x]) (s'.extract n s'.size))) := by
        have hfail : dec1 s'[0] (s'.data.toList.drop 1) = none → decL 8 L = none := by
          intro h
          by_cases h8 : M.length = 8
          · exact decAt_full HD.out h8 HL1.out
          · exact decAt_none HD.out (by omega) HL1.out h
        rcases hF with ⟨h1, h2⟩ | ⟨h1, h2, h3, h4⟩ | ⟨h1, h2, h3, h4⟩
        · exact .inl ⟨h1, hfail h2⟩
        · exact .inr (.inl ⟨h1, h3, hfail h4⟩)
        · by_cases h8 : M.length = 8
          · exact .inr (.inr (.inl ⟨h1, h3, h8, decAt_full HD.out h8 HL1.out⟩))
          · refine .inr (.inr (.inr ⟨h1, h2, h3, by omega, ?_⟩))
            refine decAt_step HD.out (by omega) HL1.out ?_
            rw [h4]
            exact congrArg (fun z => some (x, z)) (Lib.extract_to_end s' n).symm
      have HC := Lib.hid hcalls
      clear hF hcalls HD HL1
      rcases HN.out with ⟨h1, h2⟩ | ⟨h1, h2, h3⟩ | ⟨h1, h2, h3, h4⟩ | ⟨h1, h2, h3, h4, h5⟩
      · have H2 := Lib.hid h2
        clear HN h2
        subst h1
        go_wp2_with (go_at_call 43; refine (HC.out _).mono ?_; rintro e w1 ⟨rfl, hb1⟩; refine Hid.out ?_)
        refine Lib.hid ?_
        have hw1 := hb.trans (hb1.mono hsz)
        go_wp2
        go_ret2
        exact dec_no H2.out (hw1.alloc hw1.size _)
      · have tn : ((n : Int) == 0) = false := by rw [beq_eq_false_iff_ne]; omega
        have H3 := Lib.hid h3
        clear HN h3
        go_wp2_with (go_at_call 43; refine (HC.out _).mono ?_; rintro e w1 ⟨rfl, hb1⟩; refine Hid.out ?_)
        refine Lib.hid ?_
        have hw1 := hb.trans (hb1.mono hsz)
        have hw1' : Below w.heap.size w (w1.alloc (.cells #[.int .i64 x.k, .int .i64 x.n, .string x.s] 23)) := hw1.alloc hw1.size _
        go_wp2_with (go_at_call 44; refine (right_any _ _ _ _).mono ?_; rw [show rightB x.k x.n x.s = false from h2]; rintro e w2 ⟨rfl, hb2⟩; refine Hid.out ?_)
        refine Lib.hid ?_
        go_wp2
        go_ret2
        exact dec_no H3.out (hw1'.trans (hb2.mono hw1'.size))
      · have tn : ((n : Int) == 0) = false := by rw [beq_eq_false_iff_ne]; omega
        have t8 : (((M.length : Nat) : Int) == 8) = true := by rw [h3]; rfl
        have H3 := Lib.hid h4
        clear HN h4 h3
        go_wp2_with (go_at_call 43; refine (HC.out _).mono ?_; rintro e w1 ⟨rfl, hb1⟩; refine Hid.out ?_)
        refine Lib.hid ?_
        have hw1 := hb.trans (hb1.mono hsz)
        have hw1' : Below w.heap.size w (w1.alloc (.cells #[.int .i64 x.k, .int .i64 x.n, .string x.s] 23)) := hw1.alloc hw1.size _
        go_wp2_with (go_at_call 44; refine (right_any _ _ _ _).mono ?_; rw [show rightB x.k x.n x.s = true from h2]; rintro e w2 ⟨rfl, hb2⟩; refine Hid.out ?_)
        refine Lib.hid ?_
        go_wp2
        go_ret2
        exact dec_no H3.out (hw1'.trans (hb2.mono hw1'.size))
      · have tn : ((n : Int) == 0) = false := by rw [beq_eq_false_iff_ne]; omega
        have t8 : (((M.length : Nat) : Int) == 8) = false := by rw [beq_eq_false_iff_ne]; omega
        have tle : (n : Int) ≤ (s'.size : Int) := by omega
        have H5 := Lib.hid h5
        clear HN h5
        go_wp2_with (go_at_call 43; refine (HC.out _).mono ?_; rintro e w1 ⟨rfl, hb1⟩; refine Hid.out ?_)
        refine Lib.hid ?_
        have hw1 := hb.trans (hb1.mono hsz)
        have hw1' : Below w.heap.size w (w1.alloc (.cells #[.int .i64 x.k, .int .i64 x.n, .string x.s] 23)) := hw1.alloc hw1.size _
        have hown1 := own_below hown hb1
        go_wp2_with (go_at_call 44; refine (right_any _ _ _ _).mono ?_; rw [show rightB x.k x.n x.s = true from h3]; rintro e w2 ⟨rfl, hb2⟩; refine Hid.out ?_)
        refine Lib.hid ?_
        obtain ⟨d0, d1, d2, hz⟩ := box_cells hb2
        have hw2 := hw1'.trans (hb2.mono hw1'.size)
        have hown2 := own_below (hown1.alloc (.cells #[.int .i64 x.k, .int .i64 x.n, .string x.s] 23)) hb2
        go_wp2_with (at_builtin; refine wpList_append_own _ rfl _ _ 32 rfl w.heap.size 23 iV (.agg #[.int .i64 0, .int .i64 0, .string ⟨#[]⟩]) 3 32 Try.underlying32 hi hz0 hz1 hz2 rfl (by decide) _ _ _ rfl (hown2.alloc _) ⟨w2.heap.size, 0, none⟩ 1 1 [.int .i64 x.k, .int .i64 x.n, .string x.s] rfl rfl (news_three _ _ _ _ _) (by intro u' hu'; simp at hu'; rcases hu' with rfl | rfl | rfl <;> rfl) (by unfold maxLen; omega) (by omega) (by have := hw2.size; simp; omega) ?_; intro v3 w3 hown3 hgrow3 _; refine Hid.out ?_)
        refine Lib.hid ?_
        have hw3 : Below w.heap.size w w3 := (hw2.alloc hw2.size _).grown hgrow3 (by have := hw2.size; simp; omega) (fun k hk => (hown.lt k hk).1)
        go_wp2
        exact ⟨⟨s'.extract n s'.size, M ++ [x], rfl, own_val (x := x) hown3, hw3, by simp; omega, by simp; omega, H5⟩, by simp; omega⟩
    · have tp : ¬ (s'.size : Int) > 0 := by omega
      have HN := Lib.hid (decAt_end HD.out (List.eq_nil_of_length_eq_zero (by have : s'.data.toList.length = s'.size := Array.length_toList; omega)))
      go_wp2
      go_ret2
      exact ⟨hb, .inl ⟨M, _, HN.out, rfl, hown⟩⟩
end Go.Proofs.Ytbepekgaipipjaa
