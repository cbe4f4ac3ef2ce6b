/- The walk of quoted. -/
import Derived.Test.YtcmdpahchbbicaaDoorWk
import Derived.Lib.IndexBytes
namespace Go.Proofs.YtcmdpahchbbicaaDoor
open Go.RowKit
theorem infoByte : (Tryd.prog.info? 5).map (fun i => (i.zero, i.size, i.bytes)) = some (some (.int .u8 0), 1, 1) := by kernel_rfl
/-- How far a text is read: acc so far, at j. -/
def QAt (s : ByteArray) (k j : Nat) (acc : List UInt8) : Prop := quoteL (s.data.toList.drop (k + 1)) = (quoteL (s.data.toList.drop j)).map fun x => (acc ++ x.1, x.2 + (j - (k + 1)))
theorem q_start (s : ByteArray) (k : Nat) : QAt s k (k + 1) [] := by
  unfold QAt
  rw [Nat.sub_self]
  cases quoteL (s.data.toList.drop (k + 1)) <;> simp
theorem q_other {s : ByteArray} {k j : Nat} {acc : List UInt8} (h : QAt s k j acc) (hj : k + 1 ≤ j) (hl : j < s.size) (hq : s[j].toNat ≠ 39) : QAt s k (j + 1) (acc ++ [s[j]]) := by
  unfold QAt at *
  rw [h, drop_at s j hl, quote_other hq]
  cases quoteL (s.data.toList.drop (j + 1)) with
  | none => rfl
  | some x =>
    simp
    omega
theorem q_pair {s : ByteArray} {k j : Nat} {acc : List UInt8} (h : QAt s k j acc) (hj : k + 1 ≤ j) (hl : j + 1 < s.size) (hq : s[j].toNat = 39) (hq2 : s[j + 1].toNat = 39) : QAt s k (j + 2) (acc ++ [s[j + 1]]) := by
  unfold QAt at *
  rw [h, drop_at s j (by omega), drop_at s (j + 1) hl, quote_q hq hq2]
  cases quoteL (s.data.toList.drop (j + 1 + 1)) with
  | none => rfl
  | some x =>
    simp
    omega
theorem q_end {s : ByteArray} {k j : Nat} {acc : List UInt8} (h : QAt s k j acc) (hj : k + 1 ≤ j) (hl : j < s.size) (hq : s[j].toNat = 39) (hh : headQ (s.data.toList.drop (j + 1)) = false) : quoteL (s.data.toList.drop (k + 1)) = some (acc, j - k) := by
  unfold QAt at h
  have e : quoteL (s.data.toList.drop j) = some ([], 1) := by
    rw [drop_at s j hl]
    cases hr : s.data.toList.drop (j + 1) with
    | nil => exact quote_one hq
    | cons d r =>
      rw [hr] at hh
      exact quote_end hq (of_decide_eq_false hh)
  rw [h, e]
  simp
  omega
theorem q_none {s : ByteArray} {k j : Nat} {acc : List UInt8} (h : QAt s k j acc) (hl : s.size ≤ j) : quoteL (s.data.toList.drop (k + 1)) = none := by
  unfold QAt at h
  rw [h, List.drop_eq_nil_of_le (by simpa using hl)]
  rfl
theorem word_quote {c : UInt8} {r : List UInt8} (hc : c.toNat = 39) : wordL c r = (match quoteL r with | none => .inl 171 | some (o, k) => if 64 < o.length then .inl 21 else .inr (3, o, 0, 1 + k)) := by
  have hL : ¬ isL c = true := fun q => ((apart_all c).1 q).2.1 hc
  have hD : ¬ (isD c = true ∨ c.toNat = 45) := fun q => ((apart_all c).2.1 q).1 hc
  unfold wordL
  rw [if_neg hL, if_neg hD, if_pos hc]
  rfl
theorem head_two {s : ByteArray} {j : Nat} (h : headQ (s.data.toList.drop (j + 1)) = true) : ∃ hl : j + 1 < s.size, s[j + 1].toNat = 39 := by
  by_cases hl : j + 1 < s.size
  · rw [drop_at s (j + 1) hl] at h
    exact ⟨hl, of_decide_eq_true h⟩
  · rw [List.drop_eq_nil_of_le (by simp; omega)] at h
    cases h
theorem byte_snoc (acc : List UInt8) (c : UInt8) : Lib.byteCells (acc ++ [c]) = Lib.byteCells acc ++ [Value.int .u8 c.toNat] := by simp [Lib.byteCells]
set_option maxHeartbeats 4000000 in
set_option maxRecDepth 100000 in
theorem quoted_any {w : World} {R : Nat} {s : ByteArray} {k : Nat} (hR : Rd w R s k) (hs : s.size ≤ 1024) (hk : k < s.size) (hc : s[k].toNat = 39) :
    Calls Tryd.prog 20 #[.pointer (some ⟨R, 0, none⟩)] w (RdAns w R s k (wordL s[k] (s.data.toList.drop (k + 1)))) := by
  obtain ⟨i0, hi, hz0, hz1, hz2⟩ := info_parts infoByte
  rw [word_quote hc]
  obtain ⟨o, ho⟩ : ∃ o, (match quoteL (s.data.toList.drop (k + 1)) with | none => .inl 171 | some (o, k) => if 64 < o.length then .inl 21 else .inr (3, o, 0, 1 + k) : Int ⊕ Wr) = o := ⟨_, rfl⟩
  rw [ho]
  have HO := Lib.hid ho
  have HQ0 := Lib.hid (q_start s k)
  obtain ⟨w0, hw0⟩ : ∃ w0, w0 = w.alloc (.cells zW 31) := ⟨_, rfl⟩
  obtain ⟨A, hA⟩ : ∃ A, w.heap.size = A := ⟨_, rfl⟩
  have hb0 : Below w.heap.size w w0 := by rw [hw0]; exact (Below.refl _ w).alloc (Nat.le_refl _) _
  have jR : Rd w0 R s k := (hb0.block R (blk_lt hR)).trans hR
  have jA : w0.heap[A]? = some (.cells zW 31 (0, 0)) := by rw [hw0, ← hA]; exact heap_alloc_new w _
  have hRA : R ≠ A := by have := blk_lt hR; omega
  have c1 : w0.cell? ⟨R, 1, none⟩ = some (.int .i64 k) := cell_blk jR 1
  have HW := Lib.hid hw0
  have HA := Lib.hid hA
  have HB := Lib.hid hb0
  have JA := Lib.hid jA
  have JR := Lib.hid jR
  clear ho hw0 hA hb0 jA jR hR hc
  go_enter Tryd.func20, Tryd.ntmps20
  go_upto_region 1 with fail
  rw [← HW.out, HA.out]
  go_wp2
  clear c1 HW
  go_loopw [4, 5] (fun v i wr => ∃ (j : Nat) (acc : List UInt8), k + 1 ≤ j ∧ j ≤ s.size ∧ i = .int .i64 j ∧ Hid (wr.ownsRow w0.heap.size 5 1 v acc.length (Lib.byteCells acc)) ∧ acc.length ≤ j ∧ Hid (QAt s k j acc) ∧ Hid (Below w0.heap.size w0 wr)) (fun _ i _ => s.size - (intOf i).toNat)
  case atStart => exact ⟨k + 1, [], by omega, by omega, by go_num, World.ownsRow_nil _ _ _ _, by simp, HQ0, Below.refl _ _⟩
  case round =>
    clear HQ0
    obtain ⟨j, acc, hkj, hj, rfl, HOWN, hacc, HQ, HBW⟩ := hrel
    have jR2 : Rd wr R s k := (HBW.out.block R (blk_lt JR.out)).trans JR.out
    have jA2 : wr.heap[A]? = some (.cells zW 31 (0, 0)) := (HBW.out.block A (blk_lt JA.out)).trans JA.out
    have c0 : wr.cell? ⟨R, 0, none⟩ = some (.string s) := cell_blk jR2 0
    have fb : Fr w wr (fun j => j = R) := Fr.ofBelow _ (HB.out.trans (HBW.out.mono HB.out.size))
    have JR2 := Lib.hid jR2
    have JA2 := Lib.hid jA2
    have FB := Lib.hid fb
    clear jR2 jA2 fb
    by_cases hlt : j < s.size
    · have hlt' : (j : Int) < (s.size : Int) := by omega
      have hj0 : (0 : Int) ≤ (j : Int) := by omega
      by_cases hq : s[j].toNat = 39
      · have hq'' : ((s[j].toNat : Int) == (((⟨#[39]⟩ : ByteArray)[0]).toNat : Int)) = true := by rw [hq]; rfl
        have he : (s.extract (j + 1) s.size).data.toList = s.data.toList.drop (j + 1) := Lib.extract_to_end s (j + 1)
        obtain ⟨E, hE⟩ : ∃ E, s.extract (j + 1) s.size = E := ⟨_, rfl⟩
        have hEz : E.size ≤ 1024 := by rw [← hE]; simp; omega
        obtain ⟨hh, hhe⟩ : ∃ hh, headQ (s.data.toList.drop (j + 1)) = hh := ⟨_, rfl⟩
        have hpre : ∀ X, Calls Tryd.prog 29 #[.string E, .string ⟨#[39]⟩] X fun e w' => e = .returned (.bool hh) ∧ w' = X := fun X => by
          have := pre_any E X hEz
          rw [← hE, he, hhe, hE] at this
          exact this
        have HPRE := Lib.hid hpre
        have HEE := Lib.hid hE
        have HHH := Lib.hid hhe
        have hj1 : (j : Int) + 1 ≤ (s.size : Int) := by omega
        have hj10 : (0 : Int) ≤ (j : Int) + 1 := by omega
        have hjn : ((j : Int) + 1).toNat = j + 1 := by omega
        clear hpre he hE hhe
        cases hh with
        | false =>
          have hqe := q_end HQ.out hkj hlt hq HHH.out
          have HO2 : Hid (o = if 64 < acc.length then .inl 21 else .inr (3, acc, 0, 1 + (j - k))) := by rw [← HO.out, hqe]; rfl
          clear hqe HO HQ hq HHH
          go_upto_region 5 with fail
          go_quiet (fail)
          obtain ⟨W1, hW1⟩ : ∃ W1, W1 = wr.drewN nq := ⟨_, rfl⟩
          have jR1 : Rd W1 R s k := by rw [hW1]; exact JR2.out
          have jA1 : W1.heap[A]? = some (.cells zW 31 (0, 0)) := by rw [hW1]; exact JA2.out
          have hb1 : Below w0.heap.size w0 W1 := by rw [hW1]; exact ⟨HBW.out.os, HBW.out.tape, HBW.out.output, HBW.out.size, HBW.out.block⟩
          have how1 : W1.ownsRow w0.heap.size 5 1 u4 acc.length (Lib.byteCells acc) := by rw [hW1]; exact HOWN.out
          have fb1 : Fr w W1 (fun j => j = R) := by rw [hW1]; exact FB.out.drewN _
          have c01 : W1.cell? ⟨R, 0, none⟩ = some (.string s) := cell_blk jR1 0
          rw [← hW1]
          have JR1 := Lib.hid jR1
          have JA1 := Lib.hid jA1
          have HB1 := Lib.hid hb1
          have OWN1 := Lib.hid how1
          have FB1 := Lib.hid fb1
          clear hW1 jR1 jA1 hb1 how1 fb1 JR2 JA2 HBW HOWN FB c0 hq''
          have hcl := closed_any (m := j + 1) JR1.out OWN1.out
          obtain ⟨cb, hcb⟩ : ∃ cb, decide (64 < acc.length) = cb := ⟨_, rfl⟩
          rw [hcb] at hcl
          have HCL : Hid (Calls Tryd.prog 30 #[.pointer (some ⟨R, 0, none⟩), u4, .int .i64 ((j : Int) + 1)] W1 (ClAns W1 R s k acc (j + 1) cb)) := hcl
          have HCB := Lib.hid hcb
          clear hcl hcb
          cases cb with
          | true =>
            have HO3 : Hid (o = .inl 21) := by rw [HO2.out, if_pos (of_decide_eq_true HCB.out)]; rfl
            clear HO2 HCB
            go_wp2_with (first | (go_at_call 29; rw [HEE.out]; refine (HPRE.out _).mono ?_; rintro e w1 ⟨rfl, rfl⟩) | (go_at_call 30; refine (HCL.out).mono ?_; rintro e w2 ⟨rfl, f2⟩; refine Hid.out ?_))
            refine Lib.hid ?_
            have jA2 : w2.heap[A]? = some (.cells zW 31 (0, 0)) := (f2.block A (blk_lt JA1.out) (fun e => hRA e.symm)).trans JA1.out
            obtain ⟨X1, st1, k1, g1, l1⟩ := put_four jA2 rfl zW rfl (by simp [Value.oneCell'])
            have hAl := HA.out
            have e1 : Fr w X1 (fun j => j = R) := (FB1.out.trans f2).step g1 (fun j hj => .inr (by omega))
            have L1 := Lib.hid l1
            have E1 := Lib.hid e1
            clear k1 g1 l1 e1 hAl jA2 f2
            go_wp2_with (first | refine wpl_store _ _ rfl rfl rfl st1 ?_)
            exact bodyPost_ret (results_two rfl rfl rfl L1.out) rfl (by rw [HO3.out]; exact ⟨rfl, E1.out⟩)
          | false =>
            have HO3 : Hid (o = .inr (3, acc, 0, 1 + (j - k))) := by rw [HO2.out, if_neg (of_decide_eq_false HCB.out)]; rfl
            clear HO2 HCB
            go_wp2_with (first | (go_at_call 29; rw [HEE.out]; refine (HPRE.out _).mono ?_; rintro e w1 ⟨rfl, rfl⟩) | (go_at_call 30; refine (HCL.out).mono ?_; rintro e w2 ⟨rfl, jR3, f2⟩; refine Hid.out ?_))
            refine Lib.hid ?_
            have jA2 : w2.heap[A]? = some (.cells zW 31 (0, 0)) := (f2.block A (blk_lt JA1.out) (fun e => hRA e.symm)).trans JA1.out
            obtain ⟨X1, st1, k1, g1, l1⟩ := put_four jA2 rfl #[.int .i64 3, .int .i64 k, .string ⟨acc.toArray⟩, .int .i64 0] rfl (by simp [Value.oneCell'])
            have hAl := HA.out
            have e1 : Fr w X1 (fun j => j = R) := (FB1.out.trans f2).step g1 (fun j hj => .inr (by omega))
            have jR4 : Rd X1 R s (k + (1 + (j - k))) := by
              rw [show k + (1 + (j - k)) = j + 1 by omega]
              exact (g1.block R (blk_lt jR3) hRA).trans jR3
            have L1 := Lib.hid l1
            have E1 := Lib.hid e1
            have JR4 := Lib.hid jR4
            clear k1 g1 l1 e1 hAl jA2 f2 jR3 jR4
            go_wp2_with (first | refine wpl_store _ _ rfl rfl rfl st1 ?_)
            exact bodyPost_ret (results_two rfl rfl rfl L1.out) rfl (by rw [HO3.out]; exact ⟨rfl, JR4.out, E1.out⟩)
        | true =>
          obtain ⟨hl2, hq2⟩ := head_two HHH.out
          have HN := Lib.hid (q_pair HQ.out hkj hl2 hq hq2)
          have hl2' : (j : Int) + 1 < (s.size : Int) := by omega
          clear HO HQ hq HHH hq2
          go_upto_region 5 with fail
          go_quiet (fail)
          obtain ⟨W1, hW1⟩ : ∃ W1, W1 = wr.drewN nq := ⟨_, rfl⟩
          have jR1 : Rd W1 R s k := by rw [hW1]; exact JR2.out
          have jA1 : W1.heap[A]? = some (.cells zW 31 (0, 0)) := by rw [hW1]; exact JA2.out
          have hb1 : Below w0.heap.size w0 W1 := by rw [hW1]; exact ⟨HBW.out.os, HBW.out.tape, HBW.out.output, HBW.out.size, HBW.out.block⟩
          have how1 : W1.ownsRow w0.heap.size 5 1 u4 acc.length (Lib.byteCells acc) := by rw [hW1]; exact HOWN.out
          have fb1 : Fr w W1 (fun j => j = R) := by rw [hW1]; exact FB.out.drewN _
          have c01 : W1.cell? ⟨R, 0, none⟩ = some (.string s) := cell_blk jR1 0
          rw [← hW1]
          have JR1 := Lib.hid jR1
          have JA1 := Lib.hid jA1
          have HB1 := Lib.hid hb1
          have OWN1 := Lib.hid how1
          have FB1 := Lib.hid fb1
          clear hW1 jR1 jA1 hb1 how1 fb1 JR2 JA2 HBW HOWN FB c0 hq''
          go_wp2_with (go_at_call 29; rw [HEE.out]; refine (HPRE.out _).mono ?_; rintro e w1 ⟨rfl, rfl⟩; refine Hid.out ?_)
          refine Lib.hid ?_
          go_upto_region 9 with fail
          have hb1z := HB1.out.size
          have how1 := OWN1.out
          go_wp2_with (at_builtin; refine wpList_append_own _ rfl _ _ 50 rfl w0.heap.size 5 i0 (.int .u8 0) 1 1 Tryd.underlying50 hi hz0 hz1 hz2 rfl (by decide) _ _ _ rfl (how1.alloc _) ⟨w1.heap.size, 0, none⟩ 1 1 [Value.int .u8 s[j + 1].toNat] rfl rfl (news_one _ _ _) (by intro u' hu'; simp at hu'; subst hu'; rfl) (by unfold maxLen; omega) (by omega) (by simp; omega) ?_; intro v2 w2 hown2 hgrow2 _; refine Hid.out ?_)
          refine Lib.hid ?_
          have hb2 : Below w0.heap.size w0 w2 := (HB1.out.alloc hb1z _).grown hgrow2 (by simp; omega) (fun k hk => (how1.lt k hk).1)
          have HB2 := Lib.hid hb2
          have hown3 : w2.ownsRow w0.heap.size 5 1 v2 (acc ++ [s[j + 1]]).length (Lib.byteCells (acc ++ [s[j + 1]])) := by
            rw [byte_snoc, show (acc ++ [s[j + 1]]).length = acc.length + 1 by simp]
            exact hown2
          have OWN2 := Lib.hid hown3
          clear hown2 hown3 hgrow2 hb2 how1
          go_wp2
          exact ⟨⟨j + 2, acc ++ [s[j + 1]], by omega, by omega, by go_num, OWN2, by simp; omega, HN, HB2⟩, by simp [intOf]; omega⟩
      · have hq'' : ((s[j].toNat : Int) == (((⟨#[39]⟩ : ByteArray)[0]).toNat : Int)) = false := by
          rw [beq_eq_false_iff_ne]
          exact fun e => hq (Int.ofNat_inj.1 e)
        have HN := Lib.hid (q_other HQ.out hkj hlt hq)
        clear HO HQ hq
        go_upto_region 5 with fail
        go_quiet (fail)
        obtain ⟨W1, hW1⟩ : ∃ W1, W1 = wr.drewN nq := ⟨_, rfl⟩
        have jR1 : Rd W1 R s k := by rw [hW1]; exact JR2.out
        have jA1 : W1.heap[A]? = some (.cells zW 31 (0, 0)) := by rw [hW1]; exact JA2.out
        have hb1 : Below w0.heap.size w0 W1 := by rw [hW1]; exact ⟨HBW.out.os, HBW.out.tape, HBW.out.output, HBW.out.size, HBW.out.block⟩
        have how1 : W1.ownsRow w0.heap.size 5 1 u4 acc.length (Lib.byteCells acc) := by rw [hW1]; exact HOWN.out
        have fb1 : Fr w W1 (fun j => j = R) := by rw [hW1]; exact FB.out.drewN _
        have c01 : W1.cell? ⟨R, 0, none⟩ = some (.string s) := cell_blk jR1 0
        rw [← hW1]
        have JR1 := Lib.hid jR1
        have JA1 := Lib.hid jA1
        have HB1 := Lib.hid hb1
        have OWN1 := Lib.hid how1
        have FB1 := Lib.hid fb1
        clear hW1 jR1 jA1 hb1 how1 fb1 JR2 JA2 HBW HOWN FB c0 hq''
        go_upto_region 9 with fail
        have hb1z := HB1.out.size
        have how1 := OWN1.out
        go_wp2_with (at_builtin; refine wpList_append_own _ rfl _ _ 50 rfl w0.heap.size 5 i0 (.int .u8 0) 1 1 Tryd.underlying50 hi hz0 hz1 hz2 rfl (by decide) _ _ _ rfl (how1.alloc _) ⟨W1.heap.size, 0, none⟩ 1 1 [Value.int .u8 s[j].toNat] rfl rfl (news_one _ _ _) (by intro u' hu'; simp at hu'; subst hu'; rfl) (by unfold maxLen; omega) (by omega) (by simp; omega) ?_; intro v2 w2 hown2 hgrow2 _; refine Hid.out ?_)
        refine Lib.hid ?_
        have hb2 : Below w0.heap.size w0 w2 := (HB1.out.alloc hb1z _).grown hgrow2 (by simp; omega) (fun k hk => (how1.lt k hk).1)
        have HB2 := Lib.hid hb2
        have hown3 : w2.ownsRow w0.heap.size 5 1 v2 (acc ++ [s[j]]).length (Lib.byteCells (acc ++ [s[j]])) := by
          rw [byte_snoc, show (acc ++ [s[j]]).length = acc.length + 1 by simp]
          exact hown2
        have OWN2 := Lib.hid hown3
        clear hown2 hown3 hgrow2 hb2 how1
        go_wp2
        exact ⟨⟨j + 1, acc ++ [s[j]], by omega, by omega, by go_num, OWN2, by simp; omega, HN, HB2⟩, by simp [intOf]; omega⟩
    · have hlt' : ¬ (j : Int) < (s.size : Int) := by omega
      have hO : o = .inl 171 := by rw [← HO.out, q_none HQ.out (by omega)]
      have HO2 := Lib.hid hO
      obtain ⟨X1, st1, k1, g1, l1⟩ := put_four JA2.out rfl zW rfl (by simp [Value.oneCell'])
      have hAl := HA.out
      have e1 : Fr w X1 (fun j => j = R) := FB.out.step g1 (fun j hj => .inr (by omega))
      have L1 := Lib.hid l1
      have E1 := Lib.hid e1
      clear hO HO HQ k1 g1 l1 e1 hAl HOWN
      go_wp2_with (first | refine wpl_store _ _ rfl rfl rfl st1 ?_)
      exact bodyPost_ret (results_two rfl rfl rfl L1.out) rfl (by rw [HO2.out]; exact ⟨rfl, E1.out⟩)
end Go.Proofs.YtcmdpahchbbicaaDoor
