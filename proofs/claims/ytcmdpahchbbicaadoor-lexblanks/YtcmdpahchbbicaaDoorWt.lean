/- The walk of the document's Print of a text. -/
import Derived.Test.YtcmdpahchbbicaaDoorWq
import Derived.Test.YtcmdpahchbbicaaDoorRa
import Derived.Test.YtcmdpahchbbicaaDoorLd
namespace Go.Proofs.YtcmdpahchbbicaaDoor
open Go.RowKit
theorem dbl_app : ∀ (l m : List UInt8), dbl (l ++ m) = dbl l ++ dbl m
  | [], m => rfl
  | c :: r, m => by
    by_cases h : c.toNat = 39
    · rw [List.cons_append, dbl_q h, dbl_q h, dbl_app r m]
      rfl
    · rw [List.cons_append, dbl_o h, dbl_o h, dbl_app r m]
      rfl
theorem dbl_snoc_q (l : List UInt8) (c : UInt8) (h : c.toNat = 39) : dbl (l ++ [c]) = dbl l ++ [39, 39] := by
  have e : c = 39 := UInt8.toNat_inj.1 h
  rw [dbl_app, dbl_q h, e]
  rfl
theorem dbl_snoc (l : List UInt8) (c : UInt8) (h : c.toNat ≠ 39) : dbl (l ++ [c]) = dbl l ++ [c] := by
  rw [dbl_app, dbl_o h]
  rfl
theorem dbl_le : ∀ l : List UInt8, (dbl l).length ≤ 2 * l.length
  | [] => by simp [dbl]
  | c :: r => by
    have := dbl_le r
    by_cases h : c.toNat = 39
    · rw [dbl_q h]
      simp
      omega
    · rw [dbl_o h]
      simp
      omega
theorem bcell {W w1 : World} (hb : Below W.heap.size W w1) : (∀ b o, b < W.heap.size → w1.cell? ⟨b, o, none⟩ = W.cell? ⟨b, o, none⟩) ∧ (∀ b o, b < W.heap.size → w1.frozen? ⟨b, o, none⟩ = W.frozen? ⟨b, o, none⟩) :=
  ⟨fun b o h => hb.cell (p := ⟨b, o, none⟩) h, fun b o h => hb.frozen (p := ⟨b, o, none⟩) h⟩

theorem box_cells {w w1 : World} {x y z : Value} {t : TypeId} (hb : Below (w.alloc (.cells #[x, y, z] t)).heap.size (w.alloc (.cells #[x, y, z] t)) w1) :
    w1.cell? ⟨w.heap.size, 0, none⟩ = some x ∧ w1.cell? ⟨w.heap.size, 1, none⟩ = some y ∧ w1.cell? ⟨w.heap.size, 2, none⟩ = some z ∧ w.heap.size < w1.heap.size := by
  have h := (bcell hb).1
  have hz := hb.size
  refine ⟨?_, ?_, ?_, ?_⟩
  · rw [h _ _ (by simp)]; simp
  · rw [h _ _ (by simp)]; simp
  · rw [h _ _ (by simp)]; simp
  · simp at hz; omega

theorem own_built (w : World) (B : Nat) (hB : B ≤ w.heap.size) (c : Value) : (w.alloc (.cells #[c] 5)).ownsRow B 5 1 (.slice (some ⟨w.heap.size, 0, none⟩) 1 1) 1 [c] :=
  ⟨rfl, .inr ⟨w.heap.size, 1, #[c], rfl, hB, by show (w.heap.push _)[w.heap.size]? = _; simp, Nat.le_refl _, by decide, rfl, rfl⟩⟩

set_option maxHeartbeats 1000000 in
theorem right_ref (s : ByteArray) (w : World) (hs : s.size ≤ 64) : Calls Tryd.prog 15 #[.agg #[.int .i64 2, .int .i64 0, .string s]] w fun e w' => e = .returned (.bool true) ∧ Below w.heap.size w w' := by
  have hb : ∀ o, Below w.heap.size w (w.alloc o) := fun o => (Below.refl _ _).alloc (Nat.le_refl _) o
  have hs' : (s.size : Int) ≤ 64 := by omega
  go_enter Tryd.func15, Tryd.ntmps15
  go_wp2
  go_ret
  exact ⟨rfl, hb _⟩
set_option maxHeartbeats 2000000 in
set_option maxRecDepth 100000 in
theorem print_ref (s : ByteArray) (w : World) (hs : s.size ≤ 64)  :
    Calls Tryd.prog 11 #[.agg #[.int .i64 2, .int .i64 0, .string s]] w fun e w' => e = .returned (.tuple #[.string ⟨(39 :: (dbl s.data.toList ++ [39])).toArray⟩, .int .i64 0]) ∧ Below w.heap.size w w' := by
  obtain ⟨i0, hi, hz0, hz1, hz2⟩ := info_parts infoByte
  obtain ⟨R, hR⟩ : ∃ R, R = 39 :: (dbl s.data.toList ++ [39]) := ⟨_, rfl⟩
  rw [← hR]
  have HR := Lib.hid hR
  clear hR
  go_enter Tryd.func11, Tryd.ntmps11
  go_wp2_with (go_at_call 15; refine (right_ref _ _ hs).mono ?_; rintro e w1 ⟨rfl, hb1⟩; refine Hid.out ?_)
  refine Lib.hid ?_
  obtain ⟨c0, c1, c2, hzz⟩ := box_cells hb1
  have hbw : Below w.heap.size w w1 := ((Below.refl _ w).alloc (Nat.le_refl _) _).trans (hb1.mono (by simp))
  have hown1 := own_built w1 w1.heap.size (Nat.le_refl _) (Value.int .u8 39)
  have hb0 : Below w1.heap.size w1 (w1.alloc (.cells #[Value.int .u8 39] 5)) := (Below.refl _ w1).alloc (Nat.le_refl _) _
  go_wp2
  go_loopw [4, 5] (fun v i wr => ∃ k : Nat, k ≤ s.size ∧ i = .int .i64 k ∧ wr.ownsRow w1.heap.size 5 1 v (39 :: dbl (s.data.toList.take k)).length (Lib.byteCells (39 :: dbl (s.data.toList.take k))) ∧ Below w1.heap.size w1 wr) (fun _ i _ => s.size - (intOf i).toNat)
  case atStart => exact ⟨0, by omega, rfl, hown1, hb0⟩
  case round =>
    obtain ⟨k, hk, rfl, hown, hb⟩ := hrel
    have hsz := hb.size
    have d2 : wr.cell? ⟨w.heap.size, 2, none⟩ = some (.string s) := by rw [(bcell hb).1 _ _ hzz]; exact c2
    obtain ⟨L, hL⟩ : ∃ L, L = 39 :: dbl (s.data.toList.take k) := ⟨_, rfl⟩
    have hln : L.length ≤ 129 := by
      have h1 := dbl_le (s.data.toList.take k)
      have h2 : (s.data.toList.take k).length ≤ k := List.length_take_le _ _
      rw [hL, List.length_cons]
      omega
    rw [← hL] at hown
    have HL := Lib.hid hL
    clear hL
    by_cases hlt : k < s.size
    · have hts := take_snoc s k hlt
      by_cases hq : s[k].toNat = 39
      · have HN : Hid (39 :: dbl (s.data.toList.take (k + 1)) = L ++ [39] ++ [s[k]]) := by
          show _ = _
          rw [hts, dbl_snoc_q _ _ hq, HL.out]
          have : s[k] = 39 := UInt8.toNat_inj.1 hq
          rw [this]
          simp
        clear hts
        have hq' : ((s[k].toNat : Int) == 39) = true := by rw [hq]; rfl
        clear hq
        go_wp2_with (at_builtin; refine wpList_append_own _ rfl _ _ 50 rfl w1.heap.size 5 i0 (.int .u8 0) 1 1 Tryd.underlying50 hi hz0 hz1 hz2 rfl (by decide) _ _ _ rfl (hown.alloc _) ⟨wr.heap.size, 0, none⟩ 1 1 [Value.int .u8 39] rfl rfl (news_one _ _ _) (by intro u' hu'; simp at hu'; subst hu'; rfl) (by unfold maxLen; omega) (by omega) (by simp; omega) ?_; intro v2 w2 hown2 hgrow2 _; refine Hid.out ?_)
        refine Lib.hid ?_
        have hb2 : Below w1.heap.size w1 w2 := (hb.alloc hsz _).grown hgrow2 (by simp; omega) (fun k hk => (hown.lt k hk).1)
        have hsz2 := hb2.size
        have e2 : w2.cell? ⟨w.heap.size, 2, none⟩ = some (.string s) := by rw [(bcell hb2).1 _ _ hzz]; exact c2
        go_wp2_with (at_builtin; refine wpList_append_own _ rfl _ _ 50 rfl w1.heap.size 5 i0 (.int .u8 0) 1 1 Tryd.underlying50 hi hz0 hz1 hz2 rfl (by decide) _ _ _ rfl (hown2.alloc _) ⟨w2.heap.size, 0, none⟩ 1 1 [Value.int .u8 s[k].toNat] rfl rfl (news_one _ _ _) (by intro u' hu'; simp at hu'; subst hu'; rfl) (by unfold maxLen; omega) (by omega) (by simp; omega) ?_; intro v3 w3 hown3 hgrow3 _; refine Hid.out ?_)
        refine Lib.hid ?_
        have hb3 : Below w1.heap.size w1 w3 := (hb2.alloc hsz2 _).grown hgrow3 (by simp; omega) (fun k hk => (hown2.lt k hk).1)
        go_wp2
        refine ⟨⟨k + 1, by omega, by go_num, ?_, hb3⟩, by simp [intOf]; omega⟩
        rw [HN.out]
        have e1 : (L ++ [39] ++ [s[k]]).length = L.length + 1 + 1 := by simp
        have e2 : Lib.byteCells (L ++ [39] ++ [s[k]]) = Lib.byteCells L ++ [Value.int .u8 39] ++ [Value.int .u8 s[k].toNat] := by simp [Lib.byteCells]
        rw [e1, e2]
        exact hown3
      · have HN : Hid (39 :: dbl (s.data.toList.take (k + 1)) = L ++ [s[k]]) := by
          show _ = _
          rw [hts, dbl_snoc _ _ hq, HL.out]
          simp
        clear hts
        have hq' : ((s[k].toNat : Int) == 39) = false := by rw [beq_eq_false_iff_ne]; omega
        clear hq
        go_wp2_with (at_builtin; refine wpList_append_own _ rfl _ _ 50 rfl w1.heap.size 5 i0 (.int .u8 0) 1 1 Tryd.underlying50 hi hz0 hz1 hz2 rfl (by decide) _ _ _ rfl (hown.alloc _) ⟨wr.heap.size, 0, none⟩ 1 1 [Value.int .u8 s[k].toNat] rfl rfl (news_one _ _ _) (by intro u' hu'; simp at hu'; subst hu'; rfl) (by unfold maxLen; omega) (by omega) (by simp; omega) ?_; intro v2 w2 hown2 hgrow2 _; refine Hid.out ?_)
        refine Lib.hid ?_
        have hb2 : Below w1.heap.size w1 w2 := (hb.alloc hsz _).grown hgrow2 (by simp; omega) (fun k hk => (hown.lt k hk).1)
        go_wp2
        refine ⟨⟨k + 1, by omega, by go_num, ?_, hb2⟩, by simp [intOf]; omega⟩
        rw [HN.out]
        have e1 : (L ++ [s[k]]).length = L.length + 1 := by simp
        have e2 : Lib.byteCells (L ++ [s[k]]) = Lib.byteCells L ++ [Value.int .u8 s[k].toNat] := by simp [Lib.byteCells]
        rw [e1, e2]
        exact hown2
    · have HN : Hid (R = L ++ [39]) := by
        show _ = _
        rw [HR.out, HL.out, List.take_of_length_le (by simp; omega)]
        simp
      go_wp2_with (at_builtin; refine wpList_append_own _ rfl _ _ 50 rfl w1.heap.size 5 i0 (.int .u8 0) 1 1 Tryd.underlying50 hi hz0 hz1 hz2 rfl (by decide) _ _ _ rfl (hown.alloc _) ⟨wr.heap.size, 0, none⟩ 1 1 [Value.int .u8 39] rfl rfl (news_one _ _ _) (by intro u' hu'; simp at hu'; subst hu'; rfl) (by unfold maxLen; omega) (by omega) (by simp; omega) ?_; intro v2 w2 hown2 hgrow2 _; refine Hid.out ?_)
      refine Lib.hid ?_
      have hb2 : Below w1.heap.size w1 w2 := (hb.alloc hsz _).grown hgrow2 (by simp; omega) (fun k hk => (hown.lt k hk).1)
      have hownR : w2.ownsRow w1.heap.size 5 1 v2 R.length (Lib.byteCells R) := by
        have e1 : (L ++ [39]).length = L.length + 1 := by simp
        have e2 : Lib.byteCells (L ++ [39]) = Lib.byteCells L ++ [Value.int .u8 39] := by simp [Lib.byteCells]
        rw [HN.out, e1, e2]
        exact hown2
      have hcv := conv_own hownR
      go_wp2
      go_ret2
      exact ⟨rfl, hbw.trans (hb2.mono (by omega))⟩
end Go.Proofs.YtcmdpahchbbicaaDoor
