/- The walks of the document's One and Encode. -/
import Derived.Test.YtbepekgaipipjaaWd
namespace Go.Proofs.Ytbepekgaipipjaa
open Go.RowKit

theorem own_built' (w : World) (o : Obj) (B : Nat) (hB : B ≤ w.heap.size + 1) (c : Value) : ((w.alloc o).alloc (.cells #[c] 5)).ownsRow B 5 1 (.slice (some ⟨w.heap.size + 1, 0, none⟩) 1 1) 1 [c] :=
  ⟨rfl, .inr ⟨w.heap.size + 1, 1, #[c], rfl, hB, by show ((w.heap.push o).push (.cells #[c] 5))[w.heap.size + 1]? = _; rw [show w.heap.size + 1 = (w.heap.push o).size by simp]; exact Array.getElem?_push_size, Nat.le_refl _, by decide, rfl, rfl⟩⟩

set_option maxHeartbeats 1000000 in
theorem one_null (n : Int) (s : ByteArray) (w : World) :
    Calls Try.prog 52 #[.agg #[.int .i64 0, .int .i64 n, .string s]] w fun e w' => e = .returned (.string ⟨[1].toArray⟩) ∧ Below w.heap.size w w' := by
  have hcv := conv_own (l := [1]) (own_built' w (.cells #[.int .i64 0, .int .i64 n, .string s] 23) (w.heap.size + 1) (Nat.le_refl _) (.int .u8 1))
  go_enter Try.func52, Try.ntmps52
  go_wp2
  go_ret
  exact ⟨rfl, ((Below.refl _ w).alloc (Nat.le_refl _) _).alloc (by simp) _⟩

set_option maxHeartbeats 4000000 in
set_option maxRecDepth 100000 in
theorem one_num (n : Int) (s : ByteArray) (w : World) (hf : Fit n) :
    Calls Try.prog 52 #[.agg #[.int .i64 1, .int .i64 n, .string s]] w fun e w' => e = .returned (.string ⟨(2 :: be 8 (bias n)).toArray⟩) ∧ Below w.heap.size w w' := by
  obtain ⟨i0, hi, hz0, hz1, hz2⟩ := info_parts infoByte
  obtain ⟨U, hU⟩ : ∃ U, IntKind.u64.wrap (IntKind.u64.wrap n + 9223372036854775808) = U := ⟨_, rfl⟩
  obtain ⟨m, hm⟩ : ∃ m, bias n = m := ⟨_, rfl⟩
  have HU : Hid (U = m) := by
    show U = m
    rw [← hU, ← hm]
    exact wrapU n hf.lo hf.hi
  rw [hm]
  clear hm hf
  have hst := own_built' w (.cells #[.int .i64 1, .int .i64 n, .string s] 23) (w.heap.size + 1) (Nat.le_refl _) (.int .u8 2)
  have hbst : Below (w.heap.size + 1) (w.alloc (.cells #[.int .i64 1, .int .i64 n, .string s] 23)) ((w.alloc (.cells #[.int .i64 1, .int .i64 n, .string s] 23)).alloc (.cells #[.int .u8 2] 5)) := (Below.refl _ _).alloc (by simp) _
  go_enter Try.func52, Try.ntmps52
  go_wp2
  clear hU
  go_loopw [3, 5] (fun v i wr => ∃ k : Nat, k ≤ 8 ∧ i = .int .i64 k ∧ wr.ownsRow (w.heap.size + 1) 5 1 v ([2] ++ (be 8 m).take k).length (Lib.byteCells ([2] ++ (be 8 m).take k)) ∧ Below (w.heap.size + 1) (w.alloc (.cells #[.int .i64 1, .int .i64 n, .string s] 23)) wr) (fun _ i _ => 8 - (intOf i).toNat)
  case atStart => exact ⟨0, by omega, rfl, hst, hbst⟩
  case round =>
    clear hst hbst
    obtain ⟨k, hk, rfl, hown, hb⟩ := hrel
    have hsz := hb.size
    simp at hsz
    have hln : ([2] ++ (be 8 m).take k).length ≤ 10008 := by simp [be_len]; omega
    have d0 : wr.cell? ⟨w.heap.size, 0, none⟩ = some (.int .i64 1) := by rw [hb.cell (p := ⟨w.heap.size, 0, none⟩) (by simp)]; simp
    match k, hk with
    | 8, _ =>
      rw [List.take_of_length_le (by rw [be_len]; omega)] at hown
      have hcv := conv_own hown
      go_wp2
      go_ret
      exact ⟨rfl, ((Below.refl _ w).alloc (Nat.le_refl _) _).trans (hb.mono (by omega))⟩
    | 0, _ | 1, _ | 2, _ | 3, _ | 4, _ | 5, _ | 6, _ | 7, _ =>
      go_wp2_with (at_builtin; refine wpList_append_own _ rfl _ _ 87 rfl (w.heap.size + 1) 5 i0 (.int .u8 0) 1 1 Try.underlying87 hi hz0 hz1 hz2 rfl (by decide) _ _ _ rfl (hown.alloc _) ⟨wr.heap.size, 0, none⟩ 1 1 [Value.int .u8 _] rfl rfl (news_one _ _ _) (by intro u' hu'; simp at hu'; subst hu'; rfl) (by unfold maxLen; omega) (by omega) (by simp; omega) ?_; intro v2 w2 hown2 hgrow2 _; refine Hid.out ?_)
      refine Lib.hid ?_
      have hb2 : Below (w.heap.size + 1) (w.alloc (.cells #[.int .i64 1, .int .i64 n, .string s] 23)) w2 := (hb.alloc (by omega) _).grown hgrow2 (by simp; omega) (fun k hk => (hown.lt k hk).1)
      go_wp2
      refine ⟨⟨_, ?_, by go_num, ?_, hb2⟩, by simp [intOf]⟩
      · decide
      · rw [be_step [2] U m HU.out _ (by decide), be_one [2] m _ (by decide)]
        first
          | exact hown2
          | (have e7 : U / ((256 ^ (7 - 7) : Nat) : Int) = U := by simp
             rw [e7]
             exact hown2)

set_option maxHeartbeats 4000000 in
set_option maxRecDepth 100000 in
theorem one_text (n : Int) (s : ByteArray) (w : World) (hs : s.size ≤ 64) :
    Calls Try.prog 52 #[.agg #[.int .i64 2, .int .i64 n, .string s]] w fun e w' => e = .returned (.string ⟨(3 :: (esc s.data.toList ++ [0, 1])).toArray⟩) ∧ Below w.heap.size w w' := by
  obtain ⟨i0, hi, hz0, hz1, hz2⟩ := info_parts infoByte
  obtain ⟨R, hR⟩ : ∃ R, R = 3 :: (esc s.data.toList ++ [0, 1]) := ⟨_, rfl⟩
  rw [← hR]
  have HR := Lib.hid hR
  clear hR
  have hst := own_built' w (.cells #[.int .i64 2, .int .i64 n, .string s] 23) (w.heap.size + 1) (Nat.le_refl _) (.int .u8 3)
  have hbst : Below (w.heap.size + 1) (w.alloc (.cells #[.int .i64 2, .int .i64 n, .string s] 23)) ((w.alloc (.cells #[.int .i64 2, .int .i64 n, .string s] 23)).alloc (.cells #[.int .u8 3] 5)) := (Below.refl _ _).alloc (by simp) _
  go_enter Try.func52, Try.ntmps52
  go_wp2
  go_loopw [3, 6] (fun v i wr => ∃ k : Nat, k ≤ s.size ∧ i = .int .i64 k ∧ wr.ownsRow (w.heap.size + 1) 5 1 v ([3] ++ esc (s.data.toList.take k)).length (Lib.byteCells ([3] ++ esc (s.data.toList.take k))) ∧ Below (w.heap.size + 1) (w.alloc (.cells #[.int .i64 2, .int .i64 n, .string s] 23)) wr) (fun _ i _ => s.size - (intOf i).toNat)
  case atStart => exact ⟨0, by omega, rfl, hst, hbst⟩
  case round =>
    clear hst hbst
    obtain ⟨k, hk, rfl, hown, hb⟩ := hrel
    have hsz := hb.size
    simp at hsz
    have d2 : wr.cell? ⟨w.heap.size, 2, none⟩ = some (.string s) := by rw [hb.cell (p := ⟨w.heap.size, 2, none⟩) (by simp)]; simp
    obtain ⟨L, hL⟩ : ∃ L, L = [3] ++ esc (s.data.toList.take k) := ⟨_, rfl⟩
    have hln : L.length ≤ 10128 := by
      have h1 := esc_le (s.data.toList.take k)
      have h2 : (s.data.toList.take k).length ≤ k := List.length_take_le _ _
      rw [hL, List.length_append]
      simp
      omega
    rw [← hL] at hown
    have HL := Lib.hid hL
    clear hL
    by_cases hlt : k < s.size
    · have hts := take_snoc s k hlt
      by_cases hq : s[k].toNat = 0
      · have HN : Hid ([3] ++ esc (s.data.toList.take (k + 1)) = L ++ [s[k]] ++ [255]) := by
          show _ = _
          rw [hts, esc_snoc_z _ _ hq, HL.out]
          simp
        clear hts
        have hq' : ((s[k].toNat : Int) == 0) = true := by rw [hq]; rfl
        clear hq
        go_wp2_with (at_builtin; refine wpList_append_own _ rfl _ _ 87 rfl (w.heap.size + 1) 5 i0 (.int .u8 0) 1 1 Try.underlying87 hi hz0 hz1 hz2 rfl (by decide) _ _ _ rfl (hown.alloc _) ⟨wr.heap.size, 0, none⟩ 1 1 [Value.int .u8 s[k].toNat] rfl rfl (news_one _ _ _) (by intro u' hu'; simp at hu'; subst hu'; rfl) (by unfold maxLen; omega) (by omega) (by simp; omega) ?_; intro v2 w2 hown2 hgrow2 _; refine Hid.out ?_)
        refine Lib.hid ?_
        have hb2 : Below (w.heap.size + 1) (w.alloc (.cells #[.int .i64 2, .int .i64 n, .string s] 23)) w2 := (hb.alloc (by omega) _).grown hgrow2 (by simp; omega) (fun k hk => (hown.lt k hk).1)
        have hsz2 := hb2.size
        simp at hsz2
        have e2 : w2.cell? ⟨w.heap.size, 2, none⟩ = some (.string s) := by rw [hb2.cell (p := ⟨w.heap.size, 2, none⟩) (by simp)]; simp
        go_wp2_with (at_builtin; refine wpList_append_own _ rfl _ _ 87 rfl (w.heap.size + 1) 5 i0 (.int .u8 0) 1 1 Try.underlying87 hi hz0 hz1 hz2 rfl (by decide) _ _ _ rfl (hown2.alloc _) ⟨w2.heap.size, 0, none⟩ 1 1 [Value.int .u8 255] rfl rfl (news_one _ _ _) (by intro u' hu'; simp at hu'; subst hu'; rfl) (by unfold maxLen; omega) (by omega) (by simp; omega) ?_; intro v3 w3 hown3 hgrow3 _; refine Hid.out ?_)
        refine Lib.hid ?_
        have hb3 : Below (w.heap.size + 1) (w.alloc (.cells #[.int .i64 2, .int .i64 n, .string s] 23)) w3 := (hb2.alloc (by omega) _).grown hgrow3 (by simp; omega) (fun k hk => (hown2.lt k hk).1)
        go_wp2
        refine ⟨⟨k + 1, by omega, by go_num, ?_, hb3⟩, by simp [intOf]; omega⟩
        rw [HN.out]
        have e1 : (L ++ [s[k]] ++ [255]).length = L.length + 1 + 1 := by simp
        have e2 : Lib.byteCells (L ++ [s[k]] ++ [255]) = Lib.byteCells L ++ [Value.int .u8 s[k].toNat] ++ [Value.int .u8 255] := by simp [Lib.byteCells]
        rw [e1, e2]
        exact hown3
      · have HN : Hid ([3] ++ esc (s.data.toList.take (k + 1)) = L ++ [s[k]]) := by
          show _ = _
          rw [hts, esc_snoc _ _ hq, HL.out]
          simp
        clear hts
        have hq' : ((s[k].toNat : Int) == 0) = false := by rw [beq_eq_false_iff_ne]; omega
        clear hq
        go_wp2_with (at_builtin; refine wpList_append_own _ rfl _ _ 87 rfl (w.heap.size + 1) 5 i0 (.int .u8 0) 1 1 Try.underlying87 hi hz0 hz1 hz2 rfl (by decide) _ _ _ rfl (hown.alloc _) ⟨wr.heap.size, 0, none⟩ 1 1 [Value.int .u8 s[k].toNat] rfl rfl (news_one _ _ _) (by intro u' hu'; simp at hu'; subst hu'; rfl) (by unfold maxLen; omega) (by omega) (by simp; omega) ?_; intro v2 w2 hown2 hgrow2 _; refine Hid.out ?_)
        refine Lib.hid ?_
        have hb2 : Below (w.heap.size + 1) (w.alloc (.cells #[.int .i64 2, .int .i64 n, .string s] 23)) w2 := (hb.alloc (by omega) _).grown hgrow2 (by simp; omega) (fun k hk => (hown.lt k hk).1)
        have hsz2 := hb2.size
        simp at hsz2
        have e2 : w2.cell? ⟨w.heap.size, 2, none⟩ = some (.string s) := by rw [hb2.cell (p := ⟨w.heap.size, 2, none⟩) (by simp)]; simp
        go_wp2
        refine ⟨⟨k + 1, by omega, by go_num, ?_, hb2⟩, by simp [intOf]; omega⟩
        rw [HN.out]
        have e1 : (L ++ [s[k]]).length = L.length + 1 := by simp
        have e2 : Lib.byteCells (L ++ [s[k]]) = Lib.byteCells L ++ [Value.int .u8 s[k].toNat] := by simp [Lib.byteCells]
        rw [e1, e2]
        exact hown2
    · have HN : Hid (R = L ++ [0, 1]) := by
        show _ = _
        rw [HR.out, HL.out, List.take_of_length_le (by simp; omega), List.append_assoc]
        rfl
      go_wp2_with (at_builtin; refine wpList_append_own _ rfl _ _ 87 rfl (w.heap.size + 1) 5 i0 (.int .u8 0) 1 1 Try.underlying87 hi hz0 hz1 hz2 rfl (by decide) _ _ _ rfl (hown.alloc _) ⟨wr.heap.size, 0, none⟩ 2 2 [Value.int .u8 0, Value.int .u8 1] rfl rfl (news_two _ _ _ _) (by intro u' hu'; simp at hu'; rcases hu' with rfl | rfl <;> rfl) (by unfold maxLen; omega) (by omega) (by simp; omega) ?_; intro v2 w2 hown2 hgrow2 _; refine Hid.out ?_)
      refine Lib.hid ?_
      have hb2 : Below (w.heap.size + 1) (w.alloc (.cells #[.int .i64 2, .int .i64 n, .string s] 23)) w2 := (hb.alloc (by omega) _).grown hgrow2 (by simp; omega) (fun k hk => (hown.lt k hk).1)
      have hownR : w2.ownsRow (w.heap.size + 1) 5 1 v2 R.length (Lib.byteCells R) := by
        have e1 : (L ++ [0, 1]).length = L.length + 2 := by simp
        have e2 : Lib.byteCells (L ++ [0, 1]) = Lib.byteCells L ++ [Value.int .u8 0, Value.int .u8 1] := by simp [Lib.byteCells]
        rw [HN.out, e1, e2]
        exact hown2
      have hcv := conv_own hownR
      go_wp2
      go_ret
      exact ⟨rfl, ((Below.refl _ w).alloc (Nat.le_refl _) _).trans (hb2.mono (by omega))⟩

theorem one_any (x : V) (w : World) (hx : Right x) :
    Calls Try.prog 52 #[.agg #[.int .i64 x.k, .int .i64 x.n, .string x.s]] w fun e w' => e = .returned (.string ⟨(enc1 x).toArray⟩) ∧ Below w.heap.size w w' := by
  rcases hx.kinds with ⟨k, n, s⟩ | ⟨k, s⟩ | ⟨k, n, s⟩
  · rw [enc_null k, k]
    exact one_null x.n x.s w
  · rw [enc_num k, k]
    exact one_num x.n x.s w ⟨hx.lo, hx.hi⟩
  · rw [enc_text k, k]
    exact one_text x.n x.s w (by simpa using s)
end Go.Proofs.Ytbepekgaipipjaa
