/- The walk of the document's first: the value at the beginning of bytes. -/
import Derived.Test.YtbepekgaipipjaaWg
namespace Go.Proofs.Ytbepekgaipipjaa
open Go.RowKit

theorem res_below {w wr : World} (h : Below (w.heap.size + 1) (w.alloc zeroV) wr) : Res w.heap.size wr := by
  have hb := h.block w.heap.size (by omega)
  have c : ∀ o, wr.cell? ⟨w.heap.size, o, none⟩ = (w.alloc zeroV).cell? ⟨w.heap.size, o, none⟩ := fun o => World.cell?_of_block hb
  have f : ∀ o, wr.frozen? ⟨w.heap.size, o, none⟩ = (w.alloc zeroV).frozen? ⟨w.heap.size, o, none⟩ := fun o => World.frozen?_of_block hb
  exact ⟨by rw [c]; simp, by rw [c]; simp, by rw [c]; simp, by rw [f]; simp, by rw [f]; simp, by rw [f]; simp⟩
theorem below_start {w wr : World} (h : Below (w.heap.size + 1) (w.alloc zeroV) wr) : Below w.heap.size w wr := ((Below.refl _ w).alloc (Nat.le_refl _) _).trans (h.mono (by omega))

set_option maxHeartbeats 1000000 in
theorem first_null (s : ByteArray) (w : World) (h : 0 < s.size) (hq : s[0].toNat = 1) :
    Calls Try.prog 43 #[.string s] w fun e w' => e = .returned (.tuple #[.agg #[.int .i64 0, .int .i64 0, .string ⟨#[]⟩], .int .i64 1]) ∧ Below w.heap.size w w' := by
  go_enter Try.func43, Try.ntmps43
  go_wp2
  exact bodyPost_ret (v := .tuple #[.agg #[.int .i64 0, .int .i64 0, .string ⟨#[]⟩], .int .i64 1]) (by simp [results, Try.results43, go_sem]) rfl ⟨rfl, (Below.refl _ _).alloc (Nat.le_refl _) _⟩

set_option maxHeartbeats 1000000 in
theorem first_short (s : ByteArray) (w : World) (h : 0 < s.size) (hq : s[0].toNat = 2) (hs : s.size < 9) :
    Calls Try.prog 43 #[.string s] w fun e w' => e = .returned (.tuple #[.agg #[.int .i64 0, .int .i64 0, .string ⟨#[]⟩], .int .i64 0]) ∧ Below w.heap.size w w' := by
  have t : ¬ (s.size : Int) ≥ 9 := by omega
  go_enter Try.func43, Try.ntmps43
  go_wp2
  exact bodyPost_ret (v := .tuple #[.agg #[.int .i64 0, .int .i64 0, .string ⟨#[]⟩], .int .i64 0]) (by simp [results, Try.results43, go_sem]) rfl ⟨rfl, (Below.refl _ _).alloc (Nat.le_refl _) _⟩

set_option maxHeartbeats 1000000 in
theorem first_other (s : ByteArray) (w : World) (h : 0 < s.size) (hq : s[0].toNat = 0 ∨ 4 ≤ s[0].toNat) :
    Calls Try.prog 43 #[.string s] w fun e w' => e = .returned (.tuple #[.agg #[.int .i64 0, .int .i64 0, .string ⟨#[]⟩], .int .i64 0]) ∧ Below w.heap.size w w' := by
  have t1 : ((s[0].toNat : Int) == 1) = false := by rw [beq_eq_false_iff_ne]; omega
  have t2 : ((s[0].toNat : Int) == 2) = false := by rw [beq_eq_false_iff_ne]; omega
  have t3 : ((s[0].toNat : Int) != 3) = true := by rw [bne_iff_ne]; omega
  clear hq
  go_enter Try.func43, Try.ntmps43
  go_wp2
  exact bodyPost_ret (v := .tuple #[.agg #[.int .i64 0, .int .i64 0, .string ⟨#[]⟩], .int .i64 0]) (by simp [results, Try.results43, go_sem]) rfl ⟨rfl, (Below.refl _ _).alloc (Nat.le_refl _) _⟩

theorem mul_step (m c : Nat) (hm : m < 72057594037927936) (hc : c < 256) : IntKind.u64.wrap (IntKind.u64.wrap ((m : Int) * 256) + IntKind.u64.wrap (c : Int)) = ((m * 256 + c : Nat) : Int) := by
  rw [IntKind.wrap_u64, IntKind.wrap_u64, IntKind.wrap_u64]
  omega
theorem drop_take (s : ByteArray) (k : Nat) (hs : k + 1 < s.size) : (s.data.toList.drop 1).take (k + 1) = (s.data.toList.drop 1).take k ++ [s[k + 1]] := by
  have hl : k < (s.data.toList.drop 1).length := by simp; omega
  rw [List.take_succ_eq_append_getElem hl, List.getElem_drop]
  congr 2
  show s.data.toList[1 + k]'(by simp; omega) = s.data.toList[k + 1]'(by simp; omega)
  congr 1
  omega
theorem numAt_mul (s : ByteArray) (k : Nat) (hk : k < 8) (hs : k + 1 < s.size) (U : Int) (h : NumAt (s.data.toList.drop 1) k U) :
    NumAt (s.data.toList.drop 1) (k + 1) (IntKind.u64.wrap (IntKind.u64.wrap (U * 256) + IntKind.u64.wrap (s[k + 1].toNat : Int))) := by
  unfold NumAt at *
  rw [h, mul_step _ _ (num_take_lt _ _ hk) s[k + 1].toNat_lt, drop_take s k hs, num_snoc]
theorem num_finalL (l : List UInt8) (U : Int) (h : NumAt l 8 U) : wrap64 (IntKind.u64.wrap (U - 9223372036854775808)) = (numV (l.take 8)).n := by
  unfold NumAt at h
  have hl := num_lt (l.take 8)
  have h2 : num 0 (l.take 8) < 18446744073709551616 := Nat.lt_of_lt_of_le hl (Nat.pow_le_pow_right (j := 8) (by decide) (List.length_take_le _ _))
  show _ = (num 0 (l.take 8) : Int) - 9223372036854775808
  rw [h, IntKind.wrap_u64]
  unfold wrap64
  omega

set_option maxHeartbeats 2000000 in
set_option maxRecDepth 100000 in
theorem first_num (s : ByteArray) (w : World) (h9 : 9 ≤ s.size) (hq : s[0].toNat = 2) :
    Calls Try.prog 43 #[.string s] w fun e w' => e = .returned (.tuple #[.agg #[.int .i64 1, .int .i64 (numV ((s.data.toList.drop 1).take 8)).n, .string ⟨#[]⟩], .int .i64 9]) ∧ Below w.heap.size w w' := by
  have t : (s.size : Int) ≥ 9 := by omega
  have h0 : 0 < s.size := by omega
  obtain ⟨N, hN⟩ : ∃ N, (numV ((s.data.toList.drop 1).take 8)).n = N := ⟨_, rfl⟩
  have HNN := Lib.hid hN
  rw [hN]
  clear hN
  go_enter Try.func43, Try.ntmps43
  go_wp2
  go_loop [4, 5] (fun u i => ∃ (k : Nat) (U : Int), k ≤ 8 ∧ i = .int .i64 (k + 1) ∧ u = .int .u64 U ∧ Hid (NumAt (s.data.toList.drop 1) k U)) (fun _ i => 9 - (intOf i).toNat)
  case atStart => exact ⟨0, 0, by omega, rfl, rfl, rfl⟩
  case round =>
    obtain ⟨k, U, hk, rfl, rfl, HU⟩ := hrel
    by_cases hk8 : k < 8
    · have hx : (k : Int) + 1 < 9 := by omega
      have hy : (k : Int) + 1 < (s.size : Int) := by omega
      go_wp2
      go_round
      case rel => exact ⟨k + 1, _, by omega, by go_num, rfl, numAt_mul s k hk8 (by omega) U HU.out⟩
      case measure => simp [intOf]; omega
    · obtain rfl : k = 8 := by omega
      have HF := Lib.hid ((num_finalL _ U HU.out).trans HNN.out)
      clear HU HNN
      go_wp2
      rw [HF.out]
      exact bodyPost_ret (v := .tuple #[.agg #[.int .i64 1, .int .i64 N, .string ⟨#[]⟩], .int .i64 9]) (by simp [results, Try.results43, go_sem]) rfl ⟨rfl, (Below.refl _ _).alloc (Nat.le_refl _) _⟩

/-- How far a text has been read, by its place. -/
def PlaceAt (l : List UInt8) (i : Nat) (o : List UInt8) : Prop := unesc (l.drop 1) = (unesc (l.drop i)).map (fun p => (o ++ p.1, p.2))

theorem drop2 (s : ByteArray) (i : Nat) (h : i + 1 < s.size) : s.data.toList.drop i = s[i] :: s[i + 1] :: s.data.toList.drop (i + 2) := by
  rw [drop_at' s i (by omega), drop_at' s (i + 1) h]
theorem place_one {s : ByteArray} {i : Nat} {o : List UInt8} (h : PlaceAt s.data.toList i o) (hi : i + 1 < s.size) (hz : s[i].toNat ≠ 0) : PlaceAt s.data.toList (i + 1) (o ++ [s[i]]) := by
  unfold PlaceAt at *
  rw [h, drop2 s i hi, unesc_one _ _ _ hz, ← drop_at' s (i + 1) hi]
  cases unesc (s.data.toList.drop (i + 1)) <;> simp
theorem place_zero {s : ByteArray} {i : Nat} {o : List UInt8} (h : PlaceAt s.data.toList i o) (hi : i + 1 < s.size) (hz : s[i].toNat = 0) (hd : s[i + 1].toNat = 255) : PlaceAt s.data.toList (i + 2) (o ++ [s[i]]) := by
  unfold PlaceAt at *
  rw [h, drop2 s i hi, unesc_zero _ _ _ hz hd]
  cases unesc (s.data.toList.drop (i + 2)) <;> simp
theorem place_end {s : ByteArray} {i : Nat} {o : List UInt8} (h : PlaceAt s.data.toList i o) (hi : i + 1 < s.size) (hz : s[i].toNat = 0) (hd : s[i + 1].toNat = 1) : unesc (s.data.toList.drop 1) = some (o, s.data.toList.drop (i + 2)) := by
  unfold PlaceAt at h
  rw [h, drop2 s i hi, unesc_end _ _ _ hz hd]
  simp
theorem place_bad {s : ByteArray} {i : Nat} {o : List UInt8} (h : PlaceAt s.data.toList i o) (hi : i + 1 < s.size) (hz : s[i].toNat = 0) (hd : s[i + 1].toNat ≠ 255) (hd' : s[i + 1].toNat ≠ 1) : unesc (s.data.toList.drop 1) = none := by
  unfold PlaceAt at h
  rw [h, drop2 s i hi, unesc_bad _ _ _ hz hd hd']
  rfl
theorem place_out {s : ByteArray} {i : Nat} {o : List UInt8} (h : PlaceAt s.data.toList i o) (hi : ¬ i + 1 < s.size) : unesc (s.data.toList.drop 1) = none := by
  unfold PlaceAt at h
  rw [h, unesc_short _ (by simp; omega)]
  rfl

/-- What first answers where a text begins. -/
def FirstText (s : ByteArray) (e : Ending) : Prop :=
  (∃ (t : List UInt8) (i : Nat), i + 1 < s.size ∧ unesc (s.data.toList.drop 1) = some (t, s.data.toList.drop (i + 2)) ∧ e = .returned (.tuple #[.agg #[.int .i64 2, .int .i64 0, .string ⟨t.toArray⟩], .int .i64 ((i + 2 : Nat) : Int)])) ∨
    (unesc (s.data.toList.drop 1) = none ∧ e = .returned (.tuple #[.agg #[.int .i64 0, .int .i64 0, .string ⟨#[]⟩], .int .i64 0]))

set_option maxHeartbeats 8000000 in
set_option maxRecDepth 100000 in
theorem first_text (s : ByteArray) (w : World) (h0 : 0 < s.size) (hm : s.size ≤ 140737488351232) (hq : s[0].toNat = 3) :
    Calls Try.prog 43 #[.string s] w fun e w' => FirstText s e ∧ Below w.heap.size w w' := by
  obtain ⟨iB, hi, hz0, hz1, hz2⟩ := info_parts infoByte
  go_enter Try.func43, Try.ntmps43
  go_wp2
  go_loopw [6, 7] (fun v i wr => ∃ (k : Nat) (o : List UInt8), 1 ≤ k ∧ k ≤ s.size ∧ i = .int .i64 k ∧ wr.ownsRow (w.heap.size + 1) 5 1 v o.length (Lib.byteCells o) ∧ Below (w.heap.size + 1) (w.alloc zeroV) wr ∧ o.length ≤ k ∧ Hid (PlaceAt s.data.toList k o)) (fun _ i _ => s.size - (intOf i).toNat)
  case atStart => exact ⟨1, [], by omega, h0, rfl, World.ownsRow_nil _ _ _ _, Below.refl _ _, by simp, by show unesc _ = _; cases unesc (s.data.toList.drop 1) <;> simp⟩
  case round =>
    clear hq
    obtain ⟨k, o, hk1, hk2, rfl, hown, hb, hol, HP⟩ := hrel
    have hsz := hb.size
    simp at hsz
    by_cases hin : k + 1 < s.size
    · have z0 : (k : Int) + 1 < (s.size : Int) := by omega
      have z1 : (k : Int) < (s.size : Int) := by omega
      by_cases hz : s[k].toNat = 0
      · have tz : ((s[k].toNat : Int) == 0) = true := by rw [hz]; rfl
        by_cases hd1 : s[k + 1].toNat = 1
        · have td : ((s[k + 1].toNat : Int) == 1) = true := by rw [hd1]; rfl
          have HN := Lib.hid (place_end HP.out hin hz hd1)
          have hcv := conv_own hown
          obtain ⟨r0, r1, r2, g0, g1, g2⟩ := res_below hb
          clear hz hd1 HP
          go_wp2
          exact bodyPost_ret (v := .tuple #[.agg #[.int .i64 2, .int .i64 0, .string ⟨o.toArray⟩], .int .i64 ((k : Int) + 2)]) (by simp [results, Try.results43, go_sem, r0, r1, r2]) rfl ⟨.inl ⟨o, k, hin, HN.out, rfl⟩, (((below_start hb).setCell (by simp) _).setCell (by simp) _).setCell (by simp) _⟩
        · have td : ((s[k + 1].toNat : Int) == 1) = false := by rw [beq_eq_false_iff_ne]; omega
          by_cases hd : s[k + 1].toNat = 255
          · have td2 : ((s[k + 1].toNat : Int) != 255) = false := by rw [hd]; rfl
            have HN := Lib.hid (place_zero HP.out hin hz hd)
            clear hz hd hd1 HP
            go_wp2_with (at_builtin; refine wpList_append_own _ rfl _ _ 87 rfl (w.heap.size + 1) 5 iB (.int .u8 0) 1 1 Try.underlying87 hi hz0 hz1 hz2 rfl (by decide) _ _ _ rfl (hown.alloc _) ⟨wr.heap.size, 0, none⟩ 1 1 [Value.int .u8 s[k].toNat] rfl rfl (news_one _ _ _) (by intro u' hu'; simp at hu'; subst hu'; rfl) (by unfold maxLen; omega) (by omega) (by simp; omega) ?_; intro v2 w2 hown2 hgrow2 _; refine Hid.out ?_)
            refine Lib.hid ?_
            have hb2 : Below (w.heap.size + 1) (w.alloc zeroV) w2 := (hb.alloc (by omega) _).grown hgrow2 (by simp; omega) (fun k hk => (hown.lt k hk).1)
            go_wp2
            exact ⟨⟨k + 2, o ++ [s[k]], by omega, by omega, by go_num, own_byte hown2, hb2, by simp; omega, HN⟩, by simp [intOf]; omega⟩
          · have td2 : ((s[k + 1].toNat : Int) != 255) = true := by rw [bne_iff_ne]; omega
            have HN := Lib.hid (place_bad HP.out hin hz hd hd1)
            clear hz hd hd1 HP
            go_wp2_with (at_builtin; refine wpList_append_own _ rfl _ _ 87 rfl (w.heap.size + 1) 5 iB (.int .u8 0) 1 1 Try.underlying87 hi hz0 hz1 hz2 rfl (by decide) _ _ _ rfl (hown.alloc _) ⟨wr.heap.size, 0, none⟩ 1 1 [Value.int .u8 s[k].toNat] rfl rfl (news_one _ _ _) (by intro u' hu'; simp at hu'; subst hu'; rfl) (by unfold maxLen; omega) (by omega) (by simp; omega) ?_; intro v2 w2 hown2 hgrow2 _; refine Hid.out ?_)
            refine Lib.hid ?_
            have hb2 : Below (w.heap.size + 1) (w.alloc zeroV) w2 := (hb.alloc (by omega) _).grown hgrow2 (by simp; omega) (fun k hk => (hown.lt k hk).1)
            obtain ⟨r0, r1, r2, g0, g1, g2⟩ := res_below hb2
            go_wp2
            exact bodyPost_ret (v := .tuple #[.agg #[.int .i64 0, .int .i64 0, .string ⟨#[]⟩], .int .i64 0]) (by simp [results, Try.results43, go_sem, r0, r1, r2]) rfl ⟨.inr ⟨HN.out, rfl⟩, (((below_start hb2).setCell (by simp) _).setCell (by simp) _).setCell (by simp) _⟩
      · have tz : ((s[k].toNat : Int) == 0) = false := by rw [beq_eq_false_iff_ne]; omega
        have HN := Lib.hid (place_one HP.out hin hz)
        clear hz HP
        go_wp2_with (at_builtin; refine wpList_append_own _ rfl _ _ 87 rfl (w.heap.size + 1) 5 iB (.int .u8 0) 1 1 Try.underlying87 hi hz0 hz1 hz2 rfl (by decide) _ _ _ rfl (hown.alloc _) ⟨wr.heap.size, 0, none⟩ 1 1 [Value.int .u8 s[k].toNat] rfl rfl (news_one _ _ _) (by intro u' hu'; simp at hu'; subst hu'; rfl) (by unfold maxLen; omega) (by omega) (by simp; omega) ?_; intro v2 w2 hown2 hgrow2 _; refine Hid.out ?_)
        refine Lib.hid ?_
        have hb2 : Below (w.heap.size + 1) (w.alloc zeroV) w2 := (hb.alloc (by omega) _).grown hgrow2 (by simp; omega) (fun k hk => (hown.lt k hk).1)
        go_wp2
        exact ⟨⟨k + 1, o ++ [s[k]], by omega, by omega, by go_num, own_byte hown2, hb2, by simp; omega, HN⟩, by simp [intOf]; omega⟩
    · have z0 : ¬ (k : Int) + 1 < (s.size : Int) := by omega
      have HN := Lib.hid (place_out HP.out hin)
      obtain ⟨r0, r1, r2, g0, g1, g2⟩ := res_below hb
      clear HP
      go_wp2
      exact bodyPost_ret (v := .tuple #[.agg #[.int .i64 0, .int .i64 0, .string ⟨#[]⟩], .int .i64 0]) (by simp [results, Try.results43, go_sem, r0, r1, r2]) rfl ⟨.inr ⟨HN.out, rfl⟩, (((below_start hb).setCell (by simp) _).setCell (by simp) _).setCell (by simp) _⟩
end Go.Proofs.Ytbepekgaipipjaa
