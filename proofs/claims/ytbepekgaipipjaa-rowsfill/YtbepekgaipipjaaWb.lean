/- The walks of keys.appendNumber and keys.appendText. -/
import Derived.Test.YtbepekgaipipjaaYb
import Derived.Test.YtbepekgaipipjaaRows
import Derived.WalkKit
import Derived.WalkSpells
import Derived.WalkLawsBesides
import Derived.Lib.Slices
import Derived.Lib.Hide
import Derived.Laws.IdiomStrings
import Derived.Laws.BytesArg
import Derived.OwnWalk
import Derived.BigCall
namespace Go.Proofs.Ytbepekgaipipjaa
open Go.RowKit

theorem infoByte : (Try.prog.info? 5).map (fun i => (i.zero, i.size, i.bytes)) = some (some (.int .u8 0), 1, 1) := by kernel_rfl
theorem news_one (w : World) (c : Value) (t : TypeId) : ∀ j u, [c][j]? = some u → (w.alloc (.cells #[c] t)).cell? ((⟨w.heap.size, 0, none⟩ : Addr).add j) = some u := by
  intro j u hj
  match j, hj with
  | 0, hj => simp at hj; subst hj; simp [Addr.add]
theorem news_two (w : World) (c d : Value) (t : TypeId) : ∀ j u, [c, d][j]? = some u → (w.alloc (.cells #[c, d] t)).cell? ((⟨w.heap.size, 0, none⟩ : Addr).add j) = some u := by
  intro j u hj
  match j, hj with
  | 0, hj => simp at hj; subst hj; simp [Addr.add]
  | 1, hj => simp at hj; subst hj; simp [Addr.add]

theorem be_get : ∀ (j m k : Nat) (h : k < j), (be j m)[k]'(by rw [be_len]; exact h) = UInt8.ofNat (m / 256 ^ (j - 1 - k))
  | j + 1, m, 0, _ => rfl
  | j + 1, m, k + 1, h => by
    show (be j m)[k]'(by rw [be_len]; omega) = _
    rw [be_get j m k (by omega)]
    congr 3
    omega

/-- How many bytes the cells are, and what the next one is. -/
theorem be_step (l : List UInt8) (U : Int) (m : Nat) (hU : U = m) (k : Nat) (hk : k < 8) :
    Lib.byteCells (l ++ (be 8 m).take (k + 1)) = Lib.byteCells (l ++ (be 8 m).take k) ++ [Value.int .u8 (U / ((256 ^ (7 - k) : Nat) : Int) % 256)] := by
  have hl : k < (be 8 m).length := by rw [be_len]; exact hk
  rw [List.take_succ_eq_append_getElem hl, be_get 8 m k hk, hU]
  have e : (m : Int) / ((256 ^ (7 - k) : Nat) : Int) % 256 = ((UInt8.ofNat (m / 256 ^ (8 - 1 - k))).toNat : Int) := by
    rw [UInt8.toNat_ofNat', ← Int.natCast_ediv]
    show ((m / 256 ^ (7 - k) : Nat) : Int) % ((256 : Nat) : Int) = _
    rw [← Int.natCast_emod]
  rw [e]
  simp [Lib.byteCells]
theorem be_one (l : List UInt8) (m : Nat) (k : Nat) (hk : k < 8) : (l ++ (be 8 m).take (k + 1)).length = (l ++ (be 8 m).take k).length + 1 := by
  simp [be_len]
  omega
theorem wrapU (n : Int) (h0 : -9223372036854775808 ≤ n) (h1 : n ≤ 9223372036854775807) : IntKind.u64.wrap (IntKind.u64.wrap n + 9223372036854775808) = (bias n : Int) := by
  rw [IntKind.wrap_u64, IntKind.wrap_u64]
  unfold bias
  omega

/-- What a number may be. -/
structure Fit (n : Int) : Prop where
  lo : -9223372036854775808 ≤ n
  hi : n ≤ 9223372036854775807

set_option maxHeartbeats 2000000 in
set_option maxRecDepth 100000 in
theorem appendNumber_any (v : Value) (l : List UInt8) (B : Nat) (n : Int) (w : World) (hf : Fit n) (hown : w.ownsRow B 5 1 v l.length (Lib.byteCells l)) (hB : B ≤ w.heap.size) (hl : l.length ≤ 10000) :
    Calls Try.prog 59 #[v, .int .i64 n] w fun e w' => ∃ v', e = .returned v' ∧ w'.ownsRow B 5 1 v' (l ++ be 8 (bias n)).length (Lib.byteCells (l ++ be 8 (bias n))) ∧ Below B w w' := by
  obtain ⟨i0, hi, hz0, hz1, hz2⟩ := info_parts infoByte
  obtain ⟨U, hU⟩ : ∃ U, IntKind.u64.wrap (IntKind.u64.wrap n + 9223372036854775808) = U := ⟨_, rfl⟩
  obtain ⟨m, hm⟩ : ∃ m, bias n = m := ⟨_, rfl⟩
  have HU : Hid (U = m) := by
    show U = m
    rw [← hU, ← hm]
    exact wrapU n hf.lo hf.hi
  rw [hm]
  clear hm hf
  go_enter Try.func59, Try.ntmps59
  go_wp2
  clear hU
  go_loopw [0, 10] (fun v i wr => ∃ k : Nat, k ≤ 8 ∧ i = .int .i64 k ∧ wr.ownsRow B 5 1 v (l ++ (be 8 m).take k).length (Lib.byteCells (l ++ (be 8 m).take k)) ∧ Below B w wr) (fun _ i _ => 8 - (intOf i).toNat)
  case atStart => exact ⟨0, by omega, rfl, by simpa using hown, Below.refl _ _⟩
  case round =>
    obtain ⟨k, hk, rfl, hown, hb⟩ := hrel
    have hsz : B ≤ wr.heap.size := Nat.le_trans hB hb.size
    have hln : (l ++ (be 8 m).take k).length ≤ 10008 := by simp [be_len]; omega
    match k, hk with
    | 8, _ =>
      go_wp2
      go_ret
      refine ⟨_, rfl, ?_, hb⟩
      rw [List.take_of_length_le (by rw [be_len]; omega)] at hown
      exact hown
    | 0, _ | 1, _ | 2, _ | 3, _ | 4, _ | 5, _ | 6, _ | 7, _ =>
      go_wp2_with (at_builtin; refine wpList_append_own _ rfl _ _ 87 rfl B 5 i0 (.int .u8 0) 1 1 Try.underlying87 hi hz0 hz1 hz2 rfl (by decide) _ _ _ rfl (hown.alloc _) ⟨wr.heap.size, 0, none⟩ 1 1 [Value.int .u8 _] rfl rfl (news_one _ _ _) (by intro u' hu'; simp at hu'; subst hu'; rfl) (by unfold maxLen; omega) (by omega) (by simp; omega) ?_; intro v2 w2 hown2 hgrow2 _; refine Hid.out ?_)
      refine Lib.hid ?_
      have hb2 : Below B w w2 := (hb.alloc hsz _).grown hgrow2 (by simp; omega) (fun k hk => (hown.lt k hk).1)
      go_wp2
      refine ⟨⟨_, ?_, by go_num, ?_, hb2⟩, by simp [intOf]⟩
      · decide
      · rw [be_step l U m HU.out _ (by decide), be_one l m _ (by decide)]
        first
          | exact hown2
          | (have e7 : U / ((256 ^ (7 - 7) : Nat) : Int) = U := by simp
             rw [e7]
             exact hown2)

theorem esc_snoc_z (l : List UInt8) (c : UInt8) (h : c.toNat = 0) : esc (l ++ [c]) = esc l ++ [c, 255] := by
  induction l with
  | nil => simp [esc, h]
  | cons d r ih =>
    rw [List.cons_append, esc, esc]
    split <;> rw [ih] <;> rfl
theorem esc_snoc (l : List UInt8) (c : UInt8) (h : c.toNat ≠ 0) : esc (l ++ [c]) = esc l ++ [c] := by
  induction l with
  | nil => simp [esc, h]
  | cons d r ih =>
    rw [List.cons_append, esc, esc]
    split <;> rw [ih] <;> rfl
theorem esc_le (l : List UInt8) : (esc l).length ≤ 2 * l.length := by
  induction l with
  | nil => simp [esc]
  | cons c r ih =>
    rw [esc]
    split <;> simp <;> omega
theorem take_snoc (s : ByteArray) (k : Nat) (h : k < s.size) : s.data.toList.take (k + 1) = s.data.toList.take k ++ [s[k]] := by
  rw [List.take_succ_eq_append_getElem (by simpa using h)]; rfl

set_option maxHeartbeats 2000000 in
set_option maxRecDepth 100000 in
theorem appendText_any (v : Value) (l : List UInt8) (B : Nat) (s : ByteArray) (w : World) (hs : s.size ≤ 64) (hown : w.ownsRow B 5 1 v l.length (Lib.byteCells l)) (hB : B ≤ w.heap.size) (hl : l.length ≤ 10000) :
    Calls Try.prog 60 #[v, .string s] w fun e w' => ∃ v', e = .returned v' ∧ w'.ownsRow B 5 1 v' (l ++ (esc s.data.toList ++ [0, 1])).length (Lib.byteCells (l ++ (esc s.data.toList ++ [0, 1]))) ∧ Below B w w' := by
  obtain ⟨i0, hi, hz0, hz1, hz2⟩ := info_parts infoByte
  obtain ⟨R, hR⟩ : ∃ R, R = l ++ (esc s.data.toList ++ [0, 1]) := ⟨_, rfl⟩
  rw [← hR]
  have HR := Lib.hid hR
  clear hR
  go_enter Try.func60, Try.ntmps60
  go_wp2
  go_loopw [0, 8] (fun v i wr => ∃ k : Nat, k ≤ s.size ∧ i = .int .i64 k ∧ wr.ownsRow B 5 1 v (l ++ esc (s.data.toList.take k)).length (Lib.byteCells (l ++ esc (s.data.toList.take k))) ∧ Below B w wr) (fun _ i _ => s.size - (intOf i).toNat)
  case atStart => exact ⟨0, by omega, rfl, by simpa [esc] using hown, Below.refl _ _⟩
  case round =>
    obtain ⟨k, hk, rfl, hown, hb⟩ := hrel
    have hsz : B ≤ wr.heap.size := Nat.le_trans hB hb.size
    obtain ⟨L, hL⟩ : ∃ L, L = l ++ esc (s.data.toList.take k) := ⟨_, rfl⟩
    have hln : L.length ≤ 10128 := by
      have h1 := esc_le (s.data.toList.take k)
      have h2 : (s.data.toList.take k).length ≤ k := List.length_take_le _ _
      rw [hL, List.length_append]
      omega
    rw [← hL] at hown
    have HL := Lib.hid hL
    clear hL
    by_cases hlt : k < s.size
    · have hts := take_snoc s k hlt
      by_cases hq : s[k].toNat = 0
      · have HN : Hid (l ++ esc (s.data.toList.take (k + 1)) = L ++ [s[k]] ++ [255]) := by
          show _ = _
          rw [hts, esc_snoc_z _ _ hq, HL.out]
          simp
        clear hts
        have hq' : ((s[k].toNat : Int) == 0) = true := by rw [hq]; rfl
        clear hq
        go_wp2_with (at_builtin; refine wpList_append_own _ rfl _ _ 87 rfl B 5 i0 (.int .u8 0) 1 1 Try.underlying87 hi hz0 hz1 hz2 rfl (by decide) _ _ _ rfl (hown.alloc _) ⟨wr.heap.size, 0, none⟩ 1 1 [Value.int .u8 s[k].toNat] rfl rfl (news_one _ _ _) (by intro u' hu'; simp at hu'; subst hu'; rfl) (by unfold maxLen; omega) (by omega) (by simp; omega) ?_; intro v2 w2 hown2 hgrow2 _; refine Hid.out ?_)
        refine Lib.hid ?_
        have hb2 : Below B w w2 := (hb.alloc hsz _).grown hgrow2 (by simp; omega) (fun k hk => (hown.lt k hk).1)
        have hsz2 : B ≤ w2.heap.size := Nat.le_trans hB hb2.size
        go_wp2_with (at_builtin; refine wpList_append_own _ rfl _ _ 87 rfl B 5 i0 (.int .u8 0) 1 1 Try.underlying87 hi hz0 hz1 hz2 rfl (by decide) _ _ _ rfl (hown2.alloc _) ⟨w2.heap.size, 0, none⟩ 1 1 [Value.int .u8 255] rfl rfl (news_one _ _ _) (by intro u' hu'; simp at hu'; subst hu'; rfl) (by unfold maxLen; omega) (by omega) (by simp; omega) ?_; intro v3 w3 hown3 hgrow3 _; refine Hid.out ?_)
        refine Lib.hid ?_
        have hb3 : Below B w w3 := (hb2.alloc hsz2 _).grown hgrow3 (by simp; omega) (fun k hk => (hown2.lt k hk).1)
        go_wp2
        refine ⟨⟨k + 1, by omega, by go_num, ?_, hb3⟩, by simp [intOf]; omega⟩
        rw [HN.out]
        have e1 : (L ++ [s[k]] ++ [255]).length = L.length + 1 + 1 := by simp
        have e2 : Lib.byteCells (L ++ [s[k]] ++ [255]) = Lib.byteCells L ++ [Value.int .u8 s[k].toNat] ++ [Value.int .u8 255] := by simp [Lib.byteCells]
        rw [e1, e2]
        exact hown3
      · have HN : Hid (l ++ esc (s.data.toList.take (k + 1)) = L ++ [s[k]]) := by
          show _ = _
          rw [hts, esc_snoc _ _ hq, HL.out]
          simp
        clear hts
        have hq' : ((s[k].toNat : Int) == 0) = false := by rw [beq_eq_false_iff_ne]; omega
        clear hq
        go_wp2_with (at_builtin; refine wpList_append_own _ rfl _ _ 87 rfl B 5 i0 (.int .u8 0) 1 1 Try.underlying87 hi hz0 hz1 hz2 rfl (by decide) _ _ _ rfl (hown.alloc _) ⟨wr.heap.size, 0, none⟩ 1 1 [Value.int .u8 s[k].toNat] rfl rfl (news_one _ _ _) (by intro u' hu'; simp at hu'; subst hu'; rfl) (by unfold maxLen; omega) (by omega) (by simp; omega) ?_; intro v2 w2 hown2 hgrow2 _; refine Hid.out ?_)
        refine Lib.hid ?_
        have hb2 : Below B w w2 := (hb.alloc hsz _).grown hgrow2 (by simp; omega) (fun k hk => (hown.lt k hk).1)
        go_wp2
        refine ⟨⟨k + 1, by omega, by go_num, ?_, hb2⟩, by simp [intOf]; omega⟩
        rw [HN.out]
        have e1 : (L ++ [s[k]]).length = L.length + 1 := by simp
        have e2 : Lib.byteCells (L ++ [s[k]]) = Lib.byteCells L ++ [Value.int .u8 s[k].toNat] := by simp [Lib.byteCells]
        rw [e1, e2]
        exact hown2
    · have HN : Hid (R = L ++ [0, 1]) := by
        show _ = _
        rw [HR.out, HL.out, List.take_of_length_le (by simp; omega), List.append_assoc]
      go_wp2_with (at_builtin; refine wpList_append_own _ rfl _ _ 87 rfl B 5 i0 (.int .u8 0) 1 1 Try.underlying87 hi hz0 hz1 hz2 rfl (by decide) _ _ _ rfl (hown.alloc _) ⟨wr.heap.size, 0, none⟩ 2 2 [Value.int .u8 0, Value.int .u8 1] rfl rfl (news_two _ _ _ _) (by intro u' hu'; simp at hu'; rcases hu' with rfl | rfl <;> rfl) (by unfold maxLen; omega) (by omega) (by simp; omega) ?_; intro v2 w2 hown2 hgrow2 _; refine Hid.out ?_)
      refine Lib.hid ?_
      have hb2 : Below B w w2 := (hb.alloc hsz _).grown hgrow2 (by simp; omega) (fun k hk => (hown.lt k hk).1)
      go_wp2
      go_ret
      refine ⟨_, rfl, ?_, hb2⟩
      have e1 : (L ++ [0, 1]).length = L.length + 2 := by simp
      have e2 : Lib.byteCells (L ++ [0, 1]) = Lib.byteCells L ++ [Value.int .u8 0, Value.int .u8 1] := by simp [Lib.byteCells]
      rw [HN.out, e1, e2]
      exact hown2
end Go.Proofs.Ytbepekgaipipjaa
