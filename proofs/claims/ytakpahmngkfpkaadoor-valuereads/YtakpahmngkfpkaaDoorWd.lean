/- The walk of value.appendText: the text between quotes, each quote of it twice; and what the walks want of the package-level variables. -/
import Derived.Test.YtakpahmngkfpkaaDoorWa
import Derived.Test.YtakpahmngkfpkaaDoorShelf
import Derived.Lib.AppendIntMem
import Derived.Lib.AppendStr
import Derived.Lib.ItoaLen
import Derived.Lib.Slices
import Derived.Lib.Hide
import Derived.Laws.IdiomStrings
import Derived.Laws.BytesArg
import Derived.OwnWalk
import Derived.BigCall
namespace Go.Proofs.YtakpahmngkfpkaaDoor
open Go.RowKit

def dbl (l : List UInt8) : List UInt8 := l.flatMap fun c => if c.toNat = 39 then [39, 39] else [c]
theorem dbl_snoc_q (l : List UInt8) (c : UInt8) (h : c.toNat = 39) : dbl (l ++ [c]) = dbl l ++ [39, 39] := by simp [dbl, h]
theorem dbl_snoc (l : List UInt8) (c : UInt8) (h : c.toNat ≠ 39) : dbl (l ++ [c]) = dbl l ++ [c] := by simp [dbl, h]
theorem dbl_le (l : List UInt8) : (dbl l).length ≤ 2 * l.length := by
  induction l with
  | nil => simp [dbl]
  | cons c r ih =>
    have e : dbl (c :: r) = (if c.toNat = 39 then [39, 39] else [c]) ++ dbl r := by simp [dbl]
    rw [e, List.length_append, List.length_cons]
    split <;> simp <;> omega
theorem take_snoc (s : ByteArray) (k : Nat) (h : k < s.size) : s.data.toList.take (k + 1) = s.data.toList.take k ++ [s[k]] := by
  rw [List.take_succ_eq_append_getElem (by simpa using h)]; rfl
theorem infoByte : (Tryd.prog.info? 5).map (fun i => (i.zero, i.size, i.bytes)) = some (some (.int .u8 0), 1, 1) := by kernel_rfl

theorem conv_own {B : Nat} {v : Value} {l : List UInt8} {w : World} (h : w.ownsRow B 5 1 v l.length (Lib.byteCells l)) : (Go.convert 45 9 v).run Tryd.prog w = .ok (.string ⟨l.toArray⟩) w := by
  rcases h.2 with ⟨hv, h0⟩ | ⟨g, cap, cur, hv, _, _, _⟩
  · have : l = [] := by simpa using h0
    subst this
    subst hv
    exact run_convert_bytes_nil (P := Tryd.prog) w 45 5 Tryd.underlying45 Tryd.underlying5 0 0 9 Tryd.underlying9
  · subst hv
    exact run_convert_bytes_back (P := Tryd.prog) w 45 9 5 ⟨g, 0, none⟩ cap l Tryd.underlying45 Tryd.underlying5 Tryd.underlying9 (fun j hj => h.cells (g := g) rfl j _ (by simp [Lib.byteCells, hj]))

theorem news_one (w : World) (c : Value) (t : TypeId) : ∀ j u, [c][j]? = some u → (w.alloc (.cells #[c] t)).cell? ((⟨w.heap.size, 0, none⟩ : Addr).add j) = some u := by
  intro j u hj
  match j, hj with
  | 0, hj => simp at hj; subst hj; simp [Addr.add]

set_option maxHeartbeats 1000000 in
set_option maxRecDepth 100000 in
theorem appendText_any (s : ByteArray) (w : World) (hs : s.size ≤ 64) :
    Calls Tryd.prog 24 #[.slice none 0 0, .string s] w fun e w' => ∃ v, e = .returned v ∧ w'.ownsRow w.heap.size 5 1 v (39 :: (dbl s.data.toList ++ [39])).length (Lib.byteCells (39 :: (dbl s.data.toList ++ [39]))) ∧ Below w.heap.size w w' := by
  obtain ⟨i0, hi, hz0, hz1, hz2⟩ := info_parts infoByte
  go_enter Tryd.func24, Tryd.ntmps24
  go_wp2_with (at_builtin; refine wpList_append_own _ rfl _ _ 45 rfl w.heap.size 5 i0 (.int .u8 0) 1 1 Tryd.underlying45 hi hz0 hz1 hz2 rfl (by decide) (.slice none 0 0) 0 [] rfl (World.ownsRow_nil _ _ _ _) ⟨w.heap.size, 0, none⟩ 1 1 [Value.int .u8 39] rfl rfl (news_one _ _ _) (by intro u' hu'; simp at hu'; subst hu'; rfl) (by unfold maxLen; omega) (by omega) (by simp) ?_; intro v1 w1 hown1 hgrow1 _; refine Hid.out ?_)
  refine Lib.hid ?_
  have hb1 : Below w.heap.size w w1 := ((Below.refl _ w).alloc (Nat.le_refl _) _).grown hgrow1 (by simp) (by intro k hk; exact absurd hk (by simp [Value.ownBlock]))
  go_wp2
  go_loopw [0, 11] (fun v i wr => ∃ k : Nat, k ≤ s.size ∧ i = .int .i64 k ∧ wr.ownsRow w.heap.size 5 1 v (39 :: dbl (s.data.toList.take k)).length (Lib.byteCells (39 :: dbl (s.data.toList.take k))) ∧ Below w.heap.size w wr) (fun _ i _ => s.size - (intOf i).toNat)
  case atStart => exact ⟨0, by omega, rfl, hown1, hb1⟩
  case round =>
    obtain ⟨k, hk, rfl, hown, hb⟩ := hrel
    have hsz := hb.size
    obtain ⟨L, hL⟩ : ∃ L, L = 39 :: dbl (s.data.toList.take k) := ⟨_, rfl⟩
    have hln : L.length ≤ 129 := by
      have h1 := dbl_le (s.data.toList.take k)
      have h2 : (s.data.toList.take k).length ≤ k := List.length_take_le _ _
      rw [hL, List.length_cons]
      omega
    rw [← hL] at hown
    have HL := Lib.hid hL
    clear hL
    by_cases hlt : k < s.size
    · have hts := take_snoc s k hlt
      by_cases hq : s[k].toNat = 39
      · have HN : Hid (39 :: dbl (s.data.toList.take (k + 1)) = L ++ [39] ++ [s[k]]) := by
          show _ = _
          rw [hts, dbl_snoc_q _ _ hq, HL.out]
          have : s[k] = 39 := UInt8.toNat_inj.1 hq
          rw [this]
          simp
        clear hts
        have hq' : ((s[k].toNat : Int) == 39) = true := by rw [hq]; rfl
        clear hq
        go_wp2_with (at_builtin; refine wpList_append_own _ rfl _ _ 45 rfl w.heap.size 5 i0 (.int .u8 0) 1 1 Tryd.underlying45 hi hz0 hz1 hz2 rfl (by decide) _ _ _ rfl (hown.alloc _) ⟨wr.heap.size, 0, none⟩ 1 1 [Value.int .u8 39] rfl rfl (news_one _ _ _) (by intro u' hu'; simp at hu'; subst hu'; rfl) (by unfold maxLen; omega) (by omega) (by simp; omega) ?_; intro v2 w2 hown2 hgrow2 _; refine Hid.out ?_)
        refine Lib.hid ?_
        have hb2 : Below w.heap.size w w2 := (hb.alloc hsz _).grown hgrow2 (by simp; omega) (fun k hk => (hown.lt k hk).1)
        have hsz2 := hb2.size
        go_wp2_with (at_builtin; refine wpList_append_own _ rfl _ _ 45 rfl w.heap.size 5 i0 (.int .u8 0) 1 1 Tryd.underlying45 hi hz0 hz1 hz2 rfl (by decide) _ _ _ rfl (hown2.alloc _) ⟨w2.heap.size, 0, none⟩ 1 1 [Value.int .u8 s[k].toNat] rfl rfl (news_one _ _ _) (by intro u' hu'; simp at hu'; subst hu'; rfl) (by unfold maxLen; omega) (by omega) (by simp; omega) ?_; intro v3 w3 hown3 hgrow3 _; refine Hid.out ?_)
        refine Lib.hid ?_
        have hb3 : Below w.heap.size w w3 := (hb2.alloc hsz2 _).grown hgrow3 (by simp; omega) (fun k hk => (hown2.lt k hk).1)
        go_wp2
        refine ⟨⟨k + 1, by omega, by go_num, ?_, hb3⟩, by simp [intOf]; omega⟩
        rw [HN.out]
        have e1 : (L ++ [39] ++ [s[k]]).length = L.length + 1 + 1 := by simp
        have e2 : Lib.byteCells (L ++ [39] ++ [s[k]]) = Lib.byteCells L ++ [Value.int .u8 39] ++ [Value.int .u8 s[k].toNat] := by simp [Lib.byteCells]
        rw [e1, e2]
        exact hown3
      · have HN : Hid (39 :: dbl (s.data.toList.take (k + 1)) = L ++ [s[k]]) := by
          show _ = _
          rw [hts, dbl_snoc _ _ hq, HL.out]
          simp
        clear hts
        have hq' : ((s[k].toNat : Int) == 39) = false := by rw [beq_eq_false_iff_ne]; omega
        clear hq
        go_wp2_with (at_builtin; refine wpList_append_own _ rfl _ _ 45 rfl w.heap.size 5 i0 (.int .u8 0) 1 1 Tryd.underlying45 hi hz0 hz1 hz2 rfl (by decide) _ _ _ rfl (hown.alloc _) ⟨wr.heap.size, 0, none⟩ 1 1 [Value.int .u8 s[k].toNat] rfl rfl (news_one _ _ _) (by intro u' hu'; simp at hu'; subst hu'; rfl) (by unfold maxLen; omega) (by omega) (by simp; omega) ?_; intro v2 w2 hown2 hgrow2 _; refine Hid.out ?_)
        refine Lib.hid ?_
        have hb2 : Below w.heap.size w w2 := (hb.alloc hsz _).grown hgrow2 (by simp; omega) (fun k hk => (hown.lt k hk).1)
        go_wp2
        refine ⟨⟨k + 1, by omega, by go_num, ?_, hb2⟩, by simp [intOf]; omega⟩
        rw [HN.out]
        have e1 : (L ++ [s[k]]).length = L.length + 1 := by simp
        have e2 : Lib.byteCells (L ++ [s[k]]) = Lib.byteCells L ++ [Value.int .u8 s[k].toNat] := by simp [Lib.byteCells]
        rw [e1, e2]
        exact hown2
    · have HN : Hid (39 :: (dbl s.data.toList ++ [39]) = L ++ [39]) := by
        show _ = _
        rw [HL.out, List.take_of_length_le (by simp; omega)]
        simp
      go_wp2_with (at_builtin; refine wpList_append_own _ rfl _ _ 45 rfl w.heap.size 5 i0 (.int .u8 0) 1 1 Tryd.underlying45 hi hz0 hz1 hz2 rfl (by decide) _ _ _ rfl (hown.alloc _) ⟨wr.heap.size, 0, none⟩ 1 1 [Value.int .u8 39] rfl rfl (news_one _ _ _) (by intro u' hu'; simp at hu'; subst hu'; rfl) (by unfold maxLen; omega) (by omega) (by simp; omega) ?_; intro v2 w2 hown2 hgrow2 _; refine Hid.out ?_)
      refine Lib.hid ?_
      have hb2 : Below w.heap.size w w2 := (hb.alloc hsz _).grown hgrow2 (by simp; omega) (fun k hk => (hown.lt k hk).1)
      go_wp2
      go_ret
      refine ⟨v2, rfl, ?_, hb2⟩
      have e0 : ((dbl s.data.toList ++ [39]).length + 1) = (39 :: (dbl s.data.toList ++ [39])).length := rfl
      have e1 : (L ++ [39]).length = L.length + 1 := by simp
      have e2 : Lib.byteCells (L ++ [39]) = Lib.byteCells L ++ [Value.int .u8 39] := by simp [Lib.byteCells]
      rw [e0, HN.out, e1, e2]
      exact hown2
end Go.Proofs.YtakpahmngkfpkaaDoor
