/- The walk of the document's text: what stands between two quotes. -/
import Derived.Test.YtakpahmngkfpkaaDoorZc
import Derived.Lib.Hide
namespace Go.Proofs.YtakpahmngkfpkaaDoor
open Go.RowKit

/-- What text answers, beside textL. -/
def textRel (l : List UInt8) (x : ByteArray) (b : Bool) : Prop :=
  match textL l with
  | some t => x = ⟨t.toArray⟩ ∧ b = true
  | none => b = false

def midL (s : ByteArray) : List UInt8 := (s.data.toList.drop 1).dropLast

theorem szl' (s : ByteArray) : s.size = s.data.toList.length := Array.length_toList.symm
theorem mid_len (s : ByteArray) : (midL s).length = s.size - 2 := by unfold midL; rw [List.length_dropLast, List.length_drop, ← szl']; omega
theorem mid_drop (s : ByteArray) (k : Nat) (h : k + 2 < s.size) : (midL s).drop k = s[k + 1] :: (midL s).drop (k + 1) := by
  have hl := mid_len s
  rw [List.drop_eq_getElem_cons (by omega)]
  congr 1
  unfold midL
  rw [List.getElem_dropLast, List.getElem_drop]
  have hz := szl' s
  show s.data.toList[1 + k]'(by omega) = s.data.toList[k + 1]'(by omega)
  congr 1
  omega
theorem mid_end (s : ByteArray) (k : Nat) (h : ¬ k + 2 < s.size) : (midL s).drop k = [] := List.drop_eq_nil_of_le (by rw [mid_len]; omega)

set_option maxHeartbeats 2000000 in
theorem text_short (s : ByteArray) (w : World) (h : s.size < 2) :
    Calls Tryd.prog 28 #[.string s] w fun e w' => e = .returned (.tuple #[.string ⟨#[]⟩, .bool false]) ∧ Below w.heap.size w w' := by
  have t1 : (s.size : Int) < 2 := by omega
  go_enter Tryd.func28, Tryd.ntmps28
  go_wp2
  go_ret2
  exact ⟨rfl, Below.refl _ _⟩

set_option maxHeartbeats 2000000 in
theorem text_noquote (s : ByteArray) (w : World) (h : 2 ≤ s.size) (hq : ((s[0].toNat : Int) != 39) = true) :
    Calls Tryd.prog 28 #[.string s] w fun e w' => e = .returned (.tuple #[.string ⟨#[]⟩, .bool false]) ∧ Below w.heap.size w w' := by
  have t1 : ¬ (s.size : Int) < 2 := by omega
  go_enter Tryd.func28, Tryd.ntmps28
  go_wp2
  go_ret2
  exact ⟨rfl, Below.refl _ _⟩

set_option maxHeartbeats 2000000 in
theorem text_noend (s : ByteArray) (w : World) (h : 2 ≤ s.size) (hq : ((s[0].toNat : Int) != 39) = false) (he : ((s[s.size - 1].toNat : Int) != 39) = true) (hsz : s.size ≤ maxLen) :
    Calls Tryd.prog 28 #[.string s] w fun e w' => e = .returned (.tuple #[.string ⟨#[]⟩, .bool false]) ∧ Below w.heap.size w w' := by
  unfold maxLen at hsz
  have t1 : (2 : Int) ≤ (s.size : Int) := by omega
  have t2 : (s.size : Int) ≤ 9223372036854775807 := by omega
  go_enter Tryd.func28, Tryd.ntmps28
  go_wp2
  go_ret2
  exact ⟨rfl, Below.refl _ _⟩

theorem map_app {a : List UInt8} {c : UInt8} (o : Option (List UInt8)) : (o.map (c :: ·)).map (a ++ ·) = o.map ((a ++ [c]) ++ ·) := by
  cases o with
  | none => rfl
  | some x => simp

/-- What the loop leaves, beside unq. -/
def midRel (s x : ByteArray) (b : Bool) : Prop :=
  match unq (midL s) with
  | some t => x = ⟨t.toArray⟩ ∧ b = decide ((t.length : Int) ≤ 64)
  | none => b = false
theorem midRel_none {s x : ByteArray} (h : unq (midL s) = none) : midRel s x false := by unfold midRel; rw [h]
theorem midRel_some {s : ByteArray} {t : List UInt8} (h : unq (midL s) = some t) : midRel s ⟨t.toArray⟩ (decide ((t.length : Int) ≤ 64)) := by unfold midRel; rw [h]; exact ⟨rfl, rfl⟩
theorem map_nil (o : Option (List UInt8)) : o = o.map ([] ++ ·) := by
  cases o with
  | none => rfl
  | some x => simp

set_option maxHeartbeats 4000000 in
set_option maxRecDepth 100000 in
theorem text_mid (s : ByteArray) (w : World) (h : 2 ≤ s.size) (hq : ((s[0].toNat : Int) != 39) = false) (he : ((s[s.size - 1].toNat : Int) != 39) = false) (hsz : s.size ≤ 140737488351232) :
    Calls Tryd.prog 28 #[.string s] w fun e w' => ∃ (x : ByteArray) (b : Bool), e = .returned (.tuple #[.string x, .bool b]) ∧ midRel s x b ∧ Below w.heap.size w w' := by
  have t1 : (2 : Int) ≤ (s.size : Int) := by omega
  have t2 : (s.size : Int) ≤ 9223372036854775807 := by omega
  obtain ⟨i0, hi, hz0, hz1, hz2⟩ := info_parts infoByte
  go_enter Tryd.func28, Tryd.ntmps28
  go_wp2
  go_loopw [4, 5] (fun v i wr => ∃ (k : Nat) (acc : List UInt8), k + 2 ≤ s.size ∧ i = .int .i64 ((k : Int) + 1) ∧ wr.ownsRow w.heap.size 5 1 v acc.length (Lib.byteCells acc) ∧ acc.length ≤ k ∧ Hid (unq (midL s) = (unq ((midL s).drop k)).map (acc ++ ·)) ∧ Below w.heap.size w wr) (fun _ i _ => s.size - (intOf i).toNat)
  case atStart => exact ⟨0, [], by omega, rfl, World.ownsRow_nil _ _ _ _, Nat.le_refl _, map_nil _, Below.refl _ _⟩
  case round =>
    obtain ⟨k, acc, hk, rfl, hown, hacc, HA, hb⟩ := hrel
    have hbz := hb.size
    by_cases hlt : k + 2 < s.size
    · have hda := mid_drop s k hlt
      have t4 : (k : Int) + 1 < (s.size : Int) - 1 := by omega
      by_cases hq2 : s[k + 1].toNat = 39
      · have hq2' : ((s[k + 1].toNat : Int) == 39) = true := by rw [hq2]; rfl
        by_cases hl2 : k + 3 < s.size
        · have hda2 := mid_drop s (k + 1) (by omega)
          have hne : ((k : Int) + 1 + 1 == (s.size : Int) - 1) = false := by rw [beq_eq_false_iff_ne]; omega
          by_cases hq3 : s[k + 1 + 1].toNat = 39
          · have hq3' : ((s[k + 1 + 1].toNat : Int) != 39) = false := by rw [hq3]; rfl
            have HN : Hid (unq (midL s) = (unq ((midL s).drop (k + 2))).map ((acc ++ [s[k + 1 + 1]]) ++ ·)) := by
              have hh := HA.out
              rw [hda, hda2, unq_q hq2 hq3, map_app] at hh
              exact hh
            clear hda hda2 hq2 hq3 HA
            go_wp2_with (at_builtin; refine wpList_append_own _ rfl _ _ 45 rfl w.heap.size 5 i0 (.int .u8 0) 1 1 Tryd.underlying45 hi hz0 hz1 hz2 rfl (by decide) _ _ _ rfl (hown.alloc _) ⟨wr.heap.size, 0, none⟩ 1 1 [Value.int .u8 s[k + 1 + 1].toNat] rfl rfl (news_one _ _ _) (by intro u' hu'; simp at hu'; subst hu'; rfl) (by unfold maxLen; omega) (by omega) (by simp; omega) ?_; intro v2 w2 hown2 hgrow2 _; refine Hid.out ?_)
            refine Lib.hid ?_
            have hb2 : Below w.heap.size w w2 := (hb.alloc hbz _).grown hgrow2 (by simp; omega) (fun k hk => (hown.lt k hk).1)
            go_wp2
            refine ⟨⟨k + 2, acc ++ [s[k + 1 + 1]], by omega, by go_num, ?_, by simp; omega, HN, hb2⟩, by simp [intOf]; omega⟩
            have e1 : (acc ++ [s[k + 1 + 1]]).length = acc.length + 1 := by simp
            have e2 : Lib.byteCells (acc ++ [s[k + 1 + 1]]) = Lib.byteCells acc ++ [Value.int .u8 s[k + 1 + 1].toNat] := by simp [Lib.byteCells]
            rw [e1, e2]
            exact hown2
          · have hq3' : ((s[k + 1 + 1].toNat : Int) != 39) = true := by rw [bne_iff_ne]; omega
            have HN : Hid (unq (midL s) = none) := by
              have hh := HA.out
              rw [hda, hda2, unq, if_pos hq2, if_neg hq3] at hh
              exact hh
            clear hda hda2 hq2 hq3 HA
            go_wp2
            go_ret2
            exact ⟨_, _, rfl, midRel_none HN.out, hb⟩
        · have hne : ((k : Int) + 1 + 1 == (s.size : Int) - 1) = true := by rw [beq_iff_eq]; omega
          have HN : Hid (unq (midL s) = none) := by
            have hh := HA.out
            rw [hda, mid_end s (k + 1) (by omega), unq, if_pos hq2] at hh
            exact hh
          clear hda hq2 HA
          go_wp2
          go_ret2
          exact ⟨_, _, rfl, midRel_none HN.out, hb⟩
      · have hq2' : ((s[k + 1].toNat : Int) == 39) = false := by rw [beq_eq_false_iff_ne]; omega
        have HN : Hid (unq (midL s) = (unq ((midL s).drop (k + 1))).map ((acc ++ [s[k + 1]]) ++ ·)) := by
          have hh := HA.out
          rw [hda, unq_other hq2, map_app] at hh
          exact hh
        clear hda hq2 HA
        go_wp2_with (at_builtin; refine wpList_append_own _ rfl _ _ 45 rfl w.heap.size 5 i0 (.int .u8 0) 1 1 Tryd.underlying45 hi hz0 hz1 hz2 rfl (by decide) _ _ _ rfl (hown.alloc _) ⟨wr.heap.size, 0, none⟩ 1 1 [Value.int .u8 s[k + 1].toNat] rfl rfl (news_one _ _ _) (by intro u' hu'; simp at hu'; subst hu'; rfl) (by unfold maxLen; omega) (by omega) (by simp; omega) ?_; intro v2 w2 hown2 hgrow2 _; refine Hid.out ?_)
        refine Lib.hid ?_
        have hb2 : Below w.heap.size w w2 := (hb.alloc hbz _).grown hgrow2 (by simp; omega) (fun k hk => (hown.lt k hk).1)
        go_wp2
        refine ⟨⟨k + 1, acc ++ [s[k + 1]], by omega, by go_num, ?_, by simp; omega, HN, hb2⟩, by simp [intOf]; omega⟩
        have e1 : (acc ++ [s[k + 1]]).length = acc.length + 1 := by simp
        have e2 : Lib.byteCells (acc ++ [s[k + 1]]) = Lib.byteCells acc ++ [Value.int .u8 s[k + 1].toNat] := by simp [Lib.byteCells]
        rw [e1, e2]
        exact hown2
    · have HN : Hid (unq (midL s) = some acc) := by
        have hh := HA.out
        rw [mid_end s k hlt] at hh
        show _ = _
        rw [hh]
        simp [unq]
      clear HA
      have t4 : ¬ (k : Int) + 1 < (s.size : Int) - 1 := by omega
      have hcv := conv_own hown
      obtain ⟨ao, cv, hv⟩ : ∃ ao cv, u4 = .slice ao acc.length cv := by
        rcases hown.2 with ⟨hv, h0⟩ | ⟨g, cap, cur, hv, _⟩
        · exact ⟨none, 0, by rw [hv, h0]⟩
        · exact ⟨_, _, hv⟩
      subst hv
      have HM := Lib.hid (midRel_some HN.out)
      cases c : decide ((acc.length : Int) ≤ 64)
      · rw [c] at HM
        go_wp2
        go_ret2
        first
          | exact ⟨_, _, rfl, HM.out, hb⟩
          | exact ⟨_, Or.inl ⟨rfl, HM.out, hb⟩⟩
      · rw [c] at HM
        go_wp2
        go_ret2
        first
          | exact ⟨_, _, rfl, HM.out, hb⟩
          | exact ⟨_, Or.inr ⟨rfl, HM.out, hb⟩⟩
end Go.Proofs.YtakpahmngkfpkaaDoor
