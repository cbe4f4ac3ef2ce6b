/- The walk of value.bare: of a text behind its first quote the bytes, one quote of each pair. -/
import Derived.Test.YtakpahmngkfpkaaDoorWe
namespace Go.Proofs.YtakpahmngkfpkaaDoor
open Go.RowKit

def bareL : List UInt8 → List UInt8
  | [] => []
  | [c] => if c.toNat = 39 then [] else [c]
  | c :: d :: r => if c.toNat = 39 then d :: bareL r else c :: bareL (d :: r)

theorem bareL_q {c d : UInt8} {r : List UInt8} (h : c.toNat = 39) : bareL (c :: d :: r) = d :: bareL r := by rw [bareL, if_pos h]
theorem bareL_end {c : UInt8} (h : c.toNat = 39) : bareL [c] = [] := by rw [bareL, if_pos h]
theorem bareL_other {c : UInt8} {r : List UInt8} (h : c.toNat ≠ 39) : bareL (c :: r) = c :: bareL r := by
  cases r with
  | nil => simp [bareL, h]
  | cons d r => rw [bareL, if_neg h]
theorem drop_at (s : ByteArray) (k : Nat) (h : k < s.size) : s.data.toList.drop k = s[k] :: s.data.toList.drop (k + 1) := by
  rw [List.drop_eq_getElem_cons (by simpa using h)]; rfl

set_option maxHeartbeats 1000000 in
set_option maxRecDepth 100000 in
theorem bare_any (s : ByteArray) (w : World) (hs : s.size ≤ 129) :
    Calls Tryd.prog 33 #[.string s] w fun e w' => e = .returned (.string ⟨(bareL s.data.toList).toArray⟩) ∧ Below w.heap.size w w' := by
  obtain ⟨i0, hi, hz0, hz1, hz2⟩ := info_parts infoByte
  go_enter Tryd.func33, Tryd.ntmps33
  go_wp2
  go_loopw [3, 4] (fun v i wr => ∃ (k : Nat) (acc : List UInt8), k ≤ s.size ∧ i = .int .i64 k ∧ wr.ownsRow w.heap.size 5 1 v acc.length (Lib.byteCells acc) ∧ acc.length ≤ k ∧ Hid (acc ++ bareL (s.data.toList.drop k) = bareL s.data.toList) ∧ Below w.heap.size w wr) (fun _ i _ => s.size - (intOf i).toNat)
  case atStart => exact ⟨0, [], by omega, rfl, World.ownsRow_nil _ _ _ _, Nat.le_refl _, rfl, Below.refl _ _⟩
  case round =>
    obtain ⟨k, acc, hk, rfl, hown, hacc, HA, hb⟩ := hrel
    have hsz := hb.size
    by_cases hlt : k < s.size
    · have hda := drop_at s k hlt
      by_cases hq : s[k].toNat = 39
      · have hq' : ((s[k].toNat : Int) == 39) = true := by rw [hq]; rfl
        by_cases hl2 : k + 1 < s.size
        · have hda2 := drop_at s (k + 1) hl2
          have HN : Hid (acc ++ [s[k + 1]] ++ bareL (s.data.toList.drop (k + 2)) = bareL s.data.toList) := by
            have h := HA.out
            rw [hda, hda2, bareL_q hq] at h
            show _ = _
            rw [← h]
            simp
          clear hda hda2 hq HA
          have hne : (((k : Int) + 1) == (s.size : Int)) = false := by rw [beq_eq_false_iff_ne]; omega
          go_wp2_with (at_builtin; refine wpList_append_own _ rfl _ _ 45 rfl w.heap.size 5 i0 (.int .u8 0) 1 1 Tryd.underlying45 hi hz0 hz1 hz2 rfl (by decide) _ _ _ rfl (hown.alloc _) ⟨wr.heap.size, 0, none⟩ 1 1 [Value.int .u8 s[k + 1].toNat] rfl rfl (news_one _ _ _) (by intro u' hu'; simp at hu'; subst hu'; rfl) (by unfold maxLen; omega) (by omega) (by simp; omega) ?_; intro v2 w2 hown2 hgrow2 _; refine Hid.out ?_)
          refine Lib.hid ?_
          have hb2 : Below w.heap.size w w2 := (hb.alloc hsz _).grown hgrow2 (by simp; omega) (fun k hk => (hown.lt k hk).1)
          go_wp2
          refine ⟨⟨k + 2, acc ++ [s[k + 1]], by omega, by go_num, ?_, by simp; omega, HN, hb2⟩, by simp [intOf]; omega⟩
          have e1 : (acc ++ [s[k + 1]]).length = acc.length + 1 := by simp
          have e2 : Lib.byteCells (acc ++ [s[k + 1]]) = Lib.byteCells acc ++ [Value.int .u8 s[k + 1].toNat] := by simp [Lib.byteCells]
          rw [e1, e2]
          exact hown2
        · have HN : Hid (acc = bareL s.data.toList) := by
            have h := HA.out
            rw [hda, List.drop_eq_nil_of_le (by simp; omega), bareL_end hq, List.append_nil] at h
            exact h
          clear hda hq HA
          have hne : (((k : Int) + 1) == (s.size : Int)) = true := by rw [beq_iff_eq]; omega
          have hcv := conv_own hown
          go_wp2
          go_ret
          rw [← HN.out]
          exact ⟨rfl, hb⟩
      · have hq' : ((s[k].toNat : Int) == 39) = false := by rw [beq_eq_false_iff_ne]; omega
        have HN : Hid (acc ++ [s[k]] ++ bareL (s.data.toList.drop (k + 1)) = bareL s.data.toList) := by
          have h := HA.out
          rw [hda, bareL_other hq] at h
          show _ = _
          rw [← h]
          simp
        clear hda hq HA
        go_wp2_with (at_builtin; refine wpList_append_own _ rfl _ _ 45 rfl w.heap.size 5 i0 (.int .u8 0) 1 1 Tryd.underlying45 hi hz0 hz1 hz2 rfl (by decide) _ _ _ rfl (hown.alloc _) ⟨wr.heap.size, 0, none⟩ 1 1 [Value.int .u8 s[k].toNat] rfl rfl (news_one _ _ _) (by intro u' hu'; simp at hu'; subst hu'; rfl) (by unfold maxLen; omega) (by omega) (by simp; omega) ?_; intro v2 w2 hown2 hgrow2 _; refine Hid.out ?_)
        refine Lib.hid ?_
        have hb2 : Below w.heap.size w w2 := (hb.alloc hsz _).grown hgrow2 (by simp; omega) (fun k hk => (hown.lt k hk).1)
        go_wp2
        refine ⟨⟨k + 1, acc ++ [s[k]], by omega, by go_num, ?_, by simp; omega, HN, hb2⟩, by simp [intOf]; omega⟩
        have e1 : (acc ++ [s[k]]).length = acc.length + 1 := by simp
        have e2 : Lib.byteCells (acc ++ [s[k]]) = Lib.byteCells acc ++ [Value.int .u8 s[k].toNat] := by simp [Lib.byteCells]
        rw [e1, e2]
        exact hown2
    · have HN : Hid (acc = bareL s.data.toList) := by
        have h := HA.out
        rw [List.drop_eq_nil_of_le (by simp; omega)] at h
        show _ = _
        rw [← h]
        simp [bareL]
      clear HA
      have hcv := conv_own hown
      go_wp2
      go_ret
      rw [← HN.out]
      exact ⟨rfl, hb⟩
end Go.Proofs.YtakpahmngkfpkaaDoor
