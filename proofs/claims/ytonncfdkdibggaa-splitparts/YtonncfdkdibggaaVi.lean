/- The walk of awake; SplitNil. -/
import Derived.Test.YtonncfdkdibggaaVh
namespace Go.Proofs.Ytonncfdkdibggaa
open Go.RowKit
section
variable {w w' W V X : World} {L : List ByteArray} {v : Value}
abbrev sb : ByteArray := ⟨#[98]⟩
abbrev sd : ByteArray := ⟨#[100]⟩
theorem aw_ok : okB [sb, sd] = true := by kernel_rfl
theorem aw_parts : partsB [sb, sd] ⟨#[97]⟩ ⟨#[99]⟩ 3 = [⟨0, ⟨#[97]⟩, sb⟩, ⟨1, sb, ⟨#[99]⟩⟩] := by kernel_rfl
theorem aw_find1 : findB [sb, sd] ⟨#[97]⟩ = 0 := by kernel_rfl
theorem aw_find2 : findB [sb, sd] ⟨#[98]⟩ = 1 := by kernel_rfl
theorem aw_find3 : findB [sb, sd] ⟨#[122]⟩ = 2 := by kernel_rfl
theorem aw_list (w : World) : Ls (w.alloc (.cells #[.string sb, .string sd] 9)) [sb, sd] (.slice (some ⟨w.heap.size, 0, none⟩) 2 2) := by
  have h := heap_alloc_new w (.cells #[.string sb, .string sd] 9)
  refine ⟨_, 2, rfl, (fun q => by cases q), Nat.le_refl _, by decide, fun i hi => ⟨w.heap.size, 0, rfl, blk_lt h, ?_⟩⟩
  rw [cell_blk h]
  match i, hi with
  | 0, _ => rfl
  | 1, _ => rfl
set_option maxHeartbeats 2000000 in
set_option maxRecDepth 100000 in
theorem awake_any (w : World) : Calls Try.prog 10 #[] w fun e w' => e = .returned (.bool true) ∧ Below w.heap.size w w' := by
  have ba : Below w.heap.size w (w.alloc (.cells #[.string sb, .string sd] 9)) := (Below.refl _ w).alloc (Nat.le_refl _) _
  have hnew := new_any (aw_list w)
  have HB := Lib.hid ba
  clear ba
  go_enter Try.func10, Try.ntmps10
  go_wp2_with (go_at_call 8; refine hnew.mono ?_; rintro e w1 ⟨hb1, hq | hq⟩; rotate_left; exact absurd (aw_ok.symm.trans hq.1) (by decide); obtain ⟨_, B, rfl, hsp⟩ := hq; refine Hid.out ?_)
  refine Lib.hid ?_
  have hpt : Calls Try.prog 14 #[.pointer (some ⟨B, 0, none⟩), .agg #[.string ⟨#[97]⟩, .string ⟨#[99]⟩]] w1 fun e w' => PtAns w1 [⟨0, ⟨#[97]⟩, sb⟩, ⟨1, sb, ⟨#[99]⟩⟩] e w' := by
    have := parts_any hsp ⟨#[97]⟩ ⟨#[99]⟩
    rw [show [sb, sd].length + 1 = 3 from rfl, aw_parts] at this
    exact this
  have HSP := Lib.hid hsp
  have HB1 := Lib.hid (HB.out.trans (hb1.mono HB.out.size))
  clear hsp hb1 HB hnew
  go_wp2_with (go_at_call 14; refine hpt.mono ?_; rintro e w2 ⟨ad, cap, rfl, ho, hb2⟩; refine Hid.out ?_)
  refine Lib.hid ?_
  have HB2 := Lib.hid (HB1.out.trans (hb2.mono HB1.out.size))
  have hsp := HSP.out.on hb2
  have hS := size_any hsp
  have hfa := fun k => find_any hsp k
  have a1 := aw_find1
  have a2 := aw_find2
  have a3 := aw_find3
  have ho2 : w2.ownsRow w1.heap.size 39 3 (.slice ad 2 cap) 2 [.int .i64 0, .string ⟨#[97]⟩, .string sb, .int .i64 1, .string sb, .string ⟨#[99]⟩] := ho
  obtain ⟨g, rfl⟩ : ∃ g, ad = some ⟨g, 0, none⟩ := by
    rcases ho2.2 with ⟨hv, h0⟩ | ⟨g, cap', cur, hv, _⟩
    · cases h0
    · cases hv
      exact ⟨g, rfl⟩
  have c3 : w2.cell? ⟨g, 3, none⟩ = some (.int .i64 1) := by
    have := ho2.cells (g := g) rfl 3 (.int .i64 1) rfl
    rwa [add_at, Nat.zero_add] at this
  have c4 : w2.cell? ⟨g, 4, none⟩ = some (.string sb) := by
    have := ho2.cells (g := g) rfl 4 (.string sb) rfl
    rwa [add_at, Nat.zero_add] at this
  have c5 : w2.cell? ⟨g, 5, none⟩ = some (.string ⟨#[99]⟩) := by
    have := ho2.cells (g := g) rfl 5 (.string ⟨#[99]⟩) rfl
    rwa [add_at, Nat.zero_add] at this
  clear ho ho2 hsp hb2 hpt HSP HB1
  go_wp2_with (first | (go_at_call 11; refine hS.mono ?_; rintro e w3 ⟨rfl, rfl⟩; refine Hid.out ?_) | (go_at_call 13; refine (hfa _).mono ?_; rintro e w3 ⟨rfl, rfl⟩; refine Hid.out ?_))
  refine Lib.hid ?_
  go_wp2_with (first | (go_at_call 11; refine hS.mono ?_; rintro e w3 ⟨rfl, rfl⟩; refine Hid.out ?_) | (go_at_call 13; refine (hfa _).mono ?_; rintro e w3 ⟨rfl, rfl⟩; refine Hid.out ?_))
  refine Lib.hid ?_
  go_wp2_with (first | (go_at_call 11; refine hS.mono ?_; rintro e w3 ⟨rfl, rfl⟩; refine Hid.out ?_) | (go_at_call 13; refine (hfa _).mono ?_; rintro e w3 ⟨rfl, rfl⟩; refine Hid.out ?_))
  refine Lib.hid ?_
  go_wp2_with (first | (go_at_call 11; refine hS.mono ?_; rintro e w3 ⟨rfl, rfl⟩; refine Hid.out ?_) | (go_at_call 13; refine (hfa _).mono ?_; rintro e w3 ⟨rfl, rfl⟩; refine Hid.out ?_))
  refine Lib.hid ?_
  go_wp2
  go_ret
  exact ⟨rfl, HB2.out⟩
end
end Go.Proofs.Ytonncfdkdibggaa
