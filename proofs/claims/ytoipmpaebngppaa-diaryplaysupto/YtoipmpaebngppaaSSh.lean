/- The library's contract on internal/stringslite.Clone, laid at this program; strings.Clone. -/
import Derived.Test.YtoipmpaebngppaaRows
import Derived.Shelf.Pu.Clone
import Derived.WalkKit
import Derived.BigCall
namespace Go.Proofs.Ytoipmpaebngppaa
open Go.RowKit Go.Shelf

def ren : Ren := ⟨fun | 25 => 56 | n => n, fun | 37 => 73 | 47 => 103 | n => n, fun n => n⟩
theorem lays25 : LaysPu.n25 Try.prog ren := {
  mixed := by kernel_rfl
  f25 := Try.func56.trans (congrArg some (by kernel_rfl))
  t0 := Try.underlying0
  a0 := Try.isAgg0
  z0 := Try.sizeOf0
  v0 := Try.zeroValue0
  i0 := by kernel_rfl
  t3 := Try.underlying3
  a3 := Try.isAgg3
  z3 := Try.sizeOf3
  v3 := Try.zeroValue3
  i3 := by kernel_rfl
  t4 := Try.underlying4
  a4 := Try.isAgg4
  z4 := Try.sizeOf4
  v4 := Try.zeroValue4
  i4 := by kernel_rfl
  t5 := Try.underlying5
  a5 := Try.isAgg5
  z5 := Try.sizeOf5
  v5 := Try.zeroValue5
  i5 := by kernel_rfl
  t9 := Try.underlying9
  a9 := Try.isAgg9
  z9 := Try.sizeOf9
  v9 := Try.zeroValue9
  i9 := by kernel_rfl
  t37 := Try.underlying73
  a37 := Try.isAgg73
  z37 := Try.sizeOf73
  v37 := Try.zeroValue73
  i37 := by kernel_rfl
  t47 := Try.underlying103
  a47 := Try.isAgg103
  z47 := Try.sizeOf103
  v47 := Try.zeroValue103
  i47 := by kernel_rfl }

theorem lite_any (s : ByteArray) (w : World) (h : s.size ≤ 281474976710656) :
    Calls Try.prog 56 #[.string s] w fun e w' => e = .returned (.string s) ∧ Below w.heap.size w w' := AnyPu.stringslite_Clone lays25 s w h
theorem strClone_any (s : ByteArray) (w : World) (h : s.size ≤ 281474976710656) :
    Calls Try.prog 42 #[.string s] w fun e w' => e = .returned (.string s) ∧ Below w.heap.size w w' := by
  go_enter Try.func42, Try.ntmps42
  go_wp2_with (go_at_call 56; refine (lite_any s _ h).mono ?_; rintro e w1 ⟨rfl, hb1⟩)
  go_ret
  exact ⟨rfl, hb1⟩
end Go.Proofs.Ytoipmpaebngppaa
