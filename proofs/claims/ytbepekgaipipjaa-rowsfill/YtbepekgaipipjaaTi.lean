/- A map's texts lie in another map: the law's within. -/
import Derived.Test.YtbepekgaipipjaaTh
import Derived.Maps.RangeWalk
namespace Go.Proofs.Ytbepekgaipipjaa
open Go.RowKit Go.Maps
theorem str_inv {key : Value} {kl : Lit} (h : keyOf Try.prog 9 key = some kl) : ∃ x : ByteArray, key = .string x := by
  cases key <;> simp [keyOf, Try.underlying9, mapKey] at h
  exact ⟨_, rfl⟩
theorem boo_inv {v : Value} {y : DataW Unit × List MemPlace} (h : plainElem Try.prog 4 v = some y) : ∃ c, v = .bool c := by
  cases v <;> simp [plainElem, Try.underlying4] at h
  exact ⟨_, rfl⟩
theorem str_key {x : ByteArray} {kl : Lit} (h : keyOf Try.prog 9 (.string x) = some kl) : x.size ≤ maxLen ∧ kl = keyS x := by
  by_cases hs : x.size ≤ maxLen
  · rw [key9 hs] at h
    exact ⟨hs, (Option.some.inj h).symm⟩
  · simp [keyOf, Try.underlying9, mapKey, hs] at h
set_option maxHeartbeats 4000000 in
set_option maxRecDepth 100000 in
theorem within_yes {w : World} {M1 N1 m1 M2 N2 m2 : Nat} {P Q : ByteArray → Prop} (hA : Es w M1 N1 m1 P) (hB : Es w M2 N2 m2 Q) (hPQ : ∀ x, P x → Q x) : Calls Try.prog 33 #[.map (some M1), .map (some M2)] w fun e w' => e = .returned (.bool true) ∧ Below w.heap.size w w' := by
  have hB2 := hB
  obtain ⟨D, ho, hD, _, _⟩ := hA
  obtain ⟨r, hr⟩ : ∃ r, w.heap.size = r := ⟨_, rfl⟩
  have HB := Lib.hid hB
  have HPQ := Lib.hid hPQ
  have HD := Lib.hid hD
  have HR := Lib.hid hr
  clear hB hB2 hPQ hD hr
  go_enter Try.func33, Try.ntmps33
  go_wp2_with (at_range; refine wpList_range_own _ rfl _ 63 rfl 9 4 law9 Try.underlying63 _ M1 N1 D rfl ho ?_; intro w0 hrg0 hg0 hs0; refine Hid.out ?_)
  refine Lib.hid ?_
  rw [HR.out]
  rw [HR.out] at hrg0
  have HB0 : Hid (Below w.heap.size w w0) := Lib.hid ⟨hg0.os, hg0.tape, hg0.output, hg0.size, fun k hk => hg0.block k hk (by simp)⟩
  have HG0 := Lib.hid hrg0
  clear hrg0 hg0 hs0 ho
  go_wp2
  go_loopw [] (fun wr => ∃ left cnt, wr.ranges Try.prog 9 (plainElem Try.prog 4) M1 r N1 D left cnt ∧ (∀ z, left z = true → has D z = true) ∧ Below w.heap.size w wr) (fun wr => wr.rangeLeft M1 r)
  case atStart => exact ⟨_, _, HG0.out, fun _ h => h, HB0.out⟩
  case round =>
    obtain ⟨left, cnt, hrg, hlf, hb⟩ := hrel
    have HLF := Lib.hid hlf
    have HRG := Lib.hid hrg
    have HBW := Lib.hid hb
    clear hlf hb
    go_wp2_with (at_next; refine wpList_next_ranges _ rfl _ rfl 9 law9 (plainElem Try.prog 4) Value.string Value.bool (fun _ _ h => str_inv h) (fun _ _ h => boo_inv h) M1 r N1 D left cnt rfl hrg (fun _ _ => Hid.out ?_) (fun x c kl y w1 cnt1 hkey hlk _ _ hrg1 hlt hg1 _ hen => Hid.out ?_))
    · refine Lib.hid ?_
      clear hrg
      go_wp2
      go_ret
      exact ⟨rfl, HBW.out⟩
    · refine Lib.hid ?_
      obtain ⟨hsz, rfl⟩ := str_key hkey
      have hp : P x := (HD.out x hsz).1 (HLF.out _ hlk)
      have hq : Q x := HPQ.out x hp
      have hb1 : Below w.heap.size w w1 := HBW.out.trans ⟨hg1.os, hg1.tape, hg1.output, hg1.size, fun k hk => hg1.block k (Nat.lt_of_lt_of_le hk HBW.out.size) (by have := HR.out; simp; omega)⟩
      have hlook := (HB.out.stays (hb1.block M2 HB.out.lt)).look hsz (r := true) (by simp [hq])
      have HB1 := Lib.hid hb1
      have HRG1 := Lib.hid hrg1
      have HLT := Lib.hid hlt
      clear hrg hkey hlk hp hq hb1 hrg1 hlt hg1 hsz
      go_wp2
      go_roundw
      case rel => exact ⟨_, _, HRG1.out, fun z h => HLF.out z (by simp only [Bool.and_eq_true] at h; exact h.1), HB1.out⟩
      case measure => rw [HRG1.out.left_eq, HRG.out.left_eq]; exact HLT.out
end Go.Proofs.Ytbepekgaipipjaa
