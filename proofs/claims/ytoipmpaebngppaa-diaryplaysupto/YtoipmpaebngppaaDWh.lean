/- The walks of the drive's Swap. -/
import Derived.Test.YtoipmpaebngppaaDWf
namespace Go.Proofs.Ytoipmpaebngppaa
open Go.RowKit Go.Maps

section
variable {w w' : World} {A N : Nat} {S : Nat → Prop} {F : List Fl} {left : Int} {down : Bool} {mv : Value} {loc : ByteArray → Value} {n : ByteArray}
set_option maxHeartbeats 2000000 in
set_option maxRecDepth 100000 in
theorem swap_up (h : Dv w A S N F left false mv loc) (hl : downB left false = false) (hn : n.size ≤ maxLen) (d : ByteArray) (hd : d.size ≤ 140737488355328) (hN : N < 900000) : Calls Try.prog 24 #[.pointer (some ⟨A, 0, none⟩), .string n, .string d] w fun e w' => e = .returned (.int .i64 0) ∧ Dr w' A (Gro S w w') (N + 1) (swpF F n d) (leftB left) false ∧ Fr w w' S := by
  have hp := power_any h
  have hc := count_any h
  rw [hl] at hc
  have hcv := fun X => Lib.run_convert_string_bytes (P := Try.prog) X 9 73 5 d Try.underlying9 Try.underlying73 Try.underlying5
  go_enter Try.func24, Try.ntmps24
  go_wp2_with fail
  refine hp.mono ?_
  rintro e w' ⟨rfl, rfl⟩
  rw [show pw false = 0 from rfl]
  go_wp2_with fail
  refine hc.mono ?_
  rintro e w1 ⟨rfl, hd1, hf1, hz1⟩
  clear hz1
  rw [show pw false = 0 from rfl]
  have hW := text_below w1 d
  have hcv1 := hcv w1
  have hrow := Row.ofText w1 d (by unfold maxLen; omega)
  obtain ⟨cap, hcap⟩ : ∃ cap, grownCap w1 d.size 0 5 = cap := ⟨_, rfl⟩
  have hWs := Lib.bytesWorld_size w1 5 d
  obtain ⟨W, hWe⟩ : ∃ W, Lib.bytesWorld w1 5 d = W := ⟨_, rfl⟩
  rw [hWe] at hW hrow hcv1 hWs
  rw [hcap] at hrow hcv1
  have hal : Fr w1 W (fun _ => False) := Fr.ofBelow _ hW
  have hdW := (hd1.stays hal (fun _ _ q => q)).wider (T := fun k => S k ∨ k = w1.heap.size) (fun k q => .inl q) (fun k q => by
    rcases q with q | q
    · exact Nat.lt_of_lt_of_le (hd1.lt k q) hW.size
    · omega)
  have hs := set_any (x := ⟨n, d, d.size⟩) (v := .slice (some ⟨w1.heap.size, 0, none⟩) d.size cap) hdW ⟨hn, hrow, Nat.le_refl _, hd, fun g hg hne k hk q => (by
    have e : w1.heap.size = k := by simpa [Value.ownBlock] using hk
    have := hd1.lt _ (hd1.covR g hg _ q)
    omega), fun k hk => .inr (by simpa [Value.ownBlock] using hk.symm)⟩ hN
  dsimp only at hs
  clear hcv hWe hcap hrow
  go_wp2_with fail
  refine hs.mono ?_
  rintro e w2 ⟨rfl, mv', hd2, hf2⟩
  go_wp2
  go_ret
  have hsz := hf1.size
  exact ⟨rfl, h.over (fun k q => by
    rcases q with q | q
    · exact .inl q
    · exact .inr (by omega)) (hf1.step hal (fun _ q => q.elim)) hf2 hd2⟩
end
end Go.Proofs.Ytoipmpaebngppaa
