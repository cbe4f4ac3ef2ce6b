/- The walks of the drive's Sync, Swap and Read. -/
import Derived.Test.YtoipmpaebngppaaDWe
namespace Go.Proofs.Ytoipmpaebngppaa
open Go.RowKit Go.Maps

section
variable {w w' : World} {A N : Nat} {S : Nat → Prop} {F : List Fl} {left : Int} {down : Bool} {mv : Value} {loc : ByteArray → Value} {n : ByteArray}
theorem Dv.self (h : Dv w A S N F left down mv loc) (hN : N < 900000) (hf : Fr w w' S) {left' : Int} {down' : Bool} (h' : Dv w' A S N F left' down' mv loc) : Dr w' A (Gro S w w') (N + 1) F left' down' :=
  ⟨_, _, ⟨h'.ob, h'.mp.mono (Nat.le_succ N), h'.rise, h'.row, h'.safe, h'.big, h'.nm, h'.sep, .inl h'.covA, fun b hb => .inl (h'.covM b hb), fun f hf k hk => .inl (h'.covR f hf k hk), fun k hk => by
    rcases hk with q | q
    · exact Nat.lt_of_lt_of_le (h.lt k q) hf.size
    · exact q.2, hN, h'.int⟩⟩

theorem sync_down (h : Dv w A S N F left true mv loc) (n : ByteArray) : Calls Try.prog 30 #[.pointer (some ⟨A, 0, none⟩), .string n] w fun e w' => e = .returned (.int .i64 50) ∧ w' = w := by
  have hp := power_any h
  go_enter Try.func30, Try.ntmps30
  go_wp2_with fail
  refine hp.mono ?_
  rintro e w' ⟨rfl, rfl⟩
  rw [show pw true = 50 from rfl]
  go_wp2
  go_ret
  exact ⟨rfl, rfl⟩
theorem sync_nil (n : ByteArray) (w : World) : Calls Try.prog 30 #[.pointer none, .string n] w fun e w' => e = .returned (.int .i64 2) ∧ w' = w := by
  go_enter Try.func30, Try.ntmps30
  go_wp2_with fail
  refine (power_nil w).mono ?_
  rintro e w' ⟨rfl, rfl⟩
  go_wp2
  go_ret
  exact ⟨rfl, rfl⟩
theorem swap_down (h : Dv w A S N F left true mv loc) (n d : ByteArray) : Calls Try.prog 24 #[.pointer (some ⟨A, 0, none⟩), .string n, .string d] w fun e w' => e = .returned (.int .i64 50) ∧ w' = w := by
  have hp := power_any h
  go_enter Try.func24, Try.ntmps24
  go_wp2_with fail
  refine hp.mono ?_
  rintro e w' ⟨rfl, rfl⟩
  rw [show pw true = 50 from rfl]
  go_wp2
  go_ret
  exact ⟨rfl, rfl⟩
theorem swap_nil (n d : ByteArray) (w : World) : Calls Try.prog 24 #[.pointer none, .string n, .string d] w fun e w' => e = .returned (.int .i64 2) ∧ w' = w := by
  go_enter Try.func24, Try.ntmps24
  go_wp2_with fail
  refine (power_nil w).mono ?_
  rintro e w' ⟨rfl, rfl⟩
  go_wp2
  go_ret
  exact ⟨rfl, rfl⟩
theorem read_down (h : Dv w A S N F left true mv loc) (n : ByteArray) : Calls Try.prog 21 #[.pointer (some ⟨A, 0, none⟩), .string n] w fun e w' => e = .returned (.tuple #[.string ⟨#[]⟩, .int .i64 50]) ∧ w' = w := by
  have hp := power_any h
  go_enter Try.func21, Try.ntmps21
  go_wp2_with fail
  refine hp.mono ?_
  rintro e w' ⟨rfl, rfl⟩
  rw [show pw true = 50 from rfl]
  go_wp2
  go_ret2
  exact ⟨rfl, rfl⟩
theorem read_nil (n : ByteArray) (w : World) : Calls Try.prog 21 #[.pointer none, .string n] w fun e w' => e = .returned (.tuple #[.string ⟨#[]⟩, .int .i64 2]) ∧ w' = w := by
  go_enter Try.func21, Try.ntmps21
  go_wp2_with fail
  refine (power_nil w).mono ?_
  rintro e w' ⟨rfl, rfl⟩
  go_wp2
  go_ret2
  exact ⟨rfl, rfl⟩
/-- The power goes in the count. -/
theorem sync_goes (h : Dv w A S N F left false mv loc) (hl : downB left false = true) (n : ByteArray) : Calls Try.prog 30 #[.pointer (some ⟨A, 0, none⟩), .string n] w fun e w' => e = .returned (.int .i64 50) ∧ Dv w' A S N F (leftB left) true mv loc ∧ Fr w w' S := by
  have hp := power_any h
  have hc := count_any h
  rw [hl] at hc
  go_enter Try.func30, Try.ntmps30
  go_wp2_with fail
  refine hp.mono ?_
  rintro e w' ⟨rfl, rfl⟩
  rw [show pw false = 0 from rfl]
  go_wp2_with fail
  refine hc.mono ?_
  rintro e w1 ⟨rfl, hd1, hf1, _⟩
  rw [show pw true = 50 from rfl]
  go_wp2
  go_ret
  exact ⟨rfl, hd1, hf1⟩
theorem swap_goes (h : Dv w A S N F left false mv loc) (hl : downB left false = true) (n d : ByteArray) : Calls Try.prog 24 #[.pointer (some ⟨A, 0, none⟩), .string n, .string d] w fun e w' => e = .returned (.int .i64 50) ∧ Dv w' A S N F (leftB left) true mv loc ∧ Fr w w' S := by
  have hp := power_any h
  have hc := count_any h
  rw [hl] at hc
  go_enter Try.func24, Try.ntmps24
  go_wp2_with fail
  refine hp.mono ?_
  rintro e w' ⟨rfl, rfl⟩
  rw [show pw false = 0 from rfl]
  go_wp2_with fail
  refine hc.mono ?_
  rintro e w1 ⟨rfl, hd1, hf1, _⟩
  rw [show pw true = 50 from rfl]
  go_wp2
  go_ret
  exact ⟨rfl, hd1, hf1⟩

set_option maxHeartbeats 2000000 in
set_option maxRecDepth 100000 in
theorem sync_no (h : Dv w A S N F left false mv loc) (hl : downB left false = false) (hn : n.size ≤ maxLen) (hf : fileF F n = none) (hN : N < 900000) : Calls Try.prog 30 #[.pointer (some ⟨A, 0, none⟩), .string n] w fun e w' => e = .returned (.int .i64 0) ∧ Dr w' A (Gro S w w') (N + 1) (synF F n) (leftB left) false ∧ Fr w w' S := by
  have hp := power_any h
  have hc := count_any h
  rw [hl] at hc
  go_enter Try.func30, Try.ntmps30
  go_wp2_with fail
  refine hp.mono ?_
  rintro e w' ⟨rfl, rfl⟩
  rw [show pw false = 0 from rfl]
  go_wp2_with fail
  refine hc.mono ?_
  rintro e w1 ⟨rfl, hd1, hf1, _⟩
  rw [show pw false = 0 from rfl]
  have hlk := (hd1.mp.no hf hn).1
  have c0 := hd1.c0
  go_wp2
  go_ret
  have e : synF F n = F := by simp [synF, hf]
  rw [e]
  exact ⟨rfl, h.self hN (hf1.alloc _) (hd1.stays (T := fun _ => False) ((Fr.refl w1 _).alloc _) (fun _ _ q => q)), hf1.alloc _⟩

/-- What set leaves, at a wider world. -/
theorem Dv.over {w1 w2 : World} {N' : Nat} {F' : List Fl} {left' : Int} {down' : Bool} {mv' : Value} {loc' : ByteArray → Value} {T : Nat → Prop} (h : Dv w A S N F left down mv loc) (hT : ∀ k, T k → S k ∨ w.heap.size ≤ k) (hf1 : Fr w w1 S) (hf2 : Fr w1 w2 T) (h2 : Dv w2 A (Gro T w1 w2) N' F' left' down' mv' loc') :
    Dr w2 A (Gro S w w2) N' F' left' down' ∧ Fr w w2 S := by
  have hfr : Fr w w2 S := hf1.step hf2 hT
  refine ⟨⟨_, _, h2.wider (fun k hk => ?_) (fun k hk => ?_)⟩, hfr⟩
  · have hlt := h2.lt k hk
    rcases hk with q | q
    · rcases hT k q with q | q
      · exact .inl q
      · exact .inr ⟨q, hlt⟩
    · exact .inr ⟨Nat.le_trans hf1.size q.1, hlt⟩
  · rcases hk with q | q
    · exact Nat.lt_of_lt_of_le (h.lt k q) hfr.size
    · exact q.2

set_option maxHeartbeats 2000000 in
set_option maxRecDepth 100000 in
theorem sync_yes (h : Dv w A S N F left false mv loc) (hl : downB left false = false) (hn : n.size ≤ maxLen) {f : Fl} (hf : fileF F n = some f) (hN : N < 900000) : Calls Try.prog 30 #[.pointer (some ⟨A, 0, none⟩), .string n] w fun e w' => e = .returned (.int .i64 0) ∧ Dr w' A (Gro S w w') (N + 1) (synF F n) (leftB left) false ∧ Fr w w' S := by
  have hp := power_any h
  have hc := count_any h
  rw [hl] at hc
  obtain ⟨en, hfm⟩ := fileF_name hf
  have eS : synF F n = putF F ⟨n, f.data, f.data.size⟩ := by simp [synF, hf]
  rw [eS]
  clear eS
  obtain ⟨ad, ln, cap, hv0, hln⟩ : ∃ ad ln cap, loc n = .slice ad ln cap ∧ ln = f.data.size := by
    obtain ⟨ad, cap, e⟩ := (h.row f hfm).shape
    rw [en] at e
    exact ⟨ad, _, cap, e, by simp⟩
  go_enter Try.func30, Try.ntmps30
  go_wp2_with fail
  refine hp.mono ?_
  rintro e w' ⟨rfl, rfl⟩
  rw [show pw false = 0 from rfl]
  go_wp2_with fail
  refine hc.mono ?_
  rintro e w1 ⟨rfl, hd1, hf1, _⟩
  rw [show pw false = 0 from rfl]
  have hlk := (hd1.mp.yes hf hn).1
  have c0 := hd1.c0
  rw [hv0] at hlk
  obtain ⟨W, hW⟩ : ∃ W, W = w1.alloc (.cells #[.slice ad ln cap, .int .i64 f.safe] 75) := ⟨_, rfl⟩
  have hal : Fr w1 W (fun _ => False) := by rw [hW]; exact (Fr.refl w1 _).alloc _
  have hdW := hd1.stays hal (fun _ _ q => q)
  have hs := set_any (x := ⟨n, f.data, f.data.size⟩) (v := loc n) hdW ⟨hn, by have := hdW.row f hfm; rwa [en] at this, Nat.le_refl _, h.big f hfm, fun g hg hne k hk => (h.sep f hfm g hg (fun q => hne (by rw [← q, en])) k (by rw [en]; exact hk)), fun k hk => h.covR f hfm k (by rw [en]; exact hk)⟩ hN
  rw [hv0] at hs
  simp only [← hln] at hs
  have HW := Lib.hid hW
  have HL := Lib.hid hln
  have HV := Lib.hid hv0
  clear hW hln hv0
  go_wp2_with fail
  rw [← HW.out]
  refine hs.mono ?_
  rintro e w2 ⟨rfl, mv', hd2, hf2⟩
  go_wp2
  go_ret
  rw [← HL.out]
  exact ⟨rfl, h.over (fun k q => .inl q) (hf1.step hal (fun _ q => q.elim)) hf2 hd2⟩
theorem sync_up (h : Dv w A S N F left false mv loc) (hl : downB left false = false) (hn : n.size ≤ maxLen) (hN : N < 900000) : Calls Try.prog 30 #[.pointer (some ⟨A, 0, none⟩), .string n] w fun e w' => e = .returned (.int .i64 0) ∧ Dr w' A (Gro S w w') (N + 1) (synF F n) (leftB left) false ∧ Fr w w' S := by
  cases e : fileF F n with
  | none => exact sync_no h hl hn e hN
  | some f => exact sync_yes h hl hn e hN

end
end Go.Proofs.Ytoipmpaebngppaa
