/- The walks of the document's Sync, Arm and Read. -/
import Derived.Test.YtoipmpaebngppaaDRe
namespace Go.Proofs.Ytoipmpaebngppaa
open Go.RowKit Go.Maps

section
variable {w w' : World} {B : Nat} {T : Nat → Prop} {F : List Fl} {left : Int} {off : Bool} {v : Value} {n d : ByteArray}
theorem rsync_off (h : Rv w B T F left true v) (hn : n.size ≤ maxLen) : Calls Try.prog 33 #[.pointer (some ⟨B, 0, none⟩), .string n] w fun e w' => e = .returned (.int .i64 50) ∧ Below w.heap.size w w' := by
  have hb := begin_off h
  have ha := at_any h hn
  obtain ⟨q, hq⟩ : ∃ q, (fileF F n).isSome = q := ⟨_, rfl⟩
  obtain ⟨p, hp⟩ : ∃ p, placeF F n = p := ⟨_, rfl⟩
  rw [hq, hp] at ha
  clear hq hp
  go_enter Try.func33, Try.ntmps33
  go_wp2_with fail
  refine hb.mono ?_
  rintro e w' ⟨rfl, rfl⟩
  go_wp2_with fail
  refine ha.mono ?_
  rintro e w2 ⟨rfl, hb2⟩
  go_wp2
  go_ret
  exact ⟨rfl, hb2⟩
theorem rsync_goes (h : Rv w B T F 1 false v) (hn : n.size ≤ maxLen) : Calls Try.prog 33 #[.pointer (some ⟨B, 0, none⟩), .string n] w fun e w' => e = .returned (.int .i64 50) ∧ Rv w' B T F 1 true v ∧ Fr w w' T := by
  have hb := begin_goes h
  obtain ⟨q, hq⟩ : ∃ q, (fileF F n).isSome = q := ⟨_, rfl⟩
  obtain ⟨p, hp⟩ : ∃ p, placeF F n = p := ⟨_, rfl⟩
  go_enter Try.func33, Try.ntmps33
  go_wp2_with fail
  refine hb.mono ?_
  rintro e w1 ⟨rfl, h1, hf1, hz1⟩
  have ha := at_any h1 hn
  rw [hq, hp] at ha
  clear hq hp hz1
  go_wp2_with fail
  refine ha.mono ?_
  rintro e w2 ⟨rfl, hb2⟩
  go_wp2
  go_ret
  exact ⟨rfl, h1.on hb2, hf1.below hb2⟩
theorem rsync_no (h : Rv w B T F left false v) (hl : left ≠ 1) (hn : n.size ≤ maxLen) (hf : fileF F n = none) : Calls Try.prog 33 #[.pointer (some ⟨B, 0, none⟩), .string n] w fun e w' => e = .returned (.int .i64 0) ∧ Rv w' B T F (leftB left) false v ∧ Fr w w' T := by
  have hb := begin_on h hl
  obtain ⟨p, hp⟩ : ∃ p, placeF F n = p := ⟨_, rfl⟩
  go_enter Try.func33, Try.ntmps33
  go_wp2_with fail
  refine hb.mono ?_
  rintro e w1 ⟨rfl, h1, hf1, hz1⟩
  have ha := at_any h1 hn
  rw [hf, hp] at ha
  have ha' : Calls Try.prog 38 #[.pointer (some ⟨B, 0, none⟩), .string n] w1 fun e w' => e = .returned (.tuple #[.int .i64 p, .bool false]) ∧ Below w1.heap.size w1 w' := ha
  clear hp hz1 ha
  go_wp2_with fail
  refine ha'.mono ?_
  rintro e w2 ⟨rfl, hb2⟩
  go_wp2
  go_ret
  exact ⟨rfl, h1.on hb2, hf1.below hb2⟩
set_option maxHeartbeats 2000000 in
set_option maxRecDepth 100000 in
theorem rsync_yes (h : Rv w B T F left false v) (hl : left ≠ 1) (hn : n.size ≤ maxLen) {f : Fl} (hf : fileF F n = some f) (hfew : F.length < 900000) : Calls Try.prog 33 #[.pointer (some ⟨B, 0, none⟩), .string n] w fun e w' => e = .returned (.int .i64 0) ∧ Rv w' B T (synF F n) (leftB left) false v ∧ Fr w w' T := by
  have hb := begin_on h hl
  obtain ⟨hpl, hc, hfe⟩ := found_at h.rise (n := n) (by rw [hf]; rfl)
  rw [hf] at hfe
  have hfe : f = F[placeF F n] := Option.some.inj hfe
  obtain ⟨en, hfm⟩ := fileF_name hf
  have hbig := h.big f hfm
  have eS : synF F n = putF F ⟨n, f.data, f.data.size⟩ := by simp [synF, hf]
  have hput := put_old F ⟨n, f.data, f.data.size⟩ hpl hc
  obtain ⟨g, cap, rfl⟩ := h.form (by omega)
  have hfl := flat3_set2 F (placeF F n) hpl f.data.size
  rw [← hfe, en, ← hput] at hfl
  have hlen : F.length = (putF F ⟨n, f.data, f.data.size⟩).length := by rw [hput, List.length_set]
  have hcell : ∀ W, Rv W B T F (leftB left) false (.slice (some ⟨g, 0, none⟩) F.length cap) → W.cell? ⟨g, placeF F n * 3 + 1, none⟩ = some (.string f.data) ∧ W.cell? ⟨g, placeF F n * 3 + 2, none⟩ = some (.int .i64 f.safe) := by
    intro W hW
    obtain ⟨_, a, b⟩ := hW.at' hpl
    rw [← hfe] at a b
    exact ⟨a, b⟩
  obtain ⟨p, hp⟩ : ∃ p, placeF F n = p := ⟨_, rfl⟩
  obtain ⟨L, hL⟩ : ∃ L, F.length = L := ⟨_, rfl⟩
  have q0 : (0 : Int) ≤ p := by omega
  have q1 : (p : Int) < L := by omega
  have q2 : (L : Int) ≤ 900000 := by omega
  have HP := Lib.hid hp
  have HL := Lib.hid hL
  rw [eS]
  clear hc hfe
  go_enter Try.func33, Try.ntmps33
  go_wp2_with fail
  refine hb.mono ?_
  rintro e w1 ⟨rfl, h1, hf1, hz1⟩
  have ha := at_any h1 hn
  rw [hf, hp] at ha
  have ha' : Calls Try.prog 38 #[.pointer (some ⟨B, 0, none⟩), .string n] w1 fun e w' => e = .returned (.tuple #[.int .i64 p, .bool true]) ∧ Below w1.heap.size w1 w' := ha
  clear hp hz1 ha
  go_wp2_with fail
  refine ha'.mono ?_
  rintro e w2 ⟨rfl, hb2⟩
  have h2 := h1.on hb2
  obtain ⟨c1, c2⟩ := hcell w2 h2
  have c0 := h2.c0
  have f2 := h2.own.frozenAt (placeF F n * 3 + 2)
  obtain ⟨hst, hgr⟩ := h2.own.stored (placeF F n * 3 + 2) (.int .i64 f.data.size)
  rw [hfl] at hst
  rw [HP.out] at c1 c2 f2 hst hgr
  rw [hL] at c0
  clear hL hfl
  go_wp2
  go_region
  all_goals
    go_wp2
    go_ret
    have hfr : Fr w2 (w2.setCell ⟨g, p * 3 + 2, none⟩ (.int .i64 f.data.size)).drew (fun k => (Value.slice (some ⟨g, 0, none⟩) F.length cap).ownBlock = some k) :=
      ⟨hgr.os, hgr.tape, hgr.output, hgr.size, fun k hk hr => hgr.block k hk (fun q => hr q.symm)⟩
    exact ⟨rfl, h.relay h2 hfr (own_like hst (fun k _ => rfl)) hlen rfl (Nat.le_refl _) hbig hn hfew, (hf1.below hb2).step hfr (fun k q => .inl (h.covR k q))⟩
theorem rsync_on (h : Rv w B T F left false v) (hl : left ≠ 1) (hn : n.size ≤ maxLen) (hfew : F.length < 900000) : Calls Try.prog 33 #[.pointer (some ⟨B, 0, none⟩), .string n] w fun e w' => e = .returned (.int .i64 0) ∧ Rv w' B T (synF F n) (leftB left) false v ∧ Fr w w' T := by
  cases e : fileF F n with
  | none =>
    have := rsync_no h hl hn e
    rw [show synF F n = F by simp [synF, e]]
    exact this
  | some f => exact rsync_yes h hl hn e hfew

theorem rarm_any (h : Rv w B T F left off v) {m : Int} (hm : -9223372036854775808 ≤ m ∧ m ≤ 9223372036854775807) : Calls Try.prog 17 #[.pointer (some ⟨B, 0, none⟩), .int .i64 m] w fun e w' => e = .returned (.tuple #[]) ∧ Rv w' B T F (if off then left else max 0 m) off v ∧ Fr w w' T ∧ w'.heap.size = w.heap.size := by
  have c1 := h.c1
  have c2 := h.c2
  have f2 := frozen_blk h.ob 2
  obtain ⟨L, hL⟩ : ∃ L, (if off then left else max 0 m) = L := ⟨_, rfl⟩
  rw [hL]
  have HL := Lib.hid hL
  clear hL
  cases off
  · have e : max 0 m = L := HL.out
    go_enter Try.func17, Try.ntmps17
    go_wp2
    go_end0
    have hfr : Fr w (w.setCell ⟨B, 2, none⟩ (.int .i64 L)) (fun k => k = B) := Fr.set (S := fun k => k = B) (Fr.refl w _) (.inl rfl) _
    exact ⟨rfl, h.turn hfr (by rw [set_blk h.ob]; rfl) (by omega), hfr.mono (fun k hk => by rw [hk]; exact h.covB), by simp⟩
  · have e : left = L := HL.out
    subst e
    go_enter Try.func17, Try.ntmps17
    go_wp2
    go_end0
    exact ⟨rfl, h, Fr.refl _ _, rfl⟩

theorem rread_off (h : Rv w B T F left true v) (n : ByteArray) : Calls Try.prog 22 #[.pointer (some ⟨B, 0, none⟩), .string n] w fun e w' => e = .returned (.tuple #[.string ⟨#[]⟩, .int .i64 50]) ∧ Below w.heap.size w w' := by
  have c1 := h.c1
  go_enter Try.func22, Try.ntmps22
  go_wp2
  go_ret2
  exact ⟨rfl, Below.refl _ _⟩
set_option maxHeartbeats 2000000 in
set_option maxRecDepth 100000 in
theorem rread_on (h : Rv w B T F left false v) (hn : n.size ≤ maxLen) : Calls Try.prog 22 #[.pointer (some ⟨B, 0, none⟩), .string n] w fun e w' => e = .returned (.tuple #[.string (oldF F n).data, .int .i64 0]) ∧ Below w.heap.size w w' := by
  have c1 := h.c1
  have ha := at_any h hn
  cases hf : fileF F n with
  | none =>
    rw [hf] at ha
    have ha' : Calls Try.prog 38 #[.pointer (some ⟨B, 0, none⟩), .string n] w fun e w' => e = .returned (.tuple #[.int .i64 (placeF F n), .bool false]) ∧ Below w.heap.size w w' := ha
    have e : (oldF F n).data = ⟨#[]⟩ := by simp [oldF, hf]
    rw [e]
    clear ha
    go_enter Try.func22, Try.ntmps22
    go_wp2_with fail
    refine ha'.mono ?_
    rintro e w2 ⟨rfl, hb2⟩
    go_wp2
    go_ret2
    exact ⟨rfl, hb2⟩
  | some f =>
    rw [hf] at ha
    have ha' : Calls Try.prog 38 #[.pointer (some ⟨B, 0, none⟩), .string n] w fun e w' => e = .returned (.tuple #[.int .i64 (placeF F n), .bool true]) ∧ Below w.heap.size w w' := ha
    have e : (oldF F n).data = f.data := by simp [oldF, hf]
    rw [e]
    obtain ⟨hpl, hc, hfe⟩ := found_at h.rise (n := n) (by rw [hf]; rfl)
    rw [hf] at hfe
    have hfe : f = F[placeF F n] := Option.some.inj hfe
    obtain ⟨g, cap, rfl⟩ := h.form (by omega)
    have hs := h.few
    obtain ⟨p, hp⟩ : ∃ p, placeF F n = p := ⟨_, rfl⟩
    obtain ⟨L, hL⟩ : ∃ L, F.length = L := ⟨_, rfl⟩
    have q0 : (0 : Int) ≤ p := by omega
    have q1 : (p : Int) < L := by omega
    have q2 : (L : Int) ≤ 900000 := by omega
    rw [hp] at ha'
    have HP := Lib.hid hp
    have HL := Lib.hid hL
    clear ha hp hL
    go_enter Try.func22, Try.ntmps22
    go_wp2_with fail
    refine ha'.mono ?_
    rintro e w2 ⟨rfl, hb2⟩
    have h2 := h.on hb2
    obtain ⟨_, x1, _⟩ := h2.at' hpl
    rw [← hfe, HP.out] at x1
    have x0 := h2.c0
    rw [HL.out] at x0
    clear hfe hf
    go_wp2
    go_ret2
    exact ⟨rfl, hb2⟩
end
end Go.Proofs.Ytoipmpaebngppaa
