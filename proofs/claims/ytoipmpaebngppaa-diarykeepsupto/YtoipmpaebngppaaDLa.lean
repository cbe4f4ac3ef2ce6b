/- A drive that the call has made; the statements' awake and DriveNil. -/
import Derived.Test.YtoipmpaebngppaaDWl
namespace Go.Proofs.Ytoipmpaebngppaa
open Go.RowKit Go.Maps

/-- The drive at A was made since w0; nothing that lay before has changed. -/
def Own (w0 w : World) (A N : Nat) (F : List Fl) (left : Int) (down : Bool) : Prop := ∃ T, Dr w A T N F left down ∧ (∀ k, T k → w0.heap.size ≤ k) ∧ Below w0.heap.size w0 w
section
variable {w0 w : World} {A N : Nat} {F : List Fl} {left : Int} {down : Bool} {n d : ByteArray} {kv : Value} {keep : List Int}
theorem Own.below (h : Own w0 w A N F left down) : Below w0.heap.size w0 w := by
  obtain ⟨T, _, _, hb⟩ := h
  exact hb
theorem Own.on {w' : World} (h : Own w0 w A N F left down) (hb : Below w.heap.size w w') : Own w0 w' A N F left down := by
  obtain ⟨T, hd, hT, hw⟩ := h
  exact ⟨T, hd.stays (T := fun _ => False) (Fr.ofBelow _ hb) (fun _ _ q => q), hT, hw.trans (hb.mono hw.size)⟩
theorem gro_fresh {T : Nat → Prop} {w1 w2 : World} (hT : ∀ k, T k → w0.heap.size ≤ k) (hs : w0.heap.size ≤ w1.heap.size) : ∀ k, Gro T w1 w2 k → w0.heap.size ≤ k := by
  intro k q
  rcases q with q | q
  · exact hT k q
  · omega
theorem fr_below {T : Nat → Prop} {w1 w2 : World} (hT : ∀ k, T k → w0.heap.size ≤ k) (hb : Below w0.heap.size w0 w1) (hf : Fr w1 w2 T) : Below w0.heap.size w0 w2 :=
  hb.trans (hf.toBelow (fun k hk q => by have := hT k q; omega) hb.size)
theorem own_new (hw : Below w0.heap.size w0 w) : Calls Try.prog 9 #[] w fun e w' => ∃ A, e = .returned (.pointer (some ⟨A, 0, none⟩)) ∧ Own w0 w' A 0 [] 0 false := by
  refine (new_any w).mono ?_
  rintro e w' ⟨rfl, hd, hb, _⟩
  refine ⟨_, rfl, _, ⟨_, _, hd⟩, fun k q => ?_, hw.trans (hb.mono hw.size)⟩
  have e : k = w.heap.size := q
  have := hw.size
  omega
theorem own_append (h : Own w0 w A N F left false) (hn : n.size ≤ maxLen) (hb : (oldF F n).data.size + d.size ≤ 140737488355328) (hN : N < 900000) :
    Calls Try.prog 29 #[.pointer (some ⟨A, 0, none⟩), .string n, .string d] w fun e w' => e = .returned (.int .i64 (pw (downB left false))) ∧ Own w0 w' A (N + 1) (appF F n d) (leftB left) (downB left false) := by
  obtain ⟨T, ⟨mv, loc, hd⟩, hT, hw⟩ := h
  refine (append_up hd hn d hb hN).mono ?_
  rintro e w' ⟨rfl, hd', hf⟩
  exact ⟨rfl, _, hd', gro_fresh hT hw.size, fr_below hT hw hf⟩
theorem own_append_down (h : Own w0 w A N F left true) (n d : ByteArray) :
    Calls Try.prog 29 #[.pointer (some ⟨A, 0, none⟩), .string n, .string d] w fun e w' => e = .returned (.int .i64 50) ∧ w' = w := by
  obtain ⟨T, ⟨mv, loc, hd⟩, hT, hw⟩ := h
  exact append_down hd n d
theorem own_sync (h : Own w0 w A N F left false) (hn : n.size ≤ maxLen) (hN : N < 900000) :
    Calls Try.prog 30 #[.pointer (some ⟨A, 0, none⟩), .string n] w fun e w' => e = .returned (.int .i64 (pw (downB left false))) ∧ Own w0 w' A (N + 1) (if downB left false then F else synF F n) (leftB left) (downB left false) := by
  obtain ⟨T, ⟨mv, loc, hd⟩, hT, hw⟩ := h
  cases e : downB left false with
  | false =>
    refine (sync_up hd e hn hN).mono ?_
    rintro e w' ⟨rfl, hd', hf⟩
    exact ⟨rfl, _, hd', gro_fresh hT hw.size, fr_below hT hw hf⟩
  | true =>
    refine (sync_goes hd e n).mono ?_
    rintro e w' ⟨rfl, hd', hf⟩
    exact ⟨rfl, _, hd.self hN hf hd', gro_fresh hT hw.size, fr_below hT hw hf⟩
theorem own_swap (h : Own w0 w A N F left false) (hn : n.size ≤ maxLen) (hd : d.size ≤ 140737488355328) (hN : N < 900000) :
    Calls Try.prog 24 #[.pointer (some ⟨A, 0, none⟩), .string n, .string d] w fun e w' => e = .returned (.int .i64 (pw (downB left false))) ∧ Own w0 w' A (N + 1) (if downB left false then F else swpF F n d) (leftB left) (downB left false) := by
  obtain ⟨T, ⟨mv, loc, hdv⟩, hT, hw⟩ := h
  cases e : downB left false with
  | false =>
    refine (swap_up hdv e hn d hd hN).mono ?_
    rintro e w' ⟨rfl, hd', hf⟩
    exact ⟨rfl, _, hd', gro_fresh hT hw.size, fr_below hT hw hf⟩
  | true =>
    refine (swap_goes hdv e n d).mono ?_
    rintro e w' ⟨rfl, hd', hf⟩
    exact ⟨rfl, _, hdv.self hN hf hd', gro_fresh hT hw.size, fr_below hT hw hf⟩
theorem own_read (h : Own w0 w A N F left false) (hn : n.size ≤ maxLen) : Calls Try.prog 21 #[.pointer (some ⟨A, 0, none⟩), .string n] w fun e w' => e = .returned (.tuple #[.string (oldF F n).data, .int .i64 0]) ∧ w' = w := by
  obtain ⟨T, ⟨mv, loc, hd⟩, hT, hw⟩ := h
  exact read_up hd hn
theorem own_arm (h : Own w0 w A N F left down) {m : Int} (hm : -9223372036854775808 ≤ m ∧ m ≤ 9223372036854775807) : Calls Try.prog 16 #[.pointer (some ⟨A, 0, none⟩), .int .i64 m] w fun e w' => e = .returned (.tuple #[]) ∧ Own w0 w' A N F (if down then left else m) down := by
  obtain ⟨T, ⟨mv, loc, hd⟩, hT, hw⟩ := h
  refine (arm_any hd hm).mono ?_
  rintro e w' ⟨rfl, hd', hf, _⟩
  exact ⟨rfl, _, ⟨_, _, hd'⟩, hT, fr_below hT hw hf⟩
theorem own_down (h : Own w0 w A N F left down) : Calls Try.prog 23 #[.pointer (some ⟨A, 0, none⟩)] w fun e w' => e = .returned (.bool down) ∧ w' = w := by
  obtain ⟨T, ⟨mv, loc, hd⟩, hT, hw⟩ := h
  exact down_any hd
theorem own_crash (h : Own w0 w A N F left down) (hk : Ints w kv keep) : Calls Try.prog 18 #[.pointer (some ⟨A, 0, none⟩), kv] w fun e w' => ∃ B, e = .returned (.pointer (some ⟨B, 0, none⟩)) ∧ Own w0 w' B F.length (crashF F keep) 0 false ∧ Own w0 w' A N F left true := by
  obtain ⟨T, ⟨mv, loc, hd⟩, hT, hw⟩ := h
  refine (crash_any hd hk).mono ?_
  rintro e w' ⟨rfl, ⟨T', hd', hT'⟩, ho, hf⟩
  have hb := fr_below (T := fun k => k = A) (fun k q => by rw [q]; exact hT A hd.covA) hw hf
  exact ⟨_, rfl, ⟨T', hd', fun k q => Nat.le_trans hw.size (hT' k q), hb⟩, T, ⟨_, _, ho⟩, hT, hb⟩
end

abbrev nA : ByteArray := ⟨#[97]⟩
theorem wake1 : appF [] nA ⟨#[120, 121]⟩ = [⟨nA, ⟨#[120, 121]⟩, 0⟩] := by rfl
theorem wake2 : synF [⟨nA, ⟨#[120, 121]⟩, 0⟩] nA = [⟨nA, ⟨#[120, 121]⟩, 2⟩] := by rfl
theorem wake3 : appF [⟨nA, ⟨#[120, 121]⟩, 2⟩] nA ⟨#[122]⟩ = [⟨nA, ⟨#[120, 121, 122]⟩, 2⟩] := by rfl
theorem wake4 : crashF [⟨nA, ⟨#[120, 121, 122]⟩, 2⟩] [1] = [⟨nA, ⟨#[120, 121, 122]⟩, 3⟩] := by rfl
theorem wake5 : (oldF [⟨nA, ⟨#[120, 121, 122]⟩, 3⟩] nA).data = ⟨#[120, 121, 122]⟩ := by rfl
end Go.Proofs.Ytoipmpaebngppaa
