/- The walk of AgendaLast. -/
import Derived.Test.YtmehdhjelggkpaaLc
namespace Go.Proofs.Ytmehdhjelggkpaa
open Go.RowKit Go.Maps

/-- How many things the agenda at A has, as its queue tells. -/
def lenAt (w : World) (A : Nat) : Nat := match w.cell? ⟨A, 0, none⟩ with
  | some (.slice _ n _) => n
  | _ => 0
theorem Agd.lenAt {w : World} {A c : Nat} {S : Nat → Prop} {R : List Ti} (h : Agd w A S c R) : lenAt w A = R.length := by
  obtain ⟨_, v, mv, f, n, h⟩ := h
  obtain ⟨ad, cap, rfl⟩ := h.q.shape
  unfold Ytmehdhjelggkpaa.lenAt
  rw [h.q.slot, h.len]
theorem Agd.ints {w : World} {A c : Nat} {S : Nat → Prop} {R : List Ti} (h : Agd w A S c R) : ∀ t ∈ R, inI t.what := by
  obtain ⟨_, _, _, _, _, h⟩ := h
  exact h.ints
theorem mem_once {R : List Ti} {t u : Ti} (h : (whats R).Nodup) (ht : t ∈ R) (hu : u ∈ R) (e : t.what = u.what) : t = u := by
  induction R with
  | nil => cases ht
  | cons x R ih =>
    have hn : x.what ∉ whats R ∧ (whats R).Nodup := List.nodup_cons.1 h
    rcases List.mem_cons.1 ht with rfl | ht'
    · rcases List.mem_cons.1 hu with rfl | hu'
      · rfl
      · exact absurd (List.mem_map.2 ⟨u, hu', e.symm⟩) hn.1
    · rcases List.mem_cons.1 hu with rfl | hu'
      · exact absurd (List.mem_map.2 ⟨t, ht', e⟩) hn.1
      · exact ih hn.2 ht' hu'
theorem next_ex {R : List Ti} {t : Ti} (h : t ∈ R) : ∃ u, nextL R = some u ∧ u ∈ R := by
  cases R with
  | nil => cases h
  | cons x R =>
    obtain ⟨u, hu, hn⟩ := nextL_cons x R
    exact ⟨u, hu, next_mem hn⟩

set_option maxHeartbeats 2000000 in
set_option maxRecDepth 100000 in
theorem last_out (L : List O) (ad : Option Addr) (cap : Nat) (what one two : Int) (w : World) (hl : 400 < L.length) : Calls Try.prog 5 #[.slice ad L.length cap, .int .i64 what, .int .i64 one, .int .i64 two] w fun e w' => e = .returned (.bool true) ∧ Below w.heap.size w w' := by
  have h1 : 400 < (L.length : Int) := by omega
  go_enter Try.func5, Try.ntmps5
  go_wp2_with fail
  refine (awake_any _).mono ?_
  rintro e w1 ⟨rfl, b1⟩
  go_wp2_with fail
  refine (awake_any _).mono ?_
  rintro e w2 ⟨rfl, b2⟩
  go_wp2
  go_ret
  exact ⟨rfl, b1.trans (b2.mono b1.size)⟩

set_option maxHeartbeats 2000000 in
set_option maxRecDepth 100000 in
theorem last_in (L : List O) (ad : Option Addr) (cap : Nat) (what one two : Int) (w : World) (hL : Li L ad w.heap.size w) (hf : Fits L) (hl : L.length ≤ 400) (hw : inI what) : Calls Try.prog 5 #[.slice ad L.length cap, .int .i64 what, .int .i64 one, .int .i64 two] w fun e w' => e = .returned (.bool true) ∧ Below w.heap.size w w' := by
  have h1 : ¬ 400 < (L.length : Int) := by omega
  have h1' : decide (400 < (L.length : Int)) = false := by simpa using h1
  go_enter Try.func5, Try.ntmps5
  go_wp2_with fail
  refine (awake_any _).mono ?_
  rintro e w1 ⟨rfl, b1⟩
  go_wp2_with fail
  refine (setf_any L ad cap w.heap.size w1 (hL.on b1) hf b1.size hl).mono ?_
  rintro e w2 ⟨A, rfl, o2, b2⟩
  have hB : w.heap.size ≤ w1.heap.size := b1.size
  have b2' := b1.trans (b2.mono hB)
  go_wp2_with fail
  refine (o2.set (by omega) hw).mono ?_
  rintro e w3 ⟨rfl, o3, b3⟩
  go_wp2_with fail
  refine (o3.set (by omega) hw).mono ?_
  rintro e w4 ⟨rfl, o4, b4⟩
  have b4' : Below w.heap.size w w4 := (b2'.trans (b3.mono hB)).trans (b4.mono hB)
  have hm4 : (⟨what, two⟩ : Ti) ∈ setL (setL (sets L) what one) what two := by simp [setL]
  obtain ⟨R4, hR4⟩ : ∃ R4, R4 = setL (setL (sets L) what one) what two := ⟨_, rfl⟩
  rw [← hR4] at o4 hm4
  clear hR4
  go_wp2
  go_loopw [11] (fun _ wr => ∃ R, Own w1.heap.size wr A (L.length + 1 + 1) R ∧ (⟨what, two⟩ : Ti) ∈ R ∧ Below w.heap.size w wr) (fun _ wr => lenAt wr A)
  case atStart => exact ⟨R4, o4, hm4, b4'⟩
  case round =>
    obtain ⟨R, ho, hm, hb⟩ := hrel
    obtain ⟨u, hu, hmu⟩ := next_ex hm
    have hlen0 := Lib.hid ho.2.lenAt
    have hiu := ho.2.ints u hmu
    by_cases e : u.what = what
    · have hue := mem_once ho.2.once hmu hm e
      subst hue
      go_wp2_with fail
      refine (next_yes ho.2 hu).mono ?_
      rintro e w5 ⟨rfl, kk, rfl⟩
      go_wp2
      go_ret
      exact ⟨rfl, ⟨hb.os, hb.tape, hb.output, hb.size, hb.block⟩⟩
    · go_wp2_with fail
      refine (next_yes ho.2 hu).mono ?_
      rintro e w5 ⟨rfl, kk, rfl⟩
      go_wp2_with fail
      refine ((ho.drewN kk).drop hiu).mono ?_
      rintro e w6 ⟨rfl, o6, b6⟩
      have hlen6 := Lib.hid o6.2.lenAt
      have hdl := Lib.hid (drop_len ho.2.once (List.mem_map.2 ⟨u, hmu, rfl⟩))
      go_wp2
      go_roundw
      case rel => exact ⟨_, o6, dropL_mem.2 ⟨hm, fun q => e q.symm⟩, hb.trans (Below.mono ⟨b6.os, b6.tape, b6.output, b6.size, b6.block⟩ hB)⟩
      case measure =>
        have a1 := hlen0.out
        have a2 := hlen6.out
        have a3 := hdl.out
        show lenAt w6 A < lenAt wr A
        omega

theorem agendaLast_any (L : List O) (ad : Option Addr) (cap : Nat) (what one two : Int) (w : World) (hL : Li L ad w.heap.size w) (hf : Fits L) (hw : inI what) : Calls Try.prog 5 #[.slice ad L.length cap, .int .i64 what, .int .i64 one, .int .i64 two] w fun e w' => e = .returned (.bool true) ∧ Below w.heap.size w w' := by
  by_cases h : 400 < L.length
  · exact last_out L ad cap what one two w h
  · exact last_in L ad cap what one two w hL hf (by omega) hw
end Go.Proofs.Ytmehdhjelggkpaa
