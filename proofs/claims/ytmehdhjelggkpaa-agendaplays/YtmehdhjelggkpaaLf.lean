/- The walk of AgendaPlays. -/
import Derived.Test.YtmehdhjelggkpaaRd
namespace Go.Proofs.Ytmehdhjelggkpaa
open Go.RowKit Go.Maps

set_option maxHeartbeats 2000000 in
set_option maxRecDepth 100000 in
theorem plays_out (L : List O) (ad : Option Addr) (cap : Nat) (w : World) (hl : 400 < L.length) : Calls Try.prog 3 #[.slice ad L.length cap] w fun e w' => e = .returned (.bool true) ∧ Below w.heap.size w w' := by
  have h1 : 400 < (L.length : Int) := by omega
  go_enter Try.func3, Try.ntmps3
  go_wp2_with fail
  refine (awake_any _).mono ?_
  rintro e w1 ⟨rfl, b1⟩
  go_wp2_with fail
  refine (awake_any _).mono ?_
  rintro e w2 ⟨rfl, b2⟩
  go_wp2
  go_ret
  exact ⟨rfl, b1.trans (b2.mono b1.size)⟩

/-- A new agenda and a new one of the document's. -/
theorem Two.start {w w2 : World} {B0 A : Nat} {S : Nat → Prop} (hB : B0 ≤ w.heap.size) (ha : Agd w2 A S 0 []) (hS : ∀ k, S k → w.heap.size ≤ k) (hw : w.heap.size ≤ w2.heap.size) : Two (fun k => k < B0) (w2.alloc (.cells #[.slice none 0 0] 29)) A w2.heap.size 0 [] [] := by
  refine ⟨fun k hk => by simp; omega, S, fun k => k = w2.heap.size, ha.alloc _, ⟨fun k hk => by rw [hk]; simp, .slice none 0 0, ⟨heap_alloc_new w2 _, World.ownsRow_nil _ _ _ _, by simp⟩, rfl, fun k hk => by cases hk⟩, ?_, ?_⟩
  · intro k q p
    have := ha.1 k q
    omega
  · intro k q
    exact ⟨fun p => by have := hS k p; omega, fun p => by omega⟩

set_option maxHeartbeats 2000000 in
set_option maxRecDepth 100000 in
theorem plays_in (L : List O) (ad : Option Addr) (cap : Nat) (w : World) (hL : Li L ad w.heap.size w) (hf : Fits L) (hl : L.length ≤ 400) : Calls Try.prog 3 #[.slice ad L.length cap] w fun e w' => e = .returned (.bool true) ∧ Below w.heap.size w w' := by
  have h1 : ¬ 400 < (L.length : Int) := by omega
  have h1' : decide (400 < (L.length : Int)) = false := by simpa using h1
  go_enter Try.func3, Try.ntmps3
  go_wp2_with fail
  refine (awake_any _).mono ?_
  rintro e w1 ⟨rfl, b1⟩
  go_wp2_with fail
  refine (new_any w1).mono ?_
  rintro e w2 ⟨rfl, a2, b2, s2⟩
  have h2 := Two.start (B0 := w.heap.size) b1.size a2 (fun k hk => by rw [hk]; exact Nat.le_refl _) b2.size
  have hb2 : Below w.heap.size w (w2.alloc (.cells #[.slice none 0 0] 29)) := (b1.trans (b2.mono b1.size)).alloc (by have := b1.size; have := b2.size; omega) _
  obtain ⟨A, hA⟩ : ∃ A, A = w1.heap.size := ⟨_, rfl⟩
  obtain ⟨Bf, hBf⟩ : ∃ Bf, Bf = w2.heap.size := ⟨_, rfl⟩
  rw [← hA, ← hBf] at h2
  have HA := Lib.hid hA
  have HB := Lib.hid hBf
  clear s2 hA hBf
  go_wp2
  rw [← HA.out, ← HB.out]
  go_loopw [20] (fun t wr => ∃ (k c : Nat) (R : List Ti), t = .int .i64 k ∧ k ≤ L.length ∧ c ≤ k ∧ Two (fun k => k < w.heap.size) wr A Bf c R R ∧ Below w.heap.size w wr) (fun t _ => L.length - (intOf t).toNat)
  case atStart => exact ⟨0, 0, [], rfl, Nat.zero_le _, Nat.le_refl _, h2, hb2⟩
  case round =>
    obtain ⟨k, c, R, rfl, hk, hck, ht, hb⟩ := hrel
    by_cases hlt : k < L.length
    · have q1 : (k : Int) < L.length := by omega
      have q0 : (0 : Int) ≤ k := by omega
      have q2 : (L.length : Int) ≤ 400 := by omega
      obtain ⟨b, o, rfl, hbB, c0, c1, c2⟩ := (hL.on hb).at' k hlt
      have hin := hf.at' L[k] (List.getElem_mem hlt)
      obtain ⟨x, hx⟩ : ∃ x, x = L[k] := ⟨_, rfl⟩
      rw [← hx] at c0 c1 c2 hin
      clear hx
      go_wp2_with fail
      refine (done_any x ((ht.box _).less (fun _ q => .inl q)) (by omega) hin).mono ?_
      rintro e w3 ⟨rfl, ⟨c', R', hc', ht'⟩, hf'⟩
      go_wp2
      go_roundw
      case rel =>
        refine ⟨k + 1, c', R', by go_num, by omega, by omega, ht', ?_⟩
        have f1 : Fr w w3 (fun j => ¬ j < w.heap.size) := ((Fr.ofBelow _ hb).alloc _).trans hf'
        exact f1.toBelow (fun j hj q => q hj) (Nat.le_refl _)
      case measure => simp [intOf]; omega
    · go_wp2
      go_ret
      exact ⟨rfl, hb⟩

theorem agendaPlays_any (L : List O) (ad : Option Addr) (cap : Nat) (w : World) (hL : Li L ad w.heap.size w) (hf : Fits L) : Calls Try.prog 3 #[.slice ad L.length cap] w fun e w' => e = .returned (.bool true) ∧ Below w.heap.size w w' := by
  by_cases h : 400 < L.length
  · exact plays_out L ad cap w h
  · exact plays_in L ad cap w hL hf (by omega)
end Go.Proofs.Ytmehdhjelggkpaa
