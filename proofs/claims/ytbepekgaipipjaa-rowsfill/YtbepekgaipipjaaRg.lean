/- Lists of cells and of writes: held against one another by the document's Same. -/
import Derived.Test.YtbepekgaipipjaaRf
import Derived.BigQuiet
import Derived.Deep.QuietTactic
namespace Go.Proofs.Ytbepekgaipipjaa
open Go.RowKit
theorem Lr.at3 {w : World} {L : List Wr} {ad : Option Addr} {n cap : Nat} (h : Lr wrE 3 w L (.slice ad n cap)) : n = L.length ∧ cap ≤ maxLen ∧ L.length ≤ cap ∧ ∀ i (h : i < L.length), ∃ b o, ad = some ⟨b, o, none⟩ ∧ b < w.heap.size ∧ w.cell? ⟨b, o + i * 3, none⟩ = some (.string L[i].key) ∧ w.cell? ⟨b, o + i * 3 + 1, none⟩ = some (.string L[i].val) ∧ w.cell? ⟨b, o + i * 3 + 2, none⟩ = some (.bool L[i].dead) := by
  obtain ⟨ad', cap', e, h0, h1, h2, h3⟩ := h
  cases e
  refine ⟨rfl, h2, h1, fun i hi => ?_⟩
  obtain ⟨b, o, cs, e, hb, hE, _, hh⟩ := h3 i hi
  have hE' : cs = wrL L[i] := hE
  subst hE'
  exact ⟨b, o, e, hb, hh 0 _ rfl, hh 1 _ rfl, hh 2 _ rfl⟩
set_option maxHeartbeats 4000000 in
set_option maxRecDepth 100000 in
theorem same_cells {w : World} {L : List Ce} {u v : Value} (hX : Lr ceE 4 w L u) (hY : Lr ceE 4 w L v) : Calls Try.prog 25 #[u, v] w fun e w' => e = .returned (.bool true) ∧ Below w.heap.size w w' := by
  obtain ⟨ad, cap, rfl, hr0⟩ := hX
  have hX : Lr ceE 4 w L (.slice ad L.length cap) := ⟨ad, cap, rfl, hr0⟩
  obtain ⟨ad', cap', rfl, hr1⟩ := hY
  have hY : Lr ceE 4 w L (.slice ad' L.length cap') := ⟨ad', cap', rfl, hr1⟩
  obtain ⟨_, hcm, hlc, h1⟩ := hX.at4
  obtain ⟨_, _, _, h2⟩ := hY.at4
  have hmx : (L.length : Int) ≤ 9223372036854775807 := by unfold maxLen at hcm; omega
  have HX := Lib.hid h1
  have HY := Lib.hid h2
  clear hX hY h1 h2 hr0 hr1 hcm hlc
  go_enter Try.func25, Try.ntmps25
  go_wp2
  go_loopw [5] (fun iv wr => ∃ i : Nat, i ≤ L.length ∧ iv = .int .i64 (i : Int) ∧ Below w.heap.size w wr) (fun iv _ => L.length - (intOf iv).toNat)
  case atStart => exact ⟨0, Nat.zero_le _, rfl, Below.refl _ _⟩
  case round =>
    obtain ⟨i, hi, rfl, hb⟩ := hrel
    by_cases hlt : i < L.length
    · obtain ⟨b, o, rfl, hbl, c0, c1, c2, c3⟩ := HX.out i hlt
      obtain ⟨b', o', rfl, hbl', d0, d1, d2, d3⟩ := HY.out i hlt
      obtain ⟨x, hx⟩ : ∃ x, L[i] = x := ⟨_, rfl⟩
      rw [hx] at c0 d0 c1 d1 c2 d2 c3 d3
      have c0 := cell_on hb c0
      have d0 := cell_on hb d0
      have c1 := cell_on hb c1
      have d1 := cell_on hb d1
      have c2 := cell_on hb c2
      have d2 := cell_on hb d2
      have c3 := cell_on hb c3
      have d3 := cell_on hb d3
      have k1 : (i : Int) < L.length := by omega
      have k0 : (0 : Int) ≤ i := by omega
      have HB := Lib.hid hb
      have e0 := same_eq x.v.s x.v.s
      simp only [decide_true] at e0
      clear hb hx hbl hbl'
      go_wp2
      go_quiet (fail)
      go_wp2
      go_roundw
      case rel => exact ⟨i + 1, hlt, by go_num, below_draw HB.out nq⟩
      case measure => simp [intOf]; omega
    · have k1 : ¬ ((i : Int) < L.length) := by omega
      go_wp2
      go_ret
      exact ⟨rfl, hb⟩
set_option maxHeartbeats 4000000 in
set_option maxRecDepth 100000 in
theorem same_writes {w : World} {L : List Wr} {u v : Value} (hX : Lr wrE 3 w L u) (hY : Lr wrE 3 w L v) : Calls Try.prog 27 #[u, v] w fun e w' => e = .returned (.bool true) ∧ Below w.heap.size w w' := by
  obtain ⟨ad, cap, rfl, hr0⟩ := hX
  have hX : Lr wrE 3 w L (.slice ad L.length cap) := ⟨ad, cap, rfl, hr0⟩
  obtain ⟨ad', cap', rfl, hr1⟩ := hY
  have hY : Lr wrE 3 w L (.slice ad' L.length cap') := ⟨ad', cap', rfl, hr1⟩
  obtain ⟨_, hcm, hlc, h1⟩ := hX.at3
  obtain ⟨_, _, _, h2⟩ := hY.at3
  have hmx : (L.length : Int) ≤ 9223372036854775807 := by unfold maxLen at hcm; omega
  have HX := Lib.hid h1
  have HY := Lib.hid h2
  clear hX hY h1 h2 hr0 hr1 hcm hlc
  go_enter Try.func27, Try.ntmps27
  go_wp2
  go_loopw [5] (fun iv wr => ∃ i : Nat, i ≤ L.length ∧ iv = .int .i64 (i : Int) ∧ Below w.heap.size w wr) (fun iv _ => L.length - (intOf iv).toNat)
  case atStart => exact ⟨0, Nat.zero_le _, rfl, Below.refl _ _⟩
  case round =>
    obtain ⟨i, hi, rfl, hb⟩ := hrel
    by_cases hlt : i < L.length
    · obtain ⟨b, o, rfl, hbl, c0, c1, c2⟩ := HX.out i hlt
      obtain ⟨b', o', rfl, hbl', d0, d1, d2⟩ := HY.out i hlt
      obtain ⟨x, hx⟩ : ∃ x, L[i] = x := ⟨_, rfl⟩
      rw [hx] at c0 d0 c1 d1 c2 d2
      have c0 := cell_on hb c0
      have d0 := cell_on hb d0
      have c1 := cell_on hb c1
      have d1 := cell_on hb d1
      have c2 := cell_on hb c2
      have d2 := cell_on hb d2
      have k1 : (i : Int) < L.length := by omega
      have k0 : (0 : Int) ≤ i := by omega
      have HB := Lib.hid hb
      have e0 := same_eq x.key x.key
      have e1 := same_eq x.val x.val
      simp only [decide_true] at e0 e1
      clear hb hx hbl hbl'
      go_wp2
      go_quiet (fail)
      go_wp2
      go_roundw
      case rel => exact ⟨i + 1, hlt, by go_num, below_draw HB.out nq⟩
      case measure => simp [intOf]; omega
    · have k1 : ¬ ((i : Int) < L.length) := by omega
      go_wp2
      go_ret
      exact ⟨rfl, hb⟩
end Go.Proofs.Ytbepekgaipipjaa
