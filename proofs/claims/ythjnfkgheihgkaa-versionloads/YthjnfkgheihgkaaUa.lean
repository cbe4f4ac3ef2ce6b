/- Rows that a slice reads; the walk of SameRows. -/
import Derived.Test.YthjnfkgheihgkaaVt
import Derived.BigQuiet
import Derived.Deep.QuietTactic
namespace Go.Proofs.Ythjnfkgheihgkaa
open Go.RowKit
section
variable {w w' : World} {R : List Rw} {u v : Value}
/-- Rows that a slice reads. -/
def Rd (w : World) (R : List Rw) (v : Value) : Prop := ∃ ad cap, v = .slice ad R.length cap ∧ (ad = none → cap = 0) ∧ R.length ≤ cap ∧ cap ≤ maxLen ∧
  ∀ i (h : i < R.length), ∃ b o lv, ad = some ⟨b, o, none⟩ ∧ b < w.heap.size ∧ w.cell? ⟨b, o + i * 2, none⟩ = some (.string R[i].key) ∧ w.cell? ⟨b, o + i * 2 + 1, none⟩ = some lv ∧ Vs w R[i].list lv
theorem Rd.on (h : Rd w R v) (hb : Below w.heap.size w w') : Rd w' R v := by
  obtain ⟨ad, cap, e, h0, h1, h2, h3⟩ := h
  refine ⟨ad, cap, e, h0, h1, h2, fun i hi => ?_⟩
  obtain ⟨b, o, lv, ha, hl, c0, c1, hv⟩ := h3 i hi
  exact ⟨b, o, lv, ha, Nat.lt_of_lt_of_le hl hb.size, cell_on hb c0, cell_on hb c1, hv.on hb⟩
theorem Rm.rd {B : Nat} {P : List (Rw × Value)} (h : Rm w B P v) (e : P.map Prod.fst = R) : Rd w R v := by
  subst e
  rcases h.own.2 with ⟨hv, h0⟩ | ⟨g, cap, cur, hv, hg, hc, h1, h2, hr⟩
  · exact ⟨none, 0, by rw [hv, List.length_map, h0], fun _ => rfl, by rw [List.length_map]; omega, Nat.zero_le _, fun i hi => by rw [List.length_map] at hi; omega⟩
  · subst hv
    refine ⟨_, cap, by rw [List.length_map], fun q => (by cases q), by rw [List.length_map]; exact h1, h2, fun i hi => ?_⟩
    rw [List.length_map] at hi
    obtain ⟨q0, q1⟩ := rwC_get P i hi
    have ho := h.own
    refine ⟨g, 0, P[i].2, rfl, blk_lt hc, ?_, ?_, ?_⟩
    · rw [Nat.zero_add, List.getElem_map]
      exact (ho.cellAt _ (by omega)).trans q0
    · rw [Nat.zero_add]
      exact (ho.cellAt _ (by omega)).trans q1
    · rw [List.getElem_map]
      exact Vs.own (h.ls _ (List.getElem_mem hi))
set_option maxHeartbeats 4000000 in
set_option maxRecDepth 100000 in
theorem same_rows (hX : Rd w R u) (hY : Rd w R v) : Calls Try.prog 18 #[u, v] w fun e w' => e = .returned (.bool true) ∧ Below w.heap.size w w' := by
  obtain ⟨ad, cap, rfl, _, z1, z2, hX⟩ := hX
  obtain ⟨ad', cap', rfl, _, z3, z4, hY⟩ := hY
  have hmx : (R.length : Int) ≤ 9223372036854775807 := by unfold maxLen at z2; omega
  have HX := Lib.hid hX
  have HY := Lib.hid hY
  clear hX hY z2 z4 z1 z3
  go_enter Try.func18, Try.ntmps18
  go_wp2
  go_loopw [5] (fun iv wr => ∃ i : Nat, i ≤ R.length ∧ iv = .int .i64 (i : Int) ∧ Below w.heap.size w wr) (fun iv _ => R.length - (intOf iv).toNat)
  case atStart => exact ⟨0, Nat.zero_le _, rfl, Below.refl _ _⟩
  case round =>
    obtain ⟨i, hi, rfl, hb⟩ := hrel
    obtain ⟨V, rfl⟩ : ∃ V, V = wr := ⟨_, rfl⟩
    by_cases hlt : i < R.length
    · obtain ⟨b, o, lv, rfl, _, c0, c1, hv⟩ := HX.out i hlt
      obtain ⟨b', o', lv', rfl, _, d0, d1, hv'⟩ := HY.out i hlt
      clear HX HY
      obtain ⟨xa, xc, rfl, _, x1, x2, hv⟩ := hv
      obtain ⟨xa', xc', rfl, _, x3, x4, hv'⟩ := hv'
      have hml : (R[i].list.length : Int) ≤ 9223372036854775807 := by unfold maxLen at x2; omega
      have C1 := Lib.hid c1
      have D1 := Lib.hid d1
      have HV := Lib.hid hv
      have HV' := Lib.hid hv'
      have c0 := cell_on hb c0
      have c1 := cell_on hb c1
      have d0 := cell_on hb d0
      have d1 := cell_on hb d1
      have k1 : (i : Int) < R.length := by omega
      have k0 : (0 : Int) ≤ i := by omega
      have HB := Lib.hid hb
      have e1 := same_eq R[i].key R[i].key
      simp only [decide_true] at e1
      clear hb hv hv' x1 x2 x3 x4
      go_wp2
      go_quiet (fail)
      have HB2 := Lib.hid (below_draw HB.out nq)
      obtain ⟨V2, hV2⟩ : ∃ V2, V.drewN nq = V2 := ⟨_, rfl⟩
      rw [hV2] at HB2 ⊢
      clear hV2 c0 c1 d0 d1 HB
      go_wp2
      go_loopw [6] (fun kv wr => ∃ k : Nat, k ≤ R[i].list.length ∧ kv = .int .i64 (k : Int) ∧ Below w.heap.size w wr) (fun kv _ => R[i].list.length - (intOf kv).toNat)
      case atStart => exact ⟨0, Nat.zero_le _, rfl, HB2.out⟩
      case round =>
        clear HB2
        obtain ⟨k, hk, rfl, hb⟩ := hrel
        obtain ⟨V3, rfl⟩ : ∃ V3, V3 = wr := ⟨_, rfl⟩
        have c1 := cell_on hb C1.out
        have d1 := cell_on hb D1.out
        have HB := Lib.hid hb
        by_cases hlk : k < R[i].list.length
        · obtain ⟨xb, xo, rfl, _, m0, m1, m2⟩ := HV.out k hlk
          obtain ⟨xb', xo', rfl, _, n0, n1, n2⟩ := HV'.out k hlk
          have m0 := cell_on hb m0
          have m1 := cell_on hb m1
          have m2 := cell_on hb m2
          have n0 := cell_on hb n0
          have n1 := cell_on hb n1
          have n2 := cell_on hb n2
          have j1 : (k : Int) < R[i].list.length := by omega
          have j0 : (0 : Int) ≤ k := by omega
          have e2 := same_eq R[i].list[k].val R[i].list[k].val
          simp only [decide_true] at e2
          clear hb
          go_wp2
          go_quiet (fail)
          go_wp2
          go_roundw
          case rel => exact ⟨k + 1, hlk, by go_num, below_draw HB.out _⟩
          case measure => simp [intOf]; omega
        · have j1 : ¬ ((k : Int) < R[i].list.length) := by omega
          clear hb
          go_wp2
          go_roundw
          case rel => exact ⟨i + 1, hlt, by go_num, HB.out⟩
          case measure => simp [intOf]; omega
    · have k1 : ¬ ((i : Int) < R.length) := by omega
      go_wp2
      go_ret
      exact ⟨rfl, hb⟩
end
end Go.Proofs.Ythjnfkgheihgkaa
