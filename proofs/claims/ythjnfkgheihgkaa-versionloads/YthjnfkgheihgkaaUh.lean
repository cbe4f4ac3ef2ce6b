/- The walk of mayBe. -/
import Derived.Test.YthjnfkgheihgkaaUa
namespace Go.Proofs.Ythjnfkgheihgkaa
open Go.RowKit
/-- Times rise, from later than t on. -/
def risesB (t : Int) : List Ve → Bool
  | [] => true
  | v :: l => decide (t < v.ts) && risesB v.ts l
def mayB (l : List Ve) : Bool := risesB 0 l && decide (0 < l.length)
theorem risesB_iff (t : Int) (l : List Ve) : risesB t l = true ↔ l.Pairwise (fun a b => a.ts < b.ts) ∧ ∀ v ∈ l, t < v.ts := by
  induction l generalizing t with
  | nil => simp [risesB]
  | cons v l ih =>
    simp only [risesB, Bool.and_eq_true, decide_eq_true_eq, ih, List.pairwise_cons, List.mem_cons]
    constructor
    · rintro ⟨h1, h2, h3⟩
      refine ⟨⟨h3, h2⟩, fun u hu => ?_⟩
      rcases hu with rfl | hu
      · exact h1
      · have := h3 u hu
        omega
    · rintro ⟨⟨h3, h2⟩, h4⟩
      exact ⟨h4 v (.inl rfl), h2, h3⟩
theorem mayB_rise (l : List Ve) : mayB l = true ↔ Rise l := by
  unfold mayB
  rw [Bool.and_eq_true, risesB_iff, decide_eq_true_eq]
  constructor
  · rintro ⟨⟨h1, h2⟩, h3⟩
    exact ⟨List.length_pos_iff.1 h3, h1, fun v hv => by have := h2 v hv; omega⟩
  · rintro ⟨h1, h2, h3⟩
    exact ⟨⟨h2, fun v hv => by have := h3 v hv; omega⟩, List.length_pos_iff.2 h1⟩
theorem risesB_drop {l : List Ve} {i : Nat} (h : i < l.length) (t : Int) : risesB t (l.drop i) = (decide (t < l[i].ts) && risesB l[i].ts (l.drop (i + 1))) := by
  rw [List.drop_eq_getElem_cons h]
  rfl
section
variable {w : World} {l : List Ve} {v : Value}
set_option maxHeartbeats 4000000 in
set_option maxRecDepth 100000 in
theorem mayBe_any (hl : Vs w l v) : Calls Try.prog 30 #[v] w fun e w' => e = .returned (.bool (mayB l)) ∧ Below w.heap.size w w' := by
  obtain ⟨ad, cap, rfl, _, z1, z2, hX⟩ := hl
  have hmx : (l.length : Int) ≤ 9223372036854775807 := by unfold maxLen at z2; omega
  have HX := Lib.hid hX
  obtain ⟨f, hf⟩ : ∃ f, risesB 0 l = f := ⟨_, rfl⟩
  have HF := Lib.hid hf
  clear hX z1 z2 hf
  go_enter Try.func30, Try.ntmps30
  go_wp2
  go_loopw [3, 8] (fun tv iv wr => ∃ (i : Nat) (t : Int), i ≤ l.length ∧ iv = .int .i64 (i : Int) ∧ tv = .int .i64 t ∧ risesB t (l.drop i) = f ∧ Below w.heap.size w wr) (fun _ iv _ => l.length - (intOf iv).toNat)
  case atStart => exact ⟨0, 0, Nat.zero_le _, rfl, rfl, HF.out, Below.refl _ _⟩
  case round =>
    obtain ⟨i, t, hi, rfl, rfl, ht, hb⟩ := hrel
    obtain ⟨V, rfl⟩ : ∃ V, V = wr := ⟨_, rfl⟩
    have HT := Lib.hid ht
    have HB := Lib.hid hb
    by_cases hlt : i < l.length
    · obtain ⟨b, o, rfl, _, c0, c1, c2⟩ := HX.out i hlt
      have c0 := cell_on hb c0
      have c1 := cell_on hb c1
      have c2 := cell_on hb c2
      have k1 : (i : Int) < l.length := by omega
      have k0 : (0 : Int) ≤ i := by omega
      have HD := Lib.hid (risesB_drop hlt t)
      have HBA : Hid (∀ o : Obj, Below w.heap.size w (V.alloc o)) := fun o => hb.alloc hb.size _
      clear hb ht
      by_cases hts : l[i].ts ≤ t
      · have HR : Hid (mayB l = false) := by
          show _ = _
          unfold mayB
          have h1 := HF.out
          have h2 := HT.out
          rw [HD.out, decide_eq_false (by omega), Bool.false_and] at h2
          rw [h1, ← h2, Bool.false_and]
        go_wp2
        go_ret
        exact ⟨by rw [HR.out]; rfl, HBA.out _⟩
      · have HR : Hid (risesB l[i].ts (l.drop (i + 1)) = f) := by
          show _ = _
          have h2 := HT.out
          rw [HD.out, decide_eq_true (by omega), Bool.true_and] at h2
          exact h2
        go_wp2
        go_roundw
        case rel => exact ⟨i + 1, l[i].ts, hlt, by go_num, rfl, HR.out, HBA.out _⟩
        case measure => simp [intOf]; omega
    · have k1 : ¬ ((i : Int) < l.length) := by omega
      have HR : Hid (mayB l = decide (0 < l.length)) := by
        show _ = _
        unfold mayB
        have h1 := HF.out
        have h2 := HT.out
        rw [List.drop_of_length_le (by omega)] at h2
        have h3 : f = true := h2.symm
        rw [h1, h3, Bool.true_and]
      clear hb ht
      by_cases hz : 0 < l.length
      · have hz' : (0 : Int) < l.length := by omega
        go_wp2
        go_ret
        exact ⟨by rw [HR.out, decide_eq_true hz]; rfl, HB.out⟩
      · have hz' : ¬ (0 : Int) < l.length := by omega
        go_wp2
        go_ret
        exact ⟨by rw [HR.out, decide_eq_false hz]; rfl, HB.out⟩
end
end Go.Proofs.Ythjnfkgheihgkaa
