import Derived.Test.YtkfnphhoebknnaaQBb
namespace Go.Proofs.Ytkfnphhoebknnaa
open Go.RowKit
/-- At B, from o on, lies x. -/
def Pt {α : Type} (E : World → α → List Value → Prop) (X : World) (B o : Nat) (x : α) : Prop := ∃ cs, E X x cs ∧ ∀ j u, cs[j]? = some u → X.cell? ⟨B, o + j, none⟩ = some u
abbrev Goes (f : FuncId) : Prop := ∀ (X : World) (a : Array Value), Sem.run Try.prog (callFunc f a) X = .ok (.enter f a) X
/-- A function value tells of each thing of a list whether p. -/
def Asks {α : Type} (E : World → α → List Value → Prop) (w : World) (L : List α) (f : FuncId) (cs : Array Value) (p : α → Bool) : Prop := ∀ X, Below w.heap.size w X → ∀ B o, ∀ x ∈ L, B < X.heap.size → Pt E X B o x → Calls Try.prog f (#[.pointer (some ⟨B, o, none⟩)] ++ cs) X fun e w' => e = .returned (.bool (p x)) ∧ Below X.heap.size X w'
section
variable {w : World}
set_option maxHeartbeats 1000000 in
set_option maxRecDepth 100000 in
theorem findT_any {L : List Tb} {v : Value} {f : FuncId} {cs : Array Value} {p : Tb → Bool} (hL : Lr tbE 5 w L v) (hcf : Goes f) (hf : Asks tbE w L f cs p) :
    Calls Try.prog 52 #[v, .func (.func f) #[] cs] w fun e w' => e = .returned (.int .i64 (fidx p L)) ∧ Below w.heap.size w w' := by
  obtain ⟨ad, cap, rfl, _, z1, z2, hX⟩ := hL
  have hmx : (L.length : Int) ≤ 9223372036854775807 := by unfold maxLen at z2; omega
  have HX := Lib.hid hX
  have HF := Lib.hid hf
  clear hX z1 z2 hf
  go_enter Try.func52, Try.ntmps52
  go_wp2
  go_loopw [8] (fun iv wr => ∃ i : Nat, i ≤ L.length ∧ iv = .int .i64 (i : Int) ∧ (∀ j (hj : j < L.length), j < i → p L[j] = false) ∧ Below w.heap.size w wr) (fun iv _ => L.length - (intOf iv).toNat)
  case atStart => exact ⟨0, Nat.zero_le _, rfl, fun j _ hj => by omega, Below.refl _ _⟩
  case round =>
    obtain ⟨i, hi, rfl, hno, hb⟩ := hrel
    obtain ⟨V, rfl⟩ : ∃ V, V = wr := ⟨_, rfl⟩
    have HN := Lib.hid hno
    have HB := Lib.hid hb
    by_cases hlt : i < L.length
    · obtain ⟨b, o, cs', rfl, hbl, hE, _, hcell⟩ := HX.out i hlt
      have hc := HF.out V hb b (o + i * 5) L[i] (List.getElem_mem hlt) (Nat.lt_of_lt_of_le hbl hb.size) ⟨cs', tbE_held _ _ _ _ hb hE, fun j u hu => cell_on hb (by have := hcell j u hu; exact this)⟩
      have k0 : (0 : Int) ≤ i := by omega
      have k1 : (i : Int) < L.length := by omega
      have HAT := Lib.hid (fun hp => fidx_at hlt hp hno)
      clear hb hno hcell
      cases hp : p L[i] with
      | true =>
        rw [hp] at hc
        have HP := Lib.hid hp
        clear hp
        go_wp2_with fail
        refine hc.mono ?_
        rintro e w1 ⟨rfl, b1⟩
        have HB1 := Lib.hid b1
        clear b1 hc
        go_wp2
        go_ret
        exact ⟨by rw [HAT.out HP.out]; rfl, bgo HB.out HB1.out⟩
      | false =>
        rw [hp] at hc
        have HP := Lib.hid hp
        clear hp
        go_wp2_with fail
        refine hc.mono ?_
        rintro e w1 ⟨rfl, b1⟩
        have HB1 := Lib.hid b1
        clear b1 hc
        go_wp2
        go_roundw
        case rel =>
          refine ⟨i + 1, hlt, by go_num, fun j hj hji => ?_, bgo HB.out HB1.out⟩
          rcases Nat.lt_or_ge j i with q | q
          · exact HN.out j hj q
          · obtain rfl : j = i := by omega
            exact HP.out
        case measure => simp [intOf]; omega
    · have hge : ¬ (i : Int) < L.length := by omega
      have HE : Hid (fidx p L = -1) := fidx_none fun j hj => HN.out j hj (by omega)
      clear hno hb
      go_wp2
      go_ret
      exact ⟨by rw [HE.out]; rfl, HB.out⟩
set_option maxHeartbeats 1000000 in
set_option maxRecDepth 100000 in
theorem findC_any {L : List Col} {v : Value} {f : FuncId} {cs : Array Value} {p : Col → Bool} (hL : Lr colE 7 w L v) (hcf : Goes f) (hf : Asks colE w L f cs p) :
    Calls Try.prog 68 #[v, .func (.func f) #[] cs] w fun e w' => e = .returned (.int .i64 (fidx p L)) ∧ Below w.heap.size w w' := by
  obtain ⟨ad, cap, rfl, _, z1, z2, hX⟩ := hL
  have hmx : (L.length : Int) ≤ 9223372036854775807 := by unfold maxLen at z2; omega
  have HX := Lib.hid hX
  have HF := Lib.hid hf
  clear hX z1 z2 hf
  go_enter Try.func68, Try.ntmps68
  go_wp2
  go_loopw [8] (fun iv wr => ∃ i : Nat, i ≤ L.length ∧ iv = .int .i64 (i : Int) ∧ (∀ j (hj : j < L.length), j < i → p L[j] = false) ∧ Below w.heap.size w wr) (fun iv _ => L.length - (intOf iv).toNat)
  case atStart => exact ⟨0, Nat.zero_le _, rfl, fun j _ hj => by omega, Below.refl _ _⟩
  case round =>
    obtain ⟨i, hi, rfl, hno, hb⟩ := hrel
    obtain ⟨V, rfl⟩ : ∃ V, V = wr := ⟨_, rfl⟩
    have HN := Lib.hid hno
    have HB := Lib.hid hb
    by_cases hlt : i < L.length
    · obtain ⟨b, o, cs', rfl, hbl, hE, _, hcell⟩ := HX.out i hlt
      have hc := HF.out V hb b (o + i * 7) L[i] (List.getElem_mem hlt) (Nat.lt_of_lt_of_le hbl hb.size) ⟨cs', colE_held _ _ _ _ hb hE, fun j u hu => cell_on hb (by have := hcell j u hu; exact this)⟩
      have k0 : (0 : Int) ≤ i := by omega
      have k1 : (i : Int) < L.length := by omega
      have HAT := Lib.hid (fun hp => fidx_at hlt hp hno)
      clear hb hno hcell
      cases hp : p L[i] with
      | true =>
        rw [hp] at hc
        have HP := Lib.hid hp
        clear hp
        go_wp2_with fail
        refine hc.mono ?_
        rintro e w1 ⟨rfl, b1⟩
        have HB1 := Lib.hid b1
        clear b1 hc
        go_wp2
        go_ret
        exact ⟨by rw [HAT.out HP.out]; rfl, bgo HB.out HB1.out⟩
      | false =>
        rw [hp] at hc
        have HP := Lib.hid hp
        clear hp
        go_wp2_with fail
        refine hc.mono ?_
        rintro e w1 ⟨rfl, b1⟩
        have HB1 := Lib.hid b1
        clear b1 hc
        go_wp2
        go_roundw
        case rel =>
          refine ⟨i + 1, hlt, by go_num, fun j hj hji => ?_, bgo HB.out HB1.out⟩
          rcases Nat.lt_or_ge j i with q | q
          · exact HN.out j hj q
          · obtain rfl : j = i := by omega
            exact HP.out
        case measure => simp [intOf]; omega
    · have hge : ¬ (i : Int) < L.length := by omega
      have HE : Hid (fidx p L = -1) := fidx_none fun j hj => HN.out j hj (by omega)
      clear hno hb
      go_wp2
      go_ret
      exact ⟨by rw [HE.out]; rfl, HB.out⟩
set_option maxHeartbeats 1000000 in
set_option maxRecDepth 100000 in
theorem findI_any {L : List Ix} {v : Value} {f : FuncId} {cs : Array Value} {p : Ix → Bool} (hL : Lr ixE 5 w L v) (hcf : Goes f) (hf : Asks ixE w L f cs p) :
    Calls Try.prog 78 #[v, .func (.func f) #[] cs] w fun e w' => e = .returned (.int .i64 (fidx p L)) ∧ Below w.heap.size w w' := by
  obtain ⟨ad, cap, rfl, _, z1, z2, hX⟩ := hL
  have hmx : (L.length : Int) ≤ 9223372036854775807 := by unfold maxLen at z2; omega
  have HX := Lib.hid hX
  have HF := Lib.hid hf
  clear hX z1 z2 hf
  go_enter Try.func78, Try.ntmps78
  go_wp2
  go_loopw [8] (fun iv wr => ∃ i : Nat, i ≤ L.length ∧ iv = .int .i64 (i : Int) ∧ (∀ j (hj : j < L.length), j < i → p L[j] = false) ∧ Below w.heap.size w wr) (fun iv _ => L.length - (intOf iv).toNat)
  case atStart => exact ⟨0, Nat.zero_le _, rfl, fun j _ hj => by omega, Below.refl _ _⟩
  case round =>
    obtain ⟨i, hi, rfl, hno, hb⟩ := hrel
    obtain ⟨V, rfl⟩ : ∃ V, V = wr := ⟨_, rfl⟩
    have HN := Lib.hid hno
    have HB := Lib.hid hb
    by_cases hlt : i < L.length
    · obtain ⟨b, o, cs', rfl, hbl, hE, _, hcell⟩ := HX.out i hlt
      have hc := HF.out V hb b (o + i * 5) L[i] (List.getElem_mem hlt) (Nat.lt_of_lt_of_le hbl hb.size) ⟨cs', ixE_held _ _ _ _ hb hE, fun j u hu => cell_on hb (by have := hcell j u hu; exact this)⟩
      have k0 : (0 : Int) ≤ i := by omega
      have k1 : (i : Int) < L.length := by omega
      have HAT := Lib.hid (fun hp => fidx_at hlt hp hno)
      clear hb hno hcell
      cases hp : p L[i] with
      | true =>
        rw [hp] at hc
        have HP := Lib.hid hp
        clear hp
        go_wp2_with fail
        refine hc.mono ?_
        rintro e w1 ⟨rfl, b1⟩
        have HB1 := Lib.hid b1
        clear b1 hc
        go_wp2
        go_ret
        exact ⟨by rw [HAT.out HP.out]; rfl, bgo HB.out HB1.out⟩
      | false =>
        rw [hp] at hc
        have HP := Lib.hid hp
        clear hp
        go_wp2_with fail
        refine hc.mono ?_
        rintro e w1 ⟨rfl, b1⟩
        have HB1 := Lib.hid b1
        clear b1 hc
        go_wp2
        go_roundw
        case rel =>
          refine ⟨i + 1, hlt, by go_num, fun j hj hji => ?_, bgo HB.out HB1.out⟩
          rcases Nat.lt_or_ge j i with q | q
          · exact HN.out j hj q
          · obtain rfl : j = i := by omega
            exact HP.out
        case measure => simp [intOf]; omega
    · have hge : ¬ (i : Int) < L.length := by omega
      have HE : Hid (fidx p L = -1) := fidx_none fun j hj => HN.out j hj (by omega)
      clear hno hb
      go_wp2
      go_ret
      exact ⟨by rw [HE.out]; rfl, HB.out⟩
set_option maxHeartbeats 1000000 in
set_option maxRecDepth 100000 in
theorem findK_any {L : List Fk} {v : Value} {f : FuncId} {cs : Array Value} {p : Fk → Bool} (hL : Lr fkE 5 w L v) (hcf : Goes f) (hf : Asks fkE w L f cs p) :
    Calls Try.prog 81 #[v, .func (.func f) #[] cs] w fun e w' => e = .returned (.int .i64 (fidx p L)) ∧ Below w.heap.size w w' := by
  obtain ⟨ad, cap, rfl, _, z1, z2, hX⟩ := hL
  have hmx : (L.length : Int) ≤ 9223372036854775807 := by unfold maxLen at z2; omega
  have HX := Lib.hid hX
  have HF := Lib.hid hf
  clear hX z1 z2 hf
  go_enter Try.func81, Try.ntmps81
  go_wp2
  go_loopw [8] (fun iv wr => ∃ i : Nat, i ≤ L.length ∧ iv = .int .i64 (i : Int) ∧ (∀ j (hj : j < L.length), j < i → p L[j] = false) ∧ Below w.heap.size w wr) (fun iv _ => L.length - (intOf iv).toNat)
  case atStart => exact ⟨0, Nat.zero_le _, rfl, fun j _ hj => by omega, Below.refl _ _⟩
  case round =>
    obtain ⟨i, hi, rfl, hno, hb⟩ := hrel
    obtain ⟨V, rfl⟩ : ∃ V, V = wr := ⟨_, rfl⟩
    have HN := Lib.hid hno
    have HB := Lib.hid hb
    by_cases hlt : i < L.length
    · obtain ⟨b, o, cs', rfl, hbl, hE, _, hcell⟩ := HX.out i hlt
      have hc := HF.out V hb b (o + i * 5) L[i] (List.getElem_mem hlt) (Nat.lt_of_lt_of_le hbl hb.size) ⟨cs', fkE_held _ _ _ _ hb hE, fun j u hu => cell_on hb (by have := hcell j u hu; exact this)⟩
      have k0 : (0 : Int) ≤ i := by omega
      have k1 : (i : Int) < L.length := by omega
      have HAT := Lib.hid (fun hp => fidx_at hlt hp hno)
      clear hb hno hcell
      cases hp : p L[i] with
      | true =>
        rw [hp] at hc
        have HP := Lib.hid hp
        clear hp
        go_wp2_with fail
        refine hc.mono ?_
        rintro e w1 ⟨rfl, b1⟩
        have HB1 := Lib.hid b1
        clear b1 hc
        go_wp2
        go_ret
        exact ⟨by rw [HAT.out HP.out]; rfl, bgo HB.out HB1.out⟩
      | false =>
        rw [hp] at hc
        have HP := Lib.hid hp
        clear hp
        go_wp2_with fail
        refine hc.mono ?_
        rintro e w1 ⟨rfl, b1⟩
        have HB1 := Lib.hid b1
        clear b1 hc
        go_wp2
        go_roundw
        case rel =>
          refine ⟨i + 1, hlt, by go_num, fun j hj hji => ?_, bgo HB.out HB1.out⟩
          rcases Nat.lt_or_ge j i with q | q
          · exact HN.out j hj q
          · obtain rfl : j = i := by omega
            exact HP.out
        case measure => simp [intOf]; omega
    · have hge : ¬ (i : Int) < L.length := by omega
      have HE : Hid (fidx p L = -1) := fidx_none fun j hj => HN.out j hj (by omega)
      clear hno hb
      go_wp2
      go_ret
      exact ⟨by rw [HE.out]; rfl, HB.out⟩
set_option maxHeartbeats 1000000 in
set_option maxRecDepth 100000 in
theorem findN_any {L : List Int} {v : Value} {f : FuncId} {cs : Array Value} {p : Int → Bool} (hL : Lr inE 1 w L v) (hcf : Goes f) (hf : Asks inE w L f cs p) :
    Calls Try.prog 48 #[v, .func (.func f) #[] cs] w fun e w' => e = .returned (.int .i64 (fidx p L)) ∧ Below w.heap.size w w' := by
  obtain ⟨ad, cap, rfl, _, z1, z2, hX⟩ := hL
  have hmx : (L.length : Int) ≤ 9223372036854775807 := by unfold maxLen at z2; omega
  have HX := Lib.hid hX
  have HF := Lib.hid hf
  clear hX z1 z2 hf
  go_enter Try.func48, Try.ntmps48
  go_wp2
  go_loopw [8] (fun iv wr => ∃ i : Nat, i ≤ L.length ∧ iv = .int .i64 (i : Int) ∧ (∀ j (hj : j < L.length), j < i → p L[j] = false) ∧ Below w.heap.size w wr) (fun iv _ => L.length - (intOf iv).toNat)
  case atStart => exact ⟨0, Nat.zero_le _, rfl, fun j _ hj => by omega, Below.refl _ _⟩
  case round =>
    obtain ⟨i, hi, rfl, hno, hb⟩ := hrel
    obtain ⟨V, rfl⟩ : ∃ V, V = wr := ⟨_, rfl⟩
    have HN := Lib.hid hno
    have HB := Lib.hid hb
    by_cases hlt : i < L.length
    · obtain ⟨b, o, cs', rfl, hbl, hE, _, hcell⟩ := HX.out i hlt
      have hc := HF.out V hb b (o + i) L[i] (List.getElem_mem hlt) (Nat.lt_of_lt_of_le hbl hb.size) ⟨cs', inE_held _ _ _ _ hb hE, fun j u hu => cell_on hb (by have := hcell j u hu; rw [Nat.mul_one] at this; exact this)⟩
      have k0 : (0 : Int) ≤ i := by omega
      have k1 : (i : Int) < L.length := by omega
      have HAT := Lib.hid (fun hp => fidx_at hlt hp hno)
      clear hb hno hcell
      cases hp : p L[i] with
      | true =>
        rw [hp] at hc
        have HP := Lib.hid hp
        clear hp
        go_wp2_with fail
        refine hc.mono ?_
        rintro e w1 ⟨rfl, b1⟩
        have HB1 := Lib.hid b1
        clear b1 hc
        go_wp2
        go_ret
        exact ⟨by rw [HAT.out HP.out]; rfl, bgo HB.out HB1.out⟩
      | false =>
        rw [hp] at hc
        have HP := Lib.hid hp
        clear hp
        go_wp2_with fail
        refine hc.mono ?_
        rintro e w1 ⟨rfl, b1⟩
        have HB1 := Lib.hid b1
        clear b1 hc
        go_wp2
        go_roundw
        case rel =>
          refine ⟨i + 1, hlt, by go_num, fun j hj hji => ?_, bgo HB.out HB1.out⟩
          rcases Nat.lt_or_ge j i with q | q
          · exact HN.out j hj q
          · obtain rfl : j = i := by omega
            exact HP.out
        case measure => simp [intOf]; omega
    · have hge : ¬ (i : Int) < L.length := by omega
      have HE : Hid (fidx p L = -1) := fidx_none fun j hj => HN.out j hj (by omega)
      clear hno hb
      go_wp2
      go_ret
      exact ⟨by rw [HE.out]; rfl, HB.out⟩
end
end Go.Proofs.Ytkfnphhoebknnaa
