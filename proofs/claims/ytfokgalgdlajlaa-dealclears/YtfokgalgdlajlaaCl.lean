/- Which are asked for; who has answered. -/
import Derived.Test.YtfokgalgdlajlaaCk
namespace Go.Proofs.Ytfokgalgdlajlaa
open Go.RowKit
section
variable {w : World}
def AsksK (w : World) (L : List Ak) (f : FuncId) (cs : Array Value) (p : Ak → Bool) : Prop := ∀ X, Below w.heap.size w X → ∀ l ∈ L, Calls Try.prog f (#[.agg (akA l)] ++ cs) X fun e w' => e = .returned (.bool (p l)) ∧ Below X.heap.size X w'
set_option maxHeartbeats 1000000 in
set_option maxRecDepth 100000 in
theorem idxK_any {L : List Ak} {v : Value} {f : FuncId} {cs : Array Value} {p : Ak → Bool} (hL : Lr akE 31 w L v) (hcf : ∀ (X : World) (a : Array Value), Sem.run Try.prog (callFunc f a) X = .ok (.enter f a) X) (hf : AsksK w L f cs p) :
    Calls Try.prog 51 #[v, .func (.func f) #[] cs] w fun e w' => e = .returned (.int .i64 (fidx p L)) ∧ Below w.heap.size w w' := by
  obtain ⟨ad, cap, rfl, _, z1, z2, hX⟩ := hL
  have hmx : (L.length : Int) ≤ 9223372036854775807 := by unfold maxLen at z2; omega
  have HX := Lib.hid hX
  have HF := Lib.hid hf
  clear hX z1 z2 hf
  go_enter Try.func51, Try.ntmps51
  go_wp2
  go_loopw [8] (fun iv wr => ∃ i : Nat, i ≤ L.length ∧ iv = .int .i64 (i : Int) ∧ (∀ j (hj : j < L.length), j < i → p L[j] = false) ∧ Below w.heap.size w wr) (fun iv _ => L.length - (intOf iv).toNat)
  case atStart => exact ⟨0, Nat.zero_le _, rfl, fun j _ hj => by omega, Below.refl _ _⟩
  case round =>
    obtain ⟨i, hi, rfl, hno, hb⟩ := hrel
    obtain ⟨V, rfl⟩ : ∃ V, V = wr := ⟨_, rfl⟩
    have HN := Lib.hid hno
    have HB := Lib.hid hb
    by_cases hlt : i < L.length
    · obtain ⟨b, o, cs', rfl, hbl, hE, _, hcell⟩ := HX.out i hlt
      cases hE
      have hc := HF.out V hb L[i] (List.getElem_mem hlt)
      have hld : (Instr.loadAt 78 (.pointer (some ⟨b, o + i * 31, none⟩))).run Try.prog V = .ok (.agg (akA L[i])) V := run_loadAt_mid V b (o + i * 31) 78 (akL L[i]) _ (fun j u hu => cell_on hb (hcell j u hu)) Try.underlying78 rfl size78
      have k0 : (0 : Int) ≤ i := by omega
      have k1 : (i : Int) < L.length := by omega
      have HAT := Lib.hid (fun hp => fidx_at hlt hp hno)
      have HLD := Lib.hid hld
      clear hb hno hcell hld
      cases hp : p L[i] with
      | true =>
        rw [hp] at hc
        have HP := Lib.hid hp
        clear hp
        go_wp2_with (refine wpl_load _ rfl (by simp [Act.eval]) HLD.out ?_)
        refine hc.mono ?_
        rintro e w1 ⟨rfl, b1⟩
        have HB1 := Lib.hid b1
        clear b1 hc
        go_wp2
        go_ret
        exact ⟨by rw [HAT.out HP.out]; rfl, bgo HB.out HB1.out⟩
      | false =>
        rw [hp] at hc
        have HP := Lib.hid hp
        clear hp
        go_wp2_with (refine wpl_load _ rfl (by simp [Act.eval]) HLD.out ?_)
        refine hc.mono ?_
        rintro e w1 ⟨rfl, b1⟩
        have HB1 := Lib.hid b1
        clear b1 hc
        go_wp2
        go_roundw
        case rel =>
          refine ⟨i + 1, hlt, by go_num, fun j hj hji => ?_, bgo HB.out HB1.out⟩
          rcases Nat.lt_or_ge j i with q | q
          · exact HN.out j hj q
          · obtain rfl : j = i := by omega
            exact HP.out
        case measure => simp [intOf]; omega
    · have hge : ¬ (i : Int) < L.length := by omega
      have HE : Hid (fidx p L = -1) := fidx_none fun j hj => HN.out j hj (by omega)
      clear hno hb
      go_wp2
      go_ret
      exact ⟨by rw [HE.out]; rfl, HB.out⟩
theorem fidx_any {α : Type} (p : α → Bool) (L : List α) : decide (fidx p L ≥ 0) = L.any p := by
  unfold fidx
  cases h : L.findIdx? p with
  | none =>
    have h9 := List.findIdx?_eq_none_iff.1 h
    have : L.any p = false := List.any_eq_false.2 fun x hx => by rw [h9 x hx]; decide
    rw [this]
    rfl
  | some i =>
    obtain ⟨hi, hp, _⟩ := List.findIdx?_eq_some_iff_getElem.1 h
    have : L.any p = true := List.any_eq_true.2 ⟨_, List.getElem_mem hi, hp⟩
    rw [this]
    simp
set_option maxHeartbeats 1000000 in
set_option maxRecDepth 100000 in
theorem conK_any {L : List Ak} {v : Value} {f : FuncId} {cs : Array Value} {p : Ak → Bool} (hL : Lr akE 31 w L v) (hcf : ∀ (X : World) (a : Array Value), Sem.run Try.prog (callFunc f a) X = .ok (.enter f a) X) (hf : AsksK w L f cs p) :
    Calls Try.prog 29 #[v, .func (.func f) #[] cs] w fun e w' => e = .returned (.bool (L.any p)) ∧ Below w.heap.size w w' := by
  have hc := idxK_any hL hcf hf
  have hd := fidx_any p L
  generalize fidx p L = n at hc hd
  have HC := Lib.hid hc
  clear hc hL hf
  go_enter Try.func29, Try.ntmps29
  go_wp2_with fail
  refine HC.out.mono ?_
  rintro e w1 ⟨rfl, b1⟩
  have HB := Lib.hid b1
  clear b1
  go_wp2
  refine bodyPost_ret (v := .bool (L.any p)) (by simp [results, Try.results29, go_sem, ← hd]) rfl ?_
  exact ⟨rfl, HB.out⟩
set_option maxHeartbeats 2000000 in
set_option maxRecDepth 100000 in
/-- What is asked is compared. -/
theorem told1_any (a : Ak) {E1 E2 : Nat} {sh kd : Int} (h1 : w.cell? ⟨E1, 0, none⟩ = some (.int .i64 sh)) (h2 : w.cell? ⟨E2, 0, none⟩ = some (.int .i64 kd)) : Calls Try.prog 28 #[.agg (akA a), .pointer (some ⟨E1, 0, none⟩), .pointer (some ⟨E2, 0, none⟩)] w fun e w' => e = .returned (.bool (decide (a.sh = sh) && decide (a.kd = kd))) ∧ Below w.heap.size w w' := by
  obtain ⟨W, hW⟩ : ∃ W, W = w.alloc (.cells (akA a) 78) := ⟨_, rfl⟩
  obtain ⟨Y, hY⟩ : ∃ Y, w.heap.size = Y := ⟨_, rfl⟩
  have hb : Below w.heap.size w W := by rw [hW]; exact bnew w _
  have jY : W.heap[Y]? = some (.cells (akA a) 78 (0, 0)) := by rw [hW, ← hY]; exact heap_alloc_new w _
  have l0 : W.cell? ⟨Y, 0, none⟩ = some (.int .i64 a.sh) := cell_blk jY 0
  have l1 : W.cell? ⟨Y, 1, none⟩ = some (.int .i64 a.kd) := cell_blk jY 1
  have q1 := cell_on hb h1
  have q2 := cell_on hb h2
  have HW := Lib.hid hW
  have HY := Lib.hid hY
  have HB := Lib.hid hb
  clear hW hY hb jY h1 h2
  go_enter Try.func28, Try.ntmps28
  go_upto_region 1 with fail
  rw [← HW.out, HY.out]
  clear HW
  by_cases hs : a.sh = sh
  · by_cases hk : a.kd = kd
    · go_wp2
      refine bodyPost_ret (v := .bool true) (by simp [results, Try.results28, go_sem]) rfl ?_
      exact ⟨by simp [hs, hk], HB.out⟩
    · go_wp2
      refine bodyPost_ret (v := .bool false) (by simp [results, Try.results28, go_sem, hk]) rfl ?_
      exact ⟨by simp [hs, hk], HB.out⟩
  · go_wp2
    refine bodyPost_ret (v := .bool false) (by simp [results, Try.results28, go_sem]) rfl ?_
    exact ⟨by simp [hs], HB.out⟩
set_option maxHeartbeats 2000000 in
set_option maxRecDepth 100000 in
theorem ans1_any (g : Gp) {E1 : Nat} {sh : Int} (h1 : w.cell? ⟨E1, 0, none⟩ = some (.int .i64 sh)) : Calls Try.prog 77 #[.agg (gpA g), .pointer (some ⟨E1, 0, none⟩)] w fun e w' => e = .returned (.bool (decide (g.sh = sh))) ∧ Below w.heap.size w w' := by
  obtain ⟨W, hW⟩ : ∃ W, W = w.alloc (.cells (gpA g) 84) := ⟨_, rfl⟩
  obtain ⟨Y, hY⟩ : ∃ Y, w.heap.size = Y := ⟨_, rfl⟩
  have hb : Below w.heap.size w W := by rw [hW]; exact bnew w _
  have jY : W.heap[Y]? = some (.cells (gpA g) 84 (0, 0)) := by rw [hW, ← hY]; exact heap_alloc_new w _
  have l0 : W.cell? ⟨Y, 0, none⟩ = some (.int .i64 g.sh) := cell_blk jY 0
  have q1 := cell_on hb h1
  have HW := Lib.hid hW
  have HY := Lib.hid hY
  have HB := Lib.hid hb
  clear hW hY hb jY h1
  go_enter Try.func77, Try.ntmps77
  go_upto_region 1 with fail
  rw [← HW.out, HY.out]
  clear HW
  by_cases hs : g.sh = sh
  · go_wp2
    refine bodyPost_ret (v := .bool true) (by simp [results, Try.results77, go_sem]) rfl ?_
    exact ⟨by simp [hs], HB.out⟩
  · go_wp2
    refine bodyPost_ret (v := .bool false) (by simp [results, Try.results77, go_sem, hs]) rfl ?_
    exact ⟨by simp [hs], HB.out⟩
end
end Go.Proofs.Ytfokgalgdlajlaa
