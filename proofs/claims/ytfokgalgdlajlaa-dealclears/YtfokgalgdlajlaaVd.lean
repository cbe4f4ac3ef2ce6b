/- The walks of New, Size, Find and the forms without a split. -/
import Derived.Test.YtfokgalgdlajlaaVc
namespace Go.Proofs.Ytfokgalgdlajlaa
open Go.RowKit
theorem leq_eq (a b : ByteArray) : (Op.bytesLess a.toList b.toList || a.toList == b.toList) = decide (¬ cb b a < 0) := by
  rw [less_eq, same_eq]
  have t := cb_turn a b
  have z := cb_is (a := a) (b := b)
  by_cases h : cb b a < 0
  · rw [decide_eq_false (by omega : ¬ cb a b < 0), decide_eq_false (fun e => by have := z.2 e; omega), decide_eq_false (fun q => q h)]
    rfl
  · rw [decide_eq_true h]
    by_cases e : a = b
    · rw [decide_eq_true e, Bool.or_true]
    · have z2 : cb a b ≠ 0 := fun q => e (z.1 q)
      rw [decide_eq_true (by omega : cb a b < 0), Bool.true_or]
theorem rise_drop {L : List ByteArray} {i : Nat} (h : i < L.length) (last : ByteArray) : riseB last (L.drop i) = (decide (cb last L[i] < 0) && riseB L[i] (L.drop (i + 1))) := by
  rw [List.drop_eq_getElem_cons h]
  rfl
section
variable {w w' W V : World} {L : List ByteArray} {v : Value}
def NewAns (w : World) (L : List ByteArray) (e : Ending) (w' : World) : Prop :=
  Below w.heap.size w w' ∧ ((okB L = true ∧ ∃ B, e = .returned (.tuple #[.pointer (some ⟨B, 0, none⟩), .int .i64 0]) ∧ Sp w' w.heap.size B L) ∨ (okB L = false ∧ e = .returned (.tuple #[.pointer none, .int .i64 1])))
set_option maxHeartbeats 1000000 in
set_option maxRecDepth 100000 in
theorem new_any (hl : Ls w L v) : Calls Try.prog 6 #[v] w fun e w' => NewAns w L e w' := by
  have hl' := hl
  obtain ⟨ad, cap, rfl, h0, h1, h2, h3⟩ := hl'
  have hmx : (L.length : Int) ≤ 9223372036854775807 := by unfold maxLen at h2; omega
  by_cases h4 : (L.length : Int) ≥ 4
  · have hno : okB L = false := by unfold okB; rw [decide_eq_false (by omega), Bool.false_and]
    clear h0 h1 h2 h3 hl
    go_enter Try.func6, Try.ntmps6
    go_wp2
    refine bodyPost_ret (v := .tuple #[.pointer none, .int .i64 1]) (by simp [results, Try.results6, go_sem]) rfl ?_
    exact ⟨Below.refl _ _, .inr ⟨hno, rfl⟩⟩
  · have hlen : L.length < 4 := by omega
    have hok : Hid (okB L = riseB ⟨#[]⟩ L) := Lib.hid (by unfold okB; rw [decide_eq_true hlen, Bool.true_and])
    have hcl := clone_any hl (by omega)
    have H3 := Lib.hid h3
    have HCL := Lib.hid hcl
    clear h0 h1 h2 h3 hl hcl
    go_enter Try.func6, Try.ntmps6
    go_wp2
    go_loopw [4, 12] (fun lv iv wr => ∃ (i : Nat) (last : ByteArray), i ≤ L.length ∧ iv = .int .i64 (i : Int) ∧ lv = .string last ∧ Hid (okB L = riseB last (L.drop i)) ∧ wr = w) (fun _ iv _ => L.length - (intOf iv).toNat)
    case atStart => exact ⟨0, _, Nat.zero_le _, rfl, rfl, hok, rfl⟩
    case round =>
      obtain ⟨i, last, hi, rfl, rfl, HR, rfl⟩ := hrel
      by_cases hlt : i < L.length
      · obtain ⟨b, o, rfl, hbl, c0⟩ := H3.out i hlt
        have k1 : (i : Int) < L.length := by omega
        have hle := leq_eq L[i] last
        have hrd := rise_drop hlt last
        by_cases hc : cb last L[i] < 0
        · rw [decide_eq_false (fun q => q hc)] at hle
          have HR2 : Hid (okB L = riseB L[i] (L.drop (i + 1))) := Lib.hid (by rw [HR.out, hrd, decide_eq_true hc, Bool.true_and])
          clear hrd
          go_wp2
          go_roundw
          case rel => exact ⟨i + 1, _, hlt, by go_num, rfl, HR2, trivial⟩
          case measure => simp [intOf]; omega
        · rw [decide_eq_true hc] at hle
          have HR2 : Hid (okB L = false) := Lib.hid (by rw [HR.out, hrd, decide_eq_false hc, Bool.false_and])
          clear hrd
          go_wp2
          refine bodyPost_ret (v := .tuple #[.pointer none, .int .i64 1]) (by simp [results, Try.results6, go_sem]) rfl ?_
          exact ⟨Below.refl _ _, .inr ⟨HR2.out, rfl⟩⟩
      · have k1 : ¬ ((i : Int) < L.length) := by omega
        have hyes : Hid (okB L = true) := Lib.hid (by rw [HR.out, List.drop_eq_nil_of_le (by omega)]; rfl)
        clear HR
        go_wp2_with (go_at_call 19; refine HCL.out.mono ?_; rintro e w1 ⟨ad1, cap1, rfl, ho, hb⟩; refine Hid.out ?_)
        refine Lib.hid ?_
        have HO := Lib.hid ho
        have HB := Lib.hid hb
        clear ho hb
        go_wp2
        refine bodyPost_ret (v := .tuple #[.pointer (some ⟨w1.heap.size, 0, none⟩), .int .i64 0]) (by simp [results, Try.results6, go_sem]) rfl ?_
        have ba : Below w1.heap.size w1 (w1.alloc (.cells #[.slice ad1 L.length cap1] 60)) := (Below.refl _ w1).alloc (Nat.le_refl _) _
        exact ⟨HB.out.trans (ba.mono HB.out.size), .inl ⟨hyes.out, _, rfl, ⟨⟨_, heap_alloc_new w1 _, own_below HO.out ba⟩, HB.out.size, hyes.out⟩⟩⟩
set_option maxHeartbeats 1000000 in
set_option maxRecDepth 100000 in
theorem size_any {lo B : Nat} (h : Sp w lo B L) : Calls Try.prog 62 #[.pointer (some ⟨B, 0, none⟩)] w fun e w' => e = .returned (.int .i64 ((L.length + 1 : Nat) : Int)) ∧ w' = w := by
  have hf := h.few
  obtain ⟨⟨v, h1, h2⟩, _, _⟩ := h
  obtain ⟨ad, cap, rfl⟩ := own_shape h2
  have c0 : w.cell? ⟨B, 0, none⟩ = some (.slice ad L.length cap) := cell_blk h1 0
  have hq : ∀ w, (binOp BinOp.eql 30 (.pointer (some ⟨B, 0, none⟩)) (.pointer none)).run Try.prog w = .ok (.bool false) w := fun _ => by kernel_rfl
  clear h1 h2
  go_enter Try.func62, Try.ntmps62
  go_wp2
  go_ret
  exact ⟨by go_num, rfl⟩
set_option maxHeartbeats 1000000 in
set_option maxRecDepth 100000 in
theorem find_any {lo B : Nat} (h : Sp w lo B L) (k : ByteArray) : Calls Try.prog 45 #[.pointer (some ⟨B, 0, none⟩), .string k] w fun e w' => e = .returned (.int .i64 ((findB L k : Nat) : Int)) ∧ w' = w := by
  have hf := h.few
  obtain ⟨⟨v, h1, h2⟩, _, _⟩ := h
  obtain ⟨ad, cap, rfl, _, _, _, h3⟩ := Ls.own h2
  have c0 : w.cell? ⟨B, 0, none⟩ = some (.slice ad L.length cap) := cell_blk h1 0
  have hq : ∀ w, (binOp BinOp.eql 30 (.pointer (some ⟨B, 0, none⟩)) (.pointer none)).run Try.prog w = .ok (.bool false) w := fun _ => by kernel_rfl
  have H3 := Lib.hid h3
  clear h1 h2 h3
  go_enter Try.func45, Try.ntmps45
  go_wp2
  go_loopw [14] (fun iv wr => ∃ i : Nat, i ≤ L.length ∧ iv = .int .i64 (i : Int) ∧ Hid (∀ j, j < i → ¬ cb k (atB L j) < 0) ∧ wr = w) (fun iv _ => L.length - (intOf iv).toNat)
  case atStart => exact ⟨0, Nat.zero_le _, rfl, Lib.hid (fun j hj => by omega), rfl⟩
  case round =>
    obtain ⟨i, hi, rfl, HB, rfl⟩ := hrel
    by_cases hlt : i < L.length
    · obtain ⟨b, o, rfl, hbl, c1⟩ := H3.out i hlt
      have k1 : (i : Int) < L.length := by omega
      have hle := less_eq k L[i]
      have ha := Lib.hid (atB_get hlt)
      by_cases hc : cb k L[i] < 0
      · rw [decide_eq_true hc] at hle
        have HC := Lib.hid hc
        clear hc
        go_wp2
        go_ret
        have hfi : findB L k = i := find_of (fun j hj => by have := HB.out j hj; omega) hlt (by rw [ha.out]; exact HC.out)
        simp [hfi]
      · rw [decide_eq_false hc] at hle
        have HC := Lib.hid hc
        clear hc
        go_wp2
        go_roundw
        case rel =>
          refine ⟨i + 1, hlt, by go_num, Lib.hid (fun j hj => ?_), trivial⟩
          by_cases e : j = i
          · subst e
            rw [ha.out]
            exact HC.out
          · exact HB.out j (by omega)
        case measure => simp [intOf]; omega
    · have k1 : ¬ ((i : Int) < L.length) := by omega
      have e : i = L.length := by omega
      subst e
      go_wp2
      go_ret
      have hfi : findB L k = L.length := find_end (fun j hj => by have := HB.out j hj; omega)
      simp [hfi]
set_option maxRecDepth 100000 in
theorem size_nil (w : World) : Calls Try.prog 62 #[.pointer none] w fun e w' => e = .returned (.int .i64 0) ∧ w' = w := by
  have hq : ∀ w, (binOp BinOp.eql 30 (.pointer none) (.pointer none)).run Try.prog w = .ok (.bool true) w := fun _ => by kernel_rfl
  go_enter Try.func62, Try.ntmps62
  go_wp2
  go_ret
  exact ⟨rfl, rfl⟩
set_option maxRecDepth 100000 in
theorem find_nil (w : World) (k : ByteArray) : Calls Try.prog 45 #[.pointer none, .string k] w fun e w' => e = .returned (.int .i64 0) ∧ w' = w := by
  have hq : ∀ w, (binOp BinOp.eql 30 (.pointer none) (.pointer none)).run Try.prog w = .ok (.bool true) w := fun _ => by kernel_rfl
  go_enter Try.func45, Try.ntmps45
  go_wp2
  go_ret
  exact ⟨rfl, rfl⟩
end
end Go.Proofs.Ytfokgalgdlajlaa
