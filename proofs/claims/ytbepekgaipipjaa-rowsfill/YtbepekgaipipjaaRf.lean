/- Of, the document's Of. -/
import Derived.Test.YtbepekgaipipjaaRd
namespace Go.Proofs.Ytbepekgaipipjaa
open Go.RowKit
theorem Lr.at4 {w : World} {L : List Ce} {ad : Option Addr} {n cap : Nat} (h : Lr ceE 4 w L (.slice ad n cap)) : n = L.length ∧ cap ≤ maxLen ∧ L.length ≤ cap ∧ ∀ i (h : i < L.length), ∃ b o, ad = some ⟨b, o, none⟩ ∧ b < w.heap.size ∧ w.cell? ⟨b, o + i * 4, none⟩ = some (.int .i64 L[i].id) ∧ w.cell? ⟨b, o + i * 4 + 1, none⟩ = some (.int .i64 L[i].v.k) ∧ w.cell? ⟨b, o + i * 4 + 2, none⟩ = some (.int .i64 L[i].v.n) ∧ w.cell? ⟨b, o + i * 4 + 3, none⟩ = some (.string L[i].v.s) := by
  obtain ⟨ad', cap', e, h0, h1, h2, h3⟩ := h
  cases e
  refine ⟨rfl, h2, h1, fun i hi => ?_⟩
  obtain ⟨b, o, cs, e, hb, hE, _, hh⟩ := h3 i hi
  have hE' : cs = ceL L[i] := hE
  subst hE'
  exact ⟨b, o, e, hb, hh 0 _ rfl, hh 1 _ rfl, hh 2 _ rfl, hh 3 _ rfl⟩
abbrev vlA' (v : V) : Array Value := #[.int .i64 v.k, .int .i64 v.n, .string v.s]
set_option maxHeartbeats 4000000 in
set_option maxRecDepth 100000 in
theorem of_any {L : List Ce} {v : Value} (id : Int) (w : World) (hL : Lr ceE 4 w L v) : Calls Try.prog 30 #[v, .int .i64 id] w fun e w' => e = .returned (vlV (ofP L id)) ∧ Below w.heap.size w w' := by
  obtain ⟨ad, cap, rfl, hr0⟩ := hL
  have hL : Lr ceE 4 w L (.slice ad L.length cap) := ⟨ad, cap, rfl, hr0⟩
  clear hr0
  obtain ⟨W, hW⟩ : ∃ W, W = w.alloc (.cells #[.int .i64 0, .int .i64 0, .string ⟨#[]⟩] 23) := ⟨_, rfl⟩
  have hbW : Below w.heap.size w W := by rw [hW]; exact bnew _ _
  obtain ⟨Y, hY⟩ : ∃ Y, w.heap.size = Y := ⟨_, rfl⟩
  have hj : W.heap[Y]? = some (.cells #[.int .i64 0, .int .i64 0, .string ⟨#[]⟩] 23 (0, 0)) := by rw [hW, ← hY]; exact heap_alloc_new w _
  obtain ⟨_, hcm, hlc, _⟩ := hL.at4
  have hmx : (L.length : Int) ≤ 9223372036854775807 := by unfold maxLen at hcm; omega
  have HL := Lib.hid (hL.on ceE_held hbW)
  have HJ := Lib.hid hj
  have HB := Lib.hid hbW
  have HW := Lib.hid hW
  have HY := Lib.hid hY
  clear hW hbW hY hj hL hcm hlc
  go_enter Try.func30, Try.ntmps30
  go_upto_region 1 with fail
  rw [← HW.out, HY.out]
  go_wp2
  go_loopw [9] (fun iv wr => ∃ i : Nat, i ≤ L.length ∧ iv = .int .i64 (i : Int) ∧ Below W.heap.size W wr ∧ Hid (∀ j (hj : j < L.length), j < i → L[j].id ≠ id)) (fun iv _ => L.length - (intOf iv).toNat)
  case atStart => exact ⟨0, Nat.zero_le _, rfl, Below.refl _ _, fun j _ h => absurd h (by omega)⟩
  case round =>
    obtain ⟨i, hi, rfl, hb, HN⟩ := hrel
    have HB2 := Lib.hid hb
    have HJr := Lib.hid ((hb.block Y (blk_lt HJ.out)).trans HJ.out)
    by_cases hlt : i < L.length
    · obtain ⟨_, _, _, hcells⟩ := (HL.out.on ceE_held hb).at4
      obtain ⟨b, o, rfl, hbl, c0, c1, c2, c3⟩ := hcells i hlt
      obtain ⟨x, hx⟩ : ∃ x, L[i] = x := ⟨_, rfl⟩
      rw [hx] at c0 c1 c2 c3
      have k1 : (i : Int) < L.length := by omega
      have k0 : (0 : Int) ≤ i := by omega
      by_cases he : x.id = id
      · have HA : Hid (ofP L id = x.v) := by rw [ofP_at hlt (by rw [hx]; exact he) HN.out, hx]; exact Lib.hid rfl
        have te : (x.id == id) = true := by rw [he]; simp
        clear he
        obtain ⟨V1, hV1⟩ : ∃ V1, V1 = wr.alloc (.cells (ceA x) 89) := ⟨_, rfl⟩
        have HV1 := Lib.hid hV1
        obtain ⟨X', hst, j', f'⟩ := st_row (show V1.heap[Y]? = some (.cells #[.int .i64 0, .int .i64 0, .string ⟨#[]⟩] 23 (0, 0)) by rw [hV1]; exact ((bnew wr _).block Y (blk_lt HJr.out)).trans HJr.out) (us := vlA' x.v) rfl size23 (by simp [Value.oneCell'])
        have HBV : Hid (Below w.heap.size w V1) := Lib.hid (by rw [hV1]; exact bgo (bgo HB.out HB2.out) (bnew _ _))
        have HR := Lib.hid (And.intro j' f')
        have hQ : wr.heap.size = wr.heap.size := rfl
        have y0 : V1.cell? ⟨wr.heap.size, 0, none⟩ = some (.int .i64 x.id) := by rw [hV1]; simp
        have y1 : V1.cell? ⟨wr.heap.size, 1, none⟩ = some (.int .i64 x.v.k) := by rw [hV1]; simp
        have y2 : V1.cell? ⟨wr.heap.size, 2, none⟩ = some (.int .i64 x.v.n) := by rw [hV1]; simp
        have y3 : V1.cell? ⟨wr.heap.size, 3, none⟩ = some (.string x.v.s) := by rw [hV1]; simp
        clear hb hcells HN hx hV1 j' f' hQ
        go_upto_region 4 with fail
        rw [← HV1.out]
        go_wp2_with (refine wpl_store _ _ rfl (by simp [Act.eval]) (by simp [Act.eval]) hst ?_)
        refine bodyPost_ret (results_one rfl rfl (load_var HR.out.1 Try.underlying23 rfl size23)) rfl ?_
        rw [HA.out]
        exact ⟨rfl, HBV.out.trans (HR.out.2.toBelow (fun k hk q => by have := HY.out; omega) HBV.out.size)⟩
      · have te : (x.id == id) = false := by rw [beq_eq_false_iff_ne]; exact he
        have HN2 : Hid (∀ j (hj : j < L.length), j < i + 1 → L[j].id ≠ id) := Lib.hid fun j hj h => by
          rcases (show j < i ∨ j = i by omega) with q | rfl
          · exact HN.out j hj q
          · rw [hx]; exact he
        clear hb hcells HN hx he
        go_wp2
        go_roundw
        case rel => exact ⟨i + 1, hlt, by go_num, bgo HB2.out (bnew _ _), HN2⟩
        case measure => simp [intOf]; omega
    · have k1 : ¬ ((i : Int) < L.length) := by omega
      have HA : Hid (ofP L id = nullV0) := Lib.hid (ofP_none fun j hj => HN.out j hj (by omega))
      obtain ⟨X', hst, j', f'⟩ := st_row HJr.out (us := #[.int .i64 0, .int .i64 0, .string ⟨#[]⟩]) rfl size23 (by simp [Value.oneCell'])
      have HR := Lib.hid (And.intro j' f')
      clear hb HN j' f'
      go_wp2_with (refine wpl_store _ _ rfl (by simp [Act.eval]) (by simp [Act.eval]) hst ?_)
      refine bodyPost_ret (results_one rfl rfl (load_var HR.out.1 Try.underlying23 rfl size23)) rfl ?_
      rw [HA.out]
      have hbb := bgo HB.out HB2.out
      exact ⟨rfl, hbb.trans (HR.out.2.toBelow (fun k hk q => by have := HY.out; omega) hbb.size)⟩
set_option maxHeartbeats 4000000 in
set_option maxRecDepth 100000 in
theorem refOf_any {L : List Ce} {v : Value} (id : Int) (w : World) (hL : Lr ceE 4 w L v) : Calls Try.prog 31 #[v, .int .i64 id] w fun e w' => e = .returned (vlV (ofP L id)) ∧ Below w.heap.size w w' := by
  obtain ⟨ad, cap, rfl, hr0⟩ := hL
  have hL : Lr ceE 4 w L (.slice ad L.length cap) := ⟨ad, cap, rfl, hr0⟩
  clear hr0
  obtain ⟨W, hW⟩ : ∃ W, W = w.alloc (.cells #[.int .i64 0, .int .i64 0, .string ⟨#[]⟩] 23) := ⟨_, rfl⟩
  have hbW : Below w.heap.size w W := by rw [hW]; exact bnew _ _
  obtain ⟨Y, hY⟩ : ∃ Y, w.heap.size = Y := ⟨_, rfl⟩
  have hj : W.heap[Y]? = some (.cells #[.int .i64 0, .int .i64 0, .string ⟨#[]⟩] 23 (0, 0)) := by rw [hW, ← hY]; exact heap_alloc_new w _
  obtain ⟨_, hcm, hlc, _⟩ := hL.at4
  have hmx : (L.length : Int) ≤ 9223372036854775807 := by unfold maxLen at hcm; omega
  have HL := Lib.hid (hL.on ceE_held hbW)
  have HJ := Lib.hid hj
  have HB := Lib.hid hbW
  have HW := Lib.hid hW
  have HY := Lib.hid hY
  clear hW hbW hY hj hL hcm hlc
  go_enter Try.func31, Try.ntmps31
  go_upto_region 1 with fail
  rw [← HW.out, HY.out]
  go_wp2
  go_loopw [5] (fun iv wr => ∃ i : Nat, i ≤ L.length ∧ iv = .int .i64 (i : Int) ∧ Below W.heap.size W wr ∧ Hid (∀ j (hj : j < L.length), j < i → L[j].id ≠ id)) (fun iv _ => L.length - (intOf iv).toNat)
  case atStart => exact ⟨0, Nat.zero_le _, rfl, Below.refl _ _, fun j _ h => absurd h (by omega)⟩
  case round =>
    obtain ⟨i, hi, rfl, hb, HN⟩ := hrel
    have HB2 := Lib.hid hb
    have HJr := Lib.hid ((hb.block Y (blk_lt HJ.out)).trans HJ.out)
    by_cases hlt : i < L.length
    · obtain ⟨_, _, _, hcells⟩ := (HL.out.on ceE_held hb).at4
      obtain ⟨b, o, rfl, hbl, c0, c1, c2, c3⟩ := hcells i hlt
      obtain ⟨x, hx⟩ : ∃ x, L[i] = x := ⟨_, rfl⟩
      rw [hx] at c0 c1 c2 c3
      have k1 : (i : Int) < L.length := by omega
      have k0 : (0 : Int) ≤ i := by omega
      by_cases he : x.id = id
      · have HA : Hid (ofP L id = x.v) := by rw [ofP_at hlt (by rw [hx]; exact he) HN.out, hx]; exact Lib.hid rfl
        have te : (x.id == id) = true := by rw [he]; simp
        clear he
        obtain ⟨X', hst, j', f'⟩ := st_row HJr.out (us := vlA' x.v) rfl size23 (by simp [Value.oneCell'])
        have HBV : Hid (Below w.heap.size w wr) := Lib.hid (bgo HB.out HB2.out)
        have HR := Lib.hid (And.intro j' f')
        clear hb hcells HN hx j' f'
        go_wp2_with (refine wpl_store _ _ rfl (by simp [Act.eval]) (by simp [Act.eval]) hst ?_)
        refine bodyPost_ret (results_one rfl rfl (load_var HR.out.1 Try.underlying23 rfl size23)) rfl ?_
        rw [HA.out]
        exact ⟨rfl, HBV.out.trans (HR.out.2.toBelow (fun k hk q => by have := HY.out; omega) HBV.out.size)⟩
      · have te : (x.id == id) = false := by rw [beq_eq_false_iff_ne]; exact he
        have HN2 : Hid (∀ j (hj : j < L.length), j < i + 1 → L[j].id ≠ id) := Lib.hid fun j hj h => by
          rcases (show j < i ∨ j = i by omega) with q | rfl
          · exact HN.out j hj q
          · rw [hx]; exact he
        clear hb hcells HN hx he
        go_wp2
        go_roundw
        case rel => exact ⟨i + 1, hlt, by go_num, HB2.out, HN2⟩
        case measure => simp [intOf]; omega
    · have k1 : ¬ ((i : Int) < L.length) := by omega
      have HA : Hid (ofP L id = nullV0) := Lib.hid (ofP_none fun j hj => HN.out j hj (by omega))
      obtain ⟨X', hst, j', f'⟩ := st_row HJr.out (us := #[.int .i64 0, .int .i64 0, .string ⟨#[]⟩]) rfl size23 (by simp [Value.oneCell'])
      have HR := Lib.hid (And.intro j' f')
      clear hb HN j' f'
      go_wp2_with (refine wpl_store _ _ rfl (by simp [Act.eval]) (by simp [Act.eval]) hst ?_)
      refine bodyPost_ret (results_one rfl rfl (load_var HR.out.1 Try.underlying23 rfl size23)) rfl ?_
      rw [HA.out]
      have hbb := bgo HB.out HB2.out
      exact ⟨rfl, hbb.trans (HR.out.2.toBelow (fun k hk q => by have := HY.out; omega) hbb.size)⟩
end Go.Proofs.Ytbepekgaipipjaa
