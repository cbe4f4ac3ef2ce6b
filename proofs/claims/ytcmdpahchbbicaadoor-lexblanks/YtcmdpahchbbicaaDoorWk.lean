/- The walk of closed. -/
import Derived.Test.YtcmdpahchbbicaaDoorWj
namespace Go.Proofs.YtcmdpahchbbicaaDoor
open Go.RowKit
theorem news_one (w : World) (u : Value) (t : TypeId) : ∀ j v, [u][j]? = some v → (w.alloc (.cells #[u] t)).cell? ((⟨w.heap.size, 0, none⟩ : Addr).add j) = some v := by
  intro j v hj
  cases j with
  | zero => simp at hj; subst hj; simp [Addr.add]
  | succ j => simp at hj
theorem conv_own {B : Nat} {v : Value} {l : List UInt8} {w : World} (h : w.ownsRow B 5 1 v l.length (Lib.byteCells l)) : (Go.convert 50 9 v).run Tryd.prog w = .ok (.string ⟨l.toArray⟩) w := by
  rcases h.2 with ⟨hv, h0⟩ | ⟨g, cap, cur, hv, _, _, _⟩
  · have : l = [] := by simpa using h0
    subst this
    subst hv
    exact run_convert_bytes_nil (P := Tryd.prog) w 50 5 Tryd.underlying50 Tryd.underlying5 0 0 9 Tryd.underlying9
  · subst hv
    exact run_convert_bytes_back (P := Tryd.prog) w 50 9 5 ⟨g, 0, none⟩ cap l Tryd.underlying50 Tryd.underlying5 Tryd.underlying9 (fun j hj => h.cells (g := g) rfl j _ (by simp [Lib.byteCells, hj]))
theorem op_conv {ρ : Operand → Value} {X : World} {d : Option Tmp} {ty : TypeId} {ps : String} {af : Array Edge} {g : Option (Nat × Bool)} {x : Operand} {v u : Value} (e : ρ x = v) (h : (convert 50 9 v).run Tryd.prog X = .ok u X) : (execOp ρ ⟨d, .convert 50 9 x, ty, ps, af, g⟩).run Tryd.prog X = .ok (.value u) X := by
  simp only [execOp, e]
  simp [h]
/-- What closed answers, behind acc. -/
def ClAns (w : World) (R : Nat) (s : ByteArray) (k : Nat) (acc : List UInt8) (m : Nat) (b : Bool) (e : Ending) (w' : World) : Prop := match b with
  | true => e = .returned (.tuple #[.agg zW, .int .i64 21]) ∧ Fr w w' (fun j => j = R)
  | false => e = .returned (.tuple #[wdV 3 k ⟨acc.toArray⟩ 0, .int .i64 0]) ∧ Rd w' R s m ∧ Fr w w' (fun j => j = R)
set_option maxHeartbeats 2000000 in
set_option maxRecDepth 100000 in
theorem closed_any {w : World} {R B : Nat} {s : ByteArray} {k m : Nat} {acc : List UInt8} {v : Value} (hR : Rd w R s k) (hown : w.ownsRow B 5 1 v acc.length (Lib.byteCells acc)) :
    Calls Tryd.prog 30 #[.pointer (some ⟨R, 0, none⟩), v, .int .i64 m] w (ClAns w R s k acc m (decide (64 < acc.length))) := by
  obtain ⟨o, ho⟩ : ∃ o, decide (64 < acc.length) = o := ⟨_, rfl⟩
  rw [ho]
  obtain ⟨ad, cap, rfl⟩ := own_shape hown
  obtain ⟨v, hv⟩ : ∃ v, v = Value.slice ad acc.length cap := ⟨_, rfl⟩
  obtain ⟨ln, hln⟩ : ∃ ln, acc.length = ln := ⟨_, rfl⟩
  obtain ⟨w0, hw0⟩ : ∃ w0, w0 = w.alloc (.cells zW 31) := ⟨_, rfl⟩
  obtain ⟨A, hA⟩ : ∃ A, w.heap.size = A := ⟨_, rfl⟩
  have hb0 : Below w.heap.size w w0 := by rw [hw0]; exact (Below.refl _ w).alloc (Nat.le_refl _) _
  have jR : Rd w0 R s k := (hb0.block R (blk_lt hR)).trans hR
  have jA : w0.heap[A]? = some (.cells zW 31 (0, 0)) := by rw [hw0, ← hA]; exact heap_alloc_new w _
  have hRA : R ≠ A := by have := blk_lt hR; omega
  have hRA' : R < A := by have := blk_lt hR; omega
  have c1 : w0.cell? ⟨R, 1, none⟩ = some (.int .i64 k) := cell_blk jR 1
  have how0 := own_below hown hb0
  have OWN := Lib.hid how0
  have HW := Lib.hid hw0
  have HA := Lib.hid hA
  have HB := Lib.hid hb0
  have JA := Lib.hid jA
  have JR := Lib.hid jR
  have HLN := Lib.hid hln
  rw [hln] at ho
  clear hw0 hA hb0 jA jR hR hown how0
  by_cases h64 : 64 < ln
  · have h64' : (64 : Int) < (ln : Int) := by omega
    have hO : o = true := by rw [← ho]; exact decide_eq_true h64
    have HO := Lib.hid hO
    obtain ⟨X1, st1, k1, g1, l1⟩ := put_four JA.out rfl zW rfl (by simp [Value.oneCell'])
    have hAl := HA.out
    have e1 : Fr w X1 (fun j => j = R) := (Fr.ofBelow _ HB.out).step g1 (fun j hj => .inr (by omega))
    have L1 := Lib.hid l1
    have E1 := Lib.hid e1
    rw [hln]
    clear k1 g1 l1 e1 hAl ho hO h64 hln hv
    go_enter Tryd.func30, Tryd.ntmps30
    go_upto_region 1 with fail
    rw [← HW.out, HA.out]
    go_wp2_with (first | refine wpl_store _ _ rfl rfl rfl st1 ?_)
    exact bodyPost_ret (results_two rfl rfl rfl L1.out) rfl (by rw [HO.out]; exact ⟨rfl, E1.out⟩)
  · have h64' : ¬ (64 : Int) < (ln : Int) := by omega
    have hO : o = false := by rw [← ho]; exact decide_eq_false h64
    have HO := Lib.hid hO
    have HV := Lib.hid hv
    rw [← hv] at OWN
    rw [hln] at hv HV ⊢
    clear ho hO h64 hln hv
    go_enter Tryd.func30, Tryd.ntmps30
    go_upto_region 1 with fail
    rw [← HW.out, HA.out]
    go_upto_region 3 with fail
    rw [← HV.out]
    refine wp_region_lo 7 (fun _ X9 => Below w0.heap.size w0 X9) (fun X9 X' => Below X9.heap.size X9 X') (fun X9 X' => Below X9.heap.size X9 X') [
      fun v9 _ => v9 = .pointer (some ⟨R, 0, none⟩),
      fun v9 _ => v9 = .pointer (some ⟨R, 0, none⟩),
      fun v9 _ => v9 = .pointer (some ⟨R, 1, none⟩),
      fun v9 _ => v9 = .int .i64 k,
      fun v9 _ => v9 = v,
      fun v9 _ => v9 = .string ⟨acc.toArray⟩,
      fun v9 _ => v9 = .agg #[.int .i64 3, .int .i64 k, .string ⟨acc.toArray⟩, .int .i64 0],
      fun v9 X9 => ∃ Z, v9 = .pointer (some ⟨Z, 0, none⟩) ∧ w0.heap.size ≤ Z ∧ X9.heap[Z]? = some (.cells zW 31 (0, 0))]
      (fun ρ9 _ X9 => ∃ Z, ρ9 (.tmp 8) = .pointer (some ⟨Z, 0, none⟩) ∧ w0.heap.size ≤ Z ∧ X9.heap[Z]? = some (.cells #[.int .i64 3, .int .i64 k, .string ⟨acc.toArray⟩, .int .i64 0] 31 (0, 0)) ∧ Below w0.heap.size w0 X9) rfl (by kernel_rfl) (by kernel_rfl) (by kernel_rfl) (by kernel_rfl) ?st ?sm ?g0 (by decide) ?os ?la ?en
    case st => exact ⟨fun _ _ _ _ h => h, fun _ _ _ _ h => h, fun _ _ _ _ h => h, fun _ _ _ _ h => h, fun _ _ _ _ h => h, fun _ _ _ _ h => h, fun _ _ _ _ h => h, (fun v X X' hS h => by obtain ⟨Z, h1, h2, h3⟩ := h; exact ⟨Z, h1, h2, (hS.block Z (blk_lt h3)).trans h3⟩), trivial⟩
    case sm => exact ⟨fun _ _ _ _ h => h, fun _ _ _ _ h => h, fun _ _ _ _ h => h, fun _ _ _ _ h => h, fun _ _ _ _ h => h, fun _ _ _ _ h => h, fun _ _ _ _ h => h, fun _ _ _ _ h => h, trivial⟩
    case g0 => exact ⟨rfl, rfl, rfl, Nat.le_refl _, fun _ _ => rfl⟩
    case os =>
      refine ⟨?_, ?_, ?_, ?_, ?_, ?_, ?_, ?_, trivial⟩
      · exact ⟨rfl, fun _ ρ X9 d hg ho hc hf hr => Runs.val _ (op_move (show ρ (.tmp 0) = .pointer (some ⟨R, 0, none⟩) from ho 0 rfl)) ⟨hg, Below.refl _ _, rfl⟩, fun e => absurd e (by decide)⟩
      · exact ⟨rfl, fun _ ρ X9 d hg ho hc hf hr => Runs.val _ (op_nil (show ρ (.tmp 13) = .pointer (some ⟨R, 0, none⟩) from hr 0 13 rfl rfl)) ⟨hg, Below.refl _ _, rfl⟩, fun e => absurd e (by decide)⟩
      · exact ⟨rfl, fun _ ρ X9 d hg ho hc hf hr => Runs.val _ (op_f40_1 (show ρ (.tmp 14) = .pointer (some ⟨R, 0, none⟩) from hr 1 14 rfl rfl)) ⟨hg, Below.refl _ _, rfl⟩, fun e => absurd e (by decide)⟩
      · exact ⟨rfl, fun _ ρ X9 d hg ho hc hf hr => Runs.val _ (op_load3 (show ρ (.tmp 15) = .pointer (some ⟨R, 1, none⟩) from hr 2 15 rfl rfl) (cell_on hg c1)) ⟨hg, Below.refl _ _, rfl⟩, fun e => absurd e (by decide)⟩
      · exact ⟨rfl, fun _ ρ X9 d hg ho hc hf hr => Runs.val _ (op_move (show ρ (.tmp 1) = v from ho 1 rfl)) ⟨hg, Below.refl _ _, rfl⟩, fun e => absurd e (by decide)⟩
      · exact ⟨rfl, fun _ ρ X9 d hg ho hc hf hr => Runs.val _ (op_conv (show ρ (.tmp 17) = v from hr 4 17 rfl rfl) (conv_own (own_below OWN.out hg))) ⟨hg, Below.refl _ _, rfl⟩, fun e => absurd e (by decide)⟩
      · exact ⟨rfl, fun _ ρ X9 d hg ho hc hf hr => Runs.val _ (op_b31 (hc _) (show ρ (.tmp 16) = .int .i64 k from hr 3 16 rfl rfl) (show ρ (.tmp 18) = .string ⟨acc.toArray⟩ from hr 5 18 rfl rfl)) ⟨hg, Below.refl _ _, rfl⟩, fun e => absurd e (by decide)⟩
      · refine ⟨rfl, fun e => absurd rfl e, fun _ ρ X9 hg ho hc hf hr => Runs.val _ op_alloc31 ⟨hg.alloc hg.size _, (Below.refl _ X9).alloc (Nat.le_refl _) _, ⟨X9.heap.size, rfl, hg.size, heap_alloc_new X9 _⟩⟩⟩
    case la =>
      refine ⟨rfl, fun ρ X9 hg ho hc hf hr => ?_⟩
      obtain ⟨Z, e7, hZ, jZ⟩ := hr 7 8 (by decide) rfl
      have e24 : ρ (.tmp 19) = .agg #[.int .i64 3, .int .i64 k, .string ⟨acc.toArray⟩, .int .i64 0] := hr 6 19 (by decide) rfl
      obtain ⟨X', hst, j', f', _⟩ := put_four jZ rfl #[.int .i64 3, .int .i64 k, .string ⟨acc.toArray⟩, .int .i64 0] rfl (by simp [Value.oneCell'])
      exact Runs.skips (op_storeAt e7 e24 hst) ⟨Z, e7, hZ, j', hg.trans (f'.toBelow (fun q hq e => by omega) hg.size)⟩
    case en =>
      intro a ρ9 X9 wb v9 hF ha hs hd ho hv hr
      obtain ⟨Z, e7, hZ, jZ, hbZ⟩ := hF
      obtain ⟨x, hx, hxt⟩ := act_put hs hd ho
      have x8 : x 8 = .pointer (some ⟨Z, 0, none⟩) := (hxt 8).symm.trans ((ha 8 (by decide)).trans e7)
      change a = putAll _ x [13, 14, 15, 16, 17, 18, 19, 8] at hx
      simp only [putAll, Act.put, List.setIfInBounds_toArray, List.set_cons_zero, List.set_cons_succ, x8] at hx
      have JZ := Lib.hid jZ
      have HBZ := Lib.hid hbZ
      clear hs hd ho hr hxt x8 ha hv e7 jZ hbZ
      subst hx
      generalize x 13 = z13, x 14 = z14, x 15 = z15, x 16 = z16, x 17 = z17, x 18 = z18, x 19 = z19
      have hjR := (HBZ.out.block R (blk_lt JR.out)).trans JR.out
      have hjA := (HBZ.out.block A (blk_lt JA.out)).trans JA.out
      have cA := cell_blk hjR 1
      have fA := frozen_blk hjR 1
      obtain ⟨W2, hW2⟩ : ∃ W2, W2 = X9.setCell ⟨R, 1, none⟩ (.int .i64 m) := ⟨_, rfl⟩
      have jR2 : W2.heap[R]? = some (.cells #[.string s, .int .i64 m] 40 (0, 0)) := by rw [hW2]; exact set_blk hjR _
      have jZ2 : W2.heap[Z]? = some (.cells #[.int .i64 3, .int .i64 k, .string ⟨acc.toArray⟩, .int .i64 0] 31 (0, 0)) := by rw [hW2, set_other (a := ⟨R, 1, none⟩) _ (tag_ne JZ.out hjR (by decide))]; exact JZ.out
      have jA2 : W2.heap[A]? = some (.cells zW 31 (0, 0)) := by rw [hW2, set_other (a := ⟨R, 1, none⟩) _ (tag_ne hjA hjR (by decide))]; exact hjA
      have f2 : Fr w W2 (fun j => j = R) := by rw [hW2]; exact Fr.set (S := fun j => j = R) (a := ⟨R, 1, none⟩) (Fr.ofBelow _ (HB.out.trans (HBZ.out.mono HB.out.size))) (.inl rfl) _
      have hld := load_row (ty := 31) jZ2 Tryd.underlying31 rfl (by kernel_rfl)
      obtain ⟨W3, hst, jA3, fr3, hlv⟩ := put_four jA2 rfl #[.int .i64 3, .int .i64 k, .string ⟨acc.toArray⟩, .int .i64 0] rfl (by simp [Value.oneCell'])
      have jR3 : W3.heap[R]? = some (.cells #[.string s, .int .i64 m] 40 (0, 0)) := by rw [fr3.block R (blk_lt jR2) (by omega)]; exact jR2
      have f3 : Fr w W3 (fun j => j = R) := f2.step fr3 (fun j hj => .inr (by have := HA.out; omega))
      have HLV := Lib.hid hlv
      have JR3 := Lib.hid jR3
      have F3 := Lib.hid f3
      have HW2 := Lib.hid hW2
      clear hW2 jA3 fr3 jR2 jZ2 jA2 f2 hlv jR3 f3 hjA hjR
      go_upto_region 5 with fail
      rw [← HW2.out]
      go_wp2_with (first | refine wpl_load _ rfl rfl hld ?_ | refine wpl_store _ _ rfl rfl rfl hst ?_)
      exact bodyPost_ret (results_two rfl rfl rfl HLV.out) rfl (by rw [HO.out]; exact ⟨rfl, JR3.out, F3.out⟩)
end Go.Proofs.YtcmdpahchbbicaaDoor
