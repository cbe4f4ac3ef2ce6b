/- The law RowsApart. -/
import Derived.Test.YtbepekgaipipjaaTd
namespace Go.Proofs.Ytbepekgaipipjaa
open Go.RowKit Go.Maps
theorem smallR_nil {R : Nat → List Ce} (h : ∀ j, R j = []) : SmallR R := fun j => .inl (h j)
/-- The first change: a row and its entry. -/
theorem apart_do1 {X : World} {A M : Nat} (h : Wd X A M 0 0 (fun _ => []) (fun _ => False)) {key v : Int} {k vv : Nat} (hk4 : k < 4) (hv3 : vv < 3) (hk : wrap64 ((IntKind.u64.wrap key).tmod 4) = (k : Int)) (hv : wrap64 ((IntKind.u64.wrap v).tmod 3) = (vv : Int)) :
    Calls Try.prog 35 #[.pointer (some ⟨A, 0, none⟩), .agg #[.int .i64 key, .int .i64 v, .bool false, .bool false], .int .i64 2] X fun e X' => e = .returned (.tuple #[]) ∧ (∃ P, Wd X' A M 3 1 (updR (fun _ => []) k (rowC k vv)) P) ∧ Fr X X' (fun j => j = A ∨ j = M) := by
  refine (do_any h (smallR_nil fun _ => rfl) (by omega) hk4 hv3 hk hv).mono ?_
  rintro e X' ⟨rfl, hw, hf⟩
  have e1 : (foS (changesP (tab 2) [] (nextR k vv false)) (fun _ => False, 0)).2 = 1 := foS_one (apart1 hk4 hv3)
  rw [e1] at hw
  exact ⟨rfl, ⟨_, hw⟩, hf⟩
/-- The second: the row goes, under a table that knows of no index. -/
theorem apart_do2 {X : World} {A M : Nat} {P : ByteArray → Prop} {k vv : Nat} (hk4 : k < 4) (hv3 : vv < 3) (h : Wd X A M 3 1 (updR (fun _ => []) k (rowC k vv)) P) {key : Int} (hk : wrap64 ((IntKind.u64.wrap key).tmod 4) = (k : Int)) :
    Calls Try.prog 35 #[.pointer (some ⟨A, 0, none⟩), .agg #[.int .i64 key, .int .i64 0, .bool true, .bool false], .int .i64 0] X fun e X' => e = .returned (.tuple #[]) ∧ (∃ P R, (∀ j, R j = []) ∧ Wd X' A M 6 1 R P) ∧ Fr X X' (fun j => j = A ∨ j = M) := by
  obtain ⟨v0, h0, hv⟩ := mod_of 0 3 (.inr rfl)
  have hS : SmallR (updR (fun _ => []) k (rowC k vv)) := fun j => by
    unfold updR
    split
    · exact .inr ⟨k, vv, ⟨by omega, by omega⟩, ⟨by omega, by omega⟩, rfl⟩
    · exact .inl rfl
  refine (do_any h hS (by omega) hk4 (show v0 < 3 by omega) hk hv).mono ?_
  rintro e X' ⟨rfl, hw, hf⟩
  have e0 : updR (fun _ => []) k (rowC k vv) k = rowC k vv := by simp [updR]
  have e1 : nextR (k : Int) (v0 : Int) true = [] := rfl
  rw [e0, e1, foS_none (apart2 hk4 hv3)] at hw
  refine ⟨rfl, ⟨_, _, fun j => ?_, hw⟩, hf⟩
  unfold updR
  split
  · rfl
  · rfl
set_option maxHeartbeats 8000000 in
set_option maxRecDepth 100000 in
theorem apart_law (k v : Int) (w : World) : Calls Try.prog 9 #[.int .i64 k, .int .i64 v] w fun e w' => e = .returned (.bool true) ∧ Below w.heap.size w w' := by
  obtain ⟨kk, hk4, hk⟩ := mod_of k 4 (.inl rfl)
  obtain ⟨vv, hv3, hv⟩ := mod_of v 3 (.inr rfl)
  obtain ⟨V0, hV0⟩ : ∃ W, W = w.alloc (.map #[] 0) := ⟨_, rfl⟩
  obtain ⟨M, hM⟩ : ∃ Y, w.heap.size = Y := ⟨_, rfl⟩
  obtain ⟨V1, hV1⟩ : ∃ W, W = V0.alloc (.cells #[.slice none 0 0, .slice none 0 0, .slice none 0 0, .slice none 0 0, .map (some M)] 65) := ⟨_, rfl⟩
  obtain ⟨A, hA0⟩ : ∃ Y, M + 1 = Y := ⟨_, rfl⟩
  have hA : V0.heap.size = A := by rw [hV0, World.size_alloc, hM, hA0]
  have hes : Es V0 M 0 0 (fun _ => False) := by rw [hV0, ← hM]; exact Es.made w
  have b0 : Below w.heap.size w V0 := by rw [hV0]; exact bnew _ _
  have b1 : Below V0.heap.size V0 V1 := by rw [hV1]; exact bnew _ _
  have j1 : V1.heap[A]? = some (.cells #[.slice none 0 0, .slice none 0 0, .slice none 0 0, .slice none 0 0, .map (some M)] 65 (0, 0)) := by rw [hV1, ← hA]; exact heap_alloc_new V0 _
  have hwd : Wd V1 A M 0 0 (fun _ => []) (fun _ => False) := ⟨⟨fun _ => .slice none 0 0, j1, fun _ => World.ownsRow_nil _ _ _ _⟩, hes.stays (b1.block M hes.lt)⟩
  have hAw : w.heap.size ≤ A ∧ w.heap.size ≤ M := by have := b0.size; omega
  have K1 := apart_do1 hwd (by omega) (by omega) hk hv
  have K2 : Hid (∀ (Y : World) (P : ByteArray → Prop), Wd Y A M 3 1 (updR (fun _ => []) kk (rowC kk vv)) P → Calls Try.prog 35 #[.pointer (some ⟨A, 0, none⟩), .agg #[.int .i64 k, .int .i64 0, .bool true, .bool false], .int .i64 0] Y fun e X' => e = .returned (.tuple #[]) ∧ (∃ P R, (∀ j, R j = []) ∧ Wd X' A M 6 1 R P) ∧ Fr Y X' (fun j => j = A ∨ j = M)) := Lib.hid fun Y P h => apart_do2 (by omega) (by omega) h hk
  have HB1 := Lib.hid (bgo b0 b1)
  have HAW := Lib.hid hAw
  have HV0 := Lib.hid hV0
  have HV1 := Lib.hid hV1
  have HM := Lib.hid hM
  have HA := Lib.hid hA0
  have hmm := @run_makeMap Try.prog
  clear hk4 hk hv3 hv hV0 hM hV1 hA hA0 hes b0 b1 j1 hwd hAw
  go_enter Try.func9, Try.ntmps9
  go_upto_region 2 with fail
  rw [← HV0.out, HM.out, ← HV1.out, HA.out]
  clear hmm
  go_upto_region 3 with (go_at_call 35; refine K1.mono ?_; rintro e y1 ⟨rfl, ⟨P1, hw1⟩, hf1⟩; refine Hid.out ?_)
  refine Lib.hid ?_
  have k2 := K2.out y1 P1 hw1
  have HF1 := Lib.hid hf1
  clear K1 K2 hw1 hf1
  go_upto_region 4 with (go_at_call 35; refine k2.mono ?_; rintro e y2 ⟨rfl, ⟨P2, R2, hR2, hw2⟩, hf2⟩; refine Hid.out ?_)
  refine Lib.hid ?_
  have HB2 : Hid (Below w.heap.size w y2) := Lib.hid (((HB1.out.trans (HF1.out.toBelow (fun q hq e => by have := HAW.out; omega) HB1.out.size))).trans (hf2.toBelow (fun q hq e => by have := HAW.out; omega) (Nat.le_trans HB1.out.size HF1.out.size)))
  have HW2 := Lib.hid hw2
  have HR2 := Lib.hid hR2
  have HC2 : Hid (y2.cell? ⟨A, 4, none⟩ = some (.map (some M))) := Lib.hid (by obtain ⟨⟨s, j, _⟩, _⟩ := hw2; exact cell_blk j 4)
  clear k2 hw2 hR2 hf2
  have haw := awake_any y2
  go_wp2_with (go_at_call 10; refine haw.mono ?_; rintro e y3 ⟨rfl, b3⟩; refine Hid.out ?_)
  refine Lib.hid ?_
  have HW3 := Lib.hid (HW2.out.stays b3)
  have HB3 := Lib.hid (bgo HB2.out b3)
  have c4 : y3.cell? ⟨A, 4, none⟩ = some (.map (some M)) := cell_on b3 HC2.out
  have hl := HW3.out.es.len
  have hwn := wantedE_any HW3.out HR2.out
  clear haw b3
  go_wp2_with (go_at_call 34; refine hwn.mono ?_; rintro e y4 ⟨M4, rfl, h4, b4⟩; refine Hid.out ?_)
  refine Lib.hid ?_
  have hl4 := h4.len
  have HB4 := Lib.hid (bgo HB3.out b4)
  clear hwn b4 h4 hl c4
  go_wp2
  go_ret
  exact ⟨rfl, HB4.out⟩
end Go.Proofs.Ytbepekgaipipjaa
