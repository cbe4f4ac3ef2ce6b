/- The walk of the program's agreed. -/
import Derived.Test.YtmiagjcihmenfaaPc
import Derived.Test.YtmiagjcihmenfaaQa
import Derived.Test.YtmiagjcihmenfaaQb
namespace Go.Proofs.Ytmiagjcihmenfaa
open Go.RowKit

theorem endsTo_get (b : Bs) : ∀ n k, k < n → (b.endsTo n).getD k 0 = if k = b.id then b.last else b.mat.getD k 0
  | 0, k, h => by omega
  | n + 1, k, h => by
    have hl := Bs.endsTo_len b n
    unfold Bs.endsTo
    rw [List.getD_eq_getElem?_getD]
    by_cases q : k < n
    · rw [List.getElem?_append_left (by omega), ← List.getD_eq_getElem?_getD]
      exact endsTo_get b n k q
    · have : k = n := by omega
      subst this
      rw [List.getElem?_append_right (by omega), hl, Nat.sub_self]
      rfl
section
variable {w w' : World} {A : Nat} {S T : Nat → Prop} {b : Bs} {lv : Value} {pf : Int}
def AG (b : Bs) (w wr : World) (iv : Value) : Prop := ∃ t : Nat, t ≤ b.size ∧ iv = .int .i64 (t : Nat) ∧ Below w.heap.size w wr ∧ (∃ cur, wr.heap[w.heap.size]? = some (.cells cur 79 (0, 0)) ∧ cur.size = 5) ∧ ∀ k, k < t → wr.cell? ⟨w.heap.size, k, none⟩ = some (.int .i64 (b.mat.getD k 0))
set_option maxHeartbeats 1000000 in
set_option maxRecDepth 100000 in
theorem agreed_p (h : Pb w A S b) : Calls Try.prog 85 #[.pointer (some ⟨A, 0, none⟩)] w fun e w' => ∃ L : List Int, e = .returned (.int .i64 (L.getD ((b.size - 1) / 2) 0)) ∧ L.Perm (b.endsTo b.size) ∧ (∀ p q, p < q → q < L.length → L.getD p 0 ≤ L.getD q 0) ∧ Below w.heap.size w w' := by
  have HH := Lib.hid h
  obtain ⟨lv, pf, hv⟩ := h
  have hsz := hv.sz
  have hid := hv.idl
  have hA := hv.lt A hv.covA
  have hva := hv.alloc (.cells #[.int .i64 0, .int .i64 0, .int .i64 0, .int .i64 0, .int .i64 0] 79)
  have c8 : (w.alloc (.cells #[.int .i64 0, .int .i64 0, .int .i64 0, .int .i64 0, .int .i64 0] 79)).cell? ⟨A, 8, none⟩ = some (.int .i64 b.size) := hva.cell 8
  clear hv hva
  go_enter Try.func85, Try.ntmps85
  go_wp2
  go_loopw [9] (fun iv wr => AG b w wr iv) (fun iv _ => b.size - (intOf iv).toNat)
  case atStart => exact ⟨0, Nat.zero_le _, rfl, (Below.refl _ w).alloc (Nat.le_refl _) _, ⟨_, heap_alloc_new w _, rfl⟩, fun k hk => by omega⟩
  case round =>
    clear c8
    obtain ⟨t, ht, rfl, hb, ⟨cur, hcur, hcs⟩, hc⟩ := hrel
    have hP := HH.out.on hb
    obtain ⟨lv, pf, hv⟩ := hP
    have hnA : A ≠ w.heap.size := Nat.ne_of_lt hA
    by_cases hlt : t < b.size
    · have t0 : (0 : Int) ≤ t := by omega
      have t1 : (t : Int) < b.size := by omega
      have t5 : (t : Int) < 5 := by omega
      have t6 : t < 5 := by omega
      have cm := hv.matc t6
      obtain ⟨y, hy⟩ : ∃ y, b.mat.getD t 0 = y := ⟨_, rfl⟩
      rw [hy] at cm
      have x0 : wr.cell? ⟨w.heap.size, t, none⟩ = some (cur[t]'(by omega)) := by rw [cell_blk hcur, Array.getElem?_eq_getElem]
      obtain ⟨z, hz⟩ : ∃ z, cur[t]'(by omega) = z := ⟨_, rfl⟩
      rw [hz] at x0
      have f0 : wr.frozen? ⟨w.heap.size, t, none⟩ = false := frozen_blk hcur t
      have hfin : AG b w (wr.setCell ⟨w.heap.size, t, none⟩ (.int .i64 y)) (.int .i64 ((t : Int) + 1)) := by
        refine ⟨t + 1, hlt, by simp, (Fr.set (a := ⟨w.heap.size, t, none⟩) (Fr.ofBelow (fun _ => False) hb) (Or.inr (Nat.le_refl _)) _).fresh (fun _ q => q.elim), ⟨_, set_blk hcur _, by simp [hcs]⟩, fun k hk => ?_⟩
        by_cases q : k = t
        · subst q
          rw [World.cell?_setCell_same' _ _ _ (by rw [x0]; rfl), hy]
        · rw [World.cell?_setCell_other _ _ _ _ (fun e => q (by cases e; rfl))]
          exact hc k (by omega)
      have HFI := Lib.hid hfin
      clear hfin hc hcur hb hv hy hz
      go_wp2
      exact ⟨HFI.out, by simp [intOf]; omega⟩
    · have t1 : ¬ (t : Int) < b.size := by omega
      have et : t = b.size := by omega
      subst et
      have d0 : (0 : Int) ≤ b.id := by omega
      have d5 : (b.id : Int) < 5 := by omega
      have d6 : b.id < 5 := by omega
      have c5 : wr.cell? ⟨A, 5, none⟩ = some (.int .i64 b.last) := hv.cell 5
      have c7 : wr.cell? ⟨A, 7, none⟩ = some (.int .i64 b.id) := hv.cell 7
      have c8 : wr.cell? ⟨A, 8, none⟩ = some (.int .i64 b.size) := hv.cell 8
      have x0 : wr.cell? ⟨w.heap.size, b.id, none⟩ = some (cur[b.id]'(by omega)) := by rw [cell_blk hcur, Array.getElem?_eq_getElem]
      obtain ⟨z, hz⟩ : ∃ z, cur[b.id]'(by omega) = z := ⟨_, rfl⟩
      rw [hz] at x0
      have f0 : wr.frozen? ⟨w.heap.size, b.id, none⟩ = false := frozen_blk hcur b.id
      clear hz
      have s0 : (0 : Int) ≤ b.size := by omega
      have s5 : (b.size : Int) ≤ 5 := by omega
      obtain ⟨W, hW⟩ : ∃ W, W = (wr.setCell ⟨w.heap.size, b.id, none⟩ (.int .i64 b.last)).drew := ⟨_, rfl⟩
      have hbW : Below w.heap.size w W := by rw [hW]; exact ((Fr.set (a := ⟨w.heap.size, b.id, none⟩) (Fr.ofBelow (fun _ => False) hb) (Or.inr (Nat.le_refl _)) _).drewN 1).fresh (fun _ q => q.elim)
      have hcW : ∃ cur, W.heap[w.heap.size]? = some (.cells cur 79 (0, 0)) := by rw [hW]; exact ⟨_, set_blk hcur _⟩
      have hIa : Ia W w.heap.size (b.endsTo b.size) := by
        intro k hk
        rw [Bs.endsTo_len] at hk
        obtain ⟨cu, hcu⟩ := hcW
        refine ⟨?_, frozen_blk hcu k⟩
        rw [← gd _ k (by rw [Bs.endsTo_len]; exact hk), endsTo_get b b.size k hk, hW]
        show (wr.setCell ⟨w.heap.size, b.id, none⟩ (.int .i64 b.last)).cell? _ = _
        by_cases q : k = b.id
        · rw [if_pos q, q]
          exact World.cell?_setCell_same' _ _ _ (by rw [x0]; rfl)
        · rw [if_neg q, World.cell?_setCell_other _ _ _ _ (fun e => q (by cases e; rfl))]
          exact hc k hk
      have hsort := sort_any (cap := 5) hIa (by rw [Bs.endsTo_len]; omega) (by rw [Bs.endsTo_len]; exact hsz)
      rw [Bs.endsTo_len] at hsort
      have HW := Lib.hid hbW
      have HHW := Lib.hid hW
      clear hbW hcW hIa hc hcur hb hv hW
      go_wp2
      go_region
      go_wp2_with fail
      rw [← HHW.out]
      refine hsort.mono ?_
      rintro e1 w2 ⟨rfl, L, p1, p2, p3, p4, p5⟩
      clear hsort
      have hb2 : Below w.heap.size w w2 := HW.out.trans (p5.toBelow (fun k hk q => by have q' : k = w.heap.size := q; omega) HW.out.size)
      have hP2 := HH.out.on hb2
      obtain ⟨lv2, pf2, hv2⟩ := hP2
      have e8 : w2.cell? ⟨A, 8, none⟩ = some (.int .i64 b.size) := hv2.cell 8
      obtain ⟨m, hm⟩ : ∃ m : Nat, (b.size - 1) / 2 = m := ⟨_, rfl⟩
      have HM := Lib.hid hm
      have hmL : m < L.length := by omega
      have em : w2.cell? ⟨w.heap.size, m, none⟩ = some (.int .i64 (L.getD m 0)) := by rw [gd L m hmL]; exact (p3 m hmL).1
      have HP : Hid (L.Perm (b.endsTo b.size) ∧ (∀ p q, p < q → q < L.length → L.getD p 0 ≤ L.getD q 0) ∧ Below w.heap.size w w2) := ⟨p1, by rw [p2]; exact p4, hb2⟩
      obtain ⟨y, hy⟩ : ∃ y, L.getD m 0 = y := ⟨_, rfl⟩
      rw [hy] at em
      have HY := Lib.hid hy
      have m5 : (m : Int) < 5 := by omega
      have m0 : (0 : Int) ≤ m := by omega
      clear p1 p2 p3 p4 p5 hb2 hv2 hmL hy c5 c7 c8 x0 f0
      go_wp2
      go_ret
      exact ⟨L, by rw [HM.out, HY.out]; rfl, HP.out⟩
end
end Go.Proofs.Ytmiagjcihmenfaa
