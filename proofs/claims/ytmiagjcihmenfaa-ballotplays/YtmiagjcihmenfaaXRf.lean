/- The walk of the law's awake. -/
import Derived.Test.YtmiagjcihmenfaaXj
import Derived.Test.YtmiagjcihmenfaaXQj
import Derived.Test.YtmiagjcihmenfaaXk
namespace Go.Proofs.Ytmiagjcihmenfaa
open Go.RowKit

abbrev aw0 : Bs := Bs.new 0 3
abbrev awM1 : Ms := ⟨2, 1, 0, 1, 0, 0, 0, true, [], noT⟩
abbrev awM2 : Ms := ⟨4, 1, 0, 1, 1, 0, 0, true, [], noT⟩
def aw1 : Bs := aw0.timeout.1
def aw2 : Bs := (aw1.take awM1).1
def aw3 : Bs := (aw2.take awM2).1
def awL : List Ms := aw0.timeout.2
def awN : List Ms := (aw1.take awM1).2
def awP : List Ms := (aw2.take awM2).2
theorem awL_is : awL.length = 2 ∧ (awL[1]?).map (fun m => (m.kind, m.tgt)) = some (1, 2) := by decide
theorem awN_is : awN.length = 2 ∧ (awN[0]?).map (fun m => m.list.length) = some 1 := by decide
theorem awP_is : awP.length = 2 ∧ (awP[0]?).map (fun m => m.commit) = some 1 := by decide
theorem aw3_is : aw3.role = 2 ∧ aw3.commit = 1 := by decide
theorem aw_log : aw0.log.length = 0 ∧ aw1.log.length = 0 ∧ aw2.log.length = 1 ∧ aw0.term = 0 := by decide
section
variable {w w' : World} {A : Nat} {S T : Nat → Prop} {b : Bs} {lv : Value} {pf : Int}
theorem Ou.keep {B : Nat} {O : List (Ms × Value)} {ov : Value} (h : Ou w B O ov) (hf : Fr w w' S) (hS : ∀ k, S k → k < B) : Ou w' B O ov :=
  ⟨row_keep h.own hf (fun j hj q => by have := hS j q; have := (h.own.lt j hj).1; omega), fun p hp => row_keep (h.ls p hp) hf (fun j hj q => by have := hS j q; have := ((h.ls p hp).lt j hj).1; omega)⟩
theorem msC_at (O : List (Ms × Value)) : ∀ (k : Nat) (h : k < O.length), (msC O)[k * 10]? = some (.int .i64 O[k].1.kind) ∧ (msC O)[k * 10 + 2]? = some (.int .i64 O[k].1.tgt) ∧ (msC O)[k * 10 + 6]? = some (.int .i64 O[k].1.commit) ∧ (msC O)[k * 10 + 8]? = some O[k].2 := by
  induction O with
  | nil => intro k h; simp at h
  | cons p O ih =>
    intro k h
    have e : msC (p :: O) = msC [p] ++ msC O := by simp [msC]
    rw [e]
    cases k with
    | zero => simp [msC]
    | succ k =>
      have := ih k (by simpa using h)
      have hl : (msC [p]).length = 10 := by simp [msC]
      rw [List.getElem?_append_right (by omega), List.getElem?_append_right (by omega), List.getElem?_append_right (by omega), List.getElem?_append_right (by omega), hl, show (k + 1) * 10 - 10 = k * 10 by omega, show (k + 1) * 10 + 2 - 10 = k * 10 + 2 by omega, show (k + 1) * 10 + 6 - 10 = k * 10 + 6 by omega, show (k + 1) * 10 + 8 - 10 = k * 10 + 8 by omega]
      simpa using this
/-- A message that was said, cell by cell. -/
theorem Ou.get {B : Nat} {O : List (Ms × Value)} {ov : Value} (h : Ou w B O ov) {k : Nat} (hk : k < O.length) : ∃ g cap ad2 cap2, ov = .slice (some ⟨g, 0, none⟩) O.length cap ∧ w.cell? ⟨g, k * 10, none⟩ = some (.int .i64 O[k].1.kind) ∧ w.cell? ⟨g, k * 10 + 2, none⟩ = some (.int .i64 O[k].1.tgt) ∧ w.cell? ⟨g, k * 10 + 6, none⟩ = some (.int .i64 O[k].1.commit) ∧ w.cell? ⟨g, k * 10 + 8, none⟩ = some (.slice ad2 O[k].1.list.length cap2) := by
  obtain ⟨a, b, c, d⟩ := msC_at O k hk
  obtain ⟨ad2, cap2, e2⟩ := own_shape (h.ls O[k] (List.getElem_mem hk))
  rw [e2] at d
  rcases h.own.2 with ⟨_, h0⟩ | ⟨g, cap, cur, hv, _⟩
  · omega
  · subst hv
    exact ⟨g, cap, ad2, cap2, rfl, (h.own.cellAt _ (by omega)).trans a, (h.own.cellAt _ (by omega)).trans b, (h.own.cellAt _ (by omega)).trans c, (h.own.cellAt _ (by omega)).trans d⟩
set_option maxHeartbeats 1000000 in
set_option maxRecDepth 100000 in
theorem awake_p (w : World) : Calls Try.prog 9 #[] w fun e w' => e = .returned (.bool true) ∧ Below w.heap.size w w' := by
  have hn := new_yes w 0 3 (by decide) (by decide) (by decide)
  have ok0 : Ok aw0 := new_ok 0 3 (by decide) (by decide) (by decide)
  have ok1 : Ok aw1 := timeout_ok ok0
  have ok2 : Ok aw2 := take_ok ok1 awM1
  go_enter Try.func9, Try.ntmps9
  go_wp2_with fail
  refine hn.mono ?_
  rintro e1 w1 ⟨rfl, p1, b1⟩
  clear hn
  have hS1 : ∀ k, k = w.heap.size → k < w1.heap.size := p1.lt
  have ht := timeout_p p1 ok0 (by decide) (by decide)
  go_wp2_with fail
  refine ht.mono ?_
  rintro e2 w2 ⟨ov2, rfl, q2⟩
  obtain ⟨S2, B2, O2, k1, k2, k3, k4, k5, k6, k7⟩ := q2
  have k1 : Pb w2 w.heap.size S2 aw1 := k1
  have k6 : O2.map Prod.fst = awL := k6
  clear ht p1
  have hk2 := take_p k1 ok1 awM1 (Es.nil w2 S2) (by decide)
  go_wp2_with fail
  refine hk2.mono ?_
  rintro e3 w3 ⟨ov3, rfl, q3⟩
  obtain ⟨S3, B3, O3, l1, l2, l3, l4, l5, l6, l7⟩ := q3
  have l1 : Pb w3 w.heap.size S3 aw2 := l1
  have l6 : O3.map Prod.fst = awN := l6
  have k7' : Ou w3 B2 O2 ov2 := k7.keep l3 k5
  clear hk2
  have hk3 := take_p l1 ok2 awM2 (Es.nil w3 S3) (by decide)
  go_wp2_with fail
  refine hk3.mono ?_
  rintro e4 w4 ⟨ov4, rfl, q4⟩
  obtain ⟨S4, B4, O4, n1, n2, n3, n4, n5, n6, n7⟩ := q4
  have n1 : Pb w4 w.heap.size S4 aw3 := n1
  have n6 : O4.map Prod.fst = awP := n6
  have l7' : Ou w4 B3 O3 ov3 := l7.keep n3 l5
  have no : ∀ j, B2 ≤ j → j < w2.heap.size → ¬ S3 j := by
    intro j h1 h2 q
    rcases l2 j q with z | z
    · have := k5 j z; omega
    · omega
  have k7'' : Ou w4 B2 O2 ov2 := ⟨row_keep k7'.own n3 (fun j hj => no j (k7.own.lt j hj).1 (k7.own.lt j hj).2), fun p hp => row_keep (k7'.ls p hp) n3 (fun j hj => no j ((k7.ls p hp).lt j hj).1 ((k7.ls p hp).lt j hj).2)⟩
  clear hk3
  have hst := stand_any n1
  have hB4 : Below w.heap.size w w4 := by
    have f1 : Fr w w2 (fun _ => False) := (Fr.ofBelow (fun _ => False) b1).step k3 (fun j q => .inr (by have q' : j = w.heap.size := q; omega))
    have f2 : Fr w w3 (fun _ => False) := f1.step l3 (fun j q => by
      rcases k2 j q with z | z
      · exact .inr (by have z' : j = w.heap.size := z; omega)
      · exact .inr (by have := b1.size; omega))
    have f3 : Fr w w4 (fun _ => False) := f2.step n3 (fun j q => by
      rcases l2 j q with z | z
      · rcases k2 j z with z | z
        · exact .inr (by have z' : j = w.heap.size := z; omega)
        · exact .inr (by have := b1.size; omega)
      · exact .inr (by have := f1.size; omega))
    exact f3.fresh (fun _ q => q.elim)
  go_wp2_with fail
  refine hst.mono ?_
  rintro e5 w5 ⟨rfl, b5⟩
  clear hst
  obtain ⟨W6, hW6⟩ : ∃ W6, W6 = w5.alloc (.cells #[.int .i64 aw3.term, .int .i64 aw3.vote, .int .i64 aw3.role, .int .i64 aw3.lead, .int .i64 aw3.base, .int .i64 aw3.last, .int .i64 aw3.commit] 57) := ⟨_, rfl⟩
  have b6' : Below w5.heap.size w5 W6 := by rw [hW6]; exact (Below.refl _ w5).alloc (Nat.le_refl _) _
  have b6 : Below w4.heap.size w4 W6 := b5.trans (b6'.mono b5.size)
  have s6 : W6.heap[w5.heap.size]? = some (.cells #[.int .i64 aw3.term, .int .i64 aw3.vote, .int .i64 aw3.role, .int .i64 aw3.lead, .int .i64 aw3.base, .int .i64 aw3.last, .int .i64 aw3.commit] 57 (0, 0)) := by rw [hW6]; exact heap_alloc_new w5 _
  have s2 : W6.cell? ⟨w5.heap.size, 2, none⟩ = some (.int .i64 2) := by rw [cell_blk s6, ← aw3_is.1]; rfl
  have s7 : W6.cell? ⟨w5.heap.size, 6, none⟩ = some (.int .i64 1) := by rw [cell_blk s6, ← aw3_is.2]; rfl
  have hl2 : O2.length = 2 := by rw [← List.length_map (f := Prod.fst), k6]; exact awL_is.1
  have hl3 : O3.length = 2 := by rw [← List.length_map (f := Prod.fst), l6]; exact awN_is.1
  have hl4 : O4.length = 2 := by rw [← List.length_map (f := Prod.fst), n6]; exact awP_is.1
  obtain ⟨g2, cp2, x2, y2, rfl, a20, a22, z1, z2⟩ := (k7''.on b6).get (k := 1) (by omega)
  obtain ⟨g3, cp3, x3, y3, rfl, z3, z4, z5, a38⟩ := (l7'.on b6).get (k := 0) (by omega)
  obtain ⟨g4, cp4, x4, y4, rfl, z6, z7, a46, z8⟩ := (n7.on b6).get (k := 0) (by omega)
  have v2 : (O2[1]'(by omega)).1.kind = 1 ∧ (O2[1]'(by omega)).1.tgt = 2 := by
    have h := awL_is.2
    rw [← k6, List.getElem?_map, List.getElem?_eq_getElem (by omega)] at h
    simp at h
    exact h
  have v3 : (O3[0]'(by omega)).1.list.length = 1 := by
    have h := awN_is.2
    rw [← l6, List.getElem?_map, List.getElem?_eq_getElem (by omega)] at h
    simpa using h
  have v4 : (O4[0]'(by omega)).1.commit = 1 := by
    have h := awP_is.2
    rw [← n6, List.getElem?_map, List.getElem?_eq_getElem (by omega)] at h
    simpa using h
  clear z1 z2 z3 z4 z5 z6 z7 z8
  rw [v2.1] at a20
  rw [v2.2] at a22
  rw [v3] at a38
  rw [v4] at a46
  rw [hl2, hl3, hl4]
  have d20 : W6.cell? ⟨g2, 10, none⟩ = some (.int .i64 1) := a20
  have d22 : W6.cell? ⟨g2, 12, none⟩ = some (.int .i64 2) := a22
  have d38 : W6.cell? ⟨g3, 8, none⟩ = some (.slice x3 1 y3) := a38
  have d46 : W6.cell? ⟨g4, 6, none⟩ = some (.int .i64 1) := a46
  clear a20 a22 a38 a46
  have HB : Hid (Below w.heap.size w W6) := hB4.trans (b6.mono hB4.size)
  have HW6 := Lib.hid hW6
  clear hW6 b6 b6' b5 s6 hl2 hl3 hl4 v2 v3 v4 k7 k7' k7'' l7 l7' n7 k6 l6 n6 k1 l1 n1 k2 k3 k4 k5 l2 l3 l4 l5 n2 n3 n4 n5 no hB4 ok0 ok1 ok2 hS1 b1
  go_upto_region 6 with fail
  rw [← HW6.out]
  go_wp2
  go_ret
  exact ⟨rfl, HB.out⟩
end
end Go.Proofs.Ytmiagjcihmenfaa
