/- The walk of the document's Stands of two lists. -/
import Derived.Test.YtgagbfdknncadaaWk
import Derived.Test.YtgagbfdknncadaaPa
import Derived.Deep.RegionHeld3
import Derived.Deep.DrawnRows
namespace Go.Proofs.Ytgagbfdknncadaa
open Go.RowKit
attribute [local go_sem ↓] Go.wp_at_zero Go.wp_at_succ

theorem stands_nil2 (L : List V) (h : L ≠ []) : standsL L [] = 1 := by
  cases L with
  | nil => exact absurd rfl h
  | cons x r => rfl
theorem stands_nil1 (L : List V) (h : L ≠ []) : standsL [] L = -1 := by
  cases L with
  | nil => exact absurd rfl h
  | cons x r => rfl
theorem dropL (L : List V) (k : Nat) (h : k < L.length) : L.drop k = L[k] :: L.drop (k + 1) := List.drop_eq_getElem_cons h
theorem dropL_nil (L : List V) (k : Nat) (h : ¬ k < L.length) : L.drop k = [] := List.drop_eq_nil_of_le (by omega)
theorem dropL_ne (L : List V) (k : Nat) (h : k < L.length) : L.drop k ≠ [] := by rw [dropL L k h]; exact List.cons_ne_nil _ _

theorem two_keep {b o b' o' k : Nat} {x y : V} {w W w' : World} (h : (W.cell? ⟨b, o + k * 3, none⟩ = some (.int .i64 x.k) ∧ W.cell? ⟨b, o + k * 3 + 1, none⟩ = some (.int .i64 x.n) ∧ W.cell? ⟨b, o + k * 3 + 2, none⟩ = some (.string x.s) ∧ W.cell? ⟨b', o' + k * 3, none⟩ = some (.int .i64 y.k) ∧ W.cell? ⟨b', o' + k * 3 + 1, none⟩ = some (.int .i64 y.n) ∧ W.cell? ⟨b', o' + k * 3 + 2, none⟩ = some (.string y.s)) ∧ b < W.heap.size ∧ b' < W.heap.size ∧ Below w.heap.size w W) (hb : Below W.heap.size W w') : (w'.cell? ⟨b, o + k * 3, none⟩ = some (.int .i64 x.k) ∧ w'.cell? ⟨b, o + k * 3 + 1, none⟩ = some (.int .i64 x.n) ∧ w'.cell? ⟨b, o + k * 3 + 2, none⟩ = some (.string x.s) ∧ w'.cell? ⟨b', o' + k * 3, none⟩ = some (.int .i64 y.k) ∧ w'.cell? ⟨b', o' + k * 3 + 1, none⟩ = some (.int .i64 y.n) ∧ w'.cell? ⟨b', o' + k * 3 + 2, none⟩ = some (.string y.s)) ∧ b < w'.heap.size ∧ b' < w'.heap.size ∧ Below w.heap.size w w' := by
  have hc := (bcell hb).1
  have hz := hb.size
  obtain ⟨⟨x0, x1, x2, y0, y1, y2⟩, l1, l2, hw⟩ := h
  exact ⟨⟨by rw [hc _ _ l1]; exact x0, by rw [hc _ _ l1]; exact x1, by rw [hc _ _ l1]; exact x2, by rw [hc _ _ l2]; exact y0, by rw [hc _ _ l2]; exact y1, by rw [hc _ _ l2]; exact y2⟩, by omega, by omega, hw.trans (hb.mono hw.size)⟩

set_option maxHeartbeats 4000000 in
set_option maxRecDepth 100000 in
theorem refStands_any (A B : List V) (ad ad' : Option Addr) (cap cap' : Nat) (w : World) (hA : Li A ad w) (hB : Li B ad' w) (sA : Sz A) (sB : Sz B) (lA : A.length ≤ 100) (lB : B.length ≤ 100) :
    Calls Try.prog 16 #[.slice ad A.length cap, .slice ad' B.length cap'] w fun e w' => e = .returned (.int .i64 (standsL A B)) ∧ Below w.heap.size w w' := by
  obtain ⟨R, hR⟩ : ∃ R, standsL A B = R := ⟨_, rfl⟩
  have HS : Hid (standsL (A.drop 0) (B.drop 0) = R) := hR
  rw [hR]
  clear hR
  go_enter Try.func16, Try.ntmps16
  go_wp2
  go_loopw [5] (fun i wr => ∃ k : Nat, k ≤ A.length ∧ k ≤ B.length ∧ i = .int .i64 k ∧ Hid (standsL (A.drop k) (B.drop k) = R) ∧ Below w.heap.size w wr) (fun i _ => A.length - (intOf i).toNat)
  case atStart => exact ⟨0, by omega, by omega, rfl, HS, Below.refl _ _⟩
  case round =>
    clear HS
    obtain ⟨k, hka, hkb, rfl, H, hw⟩ := hrel
    by_cases h1 : k < A.length
    · by_cases h2 : k < B.length
      · obtain ⟨b, o, rfl, hbl, c0, c1, c2⟩ := (hA.on hw).at' k h1
        obtain ⟨b', o', rfl, hbl', d0, d1, d2⟩ := (hB.on hw).at' k h2
        have sx := sA.at' _ (List.getElem_mem h1)
        have sy := sB.at' _ (List.getElem_mem h2)
        have HH : Hid ((if valCmp A[k] B[k] = 0 then standsL (A.drop (k + 1)) (B.drop (k + 1)) else valCmp A[k] B[k]) = R) := by
          have h := H.out
          rw [dropL A k h1, dropL B k h2] at h
          exact h
        obtain ⟨x, hx⟩ : ∃ x, x = A[k] := ⟨_, rfl⟩
        obtain ⟨y, hy⟩ : ∃ y, y = B[k] := ⟨_, rfl⟩
        rw [← hx] at c0 c1 c2 sx HH
        rw [← hy] at d0 d1 d2 sy HH
        clear hx hy H
        obtain ⟨q, hq⟩ : ∃ q, valCmp x y = q := ⟨_, rfl⟩
        rw [hq] at HH
        have HQ := Lib.hid hq
        clear hq
        have z1 : (k : Int) < (B.length : Int) := by omega
        have z2 : (k : Int) < (A.length : Int) := by omega
        go_wp2
        go_region_held3 (fun w' => (w'.cell? ⟨b, o + k * 3, none⟩ = some (.int .i64 x.k) ∧ w'.cell? ⟨b, o + k * 3 + 1, none⟩ = some (.int .i64 x.n) ∧ w'.cell? ⟨b, o + k * 3 + 2, none⟩ = some (.string x.s) ∧ w'.cell? ⟨b', o' + k * 3, none⟩ = some (.int .i64 y.k) ∧ w'.cell? ⟨b', o' + k * 3 + 1, none⟩ = some (.int .i64 y.n) ∧ w'.cell? ⟨b', o' + k * 3 + 2, none⟩ = some (.string y.s)) ∧ b < w'.heap.size ∧ b' < w'.heap.size ∧ Below w.heap.size w w') (first | exact ⟨⟨c0, c1, c2, d0, d1, d2⟩, hbl, hbl', hw.drew⟩ | exact two_keep (by assumption) (by assumption))
          ((go_at_call 27; refine (refCompare_any x.k x.n x.s y.k y.n y.s _ sx sy).mono ?_; rintro e w1 ⟨rfl, hb1⟩; rw [show valCmp ⟨x.k, x.n, x.s⟩ ⟨y.k, y.n, y.s⟩ = q from HQ.out]))
        rename_i HB
        obtain ⟨_, _, _, hW⟩ := HB
        by_cases hq0 : q = 0
        · have tq : (q != 0) = false := by rw [hq0]; rfl
          have HN : Hid (standsL (A.drop (k + 1)) (B.drop (k + 1)) = R) := by
            have h := HH.out
            rw [if_pos hq0] at h
            exact h
          clear hq0 HH
          go_wp2
          exact ⟨⟨k + 1, by omega, by omega, by go_num, HN, hW⟩, by simp [intOf]; omega⟩
        · have tq : (q != 0) = true := by rw [bne_iff_ne]; exact hq0
          have HN : Hid (q = R) := by
            have h := HH.out
            rw [if_neg hq0] at h
            exact h
          clear hq0 HH
          go_wp2
          go_ret
          rw [HN.out]
          exact ⟨rfl, hW⟩
      · have HE : Hid (R = 1) := by
          show R = 1
          rw [← H.out, dropL_nil B k h2, stands_nil2 _ (dropL_ne A k h1)]
        clear H
        go_wp2
        go_ret
        rw [HE.out]
        exact ⟨rfl, hw⟩
    · by_cases h2 : k < B.length
      · have HE : Hid (R = -1) := by
          show R = -1
          rw [← H.out, dropL_nil A k h1, stands_nil1 _ (dropL_ne B k h2)]
        clear H
        go_wp2
        go_ret
        rw [HE.out]
        exact ⟨rfl, hw⟩
      · have HE : Hid (R = 0) := by
          show R = 0
          rw [← H.out, dropL_nil A k h1, dropL_nil B k h2]
          rfl
        clear H
        go_wp2
        go_ret
        rw [HE.out]
        exact ⟨rfl, hw⟩
end Go.Proofs.Ytgagbfdknncadaa
