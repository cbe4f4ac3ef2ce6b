/- Two rows of hits held against each other; a put of a later time leaves what was told. -/
import Derived.Test.YtcoaahlakkghhaaGd
import Derived.BigQuiet
import Derived.Deep.QuietTactic
namespace Go.Proofs.Ytcoaahlakkghhaa
open Go.RowKit

theorem tops_more {l : List Ve} {v : Ve} {t : Int} (h : t < v.ts) : tops (l ++ [v]) t = tops l t := by
  unfold tops
  rw [List.filter_append]
  have : [v].filter (fun v => decide (v.ts ≤ t)) = [] := List.filter_eq_nil_iff.2 (fun u hu => by rw [List.mem_singleton.1 hu, decide_eq_true_eq]; omega)
  rw [this, List.append_nil]
theorem span_fm (R : List Rw) (x y : ByteArray) (t : Int) : span R x y t = R.filterMap (fun r => if inSpan x y r.key then hit t r else none) := by
  unfold span
  induction R with
  | nil => rfl
  | cons r R ih =>
    rw [List.filter_cons, List.filterMap_cons]
    by_cases h : inSpan x y r.key = true
    · rw [if_pos h, if_pos h, List.filterMap_cons, ih]
    · rw [if_neg h, if_neg h, ih]
theorem span_inn {R : List Rw} {x y k : ByteArray} {v : Ve} {t : Int} {i : Nat} (h : t < v.ts) : span (inn R i ⟨k, [v]⟩) x y t = span R x y t := by
  rw [span_fm, span_fm]
  unfold inn
  have e : hit t ⟨k, [v]⟩ = none := by
    rw [hit_is]
    have : tops [v] t = none := by
      have := tops_more (l := []) h
      simp only [List.nil_append] at this
      rw [this]
      rfl
    simp only [this]
    rfl
  rw [List.filterMap_append, List.filterMap_cons]
  simp only [e, ite_self]
  rw [← List.filterMap_append, List.take_append_drop]
theorem span_set {R : List Rw} {x y k : ByteArray} {v : Ve} {t : Int} {i : Nat} {r : Rw} (hr : R[i]? = some r) (hk : r.key = k) (h : t < v.ts) : span (R.set i ⟨k, r.list ++ [v]⟩) x y t = span R x y t := by
  obtain ⟨hi, e⟩ := List.getElem?_eq_some_iff.1 hr
  rw [span_fm, span_fm, List.set_eq_take_append_cons_drop, if_pos hi]
  have e0 : R = R.take i ++ r :: R.drop (i + 1) := by
    rw [← e, List.getElem_cons_drop, List.take_append_drop]
  have e1 : hit t ⟨k, r.list ++ [v]⟩ = hit t r := by
    rw [hit_is, hit_is]
    simp only [tops_more h, hk]
  rw [List.filterMap_append, List.filterMap_cons]
  simp only [e1]
  rw [← hk]
  rw [show R.filterMap (fun r => if inSpan x y r.key then hit t r else none) = (R.take i ++ r :: R.drop (i + 1)).filterMap (fun r => if inSpan x y r.key then hit t r else none) from by rw [← e0], List.filterMap_append, List.filterMap_cons]
theorem span_put {R : List Rw} {k : ByteArray} {v : Ve} {t : Int} (h : t < v.ts) (x y : ByteArray) : span (putR R k v) x y t = span R x y t := by
  unfold putR
  split
  · rfl
  · split
    · rename_i r hr
      split
      · rename_i hk
        split
        · rfl
        · exact span_set hr hk h
      · exact span_inn h
    · exact span_inn h
theorem put_less {R : List Rw} {n : Nat} (h : ∀ r ∈ R, r.list.length ≤ n) (k : ByteArray) (v : Ve) : ∀ r ∈ putR R k v, r.list.length ≤ n + 1 := by
  have hinn : ∀ i, ∀ r ∈ inn R i ⟨k, [v]⟩, r.list.length ≤ n + 1 := fun i r hr => by
    rcases inn_mem hr with rfl | hr
    · show 1 ≤ n + 1
      omega
    · have := h r hr
      omega
  unfold putR
  split
  · exact fun r hr => Nat.le_succ_of_le (h r hr)
  · split
    · rename_i r0 hr0
      split
      · split
        · exact fun r hr => Nat.le_succ_of_le (h r hr)
        · intro r hr
          obtain ⟨hi, e⟩ := List.getElem?_eq_some_iff.1 hr0
          rcases List.mem_or_eq_of_mem_set hr with q | q
          · exact Nat.le_succ_of_le (h r q)
          · rw [q]
            have := h r0 (by rw [← e]; exact List.getElem_mem hi)
            simp only [List.length_append, List.length_cons, List.length_nil]
            omega
      · exact hinn _
    · exact hinn _
section
variable {w w' : World} {X Y : List Hi} {u v : Value}
/-- Hits that a slice reads. -/
def Hm (w : World) (X : List Hi) (v : Value) : Prop := ∃ ad cap, v = .slice ad X.length cap ∧ X.length ≤ cap ∧ cap ≤ maxLen ∧ ∀ i (h : i < X.length), ∃ b, ad = some ⟨b, 0, none⟩ ∧ w.cell? ⟨b, i * 3, none⟩ = some (.string X[i].key) ∧ w.cell? ⟨b, i * 3 + 1, none⟩ = some (.int .i64 X[i].ts) ∧ w.cell? ⟨b, i * 3 + 2, none⟩ = some (.string X[i].val)
theorem hi_own {B : Nat} (h : w.ownsRow B 80 3 v X.length (hiC X)) : Hm w X v := by
  rcases h.2 with ⟨hv, h0⟩ | ⟨g, cap, cur, hv, _, _, z1, z2, _⟩
  · refine ⟨none, 0, by rw [hv, h0], by omega, Nat.zero_le _, fun i hi => by omega⟩
  · subst hv
    refine ⟨_, cap, rfl, z1, z2, fun i hi => ⟨g, rfl, ?_⟩⟩
    obtain ⟨q0, q1, q2⟩ := hiC_get X i hi
    exact ⟨(h.cellAt _ (by omega)).trans q0, (h.cellAt _ (by omega)).trans q1, (h.cellAt _ (by omega)).trans q2⟩
theorem Hm.on (h : Hm w X v) (hb : Below w.heap.size w w') : Hm w' X v := by
  obtain ⟨ad, cap, e, z1, z2, hc⟩ := h
  refine ⟨ad, cap, e, z1, z2, fun i hi => ?_⟩
  obtain ⟨b, e, c0, c1, c2⟩ := hc i hi
  exact ⟨b, e, cell_on hb c0, cell_on hb c1, cell_on hb c2⟩
end
end Go.Proofs.Ytcoaahlakkghhaa
/- The walk of SameHits. -/
namespace Go.Proofs.Ytcoaahlakkghhaa
open Go.RowKit
section
variable {w w' : World} {X Y : List Hi} {u v : Value}
set_option maxHeartbeats 4000000 in
set_option maxRecDepth 100000 in
theorem same_hits (hX : Hm w X u) (hY : Hm w X v) : Calls Try.prog 25 #[u, v] w fun e w' => e = .returned (.bool true) ∧ Below w.heap.size w w' := by
  obtain ⟨ad, cap, rfl, z1, z2, hX⟩ := hX
  obtain ⟨ad', cap', rfl, z3, z4, hY⟩ := hY
  have hmx : (X.length : Int) ≤ 9223372036854775807 := by unfold maxLen at z2; omega
  have HX := Lib.hid hX
  have HY := Lib.hid hY
  clear hX hY z2 z4 z1 z3
  go_enter Try.func25, Try.ntmps25
  go_wp2
  go_loopw [5] (fun iv wr => ∃ i : Nat, i ≤ X.length ∧ iv = .int .i64 (i : Int) ∧ Below w.heap.size w wr) (fun iv _ => X.length - (intOf iv).toNat)
  case atStart => exact ⟨0, Nat.zero_le _, rfl, Below.refl _ _⟩
  case round =>
    obtain ⟨i, hi, rfl, hb⟩ := hrel
    obtain ⟨V, rfl⟩ : ∃ V, V = wr := ⟨_, rfl⟩
    by_cases hlt : i < X.length
    · obtain ⟨b, rfl, c0, c1, c2⟩ := HX.out i hlt
      obtain ⟨b', rfl, d0, d1, d2⟩ := HY.out i hlt
      have c0 := cell_on hb c0
      have c1 := cell_on hb c1
      have c2 := cell_on hb c2
      have d0 := cell_on hb d0
      have d1 := cell_on hb d1
      have d2 := cell_on hb d2
      have k1 : (i : Int) < X.length := by omega
      have k0 : (0 : Int) ≤ i := by omega
      have HB := Lib.hid hb
      have e1 := same_eq X[i].key X[i].key
      have e2 := same_eq X[i].val X[i].val
      simp only [decide_true] at e1 e2
      clear hb
      go_wp2
      go_quiet (fail)
      go_wp2
      go_roundw
      case rel => exact ⟨i + 1, hlt, by go_num, below_draw HB.out nq⟩
      case measure => simp [intOf]; omega
    · have k1 : ¬ ((i : Int) < X.length) := by omega
      go_wp2
      go_ret
      exact ⟨rfl, hb⟩
end
end Go.Proofs.Ytcoaahlakkghhaa
/- The walks of the document's Stands and Within. -/
namespace Go.Proofs.Ytcoaahlakkghhaa
open Go.RowKit
theorem cb_end1 (a b : List UInt8) (h : a = []) (h2 : b ≠ []) : Lib.compareBytes a b = -1 := by
  subst h
  cases b with
  | nil => exact absurd rfl h2
  | cons x y => rfl
theorem cb_end2 (a b : List UInt8) (h : b = []) (h2 : a ≠ []) : Lib.compareBytes a b = 1 := by
  subst h
  cases a with
  | nil => exact absurd rfl h2
  | cons x y => rfl
theorem drop_atS (s : ByteArray) (k : Nat) (h : k < s.size) : s.data.toList.drop k = s[k] :: s.data.toList.drop (k + 1) := by
  rw [List.drop_eq_getElem_cons (by simpa using h)]; rfl
theorem drop_nil (s : ByteArray) (k : Nat) (h : ¬ k < s.size) : s.data.toList.drop k = [] := List.drop_eq_nil_of_le (by simp; omega)
theorem drop_ne (s : ByteArray) (k : Nat) (h : k < s.size) : s.data.toList.drop k ≠ [] := by rw [drop_atS s k h]; exact List.cons_ne_nil _ _

set_option maxHeartbeats 1000000 in
set_option maxRecDepth 100000 in
theorem stands_any (a b : ByteArray) (w : World) (ha : a.size ≤ maxLen) (hb : b.size ≤ maxLen) :
    Calls Try.prog 79 #[.string a, .string b] w fun e w' => e = .returned (.int .i64 (cb a b)) ∧ Below w.heap.size w w' := by
  unfold cb
  unfold maxLen at ha hb
  go_enter Try.func79, Try.ntmps79
  go_wp2
  go_loopw [5] (fun i wr => ∃ k : Nat, k ≤ a.size ∧ k ≤ b.size ∧ i = .int .i64 k ∧ Hid (Lib.compareBytes (a.data.toList.drop k) (b.data.toList.drop k) = Lib.compareBytes a.data.toList b.data.toList) ∧ Below w.heap.size w wr) (fun i _ => a.size - (intOf i).toNat)
  case atStart => exact ⟨0, by omega, by omega, rfl, rfl, Below.refl _ _⟩
  case round =>
    obtain ⟨k, hka, hkb, rfl, H, hw⟩ := hrel
    by_cases h1 : k < a.size
    · by_cases h2 : k < b.size
      · have e1 := drop_atS a k h1
        have e2 := drop_atS b k h2
        by_cases c1 : (a[k].toNat : Int) < (b[k].toNat : Int)
        · have HR : Hid (Lib.compareBytes a.data.toList b.data.toList = -1) := by
            have h := H.out
            rw [e1, e2, Lib.compareBytes, if_pos (UInt8.lt_iff_toNat_lt.2 (by omega))] at h
            exact h.symm
          clear e1 e2 H
          go_wp2
          go_quiet (fail)
          go_wp2
          go_ret
          rw [HR.out]
          exact ⟨rfl, below_draw hw _⟩
        · by_cases c2 : (b[k].toNat : Int) < (a[k].toNat : Int)
          · have HR : Hid (Lib.compareBytes a.data.toList b.data.toList = 1) := by
              have h := H.out
              rw [e1, e2, Lib.compareBytes, if_neg (by rw [UInt8.lt_iff_toNat_lt]; omega), if_pos (UInt8.lt_iff_toNat_lt.2 (by omega))] at h
              exact h.symm
            clear e1 e2 H
            go_wp2
            go_quiet (fail)
            go_wp2
            go_quiet (fail)
            go_wp2
            go_ret
            rw [HR.out]
            exact ⟨rfl, below_draw (below_draw hw _) _⟩
          · have HR : Hid (Lib.compareBytes (a.data.toList.drop (k + 1)) (b.data.toList.drop (k + 1)) = Lib.compareBytes a.data.toList b.data.toList) := by
              have h := H.out
              rw [e1, e2, Lib.compareBytes, if_neg (by rw [UInt8.lt_iff_toNat_lt]; omega), if_neg (by rw [UInt8.lt_iff_toNat_lt]; omega)] at h
              exact h
            clear e1 e2 H
            go_wp2
            go_quiet (fail)
            go_wp2
            go_quiet (fail)
            go_wp2
            exact ⟨⟨k + 1, by omega, by omega, by go_num, HR, below_draw hw _⟩, by simp [intOf]; omega⟩
      · have HR : Hid (Lib.compareBytes a.data.toList b.data.toList = 1) := by
          have h := H.out
          rw [cb_end2 _ _ (drop_nil b k h2) (drop_ne a k h1)] at h
          exact h.symm
        clear H
        go_wp2
        go_ret
        rw [HR.out]
        exact ⟨rfl, hw⟩
    · by_cases h2 : k < b.size
      · have HR : Hid (Lib.compareBytes a.data.toList b.data.toList = -1) := by
          have h := H.out
          rw [cb_end1 _ _ (drop_nil a k h1) (drop_ne b k h2)] at h
          exact h.symm
        clear H
        go_wp2
        go_ret
        rw [HR.out]
        exact ⟨rfl, hw⟩
      · have HR : Hid (Lib.compareBytes a.data.toList b.data.toList = 0) := by
          have h := H.out
          rw [drop_nil a k h1, drop_nil b k h2] at h
          exact h.symm
        clear H
        go_wp2
        go_ret
        rw [HR.out]
        exact ⟨rfl, hw⟩


set_option maxHeartbeats 1000000 in
set_option maxRecDepth 100000 in
theorem within_any (w : World) (k x y : ByteArray) (hk : k.size ≤ maxLen) (hx : x.size ≤ maxLen) (hy : y.size ≤ maxLen) :
    Calls Try.prog 48 #[.string k, .agg #[.string x, .string y]] w fun e w' => e = .returned (.bool (inSpan x y k)) ∧ Below w.heap.size w w' := by
  obtain ⟨W, hW⟩ : ∃ W, W = w.alloc (.cells #[.string x, .string y] 57) := ⟨_, rfl⟩
  have hb : Below w.heap.size w W := by rw [hW]; exact (Below.refl _ w).alloc (Nat.le_refl _) _
  obtain ⟨Y, hY⟩ : ∃ Y, w.heap.size = Y := ⟨_, rfl⟩
  have jY : W.heap[Y]? = some (.cells #[.string x, .string y] 57 (0, 0)) := by rw [hW, ← hY]; exact heap_alloc_new w _
  have y0 : W.cell? ⟨Y, 0, none⟩ = some (.string x) := cell_blk jY 0
  have s1 := stands_any x k W hx hk
  have HW := Lib.hid hW
  have HYY := Lib.hid hY
  have HB := Lib.hid hb
  have HJ := Lib.hid jY
  clear hW hY hb jY
  go_enter Try.func48, Try.ntmps48
  go_upto_region 1 with fail
  rw [← HW.out, HYY.out]
  go_wp2_with fail
  refine s1.mono ?_
  rintro e w1 ⟨rfl, b1⟩
  have y1 : w1.cell? ⟨Y, 1, none⟩ = some (.string y) := cell_blk ((b1.block Y (blk_lt HJ.out)).trans HJ.out) 1
  have HB1 := Lib.hid (HB.out.trans (b1.mono HB.out.size))
  have s2 := stands_any k y w1 hk hy
  clear b1
  by_cases h1 : cb x k ≤ 0
  · go_wp2_with fail
    refine s2.mono ?_
    rintro e w2 ⟨rfl, b2⟩
    have HB2 := Lib.hid (HB1.out.trans (b2.mono HB1.out.size))
    clear b2 s1 s2
    go_wp2
    go_ret
    exact ⟨by unfold inSpan; simp [h1], HB2.out⟩
  · clear s1 s2
    go_wp2
    go_ret
    exact ⟨by have e : inSpan x y k = false := by unfold inSpan; rw [decide_eq_false (by omega), Bool.false_and]
              rw [e]; rfl, HB1.out⟩
end Go.Proofs.Ytcoaahlakkghhaa
/- A store that is filled by a list of calls. -/
namespace Go.Proofs.Ytcoaahlakkghhaa
open Go.RowKit
/-- A store of the walk's own, behind n puts. -/
structure Pj (V0 wr : World) (A n : Nat) (S : Nat → Prop) (R : List Rw) : Prop where
  sb : Sb wr A S R
  len : R.length ≤ n
  each : ∀ r ∈ R, r.list.length ≤ n
  lo : ∀ j, S j → V0.heap.size ≤ j
  bel : Below V0.heap.size V0 wr
section
variable {w V0 wr V V' : World} {A n : Nat} {S : Nat → Prop} {R : List Rw}
theorem Pj.on (h : Pj V0 V A n S R) (hb : Below V.heap.size V V') : Pj V0 V' A n S R := ⟨h.sb.on hb, h.len, h.each, h.lo, h.bel.trans (hb.mono h.bel.size)⟩
theorem Pj.put (h : Pj V0 V A n S R) {k : ByteArray} {v : Ve} {e : Ending} (hp : PutAns V A S R k v e V') : ∃ S', Pj V0 V' A (n + 1) S' (putR R k v) ∧ (∀ j, S' j → Gro S V V' j) ∧ Fr V V' S := by
  obtain ⟨_, S', hs, hg, hf⟩ := hp
  obtain ⟨lo, bl⟩ := Sb.step h.lo h.bel hg hf
  exact ⟨S', ⟨hs, Nat.le_trans (put_len R k v) (by have := h.len; omega), put_less h.each k v, lo, bl⟩, hg, hf⟩
theorem Pj.fit (h : Pj V0 V A n S R) (hn : n < 800000) : R.length < 800000 ∧ ∀ r ∈ R, r.list.length < 800000 :=
  ⟨Nat.lt_of_le_of_lt h.len hn, fun r hr => Nat.lt_of_le_of_lt (h.each r hr) hn⟩
theorem Pj.new (V : World) : Calls Try.prog 26 #[] V fun e w' => e = .returned (.pointer (some ⟨V.heap.size, 0, none⟩)) ∧ Pj V w' V.heap.size 0 (fun k => k = V.heap.size) [] := by
  refine (new_any V).mono ?_
  rintro e w' ⟨rfl, hs, hb⟩
  exact ⟨rfl, hs, Nat.le_refl _, fun r hr => (by cases hr), fun j e => (by have e' : j = V.heap.size := e; omega), hb⟩
theorem Pj.call (h : Pj V0 V A n S R) (hn : n < 800000) (k : ByteArray) (v : Ve) : Calls Try.prog 92 #[.pointer (some ⟨A, 0, none⟩), .string k, veV v] V fun e w' => PutAns V A S R k v e w' :=
  put_b h.sb k v (h.fit hn).1 (h.fit hn).2
end
end Go.Proofs.Ytcoaahlakkghhaa
