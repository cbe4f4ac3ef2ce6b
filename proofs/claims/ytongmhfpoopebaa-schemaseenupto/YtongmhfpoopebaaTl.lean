/- How long the texts are; what is seen is no more. -/
import Derived.Test.YtongmhfpoopebaaTo
import Derived.Test.YtongmhfpoopebaaSa
import Derived.Test.YtongmhfpoopebaaTd
namespace Go.Proofs.Ytongmhfpoopebaa
open Go.RowKit
theorem fm_sum {α : Type} (f : α → List UInt8) (g : α → Nat) (k : Nat) (h : ∀ x, (f x).length ≤ k * g x) : ∀ L : List α, (L.flatMap f).length ≤ k * (L.map g).sum
  | [] => by simp
  | x :: L => by
    have h1 := fm_sum f g k h L
    have h2 := h x
    rw [List.flatMap_cons, List.length_append, List.map_cons, List.sum_cons, Nat.mul_add]
    omega
theorem valL_len (v : Vl) : (valL v).length ≤ 30 + vlB v := by
  have h1 := num_len v.k
  have h2 := num_len v.n
  have h3 := textL_len v.s
  unfold valL vlB
  simp only [List.length_append]
  omega
theorem col1L_len (c : Col) : (col1L c).length ≤ 80 * colB c := by
  have h1 := num_len c.id
  have h2 := textL_len c.nm
  have h3 : (numsL [c.kd, c.st]).length ≤ 20 := numsL_len [c.kd, c.st]
  have h4 := valL_len c.df
  unfold col1L colB
  simp only [List.length_append]
  omega
theorem ix1L_len (c : Ix) : (ix1L c).length ≤ 80 * ixB c := by
  have h1 := num_len c.id
  have h2 := textL_len c.nm
  have h3 := num_len c.col
  have h4 := flagL_len c.uq
  have h5 := num_len c.st
  unfold ix1L ixB
  simp only [List.length_append]
  omega
theorem fk1L_len (c : Fk) : (fk1L c).length ≤ 80 * fkBk c := by
  have h1 := num_len c.id
  have h2 := textL_len c.nm
  have h3 : (numsL [c.col, c.par, c.st]).length ≤ 30 := numsL_len [c.col, c.par, c.st]
  unfold fk1L fkBk
  simp only [List.length_append]
  omega
theorem colsL_len (L : List Col) : (colsL L).length ≤ 10 + 80 * (L.map colB).sum := by
  have h1 := num_len (L.length : Int)
  have h2 := fm_sum col1L colB 80 col1L_len L
  unfold colsL
  rw [List.length_append]
  omega
theorem tab1L_len (t : Tb) : (tab1L t).length ≤ 80 * tbB t := by
  have h1 := num_len t.id
  have h2 := textL_len t.nm
  have h3 := colsL_len t.cols
  have h4 := num_len (t.ixs.length : Int)
  have h5 := fm_sum ix1L ixB 80 ix1L_len t.ixs
  have h6 := num_len (t.fks.length : Int)
  have h7 := fm_sum fk1L fkBk 80 fk1L_len t.fks
  unfold tab1L tabIL tbB
  simp only [List.length_append]
  omega
theorem schL_len (s : Sc) : (schL s).length ≤ 30 + 80 * scB s := by
  have h1 : (numsL [s.ver, s.last]).length ≤ 20 := numsL_len [s.ver, s.last]
  have h2 := num_len (s.tabs.length : Int)
  have h3 := fm_sum tab1L tbB 80 tab1L_len s.tabs
  unfold schL scB
  simp only [List.length_append]
  omega
theorem filt_sum {α : Type} (p : α → Bool) (f : α → Nat) : ∀ l : List α, ((l.filter p).map f).sum ≤ (l.map f).sum
  | [] => Nat.le_refl _
  | x :: l => by
    have := filt_sum p f l
    by_cases h : p x = true
    · rw [List.filter_cons_of_pos h]
      simp only [List.map_cons, List.sum_cons]
      omega
    · rw [List.filter_cons_of_neg h]
      simp only [List.map_cons, List.sum_cons]
      omega
theorem seenP_B (t : Tb) : tbB (seenP t) ≤ tbB t := by
  have h1 := filt_sum (fun x : Col => decide (x.st = 3)) colB t.cols
  have h2 := filt_sum (fun x : Ix => decide (x.st = 3)) ixB t.ixs
  have h3 := filt_sum (fun x : Fk => decide (x.st = 3)) fkBk t.fks
  unfold tbB seenP seC seI seK
  simp only
  omega
theorem seenS_B (s : Sc) : scB (seenS s) ≤ scB s := by
  unfold scB seenS
  simp only [List.map_map]
  have : (s.tabs.map (tbB ∘ seenP)).sum ≤ (s.tabs.map tbB).sum := sum_le (f := tbB ∘ seenP) (g := tbB) seenP_B s.tabs
  omega
theorem seenP_in {t : Tb} (h : TbIn t) : TbIn (seenP t) := ⟨h.id, fun x hx => h.c x (List.mem_filter.1 hx).1, fun x hx => h.i x (List.mem_filter.1 hx).1, fun x hx => h.k x (List.mem_filter.1 hx).1⟩
theorem seenS_in {s : Sc} (h : ScIn s) : ScIn (seenS s) := ⟨h.ver, h.last, fun x hx => by
  obtain ⟨y, hy, rfl⟩ := List.mem_map.1 hx
  exact seenP_in (h.t y hy)⟩
theorem cntT_B (t : Tb) : cntT t ≤ tbB t := by
  have h1 := sum_ge (f := colB) (fun x => by unfold colB; omega) t.cols
  have h2 := sum_ge (f := ixB) (fun x => by unfold ixB; omega) t.ixs
  have h3 := sum_ge (f := fkBk) (fun x => by unfold fkBk; omega) t.fks
  unfold cntT tbB
  omega
theorem tabs_B (s : Sc) : s.tabs.length ≤ scB s := by
  have h1 := sum_ge (f := tbB) (fun x => by unfold tbB; omega) s.tabs
  unfold scB
  omega
theorem tab_B {s : Sc} {t : Tb} (h : t ∈ s.tabs) : tbB t ≤ scB s := by
  have := sum_mem (f := tbB) h
  unfold scB
  omega
theorem few_of {s : Sc} {m : Nat} (h : s.tabs.length + m + cntN s.tabs ≤ 300) : s.tabs.length ≤ 300 ∧ ∀ t ∈ s.tabs, cntT t ≤ 300 := by
  refine ⟨by omega, fun t ht => ?_⟩
  have : cntT t ≤ cntN s.tabs := sum_mem (f := cntT) ht
  omega
end Go.Proofs.Ytongmhfpoopebaa
