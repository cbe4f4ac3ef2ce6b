import Derived.Test.YtongmhfpoopebaaGreatTz
import Derived.Test.YtongmhfpoopebaaGreatCk
import Derived.Test.YtongmhfpoopebaaGreatNe
import Derived.Test.YtongmhfpoopebaaGreatOa
import Derived.Test.YtongmhfpoopebaaGreatHa
import Derived.RegionTactic
/- How long the texts are; what is seen is no more. -/
namespace Go.Proofs.YtongmhfpoopebaaGreat
open Go.RowKit
theorem fm_sum {α : Type} (f : α → List UInt8) (g : α → Nat) (k : Nat) (h : ∀ x, (f x).length ≤ k * g x) : ∀ L : List α, (L.flatMap f).length ≤ k * (L.map g).sum
  | [] => by simp
  | x :: L => by
    have h1 := fm_sum f g k h L
    have h2 := h x
    rw [List.flatMap_cons, List.length_append, List.map_cons, List.sum_cons, Nat.mul_add]
    omega
theorem valL_len (v : Vl) : (valL v).length ≤ 30 + vlB v := by
  have h1 := num_len v.k
  have h2 := num_len v.n
  have h3 := textL_len v.s
  unfold valL vlB
  simp only [List.length_append]
  omega
theorem col1L_len (c : Col) : (col1L c).length ≤ 80 * colB c := by
  have h1 := num_len c.id
  have h2 := textL_len c.nm
  have h3 : (numsL [c.kd, c.st]).length ≤ 20 := numsL_len [c.kd, c.st]
  have h4 := valL_len c.df
  unfold col1L colB
  simp only [List.length_append]
  omega
theorem ix1L_len (c : Ix) : (ix1L c).length ≤ 80 * ixB c := by
  have h1 := num_len c.id
  have h2 := textL_len c.nm
  have h3 := num_len c.col
  have h4 := flagL_len c.uq
  have h5 := num_len c.st
  unfold ix1L ixB
  simp only [List.length_append]
  omega
theorem fk1L_len (c : Fk) : (fk1L c).length ≤ 80 * fkBk c := by
  have h1 := num_len c.id
  have h2 := textL_len c.nm
  have h3 : (numsL [c.col, c.par, c.st]).length ≤ 30 := numsL_len [c.col, c.par, c.st]
  unfold fk1L fkBk
  simp only [List.length_append]
  omega
theorem colsL_len (L : List Col) : (colsL L).length ≤ 10 + 80 * (L.map colB).sum := by
  have h1 := num_len (L.length : Int)
  have h2 := fm_sum col1L colB 80 col1L_len L
  unfold colsL
  rw [List.length_append]
  omega
theorem tab1L_len (t : Tb) : (tab1L t).length ≤ 80 * tbB t := by
  have h1 := num_len t.id
  have h2 := textL_len t.nm
  have h3 := colsL_len t.cols
  have h4 := num_len (t.ixs.length : Int)
  have h5 := fm_sum ix1L ixB 80 ix1L_len t.ixs
  have h6 := num_len (t.fks.length : Int)
  have h7 := fm_sum fk1L fkBk 80 fk1L_len t.fks
  unfold tab1L tabIL tbB
  simp only [List.length_append]
  omega
theorem schL_len (s : Sc) : (schL s).length ≤ 30 + 80 * scB s := by
  have h1 : (numsL [s.ver, s.last]).length ≤ 20 := numsL_len [s.ver, s.last]
  have h2 := num_len (s.tabs.length : Int)
  have h3 := fm_sum tab1L tbB 80 tab1L_len s.tabs
  unfold schL scB
  simp only [List.length_append]
  omega
theorem filt_sum {α : Type} (p : α → Bool) (f : α → Nat) : ∀ l : List α, ((l.filter p).map f).sum ≤ (l.map f).sum
  | [] => Nat.le_refl _
  | x :: l => by
    have := filt_sum p f l
    by_cases h : p x = true
    · rw [List.filter_cons_of_pos h]
      simp only [List.map_cons, List.sum_cons]
      omega
    · rw [List.filter_cons_of_neg h]
      simp only [List.map_cons, List.sum_cons]
      omega
theorem cntT_B (t : Tb) : cntT t ≤ tbB t := by
  have h1 := sum_ge (f := colB) (fun x => by unfold colB; omega) t.cols
  have h2 := sum_ge (f := ixB) (fun x => by unfold ixB; omega) t.ixs
  have h3 := sum_ge (f := fkBk) (fun x => by unfold fkBk; omega) t.fks
  unfold cntT tbB
  omega
theorem tabs_B (s : Sc) : s.tabs.length ≤ scB s := by
  have h1 := sum_ge (f := tbB) (fun x => by unfold tbB; omega) s.tabs
  unfold scB
  omega
theorem tab_B {s : Sc} {t : Tb} (h : t ∈ s.tabs) : tbB t ≤ scB s := by
  have := sum_mem (f := tbB) h
  unfold scB
  omega
theorem few_of {s : Sc} {m : Nat} (h : s.tabs.length + m + cntN s.tabs ≤ 300) : s.tabs.length ≤ 300 ∧ ∀ t ∈ s.tabs, cntT t ≤ 300 := by
  refine ⟨by omega, fun t ht => ?_⟩
  have : cntT t ≤ cntN s.tabs := sum_mem (f := cntT) ht
  omega
end Go.Proofs.YtongmhfpoopebaaGreat

/- Check. -/
namespace Go.Proofs.YtongmhfpoopebaaGreat
open Go.RowKit Go.Maps
section
variable {w : World}
set_option maxHeartbeats 1000000 in
set_option maxRecDepth 100000 in
theorem checkS_any {s : Sc} {tv : Value} (hL : Lr tbE 5 w s.tabs tv) (hI : ∀ t ∈ s.tabs, ∀ i ∈ idsT t, I64 i) : Calls Tryz.prog 13 #[scV s tv] w fun e w' => e = .returned (.int .i64 (if rightS s = true then 0 else 100)) ∧ Below w.heap.size w w' := by
  obtain ⟨ta, tc, rfl, hr0⟩ := hL
  have hL : Lr tbE 5 w s.tabs (.slice ta s.tabs.length tc) := ⟨ta, tc, rfl, hr0⟩
  obtain ⟨W, hW⟩ : ∃ W, W = w.alloc (.cells #[.int .i64 s.ver, .int .i64 s.last, .slice ta s.tabs.length tc] 24) := ⟨_, rfl⟩
  have hbW : Below w.heap.size w W := by rw [hW]; exact (Below.refl _ w).alloc (Nat.le_refl _) _
  obtain ⟨Y0, hY0⟩ : ∃ Y0, w.heap.size = Y0 := ⟨_, rfl⟩
  have jY0 : W.heap[Y0]? = some (.cells #[.int .i64 s.ver, .int .i64 s.last, .slice ta s.tabs.length tc] 24 (0, 0)) := by
    have := heap_alloc_new w (.cells #[.int .i64 s.ver, .int .i64 s.last, .slice ta s.tabs.length tc] 24)
    rw [hW, ← hY0]
    exact this
  have hr := right_sch (hL.on tbE_held hbW) hI
  have d0 : W.cell? ⟨Y0, 0, none⟩ = some (.int .i64 s.ver) := cell_blk jY0 0
  have d1 : W.cell? ⟨Y0, 1, none⟩ = some (.int .i64 s.last) := cell_blk jY0 1
  have d2 : W.cell? ⟨Y0, 2, none⟩ = some (.slice ta s.tabs.length tc) := cell_blk jY0 2
  have HW := Lib.hid hW
  have HBW := Lib.hid hbW
  have HY0 := Lib.hid hY0
  clear hW hbW hY0 jY0 hL hr0 hI
  obtain ⟨er, her⟩ : ∃ er : Int, er = (if rightS s = true then 0 else 100) := ⟨_, rfl⟩
  rw [← her]
  have HER := Lib.hid her
  clear her
  go_enter Tryz.func13, Tryz.ntmps13
  go_upto_region 1 with fail
  rw [← HW.out, HY0.out]
  cases q1 : rightS s with
  | false =>
    rw [q1] at hr
    have HE : Hid (er = 100) := by rw [HER.out, q1]; exact Lib.hid rfl
    clear q1
    go_wp2_with (go_at_call 33; refine hr.mono ?_; rintro e w1 ⟨rfl, b1⟩)
    go_ret
    exact ⟨by rw [HE.out]; rfl, bgo HBW.out b1⟩
  | true =>
    rw [q1] at hr
    have HE : Hid (er = 0) := by rw [HER.out, q1]; exact Lib.hid rfl
    clear q1
    go_wp2_with (go_at_call 33; refine hr.mono ?_; rintro e w1 ⟨rfl, b1⟩)
    go_ret
    exact ⟨by rw [HE.out]; rfl, bgo HBW.out b1⟩
end
end Go.Proofs.YtongmhfpoopebaaGreat

/- The walks of Example and awake. -/
namespace Go.Proofs.YtongmhfpoopebaaGreat
open Go.RowKit Go.Maps
def v0 : Vl := ⟨0, 0, ⟨#[]⟩⟩
def exC : List Col := [⟨0, ⟨#[97]⟩, 1, 0, v0⟩, ⟨0, ⟨#[98]⟩, 2, 0, v0⟩]
def exD : Dd := ⟨1, ⟨#[116]⟩, ⟨#[]⟩, ⟨#[]⟩, ⟨#[]⟩, false, 0, v0, exC⟩
def awD2 : Dd := ⟨2, ⟨#[116]⟩, ⟨#[105]⟩, ⟨#[98]⟩, ⟨#[]⟩, false, 0, v0, []⟩
def awD3 : Dd := ⟨5, ⟨#[116]⟩, ⟨#[]⟩, ⟨#[98]⟩, ⟨#[]⟩, false, 0, v0, []⟩
def awS0 : Sc := ⟨0, 0, []⟩
def awS1 : Sc := ⟨1, 3, [⟨1, ⟨#[116]⟩, [⟨2, ⟨#[97]⟩, 1, 3, v0⟩, ⟨3, ⟨#[98]⟩, 2, 3, v0⟩], [], []⟩]⟩
def awS2 : Sc := ⟨2, 4, [⟨1, ⟨#[116]⟩, [⟨2, ⟨#[97]⟩, 1, 3, v0⟩, ⟨3, ⟨#[98]⟩, 2, 3, v0⟩], [⟨4, ⟨#[105]⟩, 3, false, 1⟩], []⟩]⟩
theorem aw1 : turnS awS0 exD 3 = .ok awS1 := by rfl
theorem aw2 : turnS awS1 awD2 1 = .ok awS2 := by kernel_rfl
theorem aw3 : turnS awS2 awD3 2 = .error 155 := by kernel_rfl
theorem col_nil (X : World) : Lr colE 7 X [] (.slice none 0 0) := ⟨none, 0, rfl, fun _ => rfl, Nat.le_refl _, Nat.zero_le _, fun i hi => absurd hi (by simp)⟩
theorem tb_nil (X : World) : Lr tbE 5 X [] (.slice none 0 0) := ⟨none, 0, rfl, fun _ => rfl, Nat.le_refl _, Nat.zero_le _, fun i hi => absurd hi (by simp)⟩
theorem ex_cols {X : World} {F : Nat} (h : X.heap[F]? = some (.cells #[.int .i64 0, .string ⟨#[97]⟩, .int .i64 1, .int .i64 0, .int .i64 0, .int .i64 0, .string ⟨#[]⟩, .int .i64 0, .string ⟨#[98]⟩, .int .i64 2, .int .i64 0, .int .i64 0, .int .i64 0, .string ⟨#[]⟩] 50 (0, 0))) : Lr colE 7 X exC (.slice (some ⟨F, 0, none⟩) 2 2) :=
  ⟨some ⟨F, 0, none⟩, 2, rfl, (fun e => by cases e), Nat.le_refl _, (by unfold maxLen; omega), fun i hi => by
    have h0 : i = 0 ∨ i = 1 := by have : i < 2 := hi; omega
    rcases h0 with rfl | rfl
    · exact ⟨F, 0, colL ⟨0, ⟨#[97]⟩, 1, 0, v0⟩, rfl, blk_lt h, rfl, rfl, fun j u hu => by
        have hj : j < 7 := (List.getElem?_eq_some_iff.1 hu).1
        rw [show 0 + 0 * 7 + j = j from by omega, cell_blk h j]
        match j, hj, hu with
        | 0, _, hu => exact hu
        | 1, _, hu => exact hu
        | 2, _, hu => exact hu
        | 3, _, hu => exact hu
        | 4, _, hu => exact hu
        | 5, _, hu => exact hu
        | 6, _, hu => exact hu⟩
    · exact ⟨F, 0, colL ⟨0, ⟨#[98]⟩, 2, 0, v0⟩, rfl, blk_lt h, rfl, rfl, fun j u hu => by
        have hj : j < 7 := (List.getElem?_eq_some_iff.1 hu).1
        rw [show 0 + 1 * 7 + j = 7 + j from by omega, cell_blk h (7 + j)]
        match j, hj, hu with
        | 0, _, hu => exact hu
        | 1, _, hu => exact hu
        | 2, _, hu => exact hu
        | 3, _, hu => exact hu
        | 4, _, hu => exact hu
        | 5, _, hu => exact hu
        | 6, _, hu => exact hu⟩⟩
section
variable {w : World}
set_option maxHeartbeats 2000000 in
set_option maxRecDepth 100000 in
theorem example_any (w : World) : Calls Tryz.prog 21 #[] w fun e w' => ∃ F, e = .returned (.agg #[.int .i64 1, .string ⟨#[116]⟩, .string ⟨#[]⟩, .string ⟨#[]⟩, .string ⟨#[]⟩, .bool false, .int .i64 0, .int .i64 0, .int .i64 0, .string ⟨#[]⟩, .slice (some ⟨F, 0, none⟩) 2 2]) ∧ Lr colE 7 w' exC (.slice (some ⟨F, 0, none⟩) 2 2) ∧ Below w.heap.size w w' := by
  obtain ⟨W, hW⟩ : ∃ W, W = (w.alloc (.cells #[.int .i64 0, .string ⟨#[]⟩, .string ⟨#[]⟩, .string ⟨#[]⟩, .string ⟨#[]⟩, .bool false, .int .i64 0, .int .i64 0, .int .i64 0, .string ⟨#[]⟩, .slice none 0 0] 31)).alloc (.cells #[.int .i64 0, .string ⟨#[97]⟩, .int .i64 1, .int .i64 0, .int .i64 0, .int .i64 0, .string ⟨#[]⟩, .int .i64 0, .string ⟨#[98]⟩, .int .i64 2, .int .i64 0, .int .i64 0, .int .i64 0, .string ⟨#[]⟩] 50) := ⟨_, rfl⟩
  have hbW : Below w.heap.size w W := by rw [hW]; exact ((Below.refl _ w).alloc (Nat.le_refl _) _).alloc (by simp) _
  have jY0 : W.heap[w.heap.size]? = some (.cells #[.int .i64 0, .string ⟨#[]⟩, .string ⟨#[]⟩, .string ⟨#[]⟩, .string ⟨#[]⟩, .bool false, .int .i64 0, .int .i64 0, .int .i64 0, .string ⟨#[]⟩, .slice none 0 0] 31 (0, 0)) := by
    have := heap_alloc_new w (.cells #[.int .i64 0, .string ⟨#[]⟩, .string ⟨#[]⟩, .string ⟨#[]⟩, .string ⟨#[]⟩, .bool false, .int .i64 0, .int .i64 0, .int .i64 0, .string ⟨#[]⟩, .slice none 0 0] 31)
    rw [hW, Below.heap_alloc _ _ _ (by simp only [World.size_alloc]; omega)]
    exact this
  have jY1 : W.heap[w.heap.size + 1]? = some (.cells #[.int .i64 0, .string ⟨#[97]⟩, .int .i64 1, .int .i64 0, .int .i64 0, .int .i64 0, .string ⟨#[]⟩, .int .i64 0, .string ⟨#[98]⟩, .int .i64 2, .int .i64 0, .int .i64 0, .int .i64 0, .string ⟨#[]⟩] 50 (0, 0)) := by
    have := heap_alloc_new (w.alloc (.cells #[.int .i64 0, .string ⟨#[]⟩, .string ⟨#[]⟩, .string ⟨#[]⟩, .string ⟨#[]⟩, .bool false, .int .i64 0, .int .i64 0, .int .i64 0, .string ⟨#[]⟩, .slice none 0 0] 31)) (.cells #[.int .i64 0, .string ⟨#[97]⟩, .int .i64 1, .int .i64 0, .int .i64 0, .int .i64 0, .string ⟨#[]⟩, .int .i64 0, .string ⟨#[98]⟩, .int .i64 2, .int .i64 0, .int .i64 0, .int .i64 0, .string ⟨#[]⟩] 50)
    simp only [World.size_alloc] at this
    rw [hW]
    exact this
  obtain ⟨W3, e3, j3, f3⟩ := sets_row jY0 #[.int .i64 1, .string ⟨#[116]⟩, .string ⟨#[]⟩, .string ⟨#[]⟩, .string ⟨#[]⟩, .bool false, .int .i64 0, .int .i64 0, .int .i64 0, .string ⟨#[]⟩, .slice (some ⟨w.heap.size + 1, 0, none⟩) 2 2] rfl
  have hst : (Instr.storeAt 31 (.pointer (some ⟨w.heap.size, 0, none⟩)) (.agg #[.int .i64 1, .string ⟨#[116]⟩, .string ⟨#[]⟩, .string ⟨#[]⟩, .string ⟨#[]⟩, .bool false, .int .i64 0, .int .i64 0, .int .i64 0, .string ⟨#[]⟩, .slice (some ⟨w.heap.size + 1, 0, none⟩) 2 2])).run Tryz.prog ((w.alloc (.cells #[.int .i64 0, .string ⟨#[]⟩, .string ⟨#[]⟩, .string ⟨#[]⟩, .string ⟨#[]⟩, .bool false, .int .i64 0, .int .i64 0, .int .i64 0, .string ⟨#[]⟩, .slice none 0 0] 31)).alloc (.cells #[.int .i64 0, .string ⟨#[97]⟩, .int .i64 1, .int .i64 0, .int .i64 0, .int .i64 0, .string ⟨#[]⟩, .int .i64 0, .string ⟨#[98]⟩, .int .i64 2, .int .i64 0, .int .i64 0, .int .i64 0, .string ⟨#[]⟩] 50)) = .ok () W3 := by
    rw [e3, ← hW]
    exact store_row jY0 rfl size31 (by simp [Value.oneCell'])
  have J3 := Lib.hid j3
  have HF : Hid (Lr colE 7 W3 exC (.slice (some ⟨w.heap.size + 1, 0, none⟩) 2 2)) := Lib.hid (ex_cols ((f3.block _ (blk_lt jY1) (by omega)).trans jY1))
  have HB : Hid (Below w.heap.size w W3) := Lib.hid (hbW.trans (f3.toBelow (fun k hk q => by omega) hbW.size))
  clear hW hbW jY0 jY1 e3 j3 f3
  go_enter Tryz.func21, Tryz.ntmps21
  go_wp2_with (refine wpl_store _ _ rfl (by simp [Act.eval]) (by simp [Act.eval]) hst ?_)
  refine bodyPost_ret (results_one rfl rfl (load_var J3.out Tryz.underlying31 rfl size31)) rfl ?_
  exact ⟨_, rfl, HF.out, HB.out⟩
/-- Turn, where it makes a schema. -/
theorem turn_ok {s s' : Sc} {tv : Value} {d : Dd} {st : Int} {da : Option Addr} {dc : Nat} (hL : Lr tbE 5 w s.tabs tv) (hI : ∀ t ∈ s.tabs, ∀ i ∈ idsT t, I64 i) (hd : Lr colE 7 w d.cols (.slice da d.cols.length dc)) (hz : d.cols.length ≤ 1000000) (he : turnS s d st = .ok s') : Calls Tryz.prog 15 #[scV s tv, .agg #[.int .i64 d.kind, .string d.table, .string d.name, .string d.column, .string d.parent, .bool d.uq, .int .i64 d.ty, .int .i64 d.df.k, .int .i64 d.df.n, .string d.df.s, .slice da d.cols.length dc], .int .i64 st] w fun e w' => ∃ G ad cap, e = .returned (.tuple #[.agg #[.int .i64 s'.ver, .int .i64 s'.last, .slice ad s'.tabs.length cap], .int .i64 0]) ∧ G.map Prod.fst = s'.tabs ∧ Dr w' w.heap.size G (.slice ad s'.tabs.length cap) ∧ Below w.heap.size w w' := by
  have h := turn_any (st := st) (da := da) (dc := dc) hL hI hd hz
  rw [he] at h
  refine h.mono ?_
  rintro e w' ⟨G, tv, e1, hG, hD, hb⟩
  obtain ⟨ad, cap, hsh⟩ := own_shape hD.row
  have hl : G.length = s'.tabs.length := by rw [← hG, List.length_map]
  rw [hl] at hsh
  subst hsh
  exact ⟨G, ad, cap, e1, hG, hD, hb⟩
theorem turn_err {s : Sc} {er : Int} {tv : Value} {d : Dd} {st : Int} {da : Option Addr} {dc : Nat} (hL : Lr tbE 5 w s.tabs tv) (hI : ∀ t ∈ s.tabs, ∀ i ∈ idsT t, I64 i) (hd : Lr colE 7 w d.cols (.slice da d.cols.length dc)) (hz : d.cols.length ≤ 1000000) (he : turnS s d st = .error er) : Calls Tryz.prog 15 #[scV s tv, .agg #[.int .i64 d.kind, .string d.table, .string d.name, .string d.column, .string d.parent, .bool d.uq, .int .i64 d.ty, .int .i64 d.df.k, .int .i64 d.df.n, .string d.df.s, .slice da d.cols.length dc], .int .i64 st] w fun e w' => e = .returned (.tuple #[.agg #[.int .i64 0, .int .i64 0, .slice none 0 0], .int .i64 er]) ∧ Below w.heap.size w w' := by
  have h := turn_any (st := st) (da := da) (dc := dc) hL hI hd hz
  rw [he] at h
  refine h.mono ?_
  rintro e w' ⟨e1, _, hb⟩
  exact ⟨e1, hb⟩
theorem i64_le {n : Int} (h0 : 0 ≤ n) (h1 : n ≤ 100) : I64 n := by unfold I64; omega
theorem aw1_ids : ∀ t ∈ awS1.tabs, ∀ i ∈ idsT t, I64 i := by
  intro t ht i hi
  simp only [awS1, List.mem_singleton] at ht
  subst ht
  simp [idsT] at hi
  rcases hi with rfl | rfl | rfl <;> exact i64_le (by decide) (by decide)
theorem aw2_ids : ∀ t ∈ awS2.tabs, ∀ i ∈ idsT t, I64 i := by
  intro t ht i hi
  simp only [awS2, List.mem_singleton] at ht
  subst ht
  simp [idsT] at hi
  rcases hi with rfl | rfl | rfl | rfl <;> exact i64_le (by decide) (by decide)
set_option maxHeartbeats 4000000 in
set_option maxRecDepth 100000 in
theorem awake_any (w : World) : Calls Tryz.prog 7 #[] w fun e w' => e = .returned (.bool true) ∧ Below w.heap.size w w' := by
  have hex := example_any w
  go_enter Tryz.func7, Tryz.ntmps7
  go_wp2_with (go_at_call 21; refine hex.mono ?_; rintro e w1 ⟨F, rfl, hF, b1⟩; refine Hid.out ?_)
  refine Lib.hid ?_
  have ht : Calls Tryz.prog 15 #[.agg #[.int .i64 0, .int .i64 0, .slice none 0 0], .agg #[.int .i64 1, .string ⟨#[116]⟩, .string ⟨#[]⟩, .string ⟨#[]⟩, .string ⟨#[]⟩, .bool false, .int .i64 0, .int .i64 0, .int .i64 0, .string ⟨#[]⟩, .slice (some ⟨F, 0, none⟩) 2 2], .int .i64 3] w1 fun e w' => ∃ G ad cap, e = .returned (.tuple #[.agg #[.int .i64 1, .int .i64 3, .slice ad 1 cap], .int .i64 0]) ∧ G.map Prod.fst = awS1.tabs ∧ Dr w' w1.heap.size G (.slice ad 1 cap) ∧ Below w1.heap.size w1 w' := turn_ok (s := awS0) (s' := awS1) (d := exD) (tb_nil w1) (by intro t h; cases h) hF (by decide) aw1
  have B1 := Lib.hid b1
  clear hex hF b1
  go_wp2_with (go_at_call 15; refine ht.mono ?_; rintro e w2 ⟨G, ad, cap, rfl, hG, hD, b2⟩; refine Hid.out ?_)
  refine Lib.hid ?_
  obtain ⟨R1, hR1⟩ : ∃ R, w2.heap.size = R := ⟨_, rfl⟩
  obtain ⟨u2, hu2⟩ : ∃ u, u = w2.alloc (.cells #[.int .i64 1, .int .i64 3, .slice ad 1 cap] 24) := ⟨_, rfl⟩
  have j2 : u2.heap[R1]? = some (.cells #[.int .i64 1, .int .i64 3, .slice ad 1 cap] 24 (0, 0)) := by rw [hu2, ← hR1]; exact heap_alloc_new w2 _
  have b3 : Below w2.heap.size w2 u2 := by rw [hu2]; exact bnew _ _
  have HU2 := Lib.hid hu2
  have hB2 : Below w.heap.size w u2 := bgo (bgo B1.out b2) b3
  have hL2 : Lr tbE 5 u2 awS1.tabs (.slice ad 1 cap) := by
    have q := (hD.below b3).reads
    rw [hG] at q
    exact q
  have B2 := Lib.hid hB2
  have HR1 := Lib.hid hR1
  have ht2 : Calls Tryz.prog 15 #[.agg #[.int .i64 1, .int .i64 3, .slice ad 1 cap], .agg #[.int .i64 2, .string ⟨#[116]⟩, .string ⟨#[105]⟩, .string ⟨#[98]⟩, .string ⟨#[]⟩, .bool false, .int .i64 0, .int .i64 0, .int .i64 0, .string ⟨#[]⟩, .slice none 0 0], .int .i64 1] u2 fun e w' => ∃ G ad cap, e = .returned (.tuple #[.agg #[.int .i64 2, .int .i64 4, .slice ad 1 cap], .int .i64 0]) ∧ G.map Prod.fst = awS2.tabs ∧ Dr w' u2.heap.size G (.slice ad 1 cap) ∧ Below u2.heap.size u2 w' := turn_ok (s := awS1) (s' := awS2) (d := awD2) hL2 aw1_ids (col_nil u2) (by decide) aw2
  have e0 : u2.cell? ⟨R1, 0, none⟩ = some (.int .i64 1) := cell_blk j2 0
  have e1 : u2.cell? ⟨R1, 1, none⟩ = some (.int .i64 3) := cell_blk j2 1
  have e2 : u2.cell? ⟨R1, 2, none⟩ = some (.slice ad 1 cap) := cell_blk j2 2
  have J2 := Lib.hid j2
  clear ht hD hG b2 b3 hB2 hL2 j2 hR1 hu2
  go_upto_region 2 with fail
  rw [← HU2.out, HR1.out]
  go_wp2_with ((go_at_call 15; refine ht2.mono ?_; rintro e w3 ⟨G, ad2, cap2, rfl, hG, hD, b2⟩; refine Hid.out ?_))
  refine Lib.hid ?_
  obtain ⟨R2, hR2⟩ : ∃ R, w3.heap.size = R := ⟨_, rfl⟩
  obtain ⟨u3, hu3⟩ : ∃ u, u = w3.alloc (.cells #[.int .i64 2, .int .i64 4, .slice ad2 1 cap2] 24) := ⟨_, rfl⟩
  have j3 : u3.heap[R2]? = some (.cells #[.int .i64 2, .int .i64 4, .slice ad2 1 cap2] 24 (0, 0)) := by rw [hu3, ← hR2]; exact heap_alloc_new w3 _
  have b3 : Below w3.heap.size w3 u3 := by rw [hu3]; exact bnew _ _
  have HU3 := Lib.hid hu3
  have hB3 : Below w.heap.size w u3 := bgo (bgo B2.out b2) b3
  have hDu := hD.below b3
  have hL3 : Lr tbE 5 u3 awS2.tabs (.slice ad2 1 cap2) := by
    have q := hDu.reads
    rw [hG] at q
    exact q
  have HL3 := Lib.hid hL3
  have J2' : Hid (u3.heap[R1]? = some (.cells #[.int .i64 1, .int .i64 3, .slice ad 1 cap] 24 (0, 0))) := Lib.hid (((bgo b2 b3).block R1 (blk_lt J2.out)).trans J2.out)
  have B3 := Lib.hid hB3
  have HR2 := Lib.hid hR2
  have ht3 : Calls Tryz.prog 15 #[.agg #[.int .i64 2, .int .i64 4, .slice ad2 1 cap2], .agg #[.int .i64 5, .string ⟨#[116]⟩, .string ⟨#[]⟩, .string ⟨#[98]⟩, .string ⟨#[]⟩, .bool false, .int .i64 0, .int .i64 0, .int .i64 0, .string ⟨#[]⟩, .slice none 0 0], .int .i64 2] u3 fun e w' => e = .returned (.tuple #[.agg #[.int .i64 0, .int .i64 0, .slice none 0 0], .int .i64 155]) ∧ Below u3.heap.size u3 w' := turn_err (s := awS2) (d := awD3) hL3 aw2_ids (col_nil u3) (by decide) aw3
  clear e0 e1 e2
  have e0 : u3.cell? ⟨R2, 0, none⟩ = some (.int .i64 2) := cell_blk j3 0
  have e1 : u3.cell? ⟨R2, 1, none⟩ = some (.int .i64 4) := cell_blk j3 1
  have e2 : u3.cell? ⟨R2, 2, none⟩ = some (.slice ad2 1 cap2) := cell_blk j3 2
  have J3 := Lib.hid j3
  clear ht2 hD hG b2 b3 hB3 hL3 j3 hR2 hDu hu3
  go_upto_region 3 with fail
  rw [← HU3.out, HR2.out]
  go_wp2_with ((go_at_call 15; refine ht3.mono ?_; rintro e w4 ⟨rfl, b2⟩; refine Hid.out ?_))
  refine Lib.hid ?_
  obtain ⟨R3, hR3⟩ : ∃ R, w4.heap.size = R := ⟨_, rfl⟩
  obtain ⟨u4, hu4⟩ : ∃ u, u = w4.alloc (.cells #[.int .i64 0, .int .i64 0, .slice none 0 0] 24) := ⟨_, rfl⟩
  have j4 : u4.heap[R3]? = some (.cells #[.int .i64 0, .int .i64 0, .slice none 0 0] 24 (0, 0)) := by rw [hu4, ← hR3]; exact heap_alloc_new w4 _
  have b3 : Below w4.heap.size w4 u4 := by rw [hu4]; exact bnew _ _
  have HU4 := Lib.hid hu4
  have b23 := bgo b2 b3
  have HB : Hid (Below w.heap.size w u4) := Lib.hid (bgo B3.out b23)
  have k1 := (b23.block R1 (blk_lt J2'.out)).trans J2'.out
  have k2 := (b23.block R2 (blk_lt J3.out)).trans J3.out
  have c10 : u4.cell? ⟨R1, 0, none⟩ = some (.int .i64 1) := cell_blk k1 0
  have c11 : u4.cell? ⟨R1, 1, none⟩ = some (.int .i64 3) := cell_blk k1 1
  have c21 : u4.cell? ⟨R2, 1, none⟩ = some (.int .i64 4) := cell_blk k2 1
  have c22 : u4.cell? ⟨R2, 2, none⟩ = some (.slice ad2 1 cap2) := cell_blk k2 2
  obtain ⟨tad, tcap, e, _, _, _, hX⟩ := HL3.out.on tbE_held b23
  cases e
  obtain ⟨b, p, cs, rfl, _, ⟨cv, iv, kv, rfl, hT⟩, _, hcell⟩ := hX 0 (by decide)
  obtain ⟨iad, icap, rfl, _⟩ := hT.i
  have c33 : u4.cell? ⟨b, p + 3, none⟩ = some (.slice iad 1 icap) := hcell 3 _ rfl
  have HR3 := Lib.hid hR3
  clear ht3 b2 b3 b23 k1 k2 hX hcell hT j4 hR3 hu4 e0 e1 e2
  go_upto_region 4 with fail
  rw [← HU4.out]
  go_wp2
  go_ret
  exact ⟨rfl, HB.out⟩
end
end Go.Proofs.YtongmhfpoopebaaGreat

/- The law SchemaChecks. -/
namespace Go.Proofs.YtongmhfpoopebaaGreat
open Go.RowKit Go.Maps
section
variable {ρ : Operand → Value} {X : World} {d : Option Tmp} {ty : TypeId} {ps : String} {af : Array Edge} {g : Option (Nat × Bool)}
theorem op_slice22lh {x y z : Operand} {v1 v2 v3 v' : Value} (hx : ρ x = v1) (hy : ρ y = v2) (hz : ρ z = v3) (hrun : ∀ X : World, (Instr.sliceAt 22 v1 (some v2) (some v3) none).run Tryz.prog X = .ok v' X) : (execOp ρ ⟨d, .slice 22 x (some y) (some z) none, ty, ps, af, g⟩).run Tryz.prog X = .ok (.value v') X := by
  simp only [execOp, Option.map_some, Option.map_none, hx, hy, hz, Sem.run_bind, hrun, Result.andThen_ok, Sem.run_pure]
theorem op_b24one {x : Operand} {a : Option Addr} {n m : Nat} (e : ρ x = .slice a n m) : (execOp ρ ⟨d, .build 24 #[(2, x)], ty, ps, af, g⟩).run Tryz.prog X = .ok (.value (.agg #[.int .i64 0, .int .i64 0, .slice a n m])) X := by
  simp only [execOp]
  simp [e]
  go_simp
theorem op_neq4 {x y : Operand} {a b c : Bool} (e : ρ x = .bool a) (e2 : ρ y = .bool b) (h : (!decide (a = b)) = c) : (execOp ρ ⟨d, .binOp .neq 4 x y 4, ty, ps, af, g⟩).run Tryz.prog X = .ok (.value (.bool c)) X := by
  subst h
  simp only [execOp, e, e2]
  cases a <;> cases b <;> go_simp
theorem op_add3k {x y : Operand} {n m r : Int} (e : ρ x = .int .i64 n) (e2 : ρ y = .int .i64 m) (h : n + m = r) (h1 : -9223372036854775808 ≤ r) (h2 : r ≤ 9223372036854775807) : (execOp ρ ⟨d, .binOp .add 3 x y 3, ty, ps, af, g⟩).run Tryz.prog X = .ok (.value (.int .i64 r)) X := by
  subst h
  simp only [execOp, e, e2]
  go_simp
  rw [IntKind.wrap_i64]
  omega
end
section
variable {w : World}
def oneS (t : Tb) : Sc := ⟨0, 0, [t]⟩
theorem one_in {s : Sc} {t : Tb} (h : ScIn s) (ht : t ∈ s.tabs) : ScIn (oneS t) := ⟨by unfold I64 oneS; simp, by unfold I64 oneS; simp, fun x hx => by
  have : x = t := by simpa [oneS] using hx
  subst this
  exact h.t x ht⟩
theorem one_len {s : Sc} {t : Tb} (ht : t ∈ s.tabs) (hz : scB s ≤ 1048576) : (schL (oneS t)).length ≤ 1000000000 := by
  have h1 := schL_len (oneS t)
  have h2 : scB (oneS t) = 1 + tbB t := by simp [scB, oneS]
  have h3 := tab_B ht
  omega
/-- One of a list's tables, as a list of its own. -/
theorem lr_one {X : World} {L : List Tb} {b p n m i : Nat} {t : Tb} (h : Lr tbE 5 X L (.slice (some ⟨b, p, none⟩) n m)) (hi : i < L.length) (ht : L[i] = t) : Lr tbE 5 X [t] (.slice (some ⟨b, p + i * 5, none⟩) 1 (m - i)) := by
  obtain ⟨a1, c1, e, h0, h1, h2, h3⟩ := h
  cases e
  obtain ⟨b', o', cs, q1, q2, q3, q4, q5⟩ := h3 i hi
  cases q1
  rw [ht] at q3
  refine ⟨_, _, rfl, by simp, by simp only [List.length_cons, List.length_nil]; omega, by omega, fun j hj => ?_⟩
  obtain rfl : j = 0 := by simp at hj; omega
  exact ⟨b, p + i * 5, cs, rfl, q2, q3, q4, fun j u hu => by
    have := q5 j u hu
    rwa [Nat.zero_mul, Nat.add_zero]⟩
/-- A table laid as a list of one. -/
theorem lr_laid {X : World} {t : Tb} {cv iv kv : Value} (h : Three X t cv iv kv) : Lr tbE 5 (X.alloc (.cells (tbA t cv iv kv) 35)) [t] (.slice (some ⟨X.heap.size, 0, none⟩) 1 1) := by
  have hj := heap_alloc_new X (.cells (tbA t cv iv kv) 35)
  refine ⟨_, _, rfl, by simp, by simp, by unfold maxLen; decide, fun j hj9 => ?_⟩
  obtain rfl : j = 0 := by simp at hj9; omega
  refine ⟨X.heap.size, 0, tbL t cv iv kv, rfl, by simp, ⟨cv, iv, kv, rfl, h.on (bnew _ _)⟩, rfl, fun j u hu => ?_⟩
  rw [Nat.zero_mul, Nat.zero_add, cell_blk hj]
  simpa using hu
set_option maxHeartbeats 16000000 in
set_option maxRecDepth 100000 in
theorem checks_law {s : Sc} {tv : Value} {z : ByteArray} (hL : Lr tbE 5 w s.tabs tv) (hI : ScIn s) (hz : scB s ≤ 1048576) : Calls Tryz.prog 3 #[scV s tv, .string z] w fun e w' => e = .returned (.bool true) ∧ Below w.heap.size w w' := by
  obtain ⟨ta, tc, rfl, hr0⟩ := hL
  have hL : Lr tbE 5 w s.tabs (.slice ta s.tabs.length tc) := ⟨ta, tc, rfl, hr0⟩
  obtain ⟨W, hW⟩ : ∃ W, W = w.alloc (.cells #[.int .i64 s.ver, .int .i64 s.last, .slice ta s.tabs.length tc] 24) := ⟨_, rfl⟩
  have hbW : Below w.heap.size w W := by rw [hW]; exact bnew _ _
  obtain ⟨Y0, hY0⟩ : ∃ Y0, w.heap.size = Y0 := ⟨_, rfl⟩
  have j0 : W.heap[Y0]? = some (.cells (scA s (.slice ta s.tabs.length tc)) 24 (0, 0)) := by
    rw [hW, ← hY0]
    exact heap_alloc_new w _
  have haw := awake_any W
  have hmx : (s.tabs.length : Int) ≤ 9223372036854775807 := by have := hr0.2.1; have h2 := hr0.2.2.1; unfold maxLen at h2; omega
  have HCAP : Hid (s.tabs.length ≤ tc ∧ tc ≤ maxLen) := Lib.hid ⟨hr0.2.1, hr0.2.2.1⟩
  have HGR : Hid (∀ X, Below w.heap.size w X → Calls Tryz.prog 8 #[.agg #[.int .i64 s.ver, .int .i64 s.last, .slice ta s.tabs.length tc], .agg #[.int .i64 0, .string ⟨#[]⟩, .string ⟨#[]⟩, .string ⟨#[]⟩, .string ⟨#[]⟩, .bool false, .int .i64 0, .int .i64 0, .int .i64 0, .string ⟨#[]⟩, .slice none 0 0]] X (GrAns X (s.tabs.length + 0 + cntN s.tabs ≤ 300))) := Lib.hid fun X hX => by
    refine great_any (d := ⟨0, ⟨#[]⟩, ⟨#[]⟩, ⟨#[]⟩, ⟨#[]⟩, false, 0, ⟨0, 0, ⟨#[]⟩⟩, []⟩) (hL.on tbE_held hX) (by have := tabs_B s; omega) (by simp) (fun t ht => ?_)
    have := cntT_B t
    have := tab_B ht
    omega
  obtain ⟨rk, hrk⟩ : ∃ rk : Int, (if rightS s = true then (0 : Int) else 100) = rk := ⟨_, rfl⟩
  have HCK : Hid (∀ X, Below w.heap.size w X → Calls Tryz.prog 13 #[.agg #[.int .i64 s.ver, .int .i64 s.last, .slice ta s.tabs.length tc]] X fun e w' => e = .returned (.int .i64 rk) ∧ Below X.heap.size X w') := Lib.hid fun X hX => hrk ▸ checkS_any (hL.on tbE_held hX) (fun t ht i hi => by
    have h := hI.t t ht
    unfold idsT at hi
    rw [List.mem_cons, List.mem_append, List.mem_append] at hi
    rcases hi with rfl | (hi | hi) | hi
    · exact h.id
    · obtain ⟨x, hx, rfl⟩ := List.mem_map.1 hi
      exact (h.c x hx).id
    · obtain ⟨x, hx, rfl⟩ := List.mem_map.1 hi
      exact (h.i x hx).id
    · obtain ⟨x, hx, rfl⟩ := List.mem_map.1 hi
      exact (h.k x hx).id)
  obtain ⟨rs, hrs⟩ : ∃ rs, rightS s = rs := ⟨_, rfl⟩
  have HRR : Hid (∀ X, Below w.heap.size w X → Calls Tryz.prog 12 #[.agg #[.int .i64 s.ver, .int .i64 s.last, .slice ta s.tabs.length tc]] X fun e w' => e = .returned (.bool rs) ∧ Below X.heap.size X w') := Lib.hid fun X hX => hrs ▸ right_ref (hL.on tbE_held hX)
  have hrk2 : (bif rs then (0 : Int) else 100) = rk := by rw [← hrk, ← hrs]; cases rightS s <;> rfl
  have HRK := Lib.hid hrk2
  obtain ⟨fi, hfi⟩ : ∃ fi, fidx (fun x => decide (x.nm = z)) s.tabs = fi := ⟨_, rfl⟩
  have HTA : Hid (∀ X, Below w.heap.size w X → Calls Tryz.prog 10 #[.agg #[.int .i64 s.ver, .int .i64 s.last, .slice ta s.tabs.length tc], .string z] X fun e w' => e = .returned (.int .i64 fi) ∧ Below X.heap.size X w') := Lib.hid fun X hX => hfi ▸ tabAt_any (hL.on tbE_held hX) z
  have HL0 := Lib.hid hL
  have HI := Lib.hid hI
  have HZ := Lib.hid hz
  have HFI := Lib.hid hfi
  have HW := Lib.hid hW
  have HBW := Lib.hid hbW
  have HY0 := Lib.hid hY0
  have JY0 := Lib.hid j0
  clear hW hbW hY0 j0 hrk hrk2 hrs hL hr0 hI hz hfi
  unfold scV
  go_enter Tryz.func3, Tryz.ntmps3
  go_upto_region 1 with fail
  rw [← HW.out, HY0.out]
  go_wp2_with (go_at_call 7; refine haw.mono ?_; rintro e w1 ⟨rfl, b1⟩; refine Hid.out ?_)
  refine Lib.hid ?_
  have HB1 := Lib.hid (bgo HBW.out b1)
  have JX0 : Hid (w1.heap[Y0]? = some (.cells (scA s (.slice ta s.tabs.length tc)) 24 (0, 0))) := Lib.hid ((b1.block Y0 (blk_lt JY0.out)).trans JY0.out)
  clear JY0
  have JY0 := JX0
  clear JX0
  have c0 : w1.cell? ⟨Y0, 0, none⟩ = some (.int .i64 s.ver) := cell_blk JY0.out 0
  have c1 : w1.cell? ⟨Y0, 1, none⟩ = some (.int .i64 s.last) := cell_blk JY0.out 1
  have c2 : w1.cell? ⟨Y0, 2, none⟩ = some (.slice ta s.tabs.length tc) := cell_blk JY0.out 2
  have hgr := HGR.out w1 HB1.out
  clear haw b1 HGR
  go_wp2_with (go_at_call 8; refine hgr.mono ?_; rintro e w2 ⟨g, rfl, hP, b2⟩; refine Hid.out ?_)
  refine Lib.hid ?_
  have HB2 := Lib.hid (bgo HB1.out b2)
  have HP := Lib.hid hP
  have JX0 : Hid (w2.heap[Y0]? = some (.cells (scA s (.slice ta s.tabs.length tc)) 24 (0, 0))) := Lib.hid ((b2.block Y0 (blk_lt JY0.out)).trans JY0.out)
  clear c0 c1 c2 JY0
  have JY0 := JX0
  clear JX0
  clear hgr hP b2
  cases g with
  | true =>
    have haw := awake_any w2
    go_wp2_with (go_at_call 7; refine haw.mono ?_; rintro e w9 ⟨rfl, b9⟩; refine Hid.out ?_)
    refine Lib.hid ?_
    have HB9 := Lib.hid (bgo HB2.out b9)
    clear haw b9
    go_wp2
    go_ret
    exact ⟨rfl, HB9.out⟩
  | false =>
    have c0 : w2.cell? ⟨Y0, 0, none⟩ = some (.int .i64 s.ver) := cell_blk JY0.out 0
    have c1 : w2.cell? ⟨Y0, 1, none⟩ = some (.int .i64 s.last) := cell_blk JY0.out 1
    have c2 : w2.cell? ⟨Y0, 2, none⟩ = some (.slice ta s.tabs.length tc) := cell_blk JY0.out 2
    rcases fidx_cases (fun x => decide (x.nm = z)) s.tabs with ⟨q, hq9⟩ | ⟨i, hi, q, hq8, hq9⟩
    · have hfi : fi = -1 := HFI.out.symm.trans q
      subst hfi
      have htn := table_no (HL0.out.on tbE_held HB2.out) q
      unfold scV at htn
      clear HP hq9 q
      go_wp2_with (go_at_call 9; refine htn.mono ?_; rintro e w3 ⟨rfl, b3⟩; refine Hid.out ?_)
      refine Lib.hid ?_
      have HB3 := Lib.hid (bgo HB2.out b3)
      have JX0 : Hid (w3.heap[Y0]? = some (.cells (scA s (.slice ta s.tabs.length tc)) 24 (0, 0))) := Lib.hid ((b3.block Y0 (blk_lt JY0.out)).trans JY0.out)
      clear c0 c1 c2 JY0
      have JY0 := JX0
      clear JX0
      obtain ⟨V, hV⟩ : ∃ V, V = w3.alloc (.cells zTA 35) := ⟨_, rfl⟩
      obtain ⟨D, hD⟩ : ∃ D, w3.heap.size = D := ⟨_, rfl⟩
      have bV : Below w3.heap.size w3 V := by rw [hV]; exact bnew _ _
      have HV := Lib.hid hV
      have HD := Lib.hid hD
      have HB4 := Lib.hid (bgo HB3.out bV)
      have JX0 : Hid (V.heap[Y0]? = some (.cells (scA s (.slice ta s.tabs.length tc)) 24 (0, 0))) := Lib.hid ((bV.block Y0 (blk_lt JY0.out)).trans JY0.out)
      clear JY0
      have JY0 := JX0
      clear JX0
      clear htn b3 hV hD bV
      go_upto_region 4 with fail
      rw [← HV.out, HD.out]
      have c0 : V.cell? ⟨Y0, 0, none⟩ = some (.int .i64 s.ver) := cell_blk JY0.out 0
      have c1 : V.cell? ⟨Y0, 1, none⟩ = some (.int .i64 s.last) := cell_blk JY0.out 1
      have c2 : V.cell? ⟨Y0, 2, none⟩ = some (.slice ta s.tabs.length tc) := cell_blk JY0.out 2
      have hta := HTA.out V HB4.out
      go_wp2_with (go_at_call 10; refine hta.mono ?_; rintro e w5 ⟨rfl, b5⟩; refine Hid.out ?_)
      refine Lib.hid ?_
      have HB5 := Lib.hid (bgo HB4.out b5)
      have JX0 : Hid (w5.heap[Y0]? = some (.cells (scA s (.slice ta s.tabs.length tc)) 24 (0, 0))) := Lib.hid ((b5.block Y0 (blk_lt JY0.out)).trans JY0.out)
      clear c0 c1 c2 JY0
      have JY0 := JX0
      clear JX0
      have c0 : w5.cell? ⟨Y0, 0, none⟩ = some (.int .i64 s.ver) := cell_blk JY0.out 0
      have c1 : w5.cell? ⟨Y0, 1, none⟩ = some (.int .i64 s.last) := cell_blk JY0.out 1
      have c2 : w5.cell? ⟨Y0, 2, none⟩ = some (.slice ta s.tabs.length tc) := cell_blk JY0.out 2
      clear hta b5
      go_upto_region 5 with fail
      refine wp_region_fb (fun _ X9 => Below w5.heap.size w5 X9) (fun X9 X' => Below X9.heap.size X9 X') [
        fun v9 _ => v9 = .bool false,
        fun v9 _ => v9 = .int .i64 (-1),
        fun v9 _ => v9 = .bool false,
        fun v9 _ => v9 = .bool false,
        fun v9 _ => v9 = .bool false,
        fun v9 _ => v9 = .bool false,
        fun v9 _ => v9 = .bool false,
        fun v9 _ => v9 = undef,
        fun v9 _ => v9 = undef,
        fun v9 _ => v9 = undef,
        fun v9 _ => v9 = undef,
        fun v9 _ => v9 = undef,
        fun v9 _ => v9 = undef,
        fun v9 _ => v9 = undef,
        fun v9 _ => v9 = undef,
        fun v9 _ => v9 = undef,
        fun v9 _ => v9 = undef,
        fun v9 _ => v9 = undef,
        fun v9 _ => v9 = undef,
        fun v9 _ => v9 = .bool false,
        fun v9 _ => v9 = .bool false]
        (by kernel_rfl) (by kernel_rfl) (by kernel_rfl) ?st ?g0 ?os ?en
      case st => exact ⟨fun _ _ _ _ h => h, fun _ _ _ _ h => h, fun _ _ _ _ h => h, fun _ _ _ _ h => h, fun _ _ _ _ h => h, fun _ _ _ _ h => h, fun _ _ _ _ h => h, fun _ _ _ _ h => h, fun _ _ _ _ h => h, fun _ _ _ _ h => h, fun _ _ _ _ h => h, fun _ _ _ _ h => h, fun _ _ _ _ h => h, fun _ _ _ _ h => h, fun _ _ _ _ h => h, fun _ _ _ _ h => h, fun _ _ _ _ h => h, fun _ _ _ _ h => h, fun _ _ _ _ h => h, fun _ _ _ _ h => h, fun _ _ _ _ h => h, trivial⟩
      case g0 => exact ⟨rfl, rfl, rfl, Nat.le_refl _, fun _ _ => rfl⟩
      case os =>
        refine ⟨?_, ?_, ?_, ?_, ?_, ?_, ?_, ?_, ?_, ?_, ?_, ?_, ?_, ?_, ?_, ?_, ?_, ?_, ?_, ?_, ?_, trivial⟩
        · exact fun ρ X9 fl hg hn hl hp ho hc hf hr => .inl ⟨rfl, Runs.val _ (op_move (show ρ (.tmp 6) = .bool false from ho 6 rfl)) ⟨hg, Below.refl _ _, rfl⟩⟩
        · exact fun ρ X9 fl hg hn hl hp ho hc hf hr => .inl ⟨rfl, Runs.val _ (op_move (show ρ (.tmp 7) = .int .i64 (-1) from ho 7 rfl)) ⟨hg, Below.refl _ _, rfl⟩⟩
        · exact fun ρ X9 fl hg hn hl hp ho hc hf hr => .inl ⟨rfl, Runs.val _ (op_geq3 (show ρ (.tmp 27) = .int .i64 (-1) from hr 1 27 rfl rfl) (hc _) (b := false) (by simp)) ⟨hg, Below.refl _ _, rfl⟩⟩
        · exact fun ρ X9 fl hg hn hl hp ho hc hf hr => .inl ⟨rfl, Runs.val _ (op_neq4 (show ρ (.tmp 26) = .bool false from hr 0 26 rfl rfl) (show ρ (.tmp 28) = .bool false from hr 2 28 rfl rfl) (c := false) (by simp)) ⟨hg, Below.refl _ _, rfl⟩⟩
        · exact fun ρ X9 fl hg hn hl hp ho hc hf hr => .inl ⟨rfl, Runs.val _ (op_move (show ρ (.tmp 29) = .bool false from hr 3 29 rfl rfl)) ⟨hg, Below.refl _ _, rfl⟩⟩
        · exact fun ρ X9 fl hg hn hl hp ho hc hf hr => .inr (.inl ⟨4, 30, false, fun _ => rfl, rfl, hr 4 30 rfl rfl, Runs.val _ (op_move (show ρ (.tmp 6) = .bool false from ho 6 rfl)) ⟨hg, Below.refl _ _, rfl⟩⟩)
        · exact fun ρ X9 fl hg hn hl hp ho hc hf hr => .inr (.inl ⟨4, 30, false, fun _ => rfl, rfl, hr 4 30 rfl rfl, Runs.val _ (op_move (show ρ (.tmp 31) = .bool false from hr 5 31 rfl rfl)) ⟨hg, Below.refl _ _, rfl⟩⟩)
        · exact fun ρ X9 fl hg hn hl hp ho hc hf hr => .inr (.inr ⟨6, 32, true, fun _ => rfl, rfl, (by rw [show ρ (.tmp 32) = .bool false from hr 6 32 rfl rfl]; simp), hg, Below.refl _ _, rfl⟩)
        · exact fun ρ X9 fl hg hn hl hp ho hc hf hr => .inr (.inr ⟨6, 32, true, fun _ => rfl, rfl, (by rw [show ρ (.tmp 32) = .bool false from hr 6 32 rfl rfl]; simp), hg, Below.refl _ _, rfl⟩)
        · exact fun ρ X9 fl hg hn hl hp ho hc hf hr => .inr (.inr ⟨6, 32, true, fun _ => rfl, rfl, (by rw [show ρ (.tmp 32) = .bool false from hr 6 32 rfl rfl]; simp), hg, Below.refl _ _, rfl⟩)
        · exact fun ρ X9 fl hg hn hl hp ho hc hf hr => .inr (.inr ⟨6, 32, true, fun _ => rfl, rfl, (by rw [show ρ (.tmp 32) = .bool false from hr 6 32 rfl rfl]; simp), hg, Below.refl _ _, rfl⟩)
        · exact fun ρ X9 fl hg hn hl hp ho hc hf hr => .inr (.inr ⟨6, 32, true, fun _ => rfl, rfl, (by rw [show ρ (.tmp 32) = .bool false from hr 6 32 rfl rfl]; simp), hg, Below.refl _ _, rfl⟩)
        · exact fun ρ X9 fl hg hn hl hp ho hc hf hr => .inr (.inr ⟨6, 32, true, fun _ => rfl, rfl, (by rw [show ρ (.tmp 32) = .bool false from hr 6 32 rfl rfl]; simp), hg, Below.refl _ _, rfl⟩)
        · exact fun ρ X9 fl hg hn hl hp ho hc hf hr => .inr (.inr ⟨6, 32, true, fun _ => rfl, rfl, (by rw [show ρ (.tmp 32) = .bool false from hr 6 32 rfl rfl]; simp), hg, Below.refl _ _, rfl⟩)
        · exact fun ρ X9 fl hg hn hl hp ho hc hf hr => .inr (.inr ⟨6, 32, true, fun _ => rfl, rfl, (by rw [show ρ (.tmp 32) = .bool false from hr 6 32 rfl rfl]; simp), hg, Below.refl _ _, rfl⟩)
        · exact fun ρ X9 fl hg hn hl hp ho hc hf hr => .inr (.inr ⟨6, 32, true, fun _ => rfl, rfl, (by rw [show ρ (.tmp 32) = .bool false from hr 6 32 rfl rfl]; simp), hg, Below.refl _ _, rfl⟩)
        · exact fun ρ X9 fl hg hn hl hp ho hc hf hr => .inr (.inr ⟨6, 32, true, fun _ => rfl, rfl, (by rw [show ρ (.tmp 32) = .bool false from hr 6 32 rfl rfl]; simp), hg, Below.refl _ _, rfl⟩)
        · exact fun ρ X9 fl hg hn hl hp ho hc hf hr => .inr (.inr ⟨6, 32, true, fun _ => rfl, rfl, (by rw [show ρ (.tmp 32) = .bool false from hr 6 32 rfl rfl]; simp), hg, Below.refl _ _, rfl⟩)
        · exact fun ρ X9 fl hg hn hl hp ho hc hf hr => .inr (.inr ⟨6, 32, true, fun _ => rfl, rfl, (by rw [show ρ (.tmp 32) = .bool false from hr 6 32 rfl rfl]; simp), hg, Below.refl _ _, rfl⟩)
        · exact fun ρ X9 fl hg hn hl hp ho hc hf hr => .inr (.inl ⟨4, 30, false, fun _ => rfl, rfl, hr 4 30 rfl rfl, Runs.val _ (op_pick (show ρ (.tmp 32) = .bool false from hr 6 32 rfl rfl) (hc _)) ⟨hg, Below.refl _ _, rfl⟩⟩)
        · exact fun ρ X9 fl hg hn hl hp ho hc hf hr => .inl ⟨rfl, Runs.val _ (op_pick (show ρ (.tmp 30) = .bool false from hr 4 30 rfl rfl) (show ρ (.tmp 45) = .bool false from hr 19 45 rfl rfl)) ⟨hg, Below.refl _ _, rfl⟩⟩
      case en =>
        intro a9 w6 fl hfl b6 hs9 hd9 ho9 hr9
        obtain ⟨x9, hx, hxt⟩ := act_put hs9 hd9 ho9
        have x46 : x9 46 = .bool false := (hxt 46).symm.trans (hr9 20 46 rfl)
        change a9 = putAll _ x9 [26, 27, 28, 29, 30, 31, 32, 33, 34, 35, 36, 37, 38, 39, 40, 41, 42, 43, 44, 45, 46] at hx
        simp only [putAll, Act.put, List.setIfInBounds_toArray, List.set_cons_zero, List.set_cons_succ, x46] at hx
        have HB6 := Lib.hid (bgo HB5.out b6)
        have JX0 : Hid (w6.heap[Y0]? = some (.cells (scA s (.slice ta s.tabs.length tc)) 24 (0, 0))) := Lib.hid ((b6.block Y0 (blk_lt JY0.out)).trans JY0.out)
        clear c0 c1 c2 JY0
        have JY0 := JX0
        clear JX0
        clear hs9 hd9 ho9 hr9 hxt x46 hfl b6
        subst hx
        generalize x9 26 = z26, x9 27 = z27, x9 28 = z28, x9 29 = z29, x9 30 = z30, x9 31 = z31, x9 32 = z32, x9 33 = z33, x9 34 = z34, x9 35 = z35, x9 36 = z36, x9 37 = z37, x9 38 = z38, x9 39 = z39, x9 40 = z40, x9 41 = z41, x9 42 = z42, x9 43 = z43, x9 44 = z44, x9 45 = z45
        have c0 : w6.cell? ⟨Y0, 0, none⟩ = some (.int .i64 s.ver) := cell_blk JY0.out 0
        have c1 : w6.cell? ⟨Y0, 1, none⟩ = some (.int .i64 s.last) := cell_blk JY0.out 1
        have c2 : w6.cell? ⟨Y0, 2, none⟩ = some (.slice ta s.tabs.length tc) := cell_blk JY0.out 2
        have hrr := HRR.out w6 HB6.out
        clear HTA HRR
        go_wp2_with (go_at_call 12; refine hrr.mono ?_; rintro e w7 ⟨rfl, b7⟩; refine Hid.out ?_)
        refine Lib.hid ?_
        have HB7 := Lib.hid (bgo HB6.out b7)
        have JX0 : Hid (w7.heap[Y0]? = some (.cells (scA s (.slice ta s.tabs.length tc)) 24 (0, 0))) := Lib.hid ((b7.block Y0 (blk_lt JY0.out)).trans JY0.out)
        clear c0 c1 c2 JY0
        have JY0 := JX0
        clear JX0
        clear hrr b7
        have c0 : w7.cell? ⟨Y0, 0, none⟩ = some (.int .i64 s.ver) := cell_blk JY0.out 0
        have c1 : w7.cell? ⟨Y0, 1, none⟩ = some (.int .i64 s.last) := cell_blk JY0.out 1
        have c2 : w7.cell? ⟨Y0, 2, none⟩ = some (.slice ta s.tabs.length tc) := cell_blk JY0.out 2
        have hck := HCK.out w7 HB7.out
        clear HCK
        cases rs with
        | false =>
          obtain rfl : 100 = rk := HRK.out
          go_wp2_with (go_at_call 13; refine hck.mono ?_; rintro e w8 ⟨rfl, b8⟩; refine Hid.out ?_)
          refine Lib.hid ?_
          have HB8 := Lib.hid (bgo HB7.out b8)
          clear hck b8
          go_wp2
          go_ret
          exact ⟨rfl, HB8.out⟩
        | true =>
          obtain rfl : 0 = rk := HRK.out
          go_wp2_with (go_at_call 13; refine hck.mono ?_; rintro e w8 ⟨rfl, b8⟩; refine Hid.out ?_)
          refine Lib.hid ?_
          have HB8 := Lib.hid (bgo HB7.out b8)
          clear hck b8
          go_wp2
          go_ret
          exact ⟨rfl, HB8.out⟩
    · have hfi : fi = (i : Int) := HFI.out.symm.trans q
      subst hfi
      obtain ⟨t, ht⟩ : ∃ t, s.tabs[i] = t := ⟨_, rfl⟩
      have htm : t ∈ s.tabs := ht ▸ List.getElem_mem hi
      have hfew : t.few := by
        have h1 := (few_of (HP.out rfl)).2 t htm
        unfold cntT at h1
        exact ⟨by omega, by omega, by omega⟩
      have hty := table_yes (HL0.out.on tbE_held HB2.out) hi ht hfew q
      unfold scV at hty
      obtain ⟨b, p, cs0, rfl, _⟩ := HL0.out.cells2 i hi
      have hi3 : i ≤ tc := by have := HCAP.out; omega
      have HSL : Hid (∀ X : World, (Instr.sliceAt 22 (.slice (some ⟨b, p, none⟩) s.tabs.length tc) (some (.int .i64 (i : Int))) (some (.int .i64 ((i : Int) + 1))) none).run Tryz.prog X = .ok (.slice (some ⟨b, p + i * 5, none⟩) 1 (tc - i)) X) := Lib.hid fun X => by
        have z0 : (0 : Int) ≤ (i : Int) := by omega
        have z1 : (i : Int) + 1 ≤ (tc : Int) := by have := HCAP.out; omega
        have z2 : (i : Int) ≤ (i : Int) + 1 := by omega
        have z3 : ¬ tc = i := by have := HCAP.out; omega
        have z4 : ((i : Int) + 1).toNat = i + 1 := by omega
        have z5 : i + 1 - i = 1 := by omega
        have z6 : (0 : Int) ≤ (i : Int) + 1 := by omega
        go_simp
      have HSA : Hid (∀ (X : World) (F9 : Nat), Below w.heap.size w X → Lr tbE 5 X [t] (.slice (some ⟨F9, 0, none⟩) 1 1) → Calls Tryz.prog 11 #[.agg #[.int .i64 0, .int .i64 0, .slice (some ⟨F9, 0, none⟩) 1 1], .agg #[.int .i64 0, .int .i64 0, .slice (some ⟨b, p + i * 5, none⟩) 1 (tc - i)]] X fun e w' => e = .returned (.bool true) ∧ Below X.heap.size X w') := Lib.hid fun X F9 hX h9 => same_any (s := oneS t) h9 (lr_one (HL0.out.on tbE_held hX) hi ht) (one_in HI.out htm) (one_len htm HZ.out)
      clear HP hq9 hq8 q hfew
      go_wp2_with (go_at_call 9; refine hty.mono ?_; rintro e w3 ⟨cv, iv, kv, rfl, h3, b3⟩; refine Hid.out ?_)
      refine Lib.hid ?_
      obtain ⟨ca, cc, hcv, hs1⟩ := h3.c.shape
      obtain ⟨ia, ic, hiv, hs2⟩ := h3.i.shape
      obtain ⟨ka, kc, hkv, hs3⟩ := h3.k.shape
      subst hcv hiv hkv
      have HB3 := Lib.hid (bgo HB2.out b3)
      have JX0 : Hid (w3.heap[Y0]? = some (.cells (scA s (.slice (some ⟨b, p, none⟩) s.tabs.length tc)) 24 (0, 0))) := Lib.hid ((b3.block Y0 (blk_lt JY0.out)).trans JY0.out)
      clear c0 c1 c2 JY0
      have JY0 := JX0
      clear JX0
      obtain ⟨V, hV⟩ : ∃ V, V = w3.alloc (.cells (tbA t (.slice ca t.cols.length cc) (.slice ia t.ixs.length ic) (.slice ka t.fks.length kc)) 35) := ⟨_, rfl⟩
      obtain ⟨D, hD⟩ : ∃ D, w3.heap.size = D := ⟨_, rfl⟩
      have bV : Below w3.heap.size w3 V := by rw [hV]; exact bnew _ _
      have jD : V.heap[D]? = some (.cells (tbA t (.slice ca t.cols.length cc) (.slice ia t.ixs.length ic) (.slice ka t.fks.length kc)) 35 (0, 0)) := by rw [hV, ← hD]; exact heap_alloc_new w3 _
      have HV := Lib.hid hV
      have HD := Lib.hid hD
      have HB4 := Lib.hid (bgo HB3.out bV)
      have H3V := Lib.hid (h3.on bV)
      have JDV := Lib.hid jD
      have JX0 : Hid (V.heap[Y0]? = some (.cells (scA s (.slice (some ⟨b, p, none⟩) s.tabs.length tc)) 24 (0, 0))) := Lib.hid ((bV.block Y0 (blk_lt JY0.out)).trans JY0.out)
      clear JY0
      have JY0 := JX0
      clear JX0
      clear hty b3 h3 hs1 hs2 hs3 hV hD bV jD ht
      go_upto_region 4 with fail
      rw [← HV.out, HD.out]
      have c0 : V.cell? ⟨Y0, 0, none⟩ = some (.int .i64 s.ver) := cell_blk JY0.out 0
      have c1 : V.cell? ⟨Y0, 1, none⟩ = some (.int .i64 s.last) := cell_blk JY0.out 1
      have c2 : V.cell? ⟨Y0, 2, none⟩ = some (.slice (some ⟨b, p, none⟩) s.tabs.length tc) := cell_blk JY0.out 2
      have hta := HTA.out V HB4.out
      go_wp2_with (go_at_call 10; refine hta.mono ?_; rintro e w5 ⟨rfl, b5⟩; refine Hid.out ?_)
      refine Lib.hid ?_
      have HB5 := Lib.hid (bgo HB4.out b5)
      have H3 := Lib.hid (H3V.out.on b5)
      have JD : Hid (w5.heap[D]? = some (.cells (tbA t (.slice ca t.cols.length cc) (.slice ia t.ixs.length ic) (.slice ka t.fks.length kc)) 35 (0, 0))) := Lib.hid ((b5.block D (blk_lt JDV.out)).trans JDV.out)
      clear H3V JDV
      have JX0 : Hid (w5.heap[Y0]? = some (.cells (scA s (.slice (some ⟨b, p, none⟩) s.tabs.length tc)) 24 (0, 0))) := Lib.hid ((b5.block Y0 (blk_lt JY0.out)).trans JY0.out)
      clear c0 c1 c2 JY0
      have JY0 := JX0
      clear JX0
      have c0 : w5.cell? ⟨Y0, 0, none⟩ = some (.int .i64 s.ver) := cell_blk JY0.out 0
      have c1 : w5.cell? ⟨Y0, 1, none⟩ = some (.int .i64 s.last) := cell_blk JY0.out 1
      have c2 : w5.cell? ⟨Y0, 2, none⟩ = some (.slice (some ⟨b, p, none⟩) s.tabs.length tc) := cell_blk JY0.out 2
      clear hta b5
      go_upto_region 5 with fail
      refine wp_region_fb (fun _ X9 => Below w5.heap.size w5 X9) (fun X9 X' => Below X9.heap.size X9 X') [
        fun v9 _ => v9 = .bool true,
        fun v9 _ => v9 = .int .i64 (i : Int),
        fun v9 _ => v9 = .bool true,
        fun v9 _ => v9 = .bool false,
        fun v9 _ => v9 = .bool false,
        fun v9 _ => v9 = .bool true,
        fun v9 _ => v9 = .bool true,
        fun v9 _ => v9 = .agg (tbA t (.slice ca t.cols.length cc) (.slice ia t.ixs.length ic) (.slice ka t.fks.length kc)),
        fun v9 X9 => ∃ F9, v9 = .slice (some ⟨F9, 0, none⟩) 1 1 ∧ Lr tbE 5 X9 [t] (.slice (some ⟨F9, 0, none⟩) 1 1),
        fun v9 X9 => ∃ F9, v9 = .agg #[.int .i64 0, .int .i64 0, .slice (some ⟨F9, 0, none⟩) 1 1] ∧ Lr tbE 5 X9 [t] (.slice (some ⟨F9, 0, none⟩) 1 1),
        fun v9 _ => v9 = .pointer (some ⟨Y0, 2, none⟩),
        fun v9 _ => v9 = .slice (some ⟨b, p, none⟩) s.tabs.length tc,
        fun v9 _ => v9 = .int .i64 (i : Int),
        fun v9 _ => v9 = .int .i64 (i : Int),
        fun v9 _ => v9 = .int .i64 ((i : Int) + 1),
        fun v9 _ => v9 = .slice (some ⟨b, p + i * 5, none⟩) 1 (tc - i),
        fun v9 _ => v9 = .agg #[.int .i64 0, .int .i64 0, .slice (some ⟨b, p + i * 5, none⟩) 1 (tc - i)],
        fun v9 _ => v9 = .bool true,
        fun v9 _ => v9 = .bool false,
        fun v9 _ => v9 = .bool false,
        fun v9 _ => v9 = .bool false]
        (by kernel_rfl) (by kernel_rfl) (by kernel_rfl) ?st ?g0 ?os ?en
      case st => exact ⟨fun _ _ _ _ h => h, fun _ _ _ _ h => h, fun _ _ _ _ h => h, fun _ _ _ _ h => h, fun _ _ _ _ h => h, fun _ _ _ _ h => h, fun _ _ _ _ h => h, fun _ _ _ _ h => h, (fun _ _ _ hb h => by obtain ⟨F9, e9, h9⟩ := h; exact ⟨F9, e9, h9.on tbE_held hb⟩), (fun _ _ _ hb h => by obtain ⟨F9, e9, h9⟩ := h; exact ⟨F9, e9, h9.on tbE_held hb⟩), fun _ _ _ _ h => h, fun _ _ _ _ h => h, fun _ _ _ _ h => h, fun _ _ _ _ h => h, fun _ _ _ _ h => h, fun _ _ _ _ h => h, fun _ _ _ _ h => h, fun _ _ _ _ h => h, fun _ _ _ _ h => h, fun _ _ _ _ h => h, fun _ _ _ _ h => h, trivial⟩
      case g0 => exact ⟨rfl, rfl, rfl, Nat.le_refl _, fun _ _ => rfl⟩
      case os =>
        refine ⟨?_, ?_, ?_, ?_, ?_, ?_, ?_, ?_, ?_, ?_, ?_, ?_, ?_, ?_, ?_, ?_, ?_, ?_, ?_, ?_, ?_, trivial⟩
        · exact fun ρ X9 fl hg hn hl hp ho hc hf hr => .inl ⟨rfl, Runs.val _ (op_move (show ρ (.tmp 6) = .bool true from ho 6 rfl)) ⟨hg, Below.refl _ _, rfl⟩⟩
        · exact fun ρ X9 fl hg hn hl hp ho hc hf hr => .inl ⟨rfl, Runs.val _ (op_move (show ρ (.tmp 7) = .int .i64 (i : Int) from ho 7 rfl)) ⟨hg, Below.refl _ _, rfl⟩⟩
        · exact fun ρ X9 fl hg hn hl hp ho hc hf hr => .inl ⟨rfl, Runs.val _ (op_geq3 (show ρ (.tmp 27) = .int .i64 (i : Int) from hr 1 27 rfl rfl) (hc _) (b := true) (by simp)) ⟨hg, Below.refl _ _, rfl⟩⟩
        · exact fun ρ X9 fl hg hn hl hp ho hc hf hr => .inl ⟨rfl, Runs.val _ (op_neq4 (show ρ (.tmp 26) = .bool true from hr 0 26 rfl rfl) (show ρ (.tmp 28) = .bool true from hr 2 28 rfl rfl) (c := false) (by simp)) ⟨hg, Below.refl _ _, rfl⟩⟩
        · exact fun ρ X9 fl hg hn hl hp ho hc hf hr => .inl ⟨rfl, Runs.val _ (op_move (show ρ (.tmp 29) = .bool false from hr 3 29 rfl rfl)) ⟨hg, Below.refl _ _, rfl⟩⟩
        · exact fun ρ X9 fl hg hn hl hp ho hc hf hr => .inr (.inl ⟨4, 30, false, fun _ => rfl, rfl, hr 4 30 rfl rfl, Runs.val _ (op_move (show ρ (.tmp 6) = .bool true from ho 6 rfl)) ⟨hg, Below.refl _ _, rfl⟩⟩)
        · exact fun ρ X9 fl hg hn hl hp ho hc hf hr => .inr (.inl ⟨4, 30, false, fun _ => rfl, rfl, hr 4 30 rfl rfl, Runs.val _ (op_move (show ρ (.tmp 31) = .bool true from hr 5 31 rfl rfl)) ⟨hg, Below.refl _ _, rfl⟩⟩)
        · exact fun ρ X9 fl hg hn hl hp ho hc hf hr => .inr (.inl ⟨6, 32, true, fun _ => rfl, rfl, hr 6 32 rfl rfl, Runs.val _ (op_loadAt (show ρ (.tmp 5) = .pointer (some ⟨D, 0, none⟩) from ho 5 rfl) (load_row ((hg.block D (blk_lt JD.out)).trans JD.out) Tryz.underlying35 rfl size35)) ⟨hg, Below.refl _ _, rfl⟩⟩)
        · refine fun ρ X9 fl hg hn hl hp ho hc hf hr => .inr (.inl ⟨6, 32, true, fun _ => rfl, rfl, hr 6 32 rfl rfl, ?_⟩)
          refine Runs.val _ (op_s22 ⟨_, _, _, rfl⟩ ⟨_, _, _, rfl⟩ ⟨_, _, _, rfl⟩ (show ρ (.tmp 33) = .agg (tbA t (.slice ca t.cols.length cc) (.slice ia t.ixs.length ic) (.slice ka t.fks.length kc)) from hr 7 33 rfl rfl)) ⟨bgo hg (bnew _ _), bnew _ _, _, rfl, lr_laid (H3.out.on hg)⟩
        · intro ρ X9 fl hg hn hl hp ho hc hf hr
          obtain ⟨F9, e9, h9⟩ : ∃ F9, ρ (.tmp 34) = .slice (some ⟨F9, 0, none⟩) 1 1 ∧ Lr tbE 5 X9 [t] (.slice (some ⟨F9, 0, none⟩) 1 1) := hr 8 34 rfl rfl
          exact .inr (.inl ⟨6, 32, true, fun _ => rfl, rfl, hr 6 32 rfl rfl, Runs.val _ (op_b24one e9) ⟨hg, Below.refl _ _, F9, rfl, h9⟩⟩)
        · exact fun ρ X9 fl hg hn hl hp ho hc hf hr => .inr (.inl ⟨6, 32, true, fun _ => rfl, rfl, hr 6 32 rfl rfl, Runs.val _ (op_f24_2 (show ρ (.tmp 2) = .pointer (some ⟨Y0, 0, none⟩) from ho 2 rfl)) ⟨hg, Below.refl _ _, rfl⟩⟩)
        · exact fun ρ X9 fl hg hn hl hp ho hc hf hr => .inr (.inl ⟨6, 32, true, fun _ => rfl, rfl, hr 6 32 rfl rfl, Runs.val _ (op_load22 (show ρ (.tmp 36) = .pointer (some ⟨Y0, 2, none⟩) from hr 10 36 rfl rfl) (cell_on hg (cell_blk JY0.out 2))) ⟨hg, Below.refl _ _, rfl⟩⟩)
        · exact fun ρ X9 fl hg hn hl hp ho hc hf hr => .inr (.inl ⟨6, 32, true, fun _ => rfl, rfl, hr 6 32 rfl rfl, Runs.val _ (op_move (show ρ (.tmp 7) = .int .i64 (i : Int) from ho 7 rfl)) ⟨hg, Below.refl _ _, rfl⟩⟩)
        · exact fun ρ X9 fl hg hn hl hp ho hc hf hr => .inr (.inl ⟨6, 32, true, fun _ => rfl, rfl, hr 6 32 rfl rfl, Runs.val _ (op_move (show ρ (.tmp 7) = .int .i64 (i : Int) from ho 7 rfl)) ⟨hg, Below.refl _ _, rfl⟩⟩)
        · exact fun ρ X9 fl hg hn hl hp ho hc hf hr => .inr (.inl ⟨6, 32, true, fun _ => rfl, rfl, hr 6 32 rfl rfl, Runs.val _ (op_add3k (show ρ (.tmp 39) = .int .i64 (i : Int) from hr 13 39 rfl rfl) (hc _) (r := (i : Int) + 1) (by omega) (by omega) (by omega)) ⟨hg, Below.refl _ _, rfl⟩⟩)
        · exact fun ρ X9 fl hg hn hl hp ho hc hf hr => .inr (.inl ⟨6, 32, true, fun _ => rfl, rfl, hr 6 32 rfl rfl, Runs.val _ (op_slice22lh (show ρ (.tmp 37) = .slice (some ⟨b, p, none⟩) s.tabs.length tc from hr 11 37 rfl rfl) (show ρ (.tmp 38) = .int .i64 (i : Int) from hr 12 38 rfl rfl) (show ρ (.tmp 40) = .int .i64 ((i : Int) + 1) from hr 14 40 rfl rfl) HSL.out) ⟨hg, Below.refl _ _, rfl⟩⟩)
        · exact fun ρ X9 fl hg hn hl hp ho hc hf hr => .inr (.inl ⟨6, 32, true, fun _ => rfl, rfl, hr 6 32 rfl rfl, Runs.val _ (op_b24one (show ρ (.tmp 41) = .slice (some ⟨b, p + i * 5, none⟩) 1 (tc - i) from hr 15 41 rfl rfl)) ⟨hg, Below.refl _ _, rfl⟩⟩)
        · intro ρ X9 fl hg hn hl hp ho hc hf hr
          obtain ⟨F9, e9, h9⟩ : ∃ F9, ρ (.tmp 35) = .agg #[.int .i64 0, .int .i64 0, .slice (some ⟨F9, 0, none⟩) 1 1] ∧ Lr tbE 5 X9 [t] (.slice (some ⟨F9, 0, none⟩) 1 1) := hr 9 35 rfl rfl
          refine .inr (.inl ⟨6, 32, true, fun _ => rfl, rfl, hr 6 32 rfl rfl, ?_⟩)
          refine Runs.goes 11 #[.agg #[.int .i64 0, .int .i64 0, .slice (some ⟨F9, 0, none⟩) 1 1], .agg #[.int .i64 0, .int .i64 0, .slice (some ⟨b, p + i * 5, none⟩) 1 (tc - i)]] (op_call2 hf (by go_simp) e9 (show ρ (.tmp 42) = .agg #[.int .i64 0, .int .i64 0, .slice (some ⟨b, p + i * 5, none⟩) 1 (tc - i)] from hr 16 42 rfl rfl)) ((HSA.out X9 _ (bgo HB5.out hg) h9).mono ?_)
          rintro e7 w7 ⟨rfl, b7⟩
          exact ⟨_, rfl, bgo hg b7, b7, rfl⟩
        · exact fun ρ X9 fl hg hn hl hp ho hc hf hr => .inr (.inl ⟨6, 32, true, fun _ => rfl, rfl, hr 6 32 rfl rfl, Runs.val _ (op_not (show ρ (.tmp 43) = .bool true from hr 17 43 rfl rfl)) ⟨hg, Below.refl _ _, rfl⟩⟩)
        · exact fun ρ X9 fl hg hn hl hp ho hc hf hr => .inr (.inl ⟨4, 30, false, fun _ => rfl, rfl, hr 4 30 rfl rfl, Runs.val _ (op_pick (show ρ (.tmp 32) = .bool true from hr 6 32 rfl rfl) (show ρ (.tmp 44) = .bool false from hr 18 44 rfl rfl)) ⟨hg, Below.refl _ _, rfl⟩⟩)
        · exact fun ρ X9 fl hg hn hl hp ho hc hf hr => .inl ⟨rfl, Runs.val _ (op_pick (show ρ (.tmp 30) = .bool false from hr 4 30 rfl rfl) (show ρ (.tmp 45) = .bool false from hr 19 45 rfl rfl)) ⟨hg, Below.refl _ _, rfl⟩⟩
      case en =>
        intro a9 w6 fl hfl b6 hs9 hd9 ho9 hr9
        obtain ⟨x9, hx, hxt⟩ := act_put hs9 hd9 ho9
        have x46 : x9 46 = .bool false := (hxt 46).symm.trans (hr9 20 46 rfl)
        change a9 = putAll _ x9 [26, 27, 28, 29, 30, 31, 32, 33, 34, 35, 36, 37, 38, 39, 40, 41, 42, 43, 44, 45, 46] at hx
        simp only [putAll, Act.put, List.setIfInBounds_toArray, List.set_cons_zero, List.set_cons_succ, x46] at hx
        have HB6 := Lib.hid (bgo HB5.out b6)
        have JX0 : Hid (w6.heap[Y0]? = some (.cells (scA s (.slice (some ⟨b, p, none⟩) s.tabs.length tc)) 24 (0, 0))) := Lib.hid ((b6.block Y0 (blk_lt JY0.out)).trans JY0.out)
        clear c0 c1 c2 JY0
        have JY0 := JX0
        clear JX0
        clear hs9 hd9 ho9 hr9 hxt x46 hfl b6
        subst hx
        generalize x9 26 = z26, x9 27 = z27, x9 28 = z28, x9 29 = z29, x9 30 = z30, x9 31 = z31, x9 32 = z32, x9 33 = z33, x9 34 = z34, x9 35 = z35, x9 36 = z36, x9 37 = z37, x9 38 = z38, x9 39 = z39, x9 40 = z40, x9 41 = z41, x9 42 = z42, x9 43 = z43, x9 44 = z44, x9 45 = z45
        have c0 : w6.cell? ⟨Y0, 0, none⟩ = some (.int .i64 s.ver) := cell_blk JY0.out 0
        have c1 : w6.cell? ⟨Y0, 1, none⟩ = some (.int .i64 s.last) := cell_blk JY0.out 1
        have c2 : w6.cell? ⟨Y0, 2, none⟩ = some (.slice (some ⟨b, p, none⟩) s.tabs.length tc) := cell_blk JY0.out 2
        have hrr := HRR.out w6 HB6.out
        clear HTA HRR
        go_wp2_with (go_at_call 12; refine hrr.mono ?_; rintro e w7 ⟨rfl, b7⟩; refine Hid.out ?_)
        refine Lib.hid ?_
        have HB7 := Lib.hid (bgo HB6.out b7)
        have JX0 : Hid (w7.heap[Y0]? = some (.cells (scA s (.slice (some ⟨b, p, none⟩) s.tabs.length tc)) 24 (0, 0))) := Lib.hid ((b7.block Y0 (blk_lt JY0.out)).trans JY0.out)
        clear c0 c1 c2 JY0
        have JY0 := JX0
        clear JX0
        clear hrr b7
        have c0 : w7.cell? ⟨Y0, 0, none⟩ = some (.int .i64 s.ver) := cell_blk JY0.out 0
        have c1 : w7.cell? ⟨Y0, 1, none⟩ = some (.int .i64 s.last) := cell_blk JY0.out 1
        have c2 : w7.cell? ⟨Y0, 2, none⟩ = some (.slice (some ⟨b, p, none⟩) s.tabs.length tc) := cell_blk JY0.out 2
        have hck := HCK.out w7 HB7.out
        clear HCK
        cases rs with
        | false =>
          obtain rfl : 100 = rk := HRK.out
          go_wp2_with (go_at_call 13; refine hck.mono ?_; rintro e w8 ⟨rfl, b8⟩; refine Hid.out ?_)
          refine Lib.hid ?_
          have HB8 := Lib.hid (bgo HB7.out b8)
          clear hck b8
          go_wp2
          go_ret
          exact ⟨rfl, HB8.out⟩
        | true =>
          obtain rfl : 0 = rk := HRK.out
          go_wp2_with (go_at_call 13; refine hck.mono ?_; rintro e w8 ⟨rfl, b8⟩; refine Hid.out ?_)
          refine Lib.hid ?_
          have HB8 := Lib.hid (bgo HB7.out b8)
          clear hck b8
          go_wp2
          go_ret
          exact ⟨rfl, HB8.out⟩
end
end Go.Proofs.YtongmhfpoopebaaGreat
