import Derived.Test.YtongmhfpoopebaaGreatTo
import Derived.Test.YtongmhfpoopebaaGreatTd
import Derived.Test.YtongmhfpoopebaaGreatGz
import Derived.Test.YtongmhfpoopebaaGreatHc
/- How long the texts are; what is seen is no more. -/
namespace Go.Proofs.YtongmhfpoopebaaGreat
open Go.RowKit
theorem fm_sum {α : Type} (f : α → List UInt8) (g : α → Nat) (k : Nat) (h : ∀ x, (f x).length ≤ k * g x) : ∀ L : List α, (L.flatMap f).length ≤ k * (L.map g).sum
  | [] => by simp
  | x :: L => by
    have h1 := fm_sum f g k h L
    have h2 := h x
    rw [List.flatMap_cons, List.length_append, List.map_cons, List.sum_cons, Nat.mul_add]
    omega
theorem valL_len (v : Vl) : (valL v).length ≤ 30 + vlB v := by
  have h1 := num_len v.k
  have h2 := num_len v.n
  have h3 := textL_len v.s
  unfold valL vlB
  simp only [List.length_append]
  omega
theorem col1L_len (c : Col) : (col1L c).length ≤ 80 * colB c := by
  have h1 := num_len c.id
  have h2 := textL_len c.nm
  have h3 : (numsL [c.kd, c.st]).length ≤ 20 := numsL_len [c.kd, c.st]
  have h4 := valL_len c.df
  unfold col1L colB
  simp only [List.length_append]
  omega
theorem ix1L_len (c : Ix) : (ix1L c).length ≤ 80 * ixB c := by
  have h1 := num_len c.id
  have h2 := textL_len c.nm
  have h3 := num_len c.col
  have h4 := flagL_len c.uq
  have h5 := num_len c.st
  unfold ix1L ixB
  simp only [List.length_append]
  omega
theorem fk1L_len (c : Fk) : (fk1L c).length ≤ 80 * fkBk c := by
  have h1 := num_len c.id
  have h2 := textL_len c.nm
  have h3 : (numsL [c.col, c.par, c.st]).length ≤ 30 := numsL_len [c.col, c.par, c.st]
  unfold fk1L fkBk
  simp only [List.length_append]
  omega
theorem colsL_len (L : List Col) : (colsL L).length ≤ 10 + 80 * (L.map colB).sum := by
  have h1 := num_len (L.length : Int)
  have h2 := fm_sum col1L colB 80 col1L_len L
  unfold colsL
  rw [List.length_append]
  omega
theorem tab1L_len (t : Tb) : (tab1L t).length ≤ 80 * tbB t := by
  have h1 := num_len t.id
  have h2 := textL_len t.nm
  have h3 := colsL_len t.cols
  have h4 := num_len (t.ixs.length : Int)
  have h5 := fm_sum ix1L ixB 80 ix1L_len t.ixs
  have h6 := num_len (t.fks.length : Int)
  have h7 := fm_sum fk1L fkBk 80 fk1L_len t.fks
  unfold tab1L tabIL tbB
  simp only [List.length_append]
  omega
theorem schL_len (s : Sc) : (schL s).length ≤ 30 + 80 * scB s := by
  have h1 : (numsL [s.ver, s.last]).length ≤ 20 := numsL_len [s.ver, s.last]
  have h2 := num_len (s.tabs.length : Int)
  have h3 := fm_sum tab1L tbB 80 tab1L_len s.tabs
  unfold schL scB
  simp only [List.length_append]
  omega
theorem filt_sum {α : Type} (p : α → Bool) (f : α → Nat) : ∀ l : List α, ((l.filter p).map f).sum ≤ (l.map f).sum
  | [] => Nat.le_refl _
  | x :: l => by
    have := filt_sum p f l
    by_cases h : p x = true
    · rw [List.filter_cons_of_pos h]
      simp only [List.map_cons, List.sum_cons]
      omega
    · rw [List.filter_cons_of_neg h]
      simp only [List.map_cons, List.sum_cons]
      omega
theorem cntT_B (t : Tb) : cntT t ≤ tbB t := by
  have h1 := sum_ge (f := colB) (fun x => by unfold colB; omega) t.cols
  have h2 := sum_ge (f := ixB) (fun x => by unfold ixB; omega) t.ixs
  have h3 := sum_ge (f := fkBk) (fun x => by unfold fkBk; omega) t.fks
  unfold cntT tbB
  omega
theorem tabs_B (s : Sc) : s.tabs.length ≤ scB s := by
  have h1 := sum_ge (f := tbB) (fun x => by unfold tbB; omega) s.tabs
  unfold scB
  omega
theorem tab_B {s : Sc} {t : Tb} (h : t ∈ s.tabs) : tbB t ≤ scB s := by
  have := sum_mem (f := tbB) h
  unfold scB
  omega
theorem few_of {s : Sc} {m : Nat} (h : s.tabs.length + m + cntN s.tabs ≤ 300) : s.tabs.length ≤ 300 ∧ ∀ t ∈ s.tabs, cntT t ≤ 300 := by
  refine ⟨by omega, fun t ht => ?_⟩
  have : cntT t ≤ cntN s.tabs := sum_mem (f := cntT) ht
  omega
end Go.Proofs.YtongmhfpoopebaaGreat

/- A change that is undone from where it fills: plain. -/
namespace Go.Proofs.YtongmhfpoopebaaGreat
theorem right_ids {s : Sc} (h : rightS s = true) : ∀ t ∈ s.tabs, ∀ i ∈ idsT t, I64 i := fun t ht i hi => by
  obtain ⟨_, h2, _, _, h5, _⟩ := right_iff.1 h
  have h6 := h5 i (List.mem_flatMap.2 ⟨t, ht, hi⟩)
  have h7 := far_in h2
  unfold I64
  omega
theorem wkI_any {s : Sc} {d : Dd} {m : Mv} {r : List Mv} (hb : m.1 = 1 ∨ m.1 = 2) (hr : rightS s = true) (h : ∀ s', turnS s d m.2 = .ok s' → wkI s' d r) : wkI s d (m :: r) := by
  unfold wkI
  rw [if_pos hb]
  exact ⟨right_ids hr, h⟩
theorem wkI_skip {s : Sc} {d : Dd} {m : Mv} {r : List Mv} (hb : ¬ (m.1 = 1 ∨ m.1 = 2)) (h : wkI s d r) : wkI s d (m :: r) := by
  unfold wkI
  rw [if_neg hb]
  exact h
theorem wkI_to {s s2 : Sc} {d : Dd} {m : Mv} {r : List Mv} (hb : m.1 = 1 ∨ m.1 = 2) (hr : rightS s = true) (e : turnS s d m.2 = .ok s2) (h : wkI s2 d r) : wkI s d (m :: r) := wkI_any hb hr fun s' q => by
  rw [e] at q
  cases q
  exact h
/-- The moves ahead of the fill. -/
def fwP (k : Int) : List Mv := if k = 6 then [(1, 2), (3, 0)] else [(1, 1), (1, 2), (3, 0)]
structure Undo (s : Sc) (d : Dd) : Prop where
  ids : wkI s d (fwP d.kind)
  all : wk s d (fwP d.kind) = ([], false) ∨ ∃ u z l, (s :: (wk s d (fwP d.kind)).1).getLast? = some u ∧ (wk s d (fwP d.kind)).2 = true ∧ wkI u d (backP d.kind) ∧ wk u d (backP d.kind) = (l, true) ∧ (u :: l).getLast? = some z ∧ z.tabs = s.tabs
theorem undo_plain {s : Sc} {d : Dd} (hk : d.kind = 2 ∨ d.kind = 4 ∨ d.kind = 6) (hr : rightS s = true) (h0 : stateP s d = 0) (hv : s.ver ≤ 562949953421312) (hl : s.last ≤ 562949953421312) : Undo s d := by
  have hb1 : ∀ x : Int, ((1 : Int), x).1 = 1 ∨ ((1 : Int), x).1 = 2 := fun _ => .inl rfl
  have hb3 : ∀ x : Int, ¬ (((3 : Int), x).1 = 1 ∨ ((3 : Int), x).1 = 2) := fun _ => by simp
  have hb5 : ∀ x : Int, ¬ (((5 : Int), x).1 = 1 ∨ ((5 : Int), x).1 = 2) := fun _ => by simp
  have hadd : addK d.kind = true := by rcases hk with q | q | q <;> rw [q] <;> rfl
  have hk1 : d.kind ≠ 1 := by omega
  have hfirst : ∀ st s1, turnS s d st = .ok s1 → ∃ F, Along s d F ∧ s1 = F (s.ver + 1) st := fun st s1 h => first_any (by omega) (.inl ⟨hadd, h0⟩) h
  -- one step
  have step : ∀ (F : Int → Int → Sc), Along s d F → ∀ v st st', v ≤ s.ver + 5 → rightS (F v st) = true → 1 ≤ st → st ≤ 2 → 0 ≤ st' → st' ≤ 2 → turnS (F v st) d st' = .ok (F (v + 1) st') ∧ (1 ≤ st' → rightS (F (v + 1) st') = true) := fun F hF v st st' hv' hrF h1 h2 h3 h4 => by
    have e := hF.go hk1 v st st' (by omega) (fun _ => by omega) hrF h3 (by omega)
    have e1 := hF.ver v st
    have e2 := hF.last v st
    exact ⟨e, fun h5 => turn_right e (by omega) (by omega) (by omega)⟩
  have first : ∀ st s1, 1 ≤ st → turnS s d st = .ok s1 → rightS s1 = true := fun st s1 h1 e => turn_right e (by omega) (by omega) (by omega)
  by_cases h6 : d.kind = 6
  · have ef : fwP d.kind = [(1, 2), (3, 0)] := by unfold fwP; rw [if_pos h6]
    have eb : backP d.kind = [(1, 0)] := by rw [h6]; rfl
    refine ⟨?_, ?_⟩
    · rw [ef]
      exact wkI_any (hb1 _) hr fun s' _ => wkI_skip (hb3 _) trivial
    · rw [ef, eb]
      cases e : turnS s d 2 with
      | error er => exact .inl (wk_err (hb1 _) e)
      | ok s1 =>
        obtain ⟨F, hF, rfl⟩ := hfirst 2 s1 e
        have r1 := first 2 _ (by omega) e
        obtain ⟨e2, _⟩ := step F hF (s.ver + 1) 2 0 (by omega) r1 (by omega) (by omega) (by omega) (by omega)
        refine .inr ⟨F (s.ver + 1) 2, F (s.ver + 1 + 1) 0, [F (s.ver + 1 + 1) 0], ?_, ?_, ?_, ?_, rfl, hF.none hk1 hadd _⟩
        · rw [wk_ok (hb1 _) e, wk_skip (hb3 _)]
          rfl
        · rw [wk_ok (hb1 _) e, wk_skip (hb3 _)]
          rfl
        · exact wkI_to (hb1 _) r1 e2 trivial
        · rw [wk_ok (hb1 _) e2]
          rfl
  · have ef : fwP d.kind = [(1, 1), (1, 2), (3, 0)] := by unfold fwP; rw [if_neg h6]
    refine ⟨?_, ?_⟩
    · rw [ef]
      refine wkI_any (hb1 _) hr fun s' e => ?_
      have r1 := first 1 _ (by omega) e
      exact wkI_any (hb1 _) r1 fun s' _ => wkI_skip (hb3 _) trivial
    · rw [ef]
      cases e : turnS s d 1 with
      | error er => exact .inl (wk_err (hb1 _) e)
      | ok s1 =>
        obtain ⟨F, hF, rfl⟩ := hfirst 1 s1 e
        have r1 := first 1 _ (by omega) e
        obtain ⟨e2, r2⟩ := step F hF (s.ver + 1) 1 2 (by omega) r1 (by omega) (by omega) (by omega) (by omega)
        have r2 := r2 (by omega)
        obtain ⟨e3, r3⟩ := step F hF (s.ver + 1 + 1) 2 1 (by omega) r2 (by omega) (by omega) (by omega) (by omega)
        have r3 := r3 (by omega)
        obtain ⟨e4, _⟩ := step F hF (s.ver + 1 + 1 + 1) 1 0 (by omega) r3 (by omega) (by omega) (by omega) (by omega)
        have w1 : wk s d [(1, 1), (1, 2), (3, 0)] = ([F (s.ver + 1) 1, F (s.ver + 1 + 1) 2, F (s.ver + 1 + 1) 2], true) := by
          rw [wk_ok (hb1 _) e, wk_ok (hb1 _) e2, wk_skip (hb3 _)]
          rfl
        rw [w1]
        by_cases h2 : d.kind = 2
        · have eb : backP d.kind = [(1, 1), (3, 0), (5, 0), (1, 0)] := by rw [h2]; rfl
          rw [eb]
          refine .inr ⟨F (s.ver + 1 + 1) 2, F (s.ver + 1 + 1 + 1 + 1) 0, [F (s.ver + 1 + 1 + 1) 1, F (s.ver + 1 + 1 + 1) 1, F (s.ver + 1 + 1 + 1) 1, F (s.ver + 1 + 1 + 1 + 1) 0], rfl, rfl, ?_, ?_, rfl, hF.none hk1 hadd _⟩
          · exact wkI_to (hb1 _) r2 e3 (wkI_skip (hb3 _) (wkI_skip (hb5 _) (wkI_to (hb1 _) r3 e4 trivial)))
          · rw [wk_ok (hb1 _) e3, wk_skip (hb3 _), wk_skip (hb5 _), wk_ok (hb1 _) e4]
            rfl
        · have h4 : d.kind = 4 := by omega
          have eb : backP d.kind = [(1, 1), (1, 0)] := by rw [h4]; rfl
          rw [eb]
          refine .inr ⟨F (s.ver + 1 + 1) 2, F (s.ver + 1 + 1 + 1 + 1) 0, [F (s.ver + 1 + 1 + 1) 1, F (s.ver + 1 + 1 + 1 + 1) 0], rfl, rfl, ?_, ?_, rfl, hF.none hk1 hadd _⟩
          · exact wkI_to (hb1 _) r2 e3 (wkI_to (hb1 _) r3 e4 trivial)
          · rw [wk_ok (hb1 _) e3, wk_ok (hb1 _) e4]
            rfl
/-- Where a path fills. -/
theorem fill_at {k : Int} {i : Nat} (hi : i < (onP k).length) (h4 : (onP k)[i].1 = 4) (hn : ∀ j (hj : j < (onP k).length), j < i → (onP k)[j].1 ≠ 4) : (k = 2 ∨ k = 4 ∨ k = 6) ∧ (onP k).take i = fwP k := by
  have hc : k = 1 ∨ k = 2 ∨ k = 3 ∨ k = 4 ∨ k = 5 ∨ k = 6 ∨ k = 7 ∨ (onP k) = [] := by
    unfold onP
    repeat' split
    all_goals first | omega | simp
  rcases hc with rfl | rfl | rfl | rfl | rfl | rfl | rfl | e
  · match i, hi, h4 with
    | 0, _, h4 => exact absurd h4 (by simp [onP])
  · match i, hi, h4 with
    | 0, _, h4 => exact absurd h4 (by simp [onP])
    | 1, _, h4 => exact absurd h4 (by simp [onP])
    | 2, _, h4 => exact absurd h4 (by simp [onP])
    | 3, _, h4 => exact ⟨.inl rfl, rfl⟩
    | 4, _, h4 => exact absurd h4 (by simp [onP])
  · match i, hi, h4 with
    | 0, _, h4 => exact absurd h4 (by simp [onP])
    | 1, _, h4 => exact absurd h4 (by simp [onP])
    | 2, _, h4 => exact absurd h4 (by simp [onP])
    | 3, _, h4 => exact absurd h4 (by simp [onP])
    | 4, _, h4 => exact absurd h4 (by simp [onP])
  · match i, hi, h4 with
    | 0, _, h4 => exact absurd h4 (by simp [onP])
    | 1, _, h4 => exact absurd h4 (by simp [onP])
    | 2, _, h4 => exact absurd h4 (by simp [onP])
    | 3, _, h4 => exact ⟨.inr (.inl rfl), rfl⟩
    | 4, _, h4 => exact absurd h4 (by simp [onP])
  · match i, hi, h4 with
    | 0, _, h4 => exact absurd h4 (by simp [onP])
    | 1, _, h4 => exact absurd h4 (by simp [onP])
    | 2, _, h4 => exact absurd h4 (by simp [onP])
  · match i, hi, h4 with
    | 0, _, h4 => exact absurd h4 (by simp [onP])
    | 1, _, h4 => exact absurd h4 (by simp [onP])
    | 2, _, h4 => exact ⟨.inr (.inr rfl), rfl⟩
    | 3, _, h4 => exact absurd h4 (by simp [onP])
  · match i, hi, h4 with
    | 0, _, h4 => exact absurd h4 (by simp [onP])
  · rw [e] at hi
    exact absurd hi (by simp)
/-! ### How long a right schema's text is -/
theorem name_size {s : ByteArray} (h : nameB s = true) : s.size ≤ 16 := by
  by_cases q : s.size ≤ 16
  · exact q
  · rw [nameB_no (.inr (by omega))] at h
    cases h
theorem fit_size {v : Vl} {k : Int} (h : fitB v k = true) : v.s.size ≤ 64 := by
  unfold fitB rightB at h
  rw [empty_iff] at h
  simp only [Bool.and_eq_true] at h
  have h := h.1
  split at h
  · simp only [Bool.and_eq_true, decide_eq_true_eq] at h; omega
  · split at h
    · simp only [decide_eq_true_eq] at h; omega
    · simp only [Bool.and_eq_true, decide_eq_true_eq] at h; omega
theorem sum_few {α : Type} {f : α → Nat} {n k : Nat} : ∀ {l : List α}, (∀ x ∈ l, f x ≤ k) → l.length ≤ n → (l.map f).sum ≤ n * k
  | [], _, _ => Nat.zero_le _
  | x :: l, h, hl => by
    cases n with
    | zero => simp at hl
    | succ n =>
      have h1 := sum_few (n := n) (fun y hy => h y (List.mem_cons_of_mem _ hy)) (by simpa using hl)
      have h2 := h x List.mem_cons_self
      rw [List.map_cons, List.sum_cons, Nat.succ_mul]
      omega
theorem right_B {s : Sc} (h : rightS s = true) : scB s ≤ 10000 := by
  obtain ⟨_, _, h3, h4, _⟩ := right_iff.1 h
  have ht : ∀ t ∈ s.tabs, tbB t ≤ 1000 := fun t ht => by
    obtain ⟨⟨_, c1, c2, c3⟩, hn, hc, _, p1, p2, p3⟩ := tab_iff.1 (h4 t ht)
    have q1 := (parts_iff.1 p1).1
    have q2 := (parts_iff.1 p2).1
    have q3 := (parts_iff.1 p3).1
    have s1 := sum_few (f := colB) (k := 83) (fun x hx => by
      have := name_size (q1 x hx).1
      have := fit_size (hc x hx).2
      unfold colB vlB
      omega) c1
    have s2 := sum_few (f := ixB) (k := 17) (fun x hx => by
      have := name_size (q2 x hx).1
      unfold ixB
      omega) c2
    have s3 := sum_few (f := fkBk) (k := 17) (fun x hx => by
      have := name_size (q3 x hx).1
      unfold fkBk
      omega) c3
    have := name_size hn
    unfold tbB
    omega
  have := sum_few (f := tbB) ht h3
  unfold scB
  omega
end Go.Proofs.YtongmhfpoopebaaGreat
