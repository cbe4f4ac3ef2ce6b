/- The walk of rightElements. -/
import Derived.Test.YtongmhfpoopebaaGreatBn
namespace Go.Proofs.YtongmhfpoopebaaGreat
open Go.RowKit Go.Maps
theorem fidx_neg {α : Type} (p : α → Bool) (L : List α) : decide (fidx p L < 0) = L.all (fun x => !p x) := by
  have h := fidx_any p L
  rw [← List.not_any_eq_all_not, ← h]
  by_cases q : fidx p L < 0
  · rw [decide_eq_true q, decide_eq_false (by omega)]
    rfl
  · rw [decide_eq_false q, decide_eq_true (by omega)]
    rfl
theorem keyB_at : ∀ {t : Tb} {x : Col} (h : 1 ≤ t.cols.length), t.cols[0] = x → keyB t = decide (x.st = 3)
  | ⟨_, _, [], _, _⟩, _, h, _ => by simp at h
  | ⟨_, _, c :: r, _, _⟩, x, _, e => by
    have e' : c = x := e
    subst e'
    rfl
section
variable {w : World}
set_option maxHeartbeats 4000000 in
set_option maxRecDepth 100000 in
theorem elements_any {t : Tb} {cv iv kv : Value} (h : Three w t cv iv kv) (hz : t.few) (h1 : 1 ≤ t.cols.length) : Calls Tryz.prog 55 #[tbV t cv iv kv] w fun e w' => e = .returned (.bool (elB t)) ∧ Below w.heap.size w w' := by
  have HT := Lib.hid h
  have HZ := Lib.hid hz
  obtain ⟨ca, cc, rfl, _, _, _, hX⟩ := h.c
  obtain ⟨ia, ic, rfl, _⟩ := h.i
  obtain ⟨ka, kc, rfl, _⟩ := h.k
  obtain ⟨b, p, cs, hca, hbl, hE, _, hcell⟩ := hX 0 (by omega)
  cases hE
  subst hca
  obtain ⟨x0, hx0⟩ : ∃ x0, t.cols[0] = x0 := ⟨_, rfl⟩
  rw [hx0] at hcell
  have kk : (0 : Int) < (t.cols.length : Int) := by omega
  have hkey : keyB t = decide (x0.st = 3) := keyB_at h1 hx0
  have c3 : w.cell? ⟨b, p + 3, none⟩ = some (.int .i64 x0.st) := by
    have := hcell 3 _ rfl
    rw [Nat.zero_mul, Nat.add_zero] at this
    exact this
  obtain ⟨W, hW⟩ : ∃ W, W = w.alloc (.cells #[.int .i64 t.id, .string t.nm, .slice (some ⟨b, p, none⟩) t.cols.length cc, .slice ia t.ixs.length ic, .slice ka t.fks.length kc] 35) := ⟨_, rfl⟩
  have hbW : Below w.heap.size w W := by rw [hW]; exact (Below.refl _ w).alloc (Nat.le_refl _) _
  obtain ⟨Y0, hY0⟩ : ∃ Y0, w.heap.size = Y0 := ⟨_, rfl⟩
  have jY0 : W.heap[Y0]? = some (.cells #[.int .i64 t.id, .string t.nm, .slice (some ⟨b, p, none⟩) t.cols.length cc, .slice ia t.ixs.length ic, .slice ka t.fks.length kc] 35 (0, 0)) := by
    have := heap_alloc_new w (.cells #[.int .i64 t.id, .string t.nm, .slice (some ⟨b, p, none⟩) t.cols.length cc, .slice ia t.ixs.length ic, .slice ka t.fks.length kc] 35)
    rw [hW, ← hY0]
    exact this
  have d2 : W.cell? ⟨Y0, 2, none⟩ = some (.slice (some ⟨b, p, none⟩) t.cols.length cc) := cell_blk jY0 2
  have hfind := findC_any (w := W) (f := 92) (cs := #[]) (p := fun x => !(kindB x.kd && fitB x.df x.kd)) (HT.out.c.on colE_held hbW) goes92 (fun X hX B q x _ _ hp => el_f hp)
  have hneg := fidx_neg (fun x : Col => !(kindB x.kd && fitB x.df x.kd)) t.cols
  simp only [Bool.not_not] at hneg
  obtain ⟨i, hi⟩ : ∃ i, fidx (fun x : Col => !(kindB x.kd && fitB x.df x.kd)) t.cols = i := ⟨_, rfl⟩
  obtain ⟨r1, hr1⟩ : ∃ r1, t.cols.all (fun x => kindB x.kd && fitB x.df x.kd) = r1 := ⟨_, rfl⟩
  have HP : Hid (∀ X, Below W.heap.size W X → (X.cell? ⟨Y0, 2, none⟩ = some (.slice (some ⟨b, p, none⟩) t.cols.length cc) ∧ X.cell? ⟨Y0, 3, none⟩ = some (.slice ia t.ixs.length ic) ∧ X.cell? ⟨Y0, 4, none⟩ = some (.slice ka t.fks.length kc) ∧ X.cell? ⟨b, p + 3, none⟩ = some (.int .i64 x0.st)) ∧ Calls Tryz.prog 95 #[.slice (some ⟨b, p, none⟩) t.cols.length cc, .func (.func 66) #[] #[]] X (fun e w' => e = .returned (.bool (partsB Col.nm Col.st t.cols)) ∧ Below X.heap.size X w')
      ∧ Calls Tryz.prog 96 #[.slice ia t.ixs.length ic, .func (.func 70) #[] #[]] X (fun e w' => e = .returned (.bool (partsB Ix.nm Ix.st t.ixs)) ∧ Below X.heap.size X w') ∧ Calls Tryz.prog 97 #[.slice ka t.fks.length kc, .func (.func 74) #[] #[]] X (fun e w' => e = .returned (.bool (partsB Fk.nm Fk.st t.fks)) ∧ Below X.heap.size X w')) := fun X hX => by
    have hwX := bgo hbW hX
    exact ⟨⟨cell_on hX (cell_blk jY0 2), cell_on hX (cell_blk jY0 3), cell_on hX (cell_blk jY0 4), cell_on hwX c3⟩, partsC_any (HT.out.c.on colE_held hwX) HZ.out.1, partsI_any (HT.out.i.on ixE_held hwX) HZ.out.2.1, partsK_any (HT.out.k.on fkE_held hwX) HZ.out.2.2⟩
  obtain ⟨s0, hs0⟩ : ∃ s0, x0.st = s0 := ⟨_, rfl⟩
  obtain ⟨r2, hr2⟩ : ∃ r2, partsB Col.nm Col.st t.cols = r2 := ⟨_, rfl⟩
  obtain ⟨r3, hr3⟩ : ∃ r3, partsB Ix.nm Ix.st t.ixs = r3 := ⟨_, rfl⟩
  obtain ⟨r4, hr4⟩ : ∃ r4, partsB Fk.nm Fk.st t.fks = r4 := ⟨_, rfl⟩
  have HR : Hid (elB t = (r1 && decide (s0 = 3) && r2 && r3 && r4)) := by
    unfold elB
    rw [hr1, hkey, hs0, hr2, hr3, hr4]
    exact Lib.hid rfl
  rw [hi] at hfind hneg
  rw [hr1] at hneg
  rw [hr2, hr3, hr4, hs0] at HP
  have HW := Lib.hid hW
  have HBW := Lib.hid hbW
  have HY0 := Lib.hid hY0
  clear hW hbW hY0
  clear jY0 hi hr1 hcell hbl hX h hz c3 hkey hs0 hr2 hr3 hr4 hx0
  go_enter Tryz.func55, Tryz.ntmps55
  go_upto_region 1 with fail
  rw [← HW.out, HY0.out]
  go_upto_region 2 with (go_at_call 91; refine hfind.mono ?_; rintro e w1 ⟨rfl, b1⟩; refine Hid.out ?_)
  refine Lib.hid ?_
  have HB1 := Lib.hid b1
  obtain ⟨⟨e2, e3, e4, e5⟩, p2, _, _⟩ := HP.out w1 b1
  clear hfind b1 d2
  cases r1 with
  | false =>
    have hi := of_decide_eq_false hneg
    clear hneg p2 e2 e3 e4 e5
    go_wp2
    go_ret
    exact ⟨by rw [HR.out]; simp, bgo HBW.out HB1.out⟩
  | true =>
    have hi := of_decide_eq_true hneg
    clear hneg
    by_cases hs : s0 = 3
    · subst hs
      cases r2 with
      | false =>
        go_wp2_with (go_at_call 95; refine p2.mono ?_; rintro e w2 ⟨rfl, b2⟩; refine Hid.out ?_)
        refine Lib.hid ?_
        have HB2 := Lib.hid b2
        clear b2 p2
        go_wp2
        go_ret
        exact ⟨by rw [HR.out]; simp, bgo HBW.out (bgo HB1.out HB2.out)⟩
      | true =>
        go_wp2_with (go_at_call 95; refine p2.mono ?_; rintro e w2 ⟨rfl, b2⟩; refine Hid.out ?_)
        refine Lib.hid ?_
        have HB2 := Lib.hid (bgo HB1.out b2)
        obtain ⟨⟨g2, g3, g4, g5⟩, _, p3, _⟩ := HP.out w2 (bgo HB1.out b2)
        clear b2 p2
        cases r3 with
        | false =>
          go_wp2_with (go_at_call 96; refine p3.mono ?_; rintro e w3 ⟨rfl, b3⟩; refine Hid.out ?_)
          refine Lib.hid ?_
          have HB3 := Lib.hid b3
          clear b3 p3
          go_wp2
          go_ret
          exact ⟨by rw [HR.out]; simp, bgo HBW.out (bgo HB2.out HB3.out)⟩
        | true =>
          go_wp2_with (go_at_call 96; refine p3.mono ?_; rintro e w3 ⟨rfl, b3⟩; refine Hid.out ?_)
          refine Lib.hid ?_
          have HB3 := Lib.hid (bgo HB2.out b3)
          obtain ⟨⟨f2, f3, f4, f5⟩, _, _, p4⟩ := HP.out w3 (bgo HB2.out b3)
          clear b3 p3
          go_wp2_with (go_at_call 97; refine p4.mono ?_; rintro e w4 ⟨rfl, b4⟩; refine Hid.out ?_)
          refine Lib.hid ?_
          have HB4 := Lib.hid b4
          clear b4 p4
          go_wp2
          go_ret
          exact ⟨by rw [HR.out]; simp, bgo HBW.out (bgo HB3.out HB4.out)⟩
    · go_wp2
      go_ret
      exact ⟨by rw [HR.out]; simp [hs], bgo HBW.out HB1.out⟩
end
end Go.Proofs.YtongmhfpoopebaaGreat
