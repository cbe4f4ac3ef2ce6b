/- The walk of the document's Parts. -/
import Derived.Test.YtonncfdkdibggaaVg
namespace Go.Proofs.Ytonncfdkdibggaa
open Go.RowKit
section
variable {w w' W V X : World} {L : List ByteArray} {v : Value}
theorem pj_add {a b : ByteArray} {Y i : Nat} {lv : Value} {lo hi : ByteArray} (hl : loB L a i = lo) (hh : hiB L b i = hi) (hc : cb lo hi < 0) (hY : w.heap.size = Y) (ho : V.ownsRow (Y + 1) 39 3 lv (partsB L a b i).length (ptC (partsB L a b i))) (hj : V.heap[Y]? = some (.cells #[.string a, .string b] 34 (0, 0))) (hb : Below w.heap.size w V) (hi' : i < L.length + 1) (hn : L.length < 4) {w1 : World} (h1 : Below V.heap.size V w1) :
    ∃ ad cap w', (Builtin.append_ #[35, 35] 35 #[lv, .slice (some ⟨w1.heap.size, 0, none⟩) 1 1]).run Try.prog (w1.alloc (.cells #[.int .i64 (i : Int), .string lo, .string hi] 39)) = .ok (.slice ad ((partsB L a b i).length + 1) cap) w' ∧ PJ L w w' a b Y (.slice ad ((partsB L a b i).length + 1) cap) (.int .i64 ((i + 1 : Nat) : Int)) := by
  obtain ⟨W3, hW3⟩ : ∃ W3, W3 = w1.alloc (.cells #[.int .i64 (i : Int), .string lo, .string hi] 39) := ⟨_, rfl⟩
  have j3 : W3.heap[w1.heap.size]? = some (.cells #[.int .i64 (i : Int), .string lo, .string hi] 39 (0, 0)) := by
    rw [hW3]
    exact heap_alloc_new _ _
  have b3 : Below V.heap.size V W3 := by
    rw [hW3]
    exact h1.alloc h1.size _
  have hYV := blk_lt hj
  have hk := parts_few L a b i
  obtain ⟨ad, cap, w', hrun, ho', hf⟩ := pts_snoc (x := ⟨i, lo, hi⟩) (own_below ho b3) (Nat.le_trans hYV b3.size) j3 (by omega)
  rw [← hW3]
  refine ⟨ad, cap, w', hrun, i + 1, by omega, rfl, ?_, ?_, ?_⟩
  · have e : partsB L a b (i + 1) = partsB L a b i ++ [(⟨i, lo, hi⟩ : Pt)] := by
      rw [parts_next]
      unfold partB
      rw [hl, hh, if_pos hc]
      rfl
    rw [e]
    have e2 : (partsB L a b i ++ [(⟨i, lo, hi⟩ : Pt)]).length = (partsB L a b i).length + 1 := by simp
    rw [e2] at ho' ⊢
    exact ho'
  · refine (hf.block Y (Nat.lt_of_lt_of_le hYV b3.size) (fun q => ?_)).trans ((b3.block Y hYV).trans hj)
    have := (ho.lt Y q).1
    omega
  · have b4 := hb.trans (b3.mono hb.size)
    refine b4.trans (hf.toBelow (fun k hk q => ?_) b4.size)
    have := (ho.lt k q).1
    omega
/-- What the document's Parts has in hand. -/
structure Qt (V X : World) (Z : Nat) (p q : ByteArray) : Prop where
  at' : V.heap.size = Z
  one : X.heap[Z]? = some (.cells #[.string p, .string q] 34 (0, 0))
  bl : Below V.heap.size V X
theorem Qt.drew {Z : Nat} {p q : ByteArray} (h : Qt V X Z p q) (n : Nat) : Qt V (X.drewN n) Z p q := ⟨h.at', h.one, below_draw h.bl n⟩
theorem Qt.set0 {Z : Nat} {p q : ByteArray} (h : Qt V X Z p q) (r : ByteArray) : Qt V (X.setCell ⟨Z, 0, none⟩ (.string r)) Z r q :=
  ⟨h.at', (set_blk h.one _).trans rfl, ((Fr.ofBelow (fun k => k = Z) h.bl).set (.inl rfl) _).fresh (fun k hk => by subst hk; rw [h.at']; exact Nat.le_refl _)⟩
theorem Qt.set1 {Z : Nat} {p q : ByteArray} (h : Qt V X Z p q) (r : ByteArray) : Qt V (X.setCell ⟨Z, 1, none⟩ (.string r)) Z p r :=
  ⟨h.at', (set_blk h.one _).trans rfl, ((Fr.ofBelow (fun k => k = Z) h.bl).set (.inl rfl) _).fresh (fun k hk => by subst hk; rw [h.at']; exact Nat.le_refl _)⟩
set_option maxHeartbeats 4000000 in
set_option maxRecDepth 100000 in
theorem ref_any (hl : Ls w L v) (hs : Sz L) (hn : L.length < 4) {a b : ByteArray} (ha : a.size ≤ maxLen) (hb : b.size ≤ maxLen) : Calls Try.prog 15 #[v, .agg #[.string a, .string b]] w fun e w' => PtAns w (partsB L a b (L.length + 1)) e w' := by
  have hl' := hl
  obtain ⟨ad, cap, rfl, _, _, _, h3⟩ := hl'
  obtain ⟨W, hW⟩ : ∃ W, W = w.alloc (.cells #[.string a, .string b] 34) := ⟨_, rfl⟩
  obtain ⟨Y, hY⟩ : ∃ Y, w.heap.size = Y := ⟨_, rfl⟩
  have hbb : Below w.heap.size w W := by rw [hW]; exact (Below.refl _ w).alloc (Nat.le_refl _) _
  have jY : W.heap[Y]? = some (.cells #[.string a, .string b] 34 (0, 0)) := by rw [hW, ← hY]; exact heap_alloc_new w _
  have hmx : ((L.length : Nat) : Int) ≤ 9223372036854775807 := by omega
  have HW := Lib.hid hW
  have HYY := Lib.hid hY
  have HB := Lib.hid hbb
  have HJ := Lib.hid jY
  have H3 := Lib.hid h3
  clear hl hW hY hbb jY h3
  go_enter Try.func15, Try.ntmps15
  go_upto_region 1 with fail
  rw [← HW.out, HYY.out]
  go_wp2
  go_loopw [5, 6] (fun lv iv wr => PJ L w wr a b Y lv iv) (fun _ iv _ => L.length + 1 - (intOf iv).toNat)
  case atStart => exact ⟨0, Nat.zero_le _, rfl, World.ownsRow_nil _ _ _ _, HJ.out, HB.out⟩
  case round =>
    obtain ⟨i, hi, rfl, ho, hj, hbw⟩ := hrel
    obtain ⟨V, rfl⟩ : ∃ V, V = wr := ⟨_, rfl⟩
    obtain ⟨oad, ocap, rfl⟩ := own_shape ho
    by_cases hlt : i ≤ L.length
    · have hi' : i < L.length + 1 := by omega
      have k1 : (i : Int) ≤ (L.length : Int) := by omega
      have k8 : (0 : Int) ≤ (i : Int) := by omega
      have y0 : V.cell? ⟨Y, 0, none⟩ = some (.string a) := cell_blk hj 0
      have y1 : V.cell? ⟨Y, 1, none⟩ = some (.string b) := cell_blk hj 1
      have HO := Lib.hid ho
      have HJV := Lib.hid hj
      have HBW := Lib.hid hbw
      obtain ⟨W1, hW1⟩ : ∃ W1, W1 = V.alloc (.cells #[.string a, .string b] 34) := ⟨_, rfl⟩
      obtain ⟨Z, hZ⟩ : ∃ Z, V.heap.size = Z := ⟨_, rfl⟩
      have QT : Hid (Qt V W1 Z a b) := Lib.hid ⟨hZ, by rw [hW1, ← hZ]; exact heap_alloc_new V _, by rw [hW1]; exact (Below.refl _ V).alloc (Nat.le_refl _) _⟩
      have HW1 := Lib.hid hW1
      have HZ := Lib.hid hZ
      clear ho hj hbw hW1 hZ
      go_upto_region 6 with fail
      rw [← HW1.out, HZ.out]
      clear y0 y1
      by_cases i0 : 0 < i
      · obtain ⟨bb, o, rfl, hbl, c0⟩ := H3.out (i - 1) (by omega)
        obtain ⟨x, hx⟩ : ∃ x, L[i - 1] = x := ⟨_, rfl⟩
        have hxz : x.size ≤ maxLen := by rw [← hx]; exact hs.at' _ (List.getElem_mem _)
        have ha1 : atB L (i - 1) = x := by rw [atB_get (by omega), hx]
        rw [hx] at c0
        have c1 : W1.cell? ⟨bb, o + (i - 1), none⟩ = some (.string x) := cell_on QT.out.bl (cell_on HBW.out c0)
        have k0 : (i : Int) > 0 := by omega
        have k2 : (i : Int) - 1 = ((i - 1 : Nat) : Int) := by omega
        have k4 : ((i - 1 : Nat) : Int) < (L.length : Int) := by omega
        have hst := fun n => stands_q ha hxz W1 n
        have HA := Lib.hid ha1
        clear hx ha1 c0
        have z0 : W1.cell? ⟨Z, 0, none⟩ = some (.string a) := cell_blk QT.out.one 0
        have z1 : W1.cell? ⟨Z, 1, none⟩ = some (.string b) := cell_blk QT.out.one 1
        have f0 : W1.frozen? ⟨Z, 0, none⟩ = false := frozen_blk QT.out.one 0
        have f1 : W1.frozen? ⟨Z, 1, none⟩ = false := frozen_blk QT.out.one 1
        by_cases hc : cb a x < 0
        · go_quiet ((go_at_call 18; exact hst _))
          go_upto_region 8 with fail
          obtain ⟨X1, hX1⟩ : ∃ X1, X1 = (W1.drewN nq).setCell ⟨Z, 0, none⟩ (.string x) := ⟨_, rfl⟩
          have QT2 : Hid (Qt V X1 Z x b) := Lib.hid (by rw [hX1]; exact (QT.out.drew nq).set0 x)
          rw [← hX1]
          clear z0 z1 f0 f1 c1 hst QT hX1
          have QT := QT2
          clear QT2
          by_cases i1 : i < L.length
          · obtain ⟨b2, o2, e2, hbl2, c2⟩ := H3.out i i1
            cases e2
            obtain ⟨y, hy⟩ : ∃ y, L[i] = y := ⟨_, rfl⟩
            have hyz : y.size ≤ maxLen := by rw [← hy]; exact hs.at' _ (List.getElem_mem _)
            have ha2 : atB L i = y := by rw [atB_get i1, hy]
            rw [hy] at c2
            have c3 : X1.cell? ⟨bb, o + i, none⟩ = some (.string y) := cell_on QT.out.bl (cell_on HBW.out c2)
            have k3 : (i : Int) < L.length := by omega
            have hst2 := fun n => stands_q hb hyz X1 n
            have HA2 := Lib.hid ha2
            clear c2 hy ha2
            have z0 : X1.cell? ⟨Z, 0, none⟩ = some (.string x) := cell_blk QT.out.one 0
            have z1 : X1.cell? ⟨Z, 1, none⟩ = some (.string b) := cell_blk QT.out.one 1
            have f0 : X1.frozen? ⟨Z, 0, none⟩ = false := frozen_blk QT.out.one 0
            have f1 : X1.frozen? ⟨Z, 1, none⟩ = false := frozen_blk QT.out.one 1
            by_cases hd : 0 < cb b y
            · have hd2 : cb b y > 0 := hd
              go_wp2
              go_quiet ((go_at_call 18; exact hst2 _))
              have z1' : (X1.drewN nq).cell? ⟨Z, 1, none⟩ = some (.string b) := z1
              go_upto_region 10 with fail
              obtain ⟨X2, hX2⟩ : ∃ X2, X2 = (X1.drewN nq).setCell ⟨Z, 1, none⟩ (.string y) := ⟨_, rfl⟩
              have QT2 : Hid (Qt V X2 Z x y) := Lib.hid (by rw [hX2]; exact (QT.out.drew nq).set1 y)
              rw [← hX2]
              clear z0 z1 f0 f1 c3 hst2 z1' QT hX2
              have QT := QT2
              clear QT2
              have HP : Hid (loB L a i = x) := Lib.hid (by unfold loB maxB; rw [if_pos i0, HA.out, if_pos hc])
              have HQ : Hid (hiB L b i = y) := Lib.hid (by unfold hiB minB; rw [if_pos i1, HA2.out, if_pos hd])
              have z0 : X2.cell? ⟨Z, 0, none⟩ = some (.string x) := cell_blk QT.out.one 0
              have z1 : X2.cell? ⟨Z, 1, none⟩ = some (.string y) := cell_blk QT.out.one 1
              have f0 : X2.frozen? ⟨Z, 0, none⟩ = false := frozen_blk QT.out.one 0
              have f1 : X2.frozen? ⟨Z, 1, none⟩ = false := frozen_blk QT.out.one 1
              have hst9 := stands_any x y X2 hxz hyz
              by_cases hc9 : cb x y < 0
              · go_wp2_with (go_at_call 18; refine hst9.mono ?_; rintro e w1 ⟨rfl, hb9⟩; refine Hid.out ?_)
                refine Lib.hid ?_
                have b9 : Below V.heap.size V w1 := QT.out.bl.trans (hb9.mono QT.out.bl.size)
                have z2 := cell_on hb9 z0
                have z3 := cell_on hb9 z1
                obtain ⟨ad9, cap9, w9, hrun, hpj⟩ := pj_add HP.out HQ.out hc9 HYY.out HO.out HJV.out HBW.out hi' hn b9
                have HPJ := Lib.hid hpj
                clear hpj b9 hb9 z0 z1 f0 f1 hst9
                go_wp2_with (at_builtin; refine wpl_run2 _ _ rfl (by simp [Act.eval]) (by simp [Act.eval]) hrun ?_)
                go_roundw
                case rel => exact HPJ.out
                case measure => simp [intOf]; omega
              · go_wp2_with (go_at_call 18; refine hst9.mono ?_; rintro e w1 ⟨rfl, hb9⟩; refine Hid.out ?_)
                refine Lib.hid ?_
                have b9 : Below V.heap.size V w1 := QT.out.bl.trans (hb9.mono QT.out.bl.size)
                have HPJ := Lib.hid (pj_less HP.out HQ.out (by omega) HO.out HJV.out HBW.out hi' b9)
                clear b9 hb9 z0 z1 f0 f1 hst9
                go_wp2
                go_roundw
                case rel => exact HPJ.out
                case measure => simp [intOf]; omega
            · have hd2 : ¬ (cb b y > 0) := hd
              go_wp2
              go_quiet ((go_at_call 18; exact hst2 _))
              go_upto_region 10 with fail
              obtain ⟨X2, hX2⟩ : ∃ X2, X2 = X1.drewN nq := ⟨_, rfl⟩
              have QT2 : Hid (Qt V X2 Z x b) := Lib.hid (by rw [hX2]; exact QT.out.drew nq)
              rw [← hX2]
              clear z0 z1 f0 f1 c3 hst2 QT hX2
              have QT := QT2
              clear QT2
              have HP : Hid (loB L a i = x) := Lib.hid (by unfold loB maxB; rw [if_pos i0, HA.out, if_pos hc])
              have HQ : Hid (hiB L b i = b) := Lib.hid (by unfold hiB minB; rw [if_pos i1, HA2.out, if_neg (by omega)])
              have z0 : X2.cell? ⟨Z, 0, none⟩ = some (.string x) := cell_blk QT.out.one 0
              have z1 : X2.cell? ⟨Z, 1, none⟩ = some (.string b) := cell_blk QT.out.one 1
              have f0 : X2.frozen? ⟨Z, 0, none⟩ = false := frozen_blk QT.out.one 0
              have f1 : X2.frozen? ⟨Z, 1, none⟩ = false := frozen_blk QT.out.one 1
              have hst9 := stands_any x b X2 hxz hb
              by_cases hc9 : cb x b < 0
              · go_wp2_with (go_at_call 18; refine hst9.mono ?_; rintro e w1 ⟨rfl, hb9⟩; refine Hid.out ?_)
                refine Lib.hid ?_
                have b9 : Below V.heap.size V w1 := QT.out.bl.trans (hb9.mono QT.out.bl.size)
                have z2 := cell_on hb9 z0
                have z3 := cell_on hb9 z1
                obtain ⟨ad9, cap9, w9, hrun, hpj⟩ := pj_add HP.out HQ.out hc9 HYY.out HO.out HJV.out HBW.out hi' hn b9
                have HPJ := Lib.hid hpj
                clear hpj b9 hb9 z0 z1 f0 f1 hst9
                go_wp2_with (at_builtin; refine wpl_run2 _ _ rfl (by simp [Act.eval]) (by simp [Act.eval]) hrun ?_)
                go_roundw
                case rel => exact HPJ.out
                case measure => simp [intOf]; omega
              · go_wp2_with (go_at_call 18; refine hst9.mono ?_; rintro e w1 ⟨rfl, hb9⟩; refine Hid.out ?_)
                refine Lib.hid ?_
                have b9 : Below V.heap.size V w1 := QT.out.bl.trans (hb9.mono QT.out.bl.size)
                have HPJ := Lib.hid (pj_less HP.out HQ.out (by omega) HO.out HJV.out HBW.out hi' b9)
                clear b9 hb9 z0 z1 f0 f1 hst9
                go_wp2
                go_roundw
                case rel => exact HPJ.out
                case measure => simp [intOf]; omega
          · have k3 : ¬ ((i : Int) < L.length) := by omega
            have z0 : X1.cell? ⟨Z, 0, none⟩ = some (.string x) := cell_blk QT.out.one 0
            have z1 : X1.cell? ⟨Z, 1, none⟩ = some (.string b) := cell_blk QT.out.one 1
            have f0 : X1.frozen? ⟨Z, 0, none⟩ = false := frozen_blk QT.out.one 0
            have f1 : X1.frozen? ⟨Z, 1, none⟩ = false := frozen_blk QT.out.one 1
            go_wp2
            go_quiet (fail)
            go_upto_region 10 with fail
            obtain ⟨X2, hX2⟩ : ∃ X2, X2 = X1.drewN nq := ⟨_, rfl⟩
            have QT2 : Hid (Qt V X2 Z x b) := Lib.hid (by rw [hX2]; exact QT.out.drew nq)
            rw [← hX2]
            clear z0 z1 f0 f1 QT hX2
            have QT := QT2
            clear QT2
            have HP : Hid (loB L a i = x) := Lib.hid (by unfold loB maxB; rw [if_pos i0, HA.out, if_pos hc])
            have HQ : Hid (hiB L b i = b) := Lib.hid (by unfold hiB; rw [if_neg i1])
            have z0 : X2.cell? ⟨Z, 0, none⟩ = some (.string x) := cell_blk QT.out.one 0
            have z1 : X2.cell? ⟨Z, 1, none⟩ = some (.string b) := cell_blk QT.out.one 1
            have f0 : X2.frozen? ⟨Z, 0, none⟩ = false := frozen_blk QT.out.one 0
            have f1 : X2.frozen? ⟨Z, 1, none⟩ = false := frozen_blk QT.out.one 1
            have hst9 := stands_any x b X2 hxz hb
            by_cases hc9 : cb x b < 0
            · go_wp2_with (go_at_call 18; refine hst9.mono ?_; rintro e w1 ⟨rfl, hb9⟩; refine Hid.out ?_)
              refine Lib.hid ?_
              have b9 : Below V.heap.size V w1 := QT.out.bl.trans (hb9.mono QT.out.bl.size)
              have z2 := cell_on hb9 z0
              have z3 := cell_on hb9 z1
              obtain ⟨ad9, cap9, w9, hrun, hpj⟩ := pj_add HP.out HQ.out hc9 HYY.out HO.out HJV.out HBW.out hi' hn b9
              have HPJ := Lib.hid hpj
              clear hpj b9 hb9 z0 z1 f0 f1 hst9
              go_wp2_with (at_builtin; refine wpl_run2 _ _ rfl (by simp [Act.eval]) (by simp [Act.eval]) hrun ?_)
              go_roundw
              case rel => exact HPJ.out
              case measure => simp [intOf]; omega
            · go_wp2_with (go_at_call 18; refine hst9.mono ?_; rintro e w1 ⟨rfl, hb9⟩; refine Hid.out ?_)
              refine Lib.hid ?_
              have b9 : Below V.heap.size V w1 := QT.out.bl.trans (hb9.mono QT.out.bl.size)
              have HPJ := Lib.hid (pj_less HP.out HQ.out (by omega) HO.out HJV.out HBW.out hi' b9)
              clear b9 hb9 z0 z1 f0 f1 hst9
              go_wp2
              go_roundw
              case rel => exact HPJ.out
              case measure => simp [intOf]; omega
        · go_quiet ((go_at_call 18; exact hst _))
          go_upto_region 8 with fail
          obtain ⟨X1, hX1⟩ : ∃ X1, X1 = W1.drewN nq := ⟨_, rfl⟩
          have QT2 : Hid (Qt V X1 Z a b) := Lib.hid (by rw [hX1]; exact QT.out.drew nq)
          rw [← hX1]
          clear z0 z1 f0 f1 c1 hst QT hX1
          have QT := QT2
          clear QT2
          by_cases i1 : i < L.length
          · obtain ⟨b2, o2, e2, hbl2, c2⟩ := H3.out i i1
            cases e2
            obtain ⟨y, hy⟩ : ∃ y, L[i] = y := ⟨_, rfl⟩
            have hyz : y.size ≤ maxLen := by rw [← hy]; exact hs.at' _ (List.getElem_mem _)
            have ha2 : atB L i = y := by rw [atB_get i1, hy]
            rw [hy] at c2
            have c3 : X1.cell? ⟨bb, o + i, none⟩ = some (.string y) := cell_on QT.out.bl (cell_on HBW.out c2)
            have k3 : (i : Int) < L.length := by omega
            have hst2 := fun n => stands_q hb hyz X1 n
            have HA2 := Lib.hid ha2
            clear c2 hy ha2
            have z0 : X1.cell? ⟨Z, 0, none⟩ = some (.string a) := cell_blk QT.out.one 0
            have z1 : X1.cell? ⟨Z, 1, none⟩ = some (.string b) := cell_blk QT.out.one 1
            have f0 : X1.frozen? ⟨Z, 0, none⟩ = false := frozen_blk QT.out.one 0
            have f1 : X1.frozen? ⟨Z, 1, none⟩ = false := frozen_blk QT.out.one 1
            by_cases hd : 0 < cb b y
            · have hd2 : cb b y > 0 := hd
              go_wp2
              go_quiet ((go_at_call 18; exact hst2 _))
              have z1' : (X1.drewN nq).cell? ⟨Z, 1, none⟩ = some (.string b) := z1
              go_upto_region 10 with fail
              obtain ⟨X2, hX2⟩ : ∃ X2, X2 = (X1.drewN nq).setCell ⟨Z, 1, none⟩ (.string y) := ⟨_, rfl⟩
              have QT2 : Hid (Qt V X2 Z a y) := Lib.hid (by rw [hX2]; exact (QT.out.drew nq).set1 y)
              rw [← hX2]
              clear z0 z1 f0 f1 c3 hst2 z1' QT hX2
              have QT := QT2
              clear QT2
              have HP : Hid (loB L a i = a) := Lib.hid (by unfold loB maxB; rw [if_pos i0, HA.out, if_neg (by omega)])
              have HQ : Hid (hiB L b i = y) := Lib.hid (by unfold hiB minB; rw [if_pos i1, HA2.out, if_pos hd])
              have z0 : X2.cell? ⟨Z, 0, none⟩ = some (.string a) := cell_blk QT.out.one 0
              have z1 : X2.cell? ⟨Z, 1, none⟩ = some (.string y) := cell_blk QT.out.one 1
              have f0 : X2.frozen? ⟨Z, 0, none⟩ = false := frozen_blk QT.out.one 0
              have f1 : X2.frozen? ⟨Z, 1, none⟩ = false := frozen_blk QT.out.one 1
              have hst9 := stands_any a y X2 ha hyz
              by_cases hc9 : cb a y < 0
              · go_wp2_with (go_at_call 18; refine hst9.mono ?_; rintro e w1 ⟨rfl, hb9⟩; refine Hid.out ?_)
                refine Lib.hid ?_
                have b9 : Below V.heap.size V w1 := QT.out.bl.trans (hb9.mono QT.out.bl.size)
                have z2 := cell_on hb9 z0
                have z3 := cell_on hb9 z1
                obtain ⟨ad9, cap9, w9, hrun, hpj⟩ := pj_add HP.out HQ.out hc9 HYY.out HO.out HJV.out HBW.out hi' hn b9
                have HPJ := Lib.hid hpj
                clear hpj b9 hb9 z0 z1 f0 f1 hst9
                go_wp2_with (at_builtin; refine wpl_run2 _ _ rfl (by simp [Act.eval]) (by simp [Act.eval]) hrun ?_)
                go_roundw
                case rel => exact HPJ.out
                case measure => simp [intOf]; omega
              · go_wp2_with (go_at_call 18; refine hst9.mono ?_; rintro e w1 ⟨rfl, hb9⟩; refine Hid.out ?_)
                refine Lib.hid ?_
                have b9 : Below V.heap.size V w1 := QT.out.bl.trans (hb9.mono QT.out.bl.size)
                have HPJ := Lib.hid (pj_less HP.out HQ.out (by omega) HO.out HJV.out HBW.out hi' b9)
                clear b9 hb9 z0 z1 f0 f1 hst9
                go_wp2
                go_roundw
                case rel => exact HPJ.out
                case measure => simp [intOf]; omega
            · have hd2 : ¬ (cb b y > 0) := hd
              go_wp2
              go_quiet ((go_at_call 18; exact hst2 _))
              go_upto_region 10 with fail
              obtain ⟨X2, hX2⟩ : ∃ X2, X2 = X1.drewN nq := ⟨_, rfl⟩
              have QT2 : Hid (Qt V X2 Z a b) := Lib.hid (by rw [hX2]; exact QT.out.drew nq)
              rw [← hX2]
              clear z0 z1 f0 f1 c3 hst2 QT hX2
              have QT := QT2
              clear QT2
              have HP : Hid (loB L a i = a) := Lib.hid (by unfold loB maxB; rw [if_pos i0, HA.out, if_neg (by omega)])
              have HQ : Hid (hiB L b i = b) := Lib.hid (by unfold hiB minB; rw [if_pos i1, HA2.out, if_neg (by omega)])
              have z0 : X2.cell? ⟨Z, 0, none⟩ = some (.string a) := cell_blk QT.out.one 0
              have z1 : X2.cell? ⟨Z, 1, none⟩ = some (.string b) := cell_blk QT.out.one 1
              have f0 : X2.frozen? ⟨Z, 0, none⟩ = false := frozen_blk QT.out.one 0
              have f1 : X2.frozen? ⟨Z, 1, none⟩ = false := frozen_blk QT.out.one 1
              have hst9 := stands_any a b X2 ha hb
              by_cases hc9 : cb a b < 0
              · go_wp2_with (go_at_call 18; refine hst9.mono ?_; rintro e w1 ⟨rfl, hb9⟩; refine Hid.out ?_)
                refine Lib.hid ?_
                have b9 : Below V.heap.size V w1 := QT.out.bl.trans (hb9.mono QT.out.bl.size)
                have z2 := cell_on hb9 z0
                have z3 := cell_on hb9 z1
                obtain ⟨ad9, cap9, w9, hrun, hpj⟩ := pj_add HP.out HQ.out hc9 HYY.out HO.out HJV.out HBW.out hi' hn b9
                have HPJ := Lib.hid hpj
                clear hpj b9 hb9 z0 z1 f0 f1 hst9
                go_wp2_with (at_builtin; refine wpl_run2 _ _ rfl (by simp [Act.eval]) (by simp [Act.eval]) hrun ?_)
                go_roundw
                case rel => exact HPJ.out
                case measure => simp [intOf]; omega
              · go_wp2_with (go_at_call 18; refine hst9.mono ?_; rintro e w1 ⟨rfl, hb9⟩; refine Hid.out ?_)
                refine Lib.hid ?_
                have b9 : Below V.heap.size V w1 := QT.out.bl.trans (hb9.mono QT.out.bl.size)
                have HPJ := Lib.hid (pj_less HP.out HQ.out (by omega) HO.out HJV.out HBW.out hi' b9)
                clear b9 hb9 z0 z1 f0 f1 hst9
                go_wp2
                go_roundw
                case rel => exact HPJ.out
                case measure => simp [intOf]; omega
          · have k3 : ¬ ((i : Int) < L.length) := by omega
            have z0 : X1.cell? ⟨Z, 0, none⟩ = some (.string a) := cell_blk QT.out.one 0
            have z1 : X1.cell? ⟨Z, 1, none⟩ = some (.string b) := cell_blk QT.out.one 1
            have f0 : X1.frozen? ⟨Z, 0, none⟩ = false := frozen_blk QT.out.one 0
            have f1 : X1.frozen? ⟨Z, 1, none⟩ = false := frozen_blk QT.out.one 1
            go_wp2
            go_quiet (fail)
            go_upto_region 10 with fail
            obtain ⟨X2, hX2⟩ : ∃ X2, X2 = X1.drewN nq := ⟨_, rfl⟩
            have QT2 : Hid (Qt V X2 Z a b) := Lib.hid (by rw [hX2]; exact QT.out.drew nq)
            rw [← hX2]
            clear z0 z1 f0 f1 QT hX2
            have QT := QT2
            clear QT2
            have HP : Hid (loB L a i = a) := Lib.hid (by unfold loB maxB; rw [if_pos i0, HA.out, if_neg (by omega)])
            have HQ : Hid (hiB L b i = b) := Lib.hid (by unfold hiB; rw [if_neg i1])
            have z0 : X2.cell? ⟨Z, 0, none⟩ = some (.string a) := cell_blk QT.out.one 0
            have z1 : X2.cell? ⟨Z, 1, none⟩ = some (.string b) := cell_blk QT.out.one 1
            have f0 : X2.frozen? ⟨Z, 0, none⟩ = false := frozen_blk QT.out.one 0
            have f1 : X2.frozen? ⟨Z, 1, none⟩ = false := frozen_blk QT.out.one 1
            have hst9 := stands_any a b X2 ha hb
            by_cases hc9 : cb a b < 0
            · go_wp2_with (go_at_call 18; refine hst9.mono ?_; rintro e w1 ⟨rfl, hb9⟩; refine Hid.out ?_)
              refine Lib.hid ?_
              have b9 : Below V.heap.size V w1 := QT.out.bl.trans (hb9.mono QT.out.bl.size)
              have z2 := cell_on hb9 z0
              have z3 := cell_on hb9 z1
              obtain ⟨ad9, cap9, w9, hrun, hpj⟩ := pj_add HP.out HQ.out hc9 HYY.out HO.out HJV.out HBW.out hi' hn b9
              have HPJ := Lib.hid hpj
              clear hpj b9 hb9 z0 z1 f0 f1 hst9
              go_wp2_with (at_builtin; refine wpl_run2 _ _ rfl (by simp [Act.eval]) (by simp [Act.eval]) hrun ?_)
              go_roundw
              case rel => exact HPJ.out
              case measure => simp [intOf]; omega
            · go_wp2_with (go_at_call 18; refine hst9.mono ?_; rintro e w1 ⟨rfl, hb9⟩; refine Hid.out ?_)
              refine Lib.hid ?_
              have b9 : Below V.heap.size V w1 := QT.out.bl.trans (hb9.mono QT.out.bl.size)
              have HPJ := Lib.hid (pj_less HP.out HQ.out (by omega) HO.out HJV.out HBW.out hi' b9)
              clear b9 hb9 z0 z1 f0 f1 hst9
              go_wp2
              go_roundw
              case rel => exact HPJ.out
              case measure => simp [intOf]; omega
      · have k0 : ¬ ((i : Int) > 0) := by omega
        go_quiet (fail)
        go_upto_region 8 with fail
        obtain ⟨X1, hX1⟩ : ∃ X1, X1 = W1.drewN nq := ⟨_, rfl⟩
        have QT2 : Hid (Qt V X1 Z a b) := Lib.hid (by rw [hX1]; exact QT.out.drew nq)
        rw [← hX1]
        clear QT hX1
        have QT := QT2
        clear QT2
        by_cases i1 : i < L.length
        · obtain ⟨b2, o2, e2, hbl2, c2⟩ := H3.out i i1
          subst e2
          obtain ⟨y, hy⟩ : ∃ y, L[i] = y := ⟨_, rfl⟩
          have hyz : y.size ≤ maxLen := by rw [← hy]; exact hs.at' _ (List.getElem_mem _)
          have ha2 : atB L i = y := by rw [atB_get i1, hy]
          rw [hy] at c2
          have c3 : X1.cell? ⟨b2, o2 + i, none⟩ = some (.string y) := cell_on QT.out.bl (cell_on HBW.out c2)
          have k3 : (i : Int) < L.length := by omega
          have hst2 := fun n => stands_q hb hyz X1 n
          have HA2 := Lib.hid ha2
          clear c2 hy ha2
          have z0 : X1.cell? ⟨Z, 0, none⟩ = some (.string a) := cell_blk QT.out.one 0
          have z1 : X1.cell? ⟨Z, 1, none⟩ = some (.string b) := cell_blk QT.out.one 1
          have f0 : X1.frozen? ⟨Z, 0, none⟩ = false := frozen_blk QT.out.one 0
          have f1 : X1.frozen? ⟨Z, 1, none⟩ = false := frozen_blk QT.out.one 1
          by_cases hd : 0 < cb b y
          · have hd2 : cb b y > 0 := hd
            go_wp2
            go_quiet ((go_at_call 18; exact hst2 _))
            have z1' : (X1.drewN nq).cell? ⟨Z, 1, none⟩ = some (.string b) := z1
            go_upto_region 10 with fail
            obtain ⟨X2, hX2⟩ : ∃ X2, X2 = (X1.drewN nq).setCell ⟨Z, 1, none⟩ (.string y) := ⟨_, rfl⟩
            have QT2 : Hid (Qt V X2 Z a y) := Lib.hid (by rw [hX2]; exact (QT.out.drew nq).set1 y)
            rw [← hX2]
            clear z0 z1 f0 f1 c3 hst2 z1' QT hX2
            have QT := QT2
            clear QT2
            have HP : Hid (loB L a i = a) := Lib.hid (by unfold loB; rw [if_neg i0])
            have HQ : Hid (hiB L b i = y) := Lib.hid (by unfold hiB minB; rw [if_pos i1, HA2.out, if_pos hd])
            have z0 : X2.cell? ⟨Z, 0, none⟩ = some (.string a) := cell_blk QT.out.one 0
            have z1 : X2.cell? ⟨Z, 1, none⟩ = some (.string y) := cell_blk QT.out.one 1
            have f0 : X2.frozen? ⟨Z, 0, none⟩ = false := frozen_blk QT.out.one 0
            have f1 : X2.frozen? ⟨Z, 1, none⟩ = false := frozen_blk QT.out.one 1
            have hst9 := stands_any a y X2 ha hyz
            by_cases hc9 : cb a y < 0
            · go_wp2_with (go_at_call 18; refine hst9.mono ?_; rintro e w1 ⟨rfl, hb9⟩; refine Hid.out ?_)
              refine Lib.hid ?_
              have b9 : Below V.heap.size V w1 := QT.out.bl.trans (hb9.mono QT.out.bl.size)
              have z2 := cell_on hb9 z0
              have z3 := cell_on hb9 z1
              obtain ⟨ad9, cap9, w9, hrun, hpj⟩ := pj_add HP.out HQ.out hc9 HYY.out HO.out HJV.out HBW.out hi' hn b9
              have HPJ := Lib.hid hpj
              clear hpj b9 hb9 z0 z1 f0 f1 hst9
              go_wp2_with (at_builtin; refine wpl_run2 _ _ rfl (by simp [Act.eval]) (by simp [Act.eval]) hrun ?_)
              go_roundw
              case rel => exact HPJ.out
              case measure => simp [intOf]; omega
            · go_wp2_with (go_at_call 18; refine hst9.mono ?_; rintro e w1 ⟨rfl, hb9⟩; refine Hid.out ?_)
              refine Lib.hid ?_
              have b9 : Below V.heap.size V w1 := QT.out.bl.trans (hb9.mono QT.out.bl.size)
              have HPJ := Lib.hid (pj_less HP.out HQ.out (by omega) HO.out HJV.out HBW.out hi' b9)
              clear b9 hb9 z0 z1 f0 f1 hst9
              go_wp2
              go_roundw
              case rel => exact HPJ.out
              case measure => simp [intOf]; omega
          · have hd2 : ¬ (cb b y > 0) := hd
            go_wp2
            go_quiet ((go_at_call 18; exact hst2 _))
            go_upto_region 10 with fail
            obtain ⟨X2, hX2⟩ : ∃ X2, X2 = X1.drewN nq := ⟨_, rfl⟩
            have QT2 : Hid (Qt V X2 Z a b) := Lib.hid (by rw [hX2]; exact QT.out.drew nq)
            rw [← hX2]
            clear z0 z1 f0 f1 c3 hst2 QT hX2
            have QT := QT2
            clear QT2
            have HP : Hid (loB L a i = a) := Lib.hid (by unfold loB; rw [if_neg i0])
            have HQ : Hid (hiB L b i = b) := Lib.hid (by unfold hiB minB; rw [if_pos i1, HA2.out, if_neg (by omega)])
            have z0 : X2.cell? ⟨Z, 0, none⟩ = some (.string a) := cell_blk QT.out.one 0
            have z1 : X2.cell? ⟨Z, 1, none⟩ = some (.string b) := cell_blk QT.out.one 1
            have f0 : X2.frozen? ⟨Z, 0, none⟩ = false := frozen_blk QT.out.one 0
            have f1 : X2.frozen? ⟨Z, 1, none⟩ = false := frozen_blk QT.out.one 1
            have hst9 := stands_any a b X2 ha hb
            by_cases hc9 : cb a b < 0
            · go_wp2_with (go_at_call 18; refine hst9.mono ?_; rintro e w1 ⟨rfl, hb9⟩; refine Hid.out ?_)
              refine Lib.hid ?_
              have b9 : Below V.heap.size V w1 := QT.out.bl.trans (hb9.mono QT.out.bl.size)
              have z2 := cell_on hb9 z0
              have z3 := cell_on hb9 z1
              obtain ⟨ad9, cap9, w9, hrun, hpj⟩ := pj_add HP.out HQ.out hc9 HYY.out HO.out HJV.out HBW.out hi' hn b9
              have HPJ := Lib.hid hpj
              clear hpj b9 hb9 z0 z1 f0 f1 hst9
              go_wp2_with (at_builtin; refine wpl_run2 _ _ rfl (by simp [Act.eval]) (by simp [Act.eval]) hrun ?_)
              go_roundw
              case rel => exact HPJ.out
              case measure => simp [intOf]; omega
            · go_wp2_with (go_at_call 18; refine hst9.mono ?_; rintro e w1 ⟨rfl, hb9⟩; refine Hid.out ?_)
              refine Lib.hid ?_
              have b9 : Below V.heap.size V w1 := QT.out.bl.trans (hb9.mono QT.out.bl.size)
              have HPJ := Lib.hid (pj_less HP.out HQ.out (by omega) HO.out HJV.out HBW.out hi' b9)
              clear b9 hb9 z0 z1 f0 f1 hst9
              go_wp2
              go_roundw
              case rel => exact HPJ.out
              case measure => simp [intOf]; omega
        · have k3 : ¬ ((i : Int) < L.length) := by omega
          have z0 : X1.cell? ⟨Z, 0, none⟩ = some (.string a) := cell_blk QT.out.one 0
          have z1 : X1.cell? ⟨Z, 1, none⟩ = some (.string b) := cell_blk QT.out.one 1
          have f0 : X1.frozen? ⟨Z, 0, none⟩ = false := frozen_blk QT.out.one 0
          have f1 : X1.frozen? ⟨Z, 1, none⟩ = false := frozen_blk QT.out.one 1
          go_wp2
          go_quiet (fail)
          go_upto_region 10 with fail
          obtain ⟨X2, hX2⟩ : ∃ X2, X2 = X1.drewN nq := ⟨_, rfl⟩
          have QT2 : Hid (Qt V X2 Z a b) := Lib.hid (by rw [hX2]; exact QT.out.drew nq)
          rw [← hX2]
          clear z0 z1 f0 f1 QT hX2
          have QT := QT2
          clear QT2
          have HP : Hid (loB L a i = a) := Lib.hid (by unfold loB; rw [if_neg i0])
          have HQ : Hid (hiB L b i = b) := Lib.hid (by unfold hiB; rw [if_neg i1])
          have z0 : X2.cell? ⟨Z, 0, none⟩ = some (.string a) := cell_blk QT.out.one 0
          have z1 : X2.cell? ⟨Z, 1, none⟩ = some (.string b) := cell_blk QT.out.one 1
          have f0 : X2.frozen? ⟨Z, 0, none⟩ = false := frozen_blk QT.out.one 0
          have f1 : X2.frozen? ⟨Z, 1, none⟩ = false := frozen_blk QT.out.one 1
          have hst9 := stands_any a b X2 ha hb
          by_cases hc9 : cb a b < 0
          · go_wp2_with (go_at_call 18; refine hst9.mono ?_; rintro e w1 ⟨rfl, hb9⟩; refine Hid.out ?_)
            refine Lib.hid ?_
            have b9 : Below V.heap.size V w1 := QT.out.bl.trans (hb9.mono QT.out.bl.size)
            have z2 := cell_on hb9 z0
            have z3 := cell_on hb9 z1
            obtain ⟨ad9, cap9, w9, hrun, hpj⟩ := pj_add HP.out HQ.out hc9 HYY.out HO.out HJV.out HBW.out hi' hn b9
            have HPJ := Lib.hid hpj
            clear hpj b9 hb9 z0 z1 f0 f1 hst9
            go_wp2_with (at_builtin; refine wpl_run2 _ _ rfl (by simp [Act.eval]) (by simp [Act.eval]) hrun ?_)
            go_roundw
            case rel => exact HPJ.out
            case measure => simp [intOf]; omega
          · go_wp2_with (go_at_call 18; refine hst9.mono ?_; rintro e w1 ⟨rfl, hb9⟩; refine Hid.out ?_)
            refine Lib.hid ?_
            have b9 : Below V.heap.size V w1 := QT.out.bl.trans (hb9.mono QT.out.bl.size)
            have HPJ := Lib.hid (pj_less HP.out HQ.out (by omega) HO.out HJV.out HBW.out hi' b9)
            clear b9 hb9 z0 z1 f0 f1 hst9
            go_wp2
            go_roundw
            case rel => exact HPJ.out
            case measure => simp [intOf]; omega
    · have k1 : ¬ ((i : Int) ≤ (L.length : Int)) := by omega
      have e : i = L.length + 1 := by omega
      subst e
      have HO := Lib.hid ho
      have HBW := Lib.hid hbw
      clear ho hj hbw
      go_wp2
      refine bodyPost_ret (v := .slice oad (partsB L a b (L.length + 1)).length ocap) (by simp [results, Try.results15, go_sem]) rfl ?_
      exact ⟨oad, ocap, rfl, own_mono HO.out (by have := HYY.out; omega), HBW.out⟩
end
end Go.Proofs.Ytonncfdkdibggaa
