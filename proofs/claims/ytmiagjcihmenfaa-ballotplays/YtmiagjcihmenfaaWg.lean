/- The walk of the document's heard where a node was fed. -/
import Derived.Test.YtmiagjcihmenfaaWf
namespace Go.Proofs.Ytmiagjcihmenfaa
open Go.RowKit

section
variable {w w' W V : World} {A : Nat} {S T : Nat → Prop} {b c : Bs}
theorem settle_same (b : Bs) : b.settle.mat = b.mat ∧ b.settle.next = b.next ∧ b.settle.last = b.last ∧ b.settle.size = b.size ∧ b.settle.out.length ≤ b.out.length + b.size := by
  have h := settleC_same b
  have e := Bs.settle_eq b
  refine ⟨by rw [e]; exact h.1, by rw [e]; exact h.2.1, by rw [e]; exact h.2.2.1, by rw [e]; exact h.2.2.2.2.2, ?_⟩
  unfold Bs.settle
  split
  · exact feedTo_out _ _
  · omega
theorem heard_good_is (m : Ms) {f : Nat} (hft : m.fr.toNat = f) (hr : b.role = 2) (hg : m.good = true) (hnx : b.next.length = 5) (hmt : b.mat.length = 5) (hf : f < 5) {X : Bs} (hX : b.more f m.index = X) {x : Int} (hx : max (b.mat.getD f 0) (min m.index b.last) = x) :
    b.heard m = if b.mat.getD f 0 < x ∧ x + 1 ≤ b.last then X.settle.feed f else X.settle := by
  have hs := settle_same X
  have e1 : X.mat = b.mat.set f x := by rw [← hX, ← hx]; rfl
  have e2 : X.next = b.next.set f (x + 1) := by rw [← hX, ← hx]; rfl
  have e3 : X.last = b.last := by rw [← hX]; rfl
  have a1 : X.settle.mat.getD f 0 = x := by rw [hs.1, e1, getD_setI _ _ _ _ (by rw [hmt]; exact hf), if_pos rfl]
  have a2 : X.settle.next.getD f 0 = x + 1 := by rw [hs.2.1, e2, getD_setI _ _ _ _ (by rw [hnx]; exact hf), if_pos rfl]
  unfold Bs.heard
  rw [if_pos hr, if_pos hg, hft, hX, a1, a2, hs.2.2.1, e3]
theorem Rt.end' {w1 : World} {S1 : Nat → Prop} {b1 : Bs} (h2 : ∀ k, S1 k → Gro S w w1 k) (h3 : Fr w w1 S) (h : Rb w1 A S1 b1) (hb : Below w1.heap.size w1 w') : Rt w w' A S b1 := Rt.comb h2 h3 (Rt.same h hb)
set_option maxHeartbeats 8000000 in
set_option maxRecDepth 100000 in
theorem heard_good (h : Rb w A S b) (hI : Bs.Inv b) (hld : b.Ld) (m : Ms) (mad : Option Addr) (mcap : Nat) (hout : b.out.length < 600000) (hn : Nb b) (h0 : 0 ≤ m.fr) (h1 : m.fr < b.size) (hr : b.role = 2) (hg : m.good = true) : Calls Try.prog 65 #[.pointer (some ⟨A, 0, none⟩), msV m (.slice mad m.list.length mcap)] w fun e w' => e = .returned (.tuple #[]) ∧ Rt w w' A S (b.heard m) := by
  obtain ⟨W, hW⟩ : ∃ W, W = w.alloc (.cells (msCs m (.slice mad m.list.length mcap)) 34) := ⟨_, rfl⟩
  obtain ⟨Y, hY⟩ : ∃ Y, w.heap.size = Y := ⟨_, rfl⟩
  have hb : Below w.heap.size w W := by rw [hW]; exact (Below.refl _ w).alloc (Nat.le_refl _) _
  have jY : W.heap[Y]? = some (.cells (msCs m (.slice mad m.list.length mcap)) 34 (0, 0)) := by rw [hW, ← hY]; exact heap_alloc_new w _
  have hA := h.on hb
  have hAlt : A < w.heap.size := by obtain ⟨_, _, _, q⟩ := h; exact q.lt A q.covA
  have hYA : Y ≠ A := by omega
  have hAY : A ≠ Y := by omega
  obtain ⟨f, hf⟩ : ∃ f : Nat, m.fr = f := ⟨m.fr.toNat, by omega⟩
  have hfs : f < b.size := by omega
  have hs5 := hI.sz
  have hf5 : f < 5 := by omega
  have hnx5 := hI.nx
  have hmt5 := hI.mt
  have hl3 := hld.lo f hfs
  have hl2 := hld.mt f hfs
  obtain ⟨ll1, bb0, bb1⟩ := h.len
  have hll : b.last ≤ 4398047411104 := by unfold Bs.last; omega
  obtain ⟨X, hX⟩ : ∃ X, b.more f m.index = X := ⟨_, rfl⟩
  obtain ⟨x, hx⟩ : ∃ x, max (b.mat.getD f 0) (min m.index b.last) = x := ⟨_, rfl⟩
  have heq := heard_good_is (b := b) m (f := f) (by omega) hr hg hnx5 hmt5 hf5 hX hx
  have hXn : X = { { b with mat := b.mat.set f x } with next := b.next.set f (x + 1) } := by rw [← hX, ← hx]; rfl
  have hlast := fun n => last_any (hA.drewN n)
  have hv := hA
  obtain ⟨lv, ov, O, hv⟩ := hv
  have cm := hv.matc hf5
  have c4 : W.cell? ⟨A, 4, none⟩ = some (.int .i64 b.role) := hv.cell 4
  have m1 : W.cell? ⟨Y, 1, none⟩ = some (.int .i64 m.fr) := cell_blk jY 1
  have m4 : W.cell? ⟨Y, 4, none⟩ = some (.int .i64 m.index) := cell_blk jY 4
  have m7 : W.cell? ⟨Y, 7, none⟩ = some (.bool m.good) := cell_blk jY 7
  have fm : W.frozen? ⟨A, 20 + f, none⟩ = false := frozen_blk hv.ob _
  obtain ⟨mt, hmtt⟩ : ∃ mt, b.mat.getD f 0 = mt := ⟨_, rfl⟩
  obtain ⟨La, hLa⟩ : ∃ La, b.last = La := ⟨_, rfl⟩
  rw [hmtt] at cm hl2 hl3 heq hx
  rw [hLa] at hlast heq hx hl2 hll
  have hX0 : x ≤ La ∧ 0 ≤ x := by omega
  have hnbX : Nb X := by
    rw [hXn]
    exact nb_set hnx5 hf5 hn (by omega)
  have hoX : X.out.length = b.out.length := by rw [hXn]
  have hzX : X.size = b.size := by rw [hXn]
  have hlX : X.last = La := by rw [hXn, ← hLa]; rfl
  have hs := settle_same X
  have aM : X.settle.mat.getD f 0 = x := by rw [hs.1, hXn]; show (b.mat.set f x).getD f 0 = x; rw [getD_setI _ _ _ _ (by rw [hmt5]; exact hf5), if_pos rfl]
  have aN : X.settle.next.getD f 0 = x + 1 := by rw [hs.2.1, hXn]; show (b.next.set f (x + 1)).getD f 0 = x + 1; rw [getD_setI _ _ _ _ (by rw [hnx5]; exact hf5), if_pos rfl]
  have aL : X.settle.last = La := by rw [hs.2.2.1, hlX]
  have hnbZ : Nb X.settle := by unfold Nb; rw [hs.2.1]; exact hnbX
  have hoZ : X.settle.out.length < 900000 := by have := hs.2.2.2.2; rw [hoX, hzX] at this; omega
  have hbcX : X.base ≤ X.commit := by rw [hXn]; exact hI.bc
  have hclX : X.commit ≤ X.last := by rw [hlX, hXn, ← hLa]; exact hI.cl
  -- the first store
  have hst1 : ∀ n, Hid (Rb ((W.drewN n).setCell ⟨A, 20 + f, none⟩ (.int .i64 x)) A S { b with mat := b.mat.set f x } ∧ Fr w ((W.drewN n).setCell ⟨A, 20 + f, none⟩ (.int .i64 x)) S) := by
    intro n
    obtain ⟨r1, r2⟩ := (hA.drewN n).mat_set hf5 hmt5 x
    exact ⟨r1, ((Fr.ofBelow S hb).drewN n).trans r2⟩
  have i3 : IntKind.i64.wrap (x + 1) = x + 1 := by rw [IntKind.wrap_i64]; omega
  have f0 : (0 : Int) ≤ f := by omega
  have f5 : (f : Int) < 5 := by omega
  rw [hf] at m1
  rw [hg] at m7
  rw [hr] at c4
  obtain ⟨Z, hZ⟩ : ∃ Z, X.settle = Z := ⟨_, rfl⟩
  obtain ⟨G, hG⟩ : ∃ G, b.heard m = G := ⟨_, rfl⟩
  rw [hZ] at heq aM aN aL hnbZ hoZ
  rw [hG] at heq ⊢
  have hset : ∀ (V2 : World), Rb V2 A S X → Hid (Calls Try.prog 61 #[.pointer (some ⟨A, 0, none⟩)] V2 fun e w' => e = .returned (.tuple #[]) ∧ Hid (Rt V2 w' A S Z)) := by
    intro V2 q
    refine (settle_any q (by omega) (by omega) hnbX hbcX hclX).mono ?_
    rintro e w' ⟨rfl, r⟩
    rw [hZ] at r
    exact ⟨rfl, r⟩
  have HX := Lib.hid hx
  have HW := Lib.hid hW
  have HY := Lib.hid hY
  have HE := Lib.hid heq
  have HXN := Lib.hid hXn
  have HA := Lib.hid hA
  have HSZ := Lib.hid (show Nb Z ∧ Z.out.length < 900000 from ⟨hnbZ, hoZ⟩)
  have HCL := Lib.hid (show Z.mat.getD f 0 = x ∧ Z.next.getD f 0 = x + 1 ∧ Z.last = La from ⟨aM, aN, aL⟩)
  clear hv hb jY hA heq hX hXn hmtt hr hg hf h hx hI hld hW hY hG hnbX hoX hn hl3 hl2 hZ hs hzX hlX hbcX hclX hoZ hnbZ aM aN aL hLa bb0 bb1 ll1
  go_enter Try.func65, Try.ntmps65
  go_upto_region 1 with fail
  rw [← HW.out, HY.out]
  go_upto_region 7 with fail
  go_cut [] (fun wx => ∃ n, wx = (W.drewN n).setCell ⟨A, 20 + f, none⟩ (.int .i64 x))
  case first =>
    by_cases q1 : La < m.index
    · by_cases q2 : La ≤ mt
      · have ex : x = mt := by have := HX.out; omega
        have HEX := Lib.hid ex
        clear ex
        go_region_with (go_at_call 38; refine (hlast 1).mono ?_; rintro e7 w7 ⟨rfl, n2, rfl⟩)
        all_goals
          go_wp2_with fail
          go_meet
          exact ⟨_, by rw [HEX.out]⟩
      · have ex : x = La := by have := HX.out; omega
        have HEX := Lib.hid ex
        clear ex
        go_region_with (go_at_call 38; refine (hlast 1).mono ?_; rintro e7 w7 ⟨rfl, n2, rfl⟩)
        all_goals
          go_wp2_with fail
          go_meet
          exact ⟨_, by rw [HEX.out]⟩
    · by_cases q2 : m.index ≤ mt
      · have ex : x = mt := by have := HX.out; omega
        have HEX := Lib.hid ex
        clear ex
        go_region_with (go_at_call 38; refine (hlast 1).mono ?_; rintro e7 w7 ⟨rfl, n2, rfl⟩)
        all_goals
          go_wp2_with fail
          go_meet
          exact ⟨_, by rw [HEX.out]⟩
      · have ex : x = m.index := by have := HX.out; omega
        have HEX := Lib.hid ex
        clear ex
        go_region_with (go_at_call 38; refine (hlast 1).mono ?_; rintro e7 w7 ⟨rfl, n2, rfl⟩)
        all_goals
          go_wp2_with fail
          go_meet
          exact ⟨_, by rw [HEX.out]⟩
  case rest =>
    obtain ⟨n1, hwc⟩ := hcut
    obtain ⟨hR1, hF1⟩ := (hst1 n1).out
    rw [← hwc] at hR1 hF1
    obtain ⟨V1, rfl⟩ : ∃ V1, V1 = wc := ⟨_, rfl⟩
    have hst2 : ∀ n, Hid (Rb ((V1.drewN n).setCell ⟨A, 15 + f, none⟩ (.int .i64 (x + 1))) A S X ∧ Fr w ((V1.drewN n).setCell ⟨A, 15 + f, none⟩ (.int .i64 (x + 1))) S) := by
      intro n
      obtain ⟨r1, r2⟩ := (hR1.drewN n).next_set hf5 hnx5 (x + 1)
      rw [HXN.out]
      exact ⟨r1, (hF1.drewN n).trans r2⟩
    obtain ⟨lv1, ov1, O1, hv1⟩ := hR1
    have d20 : V1.cell? ⟨A, 20 + f, none⟩ = some (.int .i64 x) := by
      rw [hv1.matc hf5]
      show some (Value.int .i64 ((b.mat.set f x).getD f 0)) = _
      rw [getD_setI _ _ _ _ (by rw [hmt5]; exact hf5), if_pos rfl]
    have d15 := hv1.nextc hf5
    obtain ⟨u0, hu0⟩ : ∃ u0, (b.next.getD f 0) = u0 := ⟨_, rfl⟩
    change V1.cell? ⟨A, 15 + f, none⟩ = some (.int .i64 (b.next.getD f 0)) at d15
    rw [hu0] at d15
    have z15 : V1.frozen? ⟨A, 15 + f, none⟩ = false := frozen_blk hv1.ob _
    clear hwc hst1 hF1 hv1 c4 m1 m4 m7 cm fm hlast hu0
    go_wp2_with fail
    go_cut [] (fun wx => ∃ n, wx = (V1.drewN n).setCell ⟨A, 15 + f, none⟩ (.int .i64 (x + 1)))
    case first =>
      go_region
      go_wp2_with fail
      go_meet
      exact ⟨1, rfl⟩
    case rest =>
      obtain ⟨n2, hwc⟩ := hcut
      obtain ⟨hR2, hF2⟩ := (hst2 n2).out
      rw [← hwc] at hR2 hF2
      obtain ⟨V2, rfl⟩ : ∃ V2, V2 = wc := ⟨_, rfl⟩
      have hs2 := (hset V2 hR2).out
      have HF2 := Lib.hid hF2
      clear hwc hst2 d15 d20 z15 hset hR2 hF2
      go_wp2_with fail
      refine hs2.mono ?_
      rintro e V3 ⟨rfl, q3⟩
      obtain ⟨S3, hR3, hG3, hF3⟩ := Rt.step HF2.out q3.out
      have hlast3 := fun n => last_any (hR3.drewN n)
      obtain ⟨a1, a2, a3⟩ := HCL.out
      rw [a3] at hlast3
      have HR3 := Lib.hid hR3
      have HG3 := Lib.hid hG3
      have HF3 := Lib.hid hF3
      obtain ⟨lv3, ov3, O3, hv3⟩ := hR3
      have g20 := hv3.matc hf5
      have g15 := hv3.nextc hf5
      rw [a1] at g20
      rw [a2] at g15
      obtain ⟨f3, hf3⟩ : ∃ f3, decide (mt < x ∧ x + 1 ≤ La) = f3 := ⟨_, rfl⟩
      have HFF := Lib.hid hf3
      obtain ⟨x1, hx1⟩ : ∃ x1, x + 1 = x1 := ⟨_, rfl⟩
      have HX1 := Lib.hid hx1
      rw [hx1] at g15
      clear hv3 hs2 q3 hG3 hF3 a1 a2 a3 hf3 hx1
      go_wp2_with fail
      go_cut [93] (fun v wx => v = .bool f3 ∧ ∃ n, wx = V3.drewN n)
      case first =>
        by_cases q1 : mt < x
        · have d1 : decide (mt < x) = true := decide_eq_true q1
          by_cases q2 : x1 ≤ La
          · have d2 : decide (x1 ≤ La) = true := decide_eq_true q2
            have hg : f3 = true := HFF.out.symm.trans (decide_eq_true (by have := HX1.out; omega))
            subst hg
            go_quiet ((go_at_call 38; exact Calls.quiet_of (hlast3 _)))
            go_wp2_with fail
            go_meet
            exact ⟨rfl, _, by first | rfl | exact World.drewN_drewN ..⟩
          · have d2 : decide (x1 ≤ La) = false := decide_eq_false q2
            have hg : f3 = false := HFF.out.symm.trans (decide_eq_false (by have := HX1.out; omega))
            subst hg
            go_quiet ((go_at_call 38; exact Calls.quiet_of (hlast3 _)))
            go_wp2_with fail
            go_meet
            exact ⟨rfl, _, by first | rfl | exact World.drewN_drewN ..⟩
        · have d1 : decide (mt < x) = false := decide_eq_false q1
          have hg : f3 = false := HFF.out.symm.trans (decide_eq_false (by omega))
          subst hg
          go_quiet (fail)
          go_wp2_with fail
          go_meet
          exact ⟨rfl, _, by first | rfl | exact World.drewN_drewN ..⟩
      case rest =>
        obtain ⟨rfl, n3, hwc⟩ := hcut
        have bn : Below V3.heap.size V3 (V3.drewN n3) := below_draw (Below.refl V3.heap.size V3) n3
        rw [← hwc] at bn
        obtain ⟨V4, rfl⟩ : ∃ V4, V4 = wc := ⟨_, rfl⟩
        have HBN := Lib.hid bn
        clear hwc bn hlast3 g20 g15
        cases f3 with
        | true =>
          have e : G = Z.feed f := HE.out.trans (if_pos (of_decide_eq_true HFF.out))
          have hs : Calls Try.prog 80 #[.pointer (some ⟨A, 0, none⟩), .int .i64 f] V4 fun e w' => e = .returned (.tuple #[]) ∧ Rt w w' A S G := by
            refine (feed_any (HR3.out.on HBN.out) hf5 HSZ.out.2 HSZ.out.1).mono ?_
            rintro e2 w' ⟨rfl, q⟩
            rw [e]
            exact ⟨rfl, Rt.comb HG3.out HF3.out (Rt.from HBN.out q)⟩
          clear e
          go_wp2_with fail
          refine hs.mono ?_
          rintro e w' ⟨rfl, q⟩
          have HQ := Lib.hid q
          clear q hs
          go_wp2
          go_end0
          exact ⟨rfl, HQ.out⟩
        | false =>
          have e : G = Z := HE.out.trans (if_neg (of_decide_eq_false HFF.out))
          have HEE := Lib.hid e
          clear e
          go_wp2
          go_end0
          exact ⟨rfl, by rw [HEE.out]; exact Rt.end' HG3.out HF3.out HR3.out HBN.out⟩
end
end Go.Proofs.Ytmiagjcihmenfaa
