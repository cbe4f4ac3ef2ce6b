/- The walk of the document's heard. -/
import Derived.Test.YtmiagjcihmenfaaXi
import Derived.Test.YtmiagjcihmenfaaWb
import Derived.BigRegion
import Derived.BigQuiet
namespace Go.Proofs.Ytmiagjcihmenfaa
open Go.RowKit

section
variable {w w' W V : World} {A : Nat} {S T : Nat → Prop} {b c : Bs}
theorem nb_set {l : List Int} {f : Nat} {x : Int} (hl : l.length = 5) (hf : f < 5) (h : ∀ k, l.getD k 0 ≤ 8796093022208) (hx : x ≤ 8796093022208) : ∀ k, (l.set f x).getD k 0 ≤ 8796093022208 := by
  intro k
  rw [getD_setI _ _ _ _ (by rw [hl]; exact hf)]
  split
  · exact hx
  · exact h k
theorem heard_bad_is (m : Ms) {f : Nat} (hft : m.fr.toNat = f) (hr : b.role = 2) (hg : m.good = false) : b.heard m = (b.less f m.index).feed f := by
  unfold Bs.heard
  rw [if_pos hr, if_neg (by rw [hg]; decide), hft]
set_option maxHeartbeats 8000000 in
set_option maxRecDepth 100000 in
theorem heard_bad (h : Rb w A S b) (hI : Bs.Inv b) (hld : b.Ld) (m : Ms) (mad : Option Addr) (mcap : Nat) (hout : b.out.length < 600000) (hn : Nb b) (h0 : 0 ≤ m.fr) (h1 : m.fr < b.size) (hi0 : -1 ≤ m.index) (hi1 : m.index ≤ 1099511627776) (hr : b.role = 2) (hg : m.good = false) : Calls Try.prog 65 #[.pointer (some ⟨A, 0, none⟩), msV m (.slice mad m.list.length mcap)] w fun e w' => e = .returned (.tuple #[]) ∧ Rt w w' A S (b.heard m) := by
  obtain ⟨W, hW⟩ : ∃ W, W = w.alloc (.cells (msCs m (.slice mad m.list.length mcap)) 34) := ⟨_, rfl⟩
  obtain ⟨Y, hY⟩ : ∃ Y, w.heap.size = Y := ⟨_, rfl⟩
  have hb : Below w.heap.size w W := by rw [hW]; exact (Below.refl _ w).alloc (Nat.le_refl _) _
  have jY : W.heap[Y]? = some (.cells (msCs m (.slice mad m.list.length mcap)) 34 (0, 0)) := by rw [hW, ← hY]; exact heap_alloc_new w _
  have hA := h.on hb
  have hAlt : A < w.heap.size := by obtain ⟨_, _, _, q⟩ := h; exact q.lt A q.covA
  have hYA : Y ≠ A := by omega
  have hAY : A ≠ Y := by omega
  obtain ⟨f, hf⟩ : ∃ f : Nat, m.fr = f := ⟨m.fr.toNat, by omega⟩
  have hfs : f < b.size := by omega
  have hf5 : f < 5 := by have := hI.sz; omega
  have heq := heard_bad_is (b := b) m (f := f) (by omega) hr hg
  have hl3 := hld.lo f hfs
  have hl1 := hld.nx f hfs
  have hl2 := hld.mt f hfs
  obtain ⟨ll1, bb0, bb1⟩ := h.len
  have hll : b.last ≤ 4398047411104 := by unfold Bs.last; omega
  obtain ⟨X, hX⟩ : ∃ X, b.less f m.index = X := ⟨_, rfl⟩
  have hXn : X = { b with next := b.next.set f (max (min (m.index + 1) (b.next.getD f 0 - 1)) (b.mat.getD f 0 + 1)) } := by rw [← hX]; rfl
  have hv := hA
  obtain ⟨lv, ov, O, hv⟩ := hv
  have cn := hv.nextc hf5
  have cm := hv.matc hf5
  have c4 : W.cell? ⟨A, 4, none⟩ = some (.int .i64 b.role) := hv.cell 4
  have m1 : W.cell? ⟨Y, 1, none⟩ = some (.int .i64 m.fr) := cell_blk jY 1
  have m4 : W.cell? ⟨Y, 4, none⟩ = some (.int .i64 m.index) := cell_blk jY 4
  have m7 : W.cell? ⟨Y, 7, none⟩ = some (.bool m.good) := cell_blk jY 7
  have fn : W.frozen? ⟨A, 15 + f, none⟩ = false := frozen_blk hv.ob _
  obtain ⟨nx, hnxx⟩ : ∃ nx, b.next.getD f 0 = nx := ⟨_, rfl⟩
  obtain ⟨mt, hmtt⟩ : ∃ mt, b.mat.getD f 0 = mt := ⟨_, rfl⟩
  rw [hnxx, hmtt] at hXn
  rw [hnxx] at cn hl1 hl3
  rw [hmtt] at cm hl2 hl3
  rw [hX] at heq
  obtain ⟨x, hx⟩ : ∃ x, max (min (m.index + 1) (nx - 1)) (mt + 1) = x := ⟨_, rfl⟩
  rw [hx] at hXn
  have hnbX : Nb X := by
    rw [hXn]
    exact nb_set hI.nx hf5 hn (by omega)
  have hoX : X.out.length < 900000 := by rw [hXn]; show b.out.length < 900000; omega
  have hcall : ∀ n, Calls Try.prog 80 #[.pointer (some ⟨A, 0, none⟩), .int .i64 f] ((W.drewN n).setCell ⟨A, 15 + f, none⟩ (.int .i64 x)) fun e w' => e = .returned (.tuple #[]) ∧ Rt w w' A S (b.heard m) := by
    intro n
    obtain ⟨r1, r2⟩ := (hA.drewN n).next_set hf5 hI.nx x
    rw [← hXn] at r1
    refine (feed_any r1 hf5 hoX hnbX).mono ?_
    rintro e w' ⟨rfl, q⟩
    rw [heq]
    exact ⟨rfl, Rt.step (((Fr.ofBelow S hb).drewN n).trans r2) q⟩
  have i1 : IntKind.i64.wrap (m.index + 1) = m.index + 1 := by rw [IntKind.wrap_i64]; omega
  have i2 : IntKind.i64.wrap (nx - 1) = nx - 1 := by rw [IntKind.wrap_i64]; omega
  have i3 : IntKind.i64.wrap (mt + 1) = mt + 1 := by rw [IntKind.wrap_i64]; omega
  have f0 : (0 : Int) ≤ f := by omega
  have f5 : (f : Int) < 5 := by omega
  rw [hf] at m1
  rw [hg] at m7
  rw [hr] at c4
  have HC := Lib.hid hcall
  have HX := Lib.hid hx
  have HW := Lib.hid hW
  have HY := Lib.hid hY
  obtain ⟨G, hG⟩ : ∃ G, b.heard m = G := ⟨_, rfl⟩
  rw [hG] at HC ⊢
  clear hv hb jY hA heq hX hXn hnxx hmtt hcall hr hg hf h hx hI hld hW hY hG hnbX hoX hn hl3 hl1 hl2
  go_enter Try.func65, Try.ntmps65
  go_upto_region 1 with fail
  rw [← HW.out, HY.out]
  go_upto_region 4 with fail
  go_cut [] (fun wx => ∃ n, wx = (W.drewN n).setCell ⟨A, 15 + f, none⟩ (.int .i64 x))
  case first =>
    by_cases q1 : nx - 1 < m.index + 1
    · by_cases q2 : mt + 1 ≤ nx - 1
      · have ex : x = nx - 1 := by have := HX.out; omega
        have HEX := Lib.hid ex
        clear ex
        go_region
        go_wp2_with fail
        go_meet
        exact ⟨1, by rw [HEX.out]; rfl⟩
      · have ex : x = mt + 1 := by have := HX.out; omega
        have HEX := Lib.hid ex
        clear ex
        go_region
        go_wp2_with fail
        go_meet
        exact ⟨1, by rw [HEX.out]; rfl⟩
    · by_cases q2 : mt + 1 ≤ m.index + 1
      · have ex : x = m.index + 1 := by have := HX.out; omega
        have HEX := Lib.hid ex
        clear ex
        go_region
        go_wp2_with fail
        go_meet
        exact ⟨1, by rw [HEX.out]; rfl⟩
      · have ex : x = mt + 1 := by have := HX.out; omega
        have HEX := Lib.hid ex
        clear ex
        go_region
        go_wp2_with fail
        go_meet
        exact ⟨1, by rw [HEX.out]; rfl⟩
  case rest =>
    obtain ⟨n, rfl⟩ := hcut
    go_wp2_with fail
    refine (HC.out n).mono ?_
    rintro e2 w2 ⟨rfl, hP⟩
    have HP := Lib.hid hP
    clear hP HC
    go_wp2
    refine bodyPost_ret (results_none rfl _ _ _) rfl ?_
    exact ⟨rfl, HP.out⟩
end
end Go.Proofs.Ytmiagjcihmenfaa
