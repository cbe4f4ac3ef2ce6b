/- The walk of the statement KeysDecodes: it answers true at every text. -/
import Derived.Test.YtgagbfdknncadaaLh1
namespace Go.Proofs.Ytgagbfdknncadaa
open Go.RowKit

set_option maxHeartbeats 8000000 in
set_option maxRecDepth 100000 in
theorem decodes_yes (s : ByteArray) (w : World) (hm : s.size ≤ 140737488351232) (M : List V) (h : decL 8 s.data.toList = some M) :
    Calls Try.prog 4 #[.string s] w fun e w' => e = .returned (.bool true) ∧ Below w.heap.size w w' := by
  have hmx : s.size ≤ maxLen := by unfold maxLen; omega
  have mL := (encL_decL 8 _ M h).1
  have H := Lib.hid h
  clear h
  go_enter Try.func4, Try.ntmps4
  go_wp2_with (go_at_call 13; refine (decode_yes s _ hmx M H.out).mono ?_; rintro e w1 ⟨ad1, cap1, rfl, hb1, hL1, hown1⟩; refine Hid.out ?_)
  refine Lib.hid ?_
  go_wp2_with (go_at_call 14; refine (refDecode_yes s _ hm M H.out).mono ?_; rintro e w2 ⟨ad2, cap2, rfl, hb2, hL2, hown2⟩; refine Hid.out ?_)
  refine Lib.hid ?_
  have hw2 := hb1.trans (hb2.mono hb1.size)
  have hL1 := hL1.on hb2
  go_wp2_with (go_at_call 13; refine (decode_yes s _ hmx M H.out).mono ?_; rintro e w3 ⟨ad3, cap3, rfl, hb3, hL3, hown3⟩; refine Hid.out ?_)
  refine Lib.hid ?_
  have hw3 := hw2.trans (hb3.mono hw2.size)
  have hL1 := hL1.on hb3
  have hL2 := hL2.on hb3
  go_wp2_with (go_at_call 11; refine (awake_any _).mono ?_; rintro e w4 ⟨rfl, hb4⟩; refine Hid.out ?_)
  refine Lib.hid ?_
  have hw4 := hw3.trans (hb4.mono hw3.size)
  have hL1 := hL1.on hb4
  have hL2 := hL2.on hb4
  have hL3 := hL3.on hb4
  go_wp2_with (go_at_call 12; refine (same_t M ad1 ad2 cap1 cap2 _ hL1 hL2 (by omega)).mono ?_; rintro e w5 ⟨rfl, hb5⟩; refine Hid.out ?_)
  refine Lib.hid ?_
  have hw5 := hw4.trans (hb5.mono hw4.size)
  have hL2 := hL2.on hb5
  have hL3 := hL3.on hb5
  have hR5 : RowAt (Value.slice ad1 M.length cap1).ownBlock M.length w5 := rowAt_below (rowAt_below (rowAt_below (rowAt_below (rowAt_own hown1) hb2) hb3) hb4) hb5
  have hbase : ∀ k, (Value.slice ad1 M.length cap1).ownBlock = some k → w.heap.size ≤ k := fun k hk => (hown1.lt k hk).1
  have hd2 : ∀ k, (Value.slice ad2 M.length cap2).ownBlock = some k → some k ≠ (Value.slice ad1 M.length cap1).ownBlock := fun k hk e => by
    have q1 := (hown2.lt k hk).1
    have q2 := (hown1.lt k e.symm).2
    omega
  have hd3 : ∀ k, (Value.slice ad3 M.length cap3).ownBlock = some k → some k ≠ (Value.slice ad1 M.length cap1).ownBlock := fun k hk e => by
    have q1 := (hown3.lt k hk).1
    have q2 := (hown1.lt k e.symm).2
    have q3 := hb2.size
    omega
  have hform : 0 < M.length → ∃ g, ad1 = some ⟨g, 0, none⟩ := fun hp => by
    obtain ⟨g, c, e, _⟩ := hown1.form hp
    simp only [Value.slice.injEq] at e
    exact ⟨g, e.1⟩
  clear hown1 hown2 hown3 hb1 hb2 hb3 hb4 hb5 hL1 hw2 hw3 hw4
  go_wp2
  go_loopw [40] (fun i wr => ∃ k : Nat, k ≤ M.length ∧ i = .int .i64 k ∧ w5.grownBy wr (Value.slice ad1 M.length cap1).ownBlock ∧ RowAt (Value.slice ad1 M.length cap1).ownBlock M.length wr) (fun i _ => M.length - (intOf i).toNat)
  case atStart => exact ⟨0, by omega, rfl, gb_refl _ _, hR5⟩
  case round =>
    obtain ⟨k, hk, rfl, hg, hR⟩ := hrel
    by_cases hlt : k < M.length
    · obtain ⟨g, rfl⟩ := hform (by omega)
      have hR' : RowAt (some g) M.length wr := hR
      obtain ⟨⟨u0, c0⟩, f0⟩ := rowAt_cell (j := k * 3) hR' (by omega)
      obtain ⟨⟨u1, c1⟩, f1⟩ := rowAt_cell (j := k * 3 + 1) hR' (by omega)
      obtain ⟨⟨u2, c2⟩, f2⟩ := rowAt_cell (j := k * 3 + 2) hR' (by omega)
      have z : (k : Int) < (M.length : Int) := by omega
      have n1 : (⟨g, k * 3 + 1, none⟩ : Addr) ≠ ⟨g, k * 3, none⟩ := by simp
      have n2 : (⟨g, k * 3 + 2, none⟩ : Addr) ≠ ⟨g, k * 3, none⟩ := by simp
      have n3 : (⟨g, k * 3 + 2, none⟩ : Addr) ≠ ⟨g, k * 3 + 1, none⟩ := by simp
      have e1 : ∀ u, (wr.setCell ⟨g, k * 3, none⟩ u).cell? ⟨g, k * 3 + 1, none⟩ = some u1 := fun u => by rw [World.cell?_setCell_other _ _ _ _ n1.symm]; exact c1
      have e2 : ∀ u, (wr.setCell ⟨g, k * 3, none⟩ u).frozen? ⟨g, k * 3 + 1, none⟩ = false := fun u => by rw [World.frozen?_setCell]; exact f1
      have e3 : ∀ u v, ((wr.setCell ⟨g, k * 3, none⟩ u).setCell ⟨g, k * 3 + 1, none⟩ v).cell? ⟨g, k * 3 + 2, none⟩ = some u2 := fun u v => by rw [World.cell?_setCell_other _ _ _ _ n3.symm, World.cell?_setCell_other _ _ _ _ n2.symm]; exact c2
      have e4 : ∀ u v, ((wr.setCell ⟨g, k * 3, none⟩ u).setCell ⟨g, k * 3 + 1, none⟩ v).frozen? ⟨g, k * 3 + 2, none⟩ = false := fun u v => by rw [World.frozen?_setCell, World.frozen?_setCell]; exact f2
      clear n1 n2 n3 hform hL2 hL3 hd2 hd3 hR hR5
      go_wp2
      have hg' : w5.grownBy wr (some g) := hg
      have g1 := gb_set (a := ⟨g, k * 3, none⟩) hg' (Or.inl rfl) (.int .i64 0)
      have g2 := gb_set (a := ⟨g, k * 3 + 1, none⟩) g1 (Or.inl rfl) (.int .i64 9)
      have g3 := gb_set (a := ⟨g, k * 3 + 2, none⟩) g2 (Or.inl rfl) (.string ⟨#[]⟩)
      have r1 := rowAt_set (j := k * 3) hR' (.int .i64 0)
      have r2 := rowAt_set (j := k * 3 + 1) r1 (.int .i64 9)
      have r3 := rowAt_set (j := k * 3 + 2) r2 (.string ⟨#[]⟩)
      exact ⟨⟨k + 1, by omega, by go_num, g3, r3⟩, by simp [intOf]; omega⟩
    · have hbr : Below w.heap.size w wr := hw5.grown hg hw5.size hbase
      have z : ¬ (k : Int) < (M.length : Int) := by omega
      go_wp2_with (go_at_call 12; refine (same_t M ad3 ad2 cap3 cap2 _ (li_kept hL3 hg hd3) (li_kept hL2 hg hd2) (by omega)).mono ?_; rintro e w6 ⟨rfl, hb6⟩; refine Hid.out ?_)
      refine Lib.hid ?_
      go_wp2
      go_ret
      exact ⟨rfl, hbr.trans (hb6.mono hbr.size)⟩

theorem decodes_any (s : ByteArray) (w : World) (hm : s.size ≤ 140737488351232) :
    Calls Try.prog 4 #[.string s] w fun e w' => e = .returned (.bool true) ∧ Below w.heap.size w w' := by
  cases h : decL 8 s.data.toList with
  | none => exact decodes_no s w hm h
  | some M => exact decodes_yes s w hm M h
end Go.Proofs.Ytgagbfdknncadaa
