/- LexWords. -/
import Derived.Test.YtcmdpahchbbicaaDoorRf
import Derived.Test.YtcmdpahchbbicaaDoorXc
namespace Go.Proofs.YtcmdpahchbbicaaDoor
open Go.RowKit
/-- Beside a block that is written. -/
theorem Fr.own {w w' : World} {g B : Nat} {v : Value} {n : Nat} {xs : List Value} (h : w.ownsRow B 31 4 v n xs) (hf : Fr w w' (fun k => k = g)) (hg : g < B) : w'.ownsRow B 31 4 v n xs :=
  row_keep h hf (fun j hj e => by have := (h.lt j hj).1; omega)
set_option maxHeartbeats 4000000 in
set_option maxRecDepth 100000 in
theorem words_law {w : World} {s : ByteArray} (hg : Gd w.heap.size w) : Calls Tryd.prog 3 #[.string s] w fun e w' => e = .returned (.bool true) ∧ Below w.heap.size w w' := by
  have h1 := words_any (s := s) hg
  have HG := Lib.hid hg
  clear hg
  cases ho : wordsP s with
  | inl z9 =>
    obtain ⟨q, er⟩ := z9
    rw [ho] at h1
    have H1 := Lib.hid h1
    have HR : Hid (∀ X : World, Calls Tryd.prog 8 #[.string s] X fun e w' => e = .returned (.tuple #[.slice none 0 0, .int .i64 q, .int .i64 er]) ∧ Below X.heap.size X w') := fun X => by have := words_ref (w := X) (s := s); rw [ho] at this; exact this
    have HP : Hid (∀ X : World, Gd X.heap.size X → Calls Tryd.prog 7 #[.string s] X fun e w' => e = .returned (.tuple #[.slice none 0 0, .int .i64 q, .int .i64 er]) ∧ Below X.heap.size X w') := fun X hX => by have := words_any (s := s) hX; rw [ho] at this; exact this
    clear h1 ho
    go_enter Tryd.func3, Tryd.ntmps3
    go_wp2_with (go_at_call 7; refine (H1.out).mono ?_; rintro e w1 ⟨rfl, b1⟩; refine Hid.out ?_)
    refine Lib.hid ?_
    have B1 := Lib.hid b1
    clear b1
    go_wp2_with (go_at_call 8; refine (HR.out w1).mono ?_; rintro e w2 ⟨rfl, b2⟩; refine Hid.out ?_)
    refine Lib.hid ?_
    have B2 := Lib.hid (B1.out.trans (b2.mono B1.out.size))
    clear b2
    have H3 := Lib.hid (HP.out w2 (HG.out.up B2.out B2.out.size))
    go_wp2_with (go_at_call 7; refine (H3.out).mono ?_; rintro e w3 ⟨rfl, b3⟩; refine Hid.out ?_)
    refine Lib.hid ?_
    have B3 := Lib.hid (B2.out.trans (b3.mono B2.out.size))
    clear b3
    have HA1 := Lib.hid (awake_any (HG.out.up B3.out B3.out.size))
    have HS : Hid (∀ X : World, Calls Tryd.prog 10 #[.slice none 0 0, .slice none 0 0] X fun e w' => e = .returned (.bool true) ∧ Below X.heap.size X w') := fun X => same_any (L := []) (fun i hi => by simp at hi) (fun i hi => by simp at hi) (by simp)
    go_wp2_with (go_at_call 9; refine (HA1.out).mono ?_; rintro e w4 ⟨rfl, b4⟩; refine Hid.out ?_)
    refine Lib.hid ?_
    have B4 := Lib.hid (B3.out.trans (b4.mono B3.out.size))
    clear b4
    go_wp2_with (go_at_call 10; refine (HS.out w4).mono ?_; rintro e w5 ⟨rfl, b5⟩; refine Hid.out ?_)
    refine Lib.hid ?_
    have B5 := Lib.hid (B4.out.trans (b5.mono B4.out.size))
    clear b5
    go_wp2
    go_loopw [51] (fun i wr => i = .int .i64 0 ∧ wr = w5) (fun _ _ => 0)
    case atStart => exact ⟨rfl, rfl⟩
    case round =>
      obtain ⟨rfl, rfl⟩ := hrel
      go_wp2_with (go_at_call 10; refine (HS.out wr).mono ?_; rintro e w6 ⟨rfl, b6⟩; refine Hid.out ?_)
      refine Lib.hid ?_
      have B6 := Lib.hid (B5.out.trans (b6.mono B5.out.size))
      clear b6
      go_wp2
      go_ret
      exact ⟨rfl, B6.out⟩
  | inr L =>
    rw [ho] at h1
    obtain ⟨hl0, hl1⟩ := words_len ho
    have H1 := Lib.hid h1
    have HR : Hid (∀ X : World, Calls Tryd.prog 8 #[.string s] X fun e w' => (∃ v, e = .returned (.tuple #[v, .int .i64 0, .int .i64 0]) ∧ w'.ownsRow X.heap.size 31 4 v L.length (wdC L)) ∧ Below X.heap.size X w') := fun X => by have := words_ref (w := X) (s := s); rw [ho] at this; exact this
    have HP : Hid (∀ X : World, Gd X.heap.size X → Calls Tryd.prog 7 #[.string s] X fun e w' => (∃ v, e = .returned (.tuple #[v, .int .i64 0, .int .i64 0]) ∧ w'.ownsRow X.heap.size 31 4 v L.length (wdC L)) ∧ Below X.heap.size X w') := fun X hX => by have := words_any (s := s) hX; rw [ho] at this; exact this
    clear h1 ho
    go_enter Tryd.func3, Tryd.ntmps3
    go_wp2_with (go_at_call 7; refine (H1.out).mono ?_; rintro e w1 ⟨⟨v1, rfl, ho1⟩, b1⟩; refine Hid.out ?_)
    refine Lib.hid ?_
    have B1 := Lib.hid b1
    have O1 := Lib.hid ho1
    clear b1 ho1
    go_wp2_with (go_at_call 8; refine (HR.out w1).mono ?_; rintro e w2 ⟨⟨v2, rfl, ho2⟩, b2⟩; refine Hid.out ?_)
    refine Lib.hid ?_
    have B2 := Lib.hid (B1.out.trans (b2.mono B1.out.size))
    have O1' := Lib.hid (own_below O1.out b2)
    have hz12 := b2.size
    have O2 := Lib.hid ho2
    clear b2 ho2
    have H3 := Lib.hid (HP.out w2 (HG.out.up B2.out B2.out.size))
    go_wp2_with (go_at_call 7; refine (H3.out).mono ?_; rintro e w3 ⟨⟨v3, rfl, ho3⟩, b3⟩; refine Hid.out ?_)
    refine Lib.hid ?_
    have B3 := Lib.hid (B2.out.trans (b3.mono B2.out.size))
    have P1 := Lib.hid (own_below O1'.out b3)
    have P2 := Lib.hid (own_below O2.out b3)
    have P3 := Lib.hid ho3
    clear b3 ho3 O1' O2
    have HA1 := Lib.hid (awake_any (HG.out.up B3.out B3.out.size))
    go_wp2_with (go_at_call 9; refine (HA1.out).mono ?_; rintro e w4 ⟨rfl, b4⟩; refine Hid.out ?_)
    refine Lib.hid ?_
    have B4 := Lib.hid (B3.out.trans (b4.mono B3.out.size))
    have Q1 := own_below P1.out b4
    have Q2 := own_below P2.out b4
    have Q3 := own_below P3.out b4
    clear b4 P1 P2 P3
    have hgl : ∀ g, v1.ownBlock = some g → g < w1.heap.size := fun g hgv => (O1.out.lt g hgv).2
    rcases Q1.2 with ⟨hv, h0⟩ | ⟨g, cap, cur, hv, hgb, hgg, hnc, _, hcs, hrest⟩
    · omega
    subst hv
    have hg1 : g < w1.heap.size := hgl g rfl
    obtain ⟨ad2, cap2, rfl⟩ := own_shape Q2
    obtain ⟨ad3, cap3, rfl⟩ := own_shape Q3
    obtain ⟨_, _, e1, hL1⟩ := Lw.own Q1
    obtain ⟨_, _, e2, hL2⟩ := Lw.own Q2
    cases e1
    cases e2
    have HS := Lib.hid (same_any (cap := cap) (cap' := cap2) hL1 hL2 (by omega))
    have HQ2 := Lib.hid Q2
    have HQ3 := Lib.hid Q3
    have HGG := Lib.hid hgg
    have hsz : L.length * 4 ≤ cur.size := by omega
    clear Q1 Q2 Q3 hL1 hL2 hgg hrest hgl O1 hcs hnc
    go_wp2_with (go_at_call 10; refine (HS.out).mono ?_; rintro e w5 ⟨rfl, b5⟩; refine Hid.out ?_)
    refine Lib.hid ?_
    have B5 := Lib.hid (B4.out.trans (b5.mono B4.out.size))
    have R2 := Lib.hid (own_below HQ2.out b5)
    have R3 := Lib.hid (own_below HQ3.out b5)
    have G5 := Lib.hid ((b5.block g (blk_lt HGG.out)).trans HGG.out)
    clear b5 HQ2 HQ3 HGG
    go_wp2
    go_loopw [51] (fun i wr => ∃ (j : Nat) (cu : Array Value), j ≤ L.length ∧ i = .int .i64 j ∧ L.length * 4 ≤ cu.size ∧ Hid (wr.heap[g]? = some (.cells cu 31 (0, 0))) ∧ Hid (Fr w5 wr (fun k => k = g))) (fun i _ => L.length - (intOf i).toNat)
    case atStart => exact ⟨0, cur, Nat.zero_le _, rfl, hsz, G5, Fr.refl _ _⟩
    case round =>
      obtain ⟨j, cu, hj, rfl, hcu, HG5, HF⟩ := hrel
      by_cases hlt : j < L.length
      · have hlt' : (j : Int) < (L.length : Int) := by omega
        have hj0 : (0 : Int) ≤ (j : Int) := by omega
        have c1 : ∃ u, wr.cell? ⟨g, j * 4 + 2, none⟩ = some u := by
          rw [cell_blk HG5.out, Array.getElem?_eq_getElem (by omega)]
          exact ⟨_, rfl⟩
        obtain ⟨u, c1⟩ := c1
        have f1 := frozen_blk HG5.out (j * 4 + 2)
        have hs2 := set_blk (i := j * 4 + 2) HG5.out (.string ⟨#[115, 112, 111, 105, 108, 116]⟩)
        have HS2 := Lib.hid hs2
        have HF2 := Lib.hid (Fr.set (S := fun k => k = g) (a := ⟨g, j * 4 + 2, none⟩) HF.out (.inl rfl) (.string ⟨#[115, 112, 111, 105, 108, 116]⟩))
        clear hs2 HG5 HF
        go_wp2
        exact ⟨⟨j + 1, _, by omega, by go_num, by simp; omega, HS2, HF2⟩, by simp [intOf]; omega⟩
      · have hlt' : ¬ (j : Int) < (L.length : Int) := by omega
        have S2 := Fr.own R2.out HF.out hg1
        have S3 := Fr.own R3.out HF.out (by omega)
        obtain ⟨_, _, e2, hL2⟩ := Lw.own S2
        obtain ⟨_, _, e3, hL3⟩ := Lw.own S3
        cases e2
        cases e3
        have HS3 := Lib.hid (same_any (cap := cap3) (cap' := cap2) hL3 hL2 (by omega))
        have hB5 := HF.out
        have HB6 : Hid (Below w.heap.size w wr) := B5.out.trans (HF.out.toBelow (fun k hk e => by omega) B5.out.size)
        clear S2 S3 hL2 hL3 HF hB5 HG5
        go_wp2_with (go_at_call 10; refine (HS3.out).mono ?_; rintro e w6 ⟨rfl, b6⟩; refine Hid.out ?_)
        refine Lib.hid ?_
        have B6 := Lib.hid (HB6.out.trans (b6.mono HB6.out.size))
        clear b6
        go_wp2
        go_ret
        exact ⟨rfl, B6.out⟩
end Go.Proofs.YtcmdpahchbbicaaDoor
