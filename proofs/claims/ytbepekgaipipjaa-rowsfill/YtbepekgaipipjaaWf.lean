/- The walk of the reader's method text. -/
import Derived.Test.YtbepekgaipipjaaWe
import Derived.Lib.IndexBytes
import Derived.Deep.QuietTactic
import Derived.BigQuiet
namespace Go.Proofs.Ytbepekgaipipjaa
open Go.RowKit

theorem rd_grown {b : Nat} {s : ByteArray} {w w' : World} {row : Option Nat} (h : Rd b s w) (hg : w.grownBy w' row) (hne : some b ≠ row) : Rd b s w' := (hg.block b (lt_of_block h) hne).trans h
theorem rd_alloc {b : Nat} {s : ByteArray} {w : World} (h : Rd b s w) (o : Obj) : Rd b s (w.alloc o) := (Below.heap_alloc _ _ _ (lt_of_block h)).trans h
theorem rd_drew {b : Nat} {s : ByteArray} {w : World} (h : Rd b s w) : Rd b s w.drew := h
theorem rd_set {b : Nat} {s : ByteArray} {w : World} (h : Rd b s w) (s' : ByteArray) : Rd b s' (w.setCell ⟨b, 0, none⟩ (.string s')) := one_setCell h
theorem own_form {w : World} {B : Nat} {e : TypeId} {k : Nat} {v : Value} {n : Nat} {xs : List Value} (h : w.ownsRow B e k v n xs) : ∃ ad cap, v = .slice ad n cap := by
  rcases h.2 with ⟨hv, h0⟩ | ⟨g, cap, cur, hv, _⟩
  · exact ⟨none, 0, by rw [hv, h0]⟩
  · exact ⟨_, _, hv⟩
theorem rd_far {b : Nat} {s : ByteArray} {w : World} (h : Rd b s w) {B : Nat} (hne : b ≠ B) (k : Nat) (u : Value) : Rd b s (w.setCell ⟨B, k, none⟩ u) := (Below.heap_setCell w ⟨B, k, none⟩ u b hne).trans h
theorem news_set (w : World) (a : Addr) (u c : Value) (t : TypeId) : ∀ j u', [c][j]? = some u' → (((w.setCell a u).alloc (.cells #[c] t)).drew).cell? ((⟨w.heap.size, 0, none⟩ : Addr).add j) = some u' := by
  intro j u' hj
  have := news_one (w.setCell a u) c t j u' hj
  rwa [show (w.setCell a u).heap.size = w.heap.size by simp [World.setCell]] at this
/-- How much the reader has left. -/
def leftAt (b : Nat) (w : World) : Nat := match w.cell? ⟨b, 0, none⟩ with
  | some (.string s) => s.size
  | _ => 0
theorem leftAt_rd {b : Nat} {s : ByteArray} {w : World} (h : Rd b s w) : leftAt b w = s.size := by unfold leftAt; rw [cell_of_one h]

theorem ext1 (s : ByteArray) : (s.extract 1 s.size).data.toList = s.data.toList.drop 1 := Lib.extract_to_end s 1
theorem ext2 (s : ByteArray) : (s.extract 2 s.size).data.toList = s.data.toList.drop 2 := Lib.extract_to_end s 2
theorem drop_at' (s : ByteArray) (k : Nat) (h : k < s.size) : s.data.toList.drop k = s[k] :: s.data.toList.drop (k + 1) := by
  rw [List.drop_eq_getElem_cons (by simpa using h)]; rfl
theorem list1 (s : ByteArray) (h : 1 ≤ s.size) : s.data.toList = s[0] :: (s.extract 1 s.size).data.toList := by
  rw [ext1, ← drop_at' s 0 h, List.drop_zero]
theorem list2 (s : ByteArray) (h : 2 ≤ s.size) : s.data.toList = s[0] :: s[1] :: (s.extract 2 s.size).data.toList := by
  rw [ext2, ← drop_at' s 1 h, ← drop_at' s 0 (by omega), List.drop_zero]

/-- How far a text has been read: o of it; s is left. -/
def TextAt (L : List UInt8) (o : List UInt8) (s : ByteArray) : Prop := unesc L = (unesc s.data.toList).map (fun p => (o ++ p.1, p.2))

theorem textAt_one {L o : List UInt8} {s : ByteArray} (h : TextAt L o s) (h2 : 2 ≤ s.size) (hz : s[0].toNat ≠ 0) : TextAt L (o ++ [s[0]]) (s.extract 1 s.size) := by
  unfold TextAt at *
  rw [h, list2 s h2, unesc_one _ _ _ hz]
  have e : s[1] :: (s.extract 2 s.size).data.toList = (s.extract 1 s.size).data.toList := by
    have h1 := list1 s (by omega)
    rw [list2 s h2] at h1
    exact (List.cons.inj h1).2
  rw [e]
  cases unesc (s.extract 1 s.size).data.toList with
  | none => rfl
  | some p => simp
theorem textAt_zero {L o : List UInt8} {s : ByteArray} (h : TextAt L o s) (h2 : 2 ≤ s.size) (hz : s[0].toNat = 0) (hd : s[1].toNat = 255) : TextAt L (o ++ [0]) (s.extract 2 s.size) := by
  unfold TextAt at *
  rw [h, list2 s h2, unesc_zero _ _ _ hz hd, (UInt8.toNat_inj.1 hz : s[0] = 0)]
  cases unesc (s.extract 2 s.size).data.toList with
  | none => rfl
  | some p => simp
theorem textAt_end {L o : List UInt8} {s : ByteArray} (h : TextAt L o s) (h2 : 2 ≤ s.size) (hz : s[0].toNat = 0) (hd : s[1].toNat = 1) : unesc L = some (o, (s.extract 2 s.size).data.toList) := by
  unfold TextAt at h
  rw [h, list2 s h2, unesc_end _ _ _ hz hd]
  simp
theorem textAt_bad {L o : List UInt8} {s : ByteArray} (h : TextAt L o s) (h2 : 2 ≤ s.size) (hz : s[0].toNat = 0) (hd : s[1].toNat ≠ 255) (hd' : s[1].toNat ≠ 1) : unesc L = none := by
  unfold TextAt at h
  rw [h, list2 s h2, unesc_bad _ _ _ hz hd hd']
  rfl
theorem textAt_short {L o : List UInt8} {s : ByteArray} (h : TextAt L o s) (h2 : s.size < 2) : unesc L = none := by
  unfold TextAt at h
  rw [h, unesc_short _ (by simpa using h2)]
  rfl
theorem textAt_long {L o : List UInt8} {s : ByteArray} (h : TextAt L o s) (h2 : 64 < o.length) : decText L = none := by
  unfold TextAt at h
  unfold decText
  rw [h]
  cases unesc s.data.toList with
  | none => rfl
  | some p =>
    show (if (o ++ p.1).length ≤ 64 then _ else _) = _
    rw [if_neg (by simp; omega)]

/-- What text answers and leaves. -/
def TextPost (L : List UInt8) (b : Nat) (w : World) (e : Ending) (w' : World) : Prop :=
  w.grownBy w' (some b) ∧ ((∃ (t : List UInt8) (s' : ByteArray), decText L = some (textV t, s'.data.toList) ∧ e = .returned (.tuple #[.agg #[.int .i64 2, .int .i64 0, .string ⟨t.toArray⟩], .bool true]) ∧ Rd b s' w') ∨
    (decText L = none ∧ e = .returned (.tuple #[.agg #[.int .i64 0, .int .i64 0, .string ⟨#[]⟩], .bool false])))

/-- The result's own cells are there and may be written. -/
structure Res (B : Nat) (w : World) : Prop where
  c0 : w.cell? ⟨B, 0, none⟩ = some (.int .i64 0)
  c1 : w.cell? ⟨B, 1, none⟩ = some (.int .i64 0)
  c2 : w.cell? ⟨B, 2, none⟩ = some (.string ⟨#[]⟩)
  f0 : w.frozen? ⟨B, 0, none⟩ = false
  f1 : w.frozen? ⟨B, 1, none⟩ = false
  f2 : w.frozen? ⟨B, 2, none⟩ = false
abbrev zeroV : Obj := .cells #[.int .i64 0, .int .i64 0, .string ⟨#[]⟩] 23
theorem res_of {w wr : World} {b : Nat} (hg : (w.alloc zeroV).grownBy wr (some b)) (hlt : b < w.heap.size) : Res w.heap.size wr := by
  have h := hg.block w.heap.size (by simp) (by intro e; have := Option.some.inj e; omega)
  have c : ∀ o, wr.cell? ⟨w.heap.size, o, none⟩ = (w.alloc zeroV).cell? ⟨w.heap.size, o, none⟩ := fun o => World.cell?_of_block h
  have f : ∀ o, wr.frozen? ⟨w.heap.size, o, none⟩ = (w.alloc zeroV).frozen? ⟨w.heap.size, o, none⟩ := fun o => World.frozen?_of_block h
  exact ⟨by rw [c]; simp, by rw [c]; simp, by rw [c]; simp, by rw [f]; simp, by rw [f]; simp, by rw [f]; simp⟩

theorem gb_start {w wr : World} {r : Option Nat} (o : Obj) (h : (w.alloc o).grownBy wr r) : w.grownBy wr r := gb_trans (gb_alloc (gb_refl w r) o) h

theorem post_no {L : List UInt8} {b : Nat} {w w' : World} (h : decText L = none) (hg : w.grownBy w' (some b)) : TextPost L b w (.returned (.tuple #[.agg #[.int .i64 0, .int .i64 0, .string ⟨#[]⟩], .bool false])) w' := ⟨hg, .inr ⟨h, rfl⟩⟩
theorem no_of {L : List UInt8} (h : unesc L = none) : decText L = none := by unfold decText; rw [h]

set_option maxHeartbeats 4000000 in
set_option maxRecDepth 100000 in
theorem text_any (b : Nat) (s : ByteArray) (w : World) (hR : Rd b s w) (hm : s.size ≤ maxLen) :
    Calls Try.prog 55 #[.pointer (some ⟨b, 0, none⟩)] w (TextPost s.data.toList b w) := by
  obtain ⟨i0, hi, hz0, hz1, hz2⟩ := info_parts infoByte
  obtain ⟨L, hL⟩ : ∃ L, s.data.toList = L := ⟨_, rfl⟩
  have HS : Hid (TextAt L [] s) := by
    show unesc L = _
    rw [← hL]
    cases unesc s.data.toList <;> simp
  rw [hL]
  clear hL
  unfold maxLen at hm
  have hlt := lt_of_block hR
  go_enter Try.func55, Try.ntmps55
  go_wp2
  go_loopw [4] (fun v wr => ∃ (s' : ByteArray) (o : List UInt8), Rd b s' wr ∧ wr.ownsRow (w.heap.size + 1) 5 1 v o.length (Lib.byteCells o) ∧ (w.alloc zeroV).grownBy wr (some b) ∧ o.length ≤ 65 ∧ s'.size ≤ 9223372036854775807 ∧ Hid (TextAt L o s')) (fun _ wr => leftAt b wr)
  case atStart => exact ⟨s, [], rd_alloc hR _, World.ownsRow_nil _ _ _ _, gb_refl _ _, by simp, hm, HS⟩
  case round =>
    clear HS
    obtain ⟨s', o, hRr, hown, hg, hol, hsm, HT⟩ := hrel
    obtain ⟨ad, cp, rfl⟩ := own_form hown
    have c0 := cell_of_one hRr
    have f0 := free_of_one hRr
    by_cases h2 : 2 ≤ s'.size
    · have t2 : (s'.size : Int) ≥ 2 := by omega
      by_cases h64 : o.length ≤ 64
      · have t3 : ((o.length : Nat) : Int) ≤ 64 := by omega
        have x0 : 0 < s'.size := by omega
        have x1 : (1 : Int) < (s'.size : Int) := by omega
        have hob : ∀ k, (Value.slice ad o.length cp).ownBlock = some k → (w.alloc zeroV).heap.size ≤ k := fun k hk => by have := (hown.lt k hk).1; simp; omega
        have hnb : some b ≠ (Value.slice ad o.length cp).ownBlock := fun e => by have := (hown.lt b e.symm).1; omega
        have hls := leftAt_rd hRr
        have HLS := Lib.hid hls
        clear hls
        by_cases z : s'[0].toNat = 0
        · have tz : ((s'[0].toNat : Int) != 0) = false := by rw [z]; rfl
          have HZ := Lib.hid z
          clear z
          have hRs := rd_set hRr (s'.extract 2 s'.size)
          have hgs : (w.alloc zeroV).grownBy (wr.setCell ⟨b, 0, none⟩ (.string (s'.extract 2 s'.size))) (some b) := gb_set hg (.inl rfl) _
          have howns := ownsRow_setCell_below hown (a := ⟨b, 0, none⟩) (by show b < _; omega) (.string (s'.extract 2 s'.size))
          have hszs := hgs.size
          simp at hszs
          by_cases y : s'[1].toNat = 255
          · have ty : ((s'[1].toNat : Int) == 255) = true := by rw [y]; rfl
            have HN := Lib.hid (textAt_zero HT.out h2 HZ.out y)
            clear y HT
            go_wp2
            go_region
            go_wp2_with (at_builtin; refine wpList_append_own _ rfl _ _ 87 rfl (w.heap.size + 1) 5 i0 (.int .u8 0) 1 1 Try.underlying87 hi hz0 hz1 hz2 rfl (by decide) _ _ _ rfl ((howns.alloc _).drew) ⟨wr.heap.size, 0, none⟩ 1 1 [Value.int .u8 0] rfl rfl (news_set _ _ _ _ _) (by intro u' hu'; simp at hu'; subst hu'; rfl) (by unfold maxLen; omega) (by omega) (by simp; omega) ?_; intro v2 w2 hown2 hgrow2 _; refine Hid.out ?_)
            refine Lib.hid ?_
            have hR2 : Rd b (s'.extract 2 s'.size) w2 := rd_grown (rd_drew (rd_alloc hRs _)) hgrow2 hnb
            have hg2 : (w.alloc zeroV).grownBy w2 (some b) := gb_grown (gb_drew (gb_alloc hgs _)) hgrow2 hob
            go_wp2
            exact ⟨⟨s'.extract 2 s'.size, o ++ [0], hR2, own_byte hown2, hg2, by simp; omega, by simp; omega, HN⟩, by rw [leftAt_rd hR2, HLS.out]; simp; omega⟩
          · have ty : ((s'[1].toNat : Int) == 255) = false := by rw [beq_eq_false_iff_ne]; omega
            by_cases y1 : s'[1].toNat = 1
            · have ty1 : ((s'[1].toNat : Int) == 1) = true := by rw [y1]; rfl
              have HN := Lib.hid (textAt_end HT.out h2 HZ.out y1)
              clear y y1 HT
              have hcv := conv_own howns.drew
              obtain ⟨r0, r1, r2, g0, g1, g2⟩ := res_of hgs hlt
              go_wp2
              go_region
              go_wp2
              refine bodyPost_ret (v := .tuple #[.agg #[.int .i64 2, .int .i64 0, .string ⟨o.toArray⟩], .bool true]) (by simp [results, Try.results55, go_sem, r0, r1, r2]) rfl ⟨gb_drew (gb_set (gb_set (gb_set (gb_start _ hgs) (.inr (by simp)) _) (.inr (by simp)) _) (.inr (by simp)) _), .inl ⟨o, s'.extract 2 s'.size, ?_, rfl, ?_⟩⟩
              · unfold decText
                rw [HN.out]
                show (if o.length ≤ 64 then _ else _) = _
                rw [if_pos h64]
              · exact rd_far (rd_far (rd_far hRs (by omega) _ _) (by omega) _ _) (by omega) _ _
            · have ty1 : ((s'[1].toNat : Int) == 1) = false := by rw [beq_eq_false_iff_ne]; omega
              have HD := Lib.hid (no_of (textAt_bad HT.out h2 HZ.out y y1))
              clear y y1 HT
              obtain ⟨r0, r1, r2, g0, g1, g2⟩ := res_of hgs hlt
              go_wp2
              go_region
              go_wp2
              exact bodyPost_ret (v := .tuple #[.agg #[.int .i64 0, .int .i64 0, .string ⟨#[]⟩], .bool false]) (by simp [results, Try.results55, go_sem, r0, r1, r2]) rfl (post_no HD.out (gb_drew (gb_set (gb_set (gb_set (gb_start _ hgs) (.inr (by simp)) _) (.inr (by simp)) _) (.inr (by simp)) _)))
        · have tz : ((s'[0].toNat : Int) != 0) = true := by rw [bne_iff_ne]; omega
          have HN := Lib.hid (textAt_one HT.out h2 z)
          clear z HT
          go_wp2
          go_region
          go_wp2_with (at_builtin; refine wpList_append_own _ rfl _ _ 87 rfl (w.heap.size + 1) 5 i0 (.int .u8 0) 1 1 Try.underlying87 hi hz0 hz1 hz2 rfl (by decide) _ _ _ rfl ((hown.alloc _).drew) ⟨wr.heap.size, 0, none⟩ 1 1 [Value.int .u8 s'[0].toNat] rfl rfl (news_one _ _ _) (by intro u' hu'; simp at hu'; subst hu'; rfl) (by unfold maxLen; omega) (by omega) (by have := hg.size; simp at this ⊢; omega) ?_; intro v2 w2 hown2 hgrow2 _; refine Hid.out ?_)
          refine Lib.hid ?_
          have hR2 : Rd b s' w2 := rd_grown (rd_drew (rd_alloc hRr _)) hgrow2 hnb
          have hg2 : (w.alloc zeroV).grownBy w2 (some b) := gb_grown (gb_drew (gb_alloc hg _)) hgrow2 hob
          have d0 := cell_of_one hR2
          have e0 := free_of_one hR2
          go_wp2
          have hR3 := rd_set hR2 (s'.extract 1 s'.size)
          exact ⟨⟨s'.extract 1 s'.size, o ++ [s'[0]], hR3, own_byte (ownsRow_setCell_below hown2 (a := ⟨b, 0, none⟩) (by show b < _; omega) _), gb_set hg2 (.inl rfl) _, by simp; omega, by simp; omega, HN⟩, by rw [leftAt_rd hR3, HLS.out]; simp; omega⟩
      · have t3 : ¬ ((o.length : Nat) : Int) ≤ 64 := by omega
        have HD := Lib.hid (textAt_long HT.out (by omega))
        obtain ⟨r0, r1, r2, g0, g1, g2⟩ := res_of hg hlt
        go_wp2
        exact bodyPost_ret (v := .tuple #[.agg #[.int .i64 0, .int .i64 0, .string ⟨#[]⟩], .bool false]) (by simp [results, Try.results55, go_sem, r0, r1, r2]) rfl (post_no HD.out (gb_set (gb_set (gb_set (gb_start _ hg) (.inr (by simp)) _) (.inr (by simp)) _) (.inr (by simp)) _))
    · have t2 : ¬ (s'.size : Int) ≥ 2 := by omega
      have HD := Lib.hid (no_of (textAt_short HT.out (by omega)))
      obtain ⟨r0, r1, r2, g0, g1, g2⟩ := res_of hg hlt
      go_wp2
      exact bodyPost_ret (v := .tuple #[.agg #[.int .i64 0, .int .i64 0, .string ⟨#[]⟩], .bool false]) (by simp [results, Try.results55, go_sem, r0, r1, r2]) rfl (post_no HD.out (gb_set (gb_set (gb_set (gb_start _ hg) (.inr (by simp)) _) (.inr (by simp)) _) (.inr (by simp)) _))
end Go.Proofs.Ytbepekgaipipjaa
