/- The walk of value.Print: every value as it is written, or refused. -/
import Derived.Test.YtakpahmngkfpkaaDoorWd
namespace Go.Proofs.YtakpahmngkfpkaaDoor
open Go.RowKit

theorem var_on {n : String} {cs : Array Value} {w w' : World} (hv : w.var? Tryd.prog n = some cs) (hb : Below w.heap.size w w') : w'.var? Tryd.prog n = some cs := by
  unfold World.var? at *
  cases hg : Tryd.prog.globalNamed n with
  | none => simp [hg] at hv
  | some g =>
    simp only [hg, Option.bind_some] at hv ⊢
    have hlt : g < w.heap.size := by
      rcases Nat.lt_or_ge g w.heap.size with h' | h'
      · exact h'
      · rw [Array.getElem?_eq_none h'] at hv
        simp at hv
    rw [hb.block g hlt]
    exact hv

structure Gd (w : World) : Prop where
  tab : Lib.TabIs Tryd.prog w "internal/strconv.uint64pow10" .u64 Lib.pow10Tab
  syn : ∃ tp p, w.var? Tryd.prog "strconv.ErrSyntax" = some #[.iface tp p]
  rng : ∃ tp p, w.var? Tryd.prog "strconv.ErrRange" = some #[.iface tp p]

theorem Gd.on {w w' : World} (h : Gd w) (hb : Below w.heap.size w w') : Gd w' :=
  ⟨Lib.tabBelow_of_tabIs h.tab w' hb, h.syn.elim fun tp h => h.elim fun p h => ⟨tp, p, var_on h hb⟩, h.rng.elim fun tp h => h.elim fun p h => ⟨tp, p, var_on h hb⟩⟩

theorem appendInt_any (n : Int) (h0 : -9223372036854775808 ≤ n) (h1 : n ≤ 9223372036854775807) (w : World) (hg : Gd w) :
    Calls Tryd.prog 23 #[.slice none 0 0, .int .i64 n, .int .i64 10] w fun e w' => ∃ v, e = .returned v ∧ w'.ownsRow w.heap.size 5 1 v (Lib.itoa n).length (Lib.byteCells (Lib.itoa n)) ∧ Below w.heap.size w w' := by
  have h : Calls Tryd.prog 23 #[.slice none 0 0, .int .i64 n, .int .i64 10] w _ := Any.strconv_AppendInt_10 Tryd.laysM176 w.heap.size 0 n h0 h1 (.slice none 0 0) [] w (World.ownsRow_nil _ _ _ _) (Nat.le_refl _) (by omega) (Lib.tabBelow_of_tabIs hg.tab)
  refine h.mono ?_
  rintro e w' ⟨v, rfl, hown, hb, -⟩
  rw [Nat.zero_add, List.nil_append] at hown
  exact ⟨v, rfl, hown, hb⟩

def prt (k n : Int) (s : ByteArray) : List UInt8 := if k == 1 then Lib.itoa n else if k == 2 then 39 :: (dbl s.data.toList ++ [39]) else [110, 117, 108, 108]

theorem bcell {W w1 : World} (hb : Below W.heap.size W w1) : (∀ b o, b < W.heap.size → w1.cell? ⟨b, o, none⟩ = W.cell? ⟨b, o, none⟩) ∧ (∀ b o, b < W.heap.size → w1.frozen? ⟨b, o, none⟩ = W.frozen? ⟨b, o, none⟩) :=
  ⟨fun b o h => hb.cell (p := ⟨b, o, none⟩) h, fun b o h => hb.frozen (p := ⟨b, o, none⟩) h⟩

theorem box_cells {w w1 : World} {x y z : Value} {t : TypeId} (hb : Below (w.alloc (.cells #[x, y, z] t)).heap.size (w.alloc (.cells #[x, y, z] t)) w1) :
    w1.cell? ⟨w.heap.size, 0, none⟩ = some x ∧ w1.cell? ⟨w.heap.size, 1, none⟩ = some y ∧ w1.cell? ⟨w.heap.size, 2, none⟩ = some z ∧ w.heap.size < w1.heap.size := by
  have h := (bcell hb).1
  have hz := hb.size
  refine ⟨?_, ?_, ?_, ?_⟩
  · rw [h _ _ (by simp)]; simp
  · rw [h _ _ (by simp)]; simp
  · rw [h _ _ (by simp)]; simp
  · simp at hz; omega

set_option maxHeartbeats 1000000 in
theorem print_no (k n : Int) (s : ByteArray) (w : World) (hr : rightB k n s = false) :
    Calls Tryd.prog 14 #[.agg #[.int .i64 k, .int .i64 n, .string s]] w fun e w' => e = .returned (.tuple #[.string ⟨#[]⟩, .int .i64 10]) ∧ Below w.heap.size w w' := by
  go_enter Tryd.func14, Tryd.ntmps14
  go_wp2_with (go_at_call 10; refine (check_any _ _ _ _).mono ?_; rw [hr]; rintro e w1 ⟨rfl, hb1⟩; refine Hid.out ?_)
  refine Lib.hid ?_
  go_wp2
  go_ret2
  exact ⟨rfl, ((Below.refl _ w).alloc (Nat.le_refl _) _).trans (hb1.mono (by simp))⟩

theorem right_kind {k n : Int} {s : ByteArray} (h : rightB k n s = true) : k = 0 ∨ k = 1 ∨ (k = 2 ∧ s.size ≤ 64) := by
  unfold rightB at h
  split at h
  · rename_i hk; left; exact beq_iff_eq.1 hk
  · split at h
    · rename_i hk; right; left; exact beq_iff_eq.1 hk
    · right; right
      simp only [Bool.and_eq_true, beq_iff_eq, decide_eq_true_eq] at h
      exact ⟨h.1.1, by omega⟩

set_option maxHeartbeats 1000000 in
theorem print_int (n : Int) (s : ByteArray) (w : World) (hg : Gd w) (h0 : -9223372036854775808 ≤ n) (h1 : n ≤ 9223372036854775807) (hr : rightB 1 n s = true) :
    Calls Tryd.prog 14 #[.agg #[.int .i64 1, .int .i64 n, .string s]] w fun e w' => e = .returned (.tuple #[.string ⟨(Lib.itoa n).toArray⟩, .int .i64 0]) ∧ Below w.heap.size w w' := by
  go_enter Tryd.func14, Tryd.ntmps14
  go_wp2_with (go_at_call 10; refine (check_any _ _ _ _).mono ?_; rw [hr]; rintro e w1 ⟨rfl, hb1⟩; refine Hid.out ?_)
  refine Lib.hid ?_
  obtain ⟨c0, c1, c2, hz⟩ := box_cells hb1
  have hbw : Below w.heap.size w w1 := ((Below.refl _ w).alloc (Nat.le_refl _) _).trans (hb1.mono (by simp))
  go_wp2_with (go_at_call 23; refine (appendInt_any _ h0 h1 _ (hg.on hbw)).mono ?_; rintro e w2 ⟨v, rfl, hown, hb2⟩; refine Hid.out ?_)
  refine Lib.hid ?_
  have hcv := conv_own hown
  go_wp2
  go_ret2
  exact ⟨rfl, hbw.trans (hb2.mono (by omega))⟩

set_option maxHeartbeats 1000000 in
theorem print_text (n : Int) (s : ByteArray) (w : World) (hs : s.size ≤ 64) (hr : rightB 2 n s = true) :
    Calls Tryd.prog 14 #[.agg #[.int .i64 2, .int .i64 n, .string s]] w fun e w' => e = .returned (.tuple #[.string ⟨(39 :: (dbl s.data.toList ++ [39])).toArray⟩, .int .i64 0]) ∧ Below w.heap.size w w' := by
  obtain ⟨L, hL⟩ : ∃ L, L = 39 :: (dbl s.data.toList ++ [39]) := ⟨_, rfl⟩
  rw [← hL]
  have HL := Lib.hid hL
  clear hL
  go_enter Tryd.func14, Tryd.ntmps14
  go_wp2_with (go_at_call 10; refine (check_any _ _ _ _).mono ?_; rw [hr]; rintro e w1 ⟨rfl, hb1⟩; refine Hid.out ?_)
  refine Lib.hid ?_
  obtain ⟨c0, c1, c2, hz⟩ := box_cells hb1
  have hbw : Below w.heap.size w w1 := ((Below.refl _ w).alloc (Nat.le_refl _) _).trans (hb1.mono (by simp))
  go_wp2_with (go_at_call 24; refine (appendText_any _ _ hs).mono ?_; rintro e w2 ⟨v, rfl, hown, hb2⟩; refine Hid.out ?_)
  refine Lib.hid ?_
  rw [← HL.out] at hown
  have hcv := conv_own hown
  go_wp2
  go_ret2
  exact ⟨rfl, hbw.trans (hb2.mono (by omega))⟩

set_option maxHeartbeats 1000000 in
theorem print_null (n : Int) (s : ByteArray) (w : World) (hr : rightB 0 n s = true) :
    Calls Tryd.prog 14 #[.agg #[.int .i64 0, .int .i64 n, .string s]] w fun e w' => e = .returned (.tuple #[.string ⟨#[110, 117, 108, 108]⟩, .int .i64 0]) ∧ Below w.heap.size w w' := by
  obtain ⟨i0, hi, hz0, hz1, hz2⟩ := info_parts infoByte
  go_enter Tryd.func14, Tryd.ntmps14
  go_wp2_with (go_at_call 10; refine (check_any _ _ _ _).mono ?_; rw [hr]; rintro e w1 ⟨rfl, hb1⟩; refine Hid.out ?_)
  refine Lib.hid ?_
  obtain ⟨c0, c1, c2, hz⟩ := box_cells hb1
  have hbw : Below w.heap.size w w1 := ((Below.refl _ w).alloc (Nat.le_refl _) _).trans (hb1.mono (by simp))
  go_wp2_with (at_builtin; refine Lib.wpList_append_own_string _ rfl _ _ 45 9 rfl w1.heap.size 5 i0 Tryd.underlying45 Tryd.underlying9 hi hz0 hz1 hz2 (.slice none 0 0) 0 [] rfl (World.ownsRow_nil _ _ _ _) ⟨#[110, 117, 108, 108]⟩ rfl (by decide) (by decide) (Nat.le_refl _) ?_; intro v w2 hown hgrow _; refine Hid.out ?_)
  refine Lib.hid ?_
  have hb2 : Below w.heap.size w w2 := hbw.grown hgrow (by omega) (by intro k hk; exact absurd hk (by simp [Value.ownBlock]))
  have hown2 : w2.ownsRow w1.heap.size 5 1 v [110, 117, 108, 108].length (Lib.byteCells [110, 117, 108, 108]) := hown
  clear hown
  have hcv := conv_own hown2
  go_wp2
  go_ret2
  exact ⟨rfl, hb2⟩

theorem print_yes (k n : Int) (s : ByteArray) (w : World) (hg : Gd w) (h0 : -9223372036854775808 ≤ n) (h1 : n ≤ 9223372036854775807) (hr : rightB k n s = true) :
    Calls Tryd.prog 14 #[.agg #[.int .i64 k, .int .i64 n, .string s]] w fun e w' => e = .returned (.tuple #[.string ⟨(prt k n s).toArray⟩, .int .i64 0]) ∧ Below w.heap.size w w' := by
  rcases right_kind hr with rfl | rfl | ⟨rfl, hs⟩
  · exact print_null n s w hr
  · exact print_int n s w hg h0 h1 hr
  · exact print_text n s w hs hr
end Go.Proofs.YtakpahmngkfpkaaDoor
