/- The walks of value.guess and value.Read: every text as the value that it is written as, or refused. -/
import Derived.Test.YtakpahmngkfpkaaDoorWf
import Derived.Lib.IndexBytes
namespace Go.Proofs.YtakpahmngkfpkaaDoor
open Go.RowKit

def emp : ByteArray := ⟨#[]⟩
def nullB : ByteArray := ⟨#[110, 117, 108, 108]⟩

theorem below_bytes (w : World) (e : TypeId) (s : ByteArray) : Below w.heap.size w (Lib.bytesWorld w e s) :=
  ⟨rfl, rfl, rfl, by rw [Lib.bytesWorld_size]; omega, fun k hk => Lib.bytesWorld_at_old w e s k hk⟩

theorem parse_ok (s : ByteArray) (hs : s.size ≤ 130) (v : Int) (h : Lib.parseIntB 64 s.data.toList = .ok v) (w : World) :
    Calls Tryd.prog 34 #[.string s, .int .i64 10, .int .i64 64] w fun e w' => e = .returned (.tuple #[.int .i64 v, .nilIface]) ∧ Below w.heap.size w w' := by
  have c : Calls Tryd.prog 34 #[.string s, .int .i64 10, .int .i64 64] w _ := Any.strconv_ParseInt_10_at64_ok Tryd.laysC174 s (by omega) v h w
  refine c.mono ?_
  rintro e w' ⟨rfl, rfl | ⟨t, rfl⟩⟩
  · exact ⟨rfl, Below.refl _ _⟩
  · exact ⟨rfl, below_bytes _ _ _⟩

theorem parse_no (s : ByteArray) (hs : s.size ≤ 130) (h : ∀ v, Lib.parseIntB 64 s.data.toList ≠ .ok v) (w : World) (hg : Gd w) :
    Calls Tryd.prog 34 #[.string s, .int .i64 10, .int .i64 64] w fun e w' => ∃ n N, e = .returned (.tuple #[.int .i64 n, .iface 75 (.pointer (some ⟨N, 0, none⟩))]) ∧ Below w.heap.size w w' := by
  cases hp : Lib.parseIntB 64 s.data.toList
  · exact absurd hp (h _)
  · obtain ⟨tp, p, hv⟩ := hg.syn
    have c : Calls Tryd.prog 34 #[.string s, .int .i64 10, .int .i64 64] w _ := Any.strconv_ParseInt_10_at64_syntax_var Tryd.laysC174 s (by omega) hp tp p w hv
    refine c.mono ?_
    rintro e w' ⟨N, rfl, _, _, hb⟩
    exact ⟨_, N, rfl, hb⟩
  · obtain ⟨tp, p, hv⟩ := hg.rng
    have c : Calls Tryd.prog 34 #[.string s, .int .i64 10, .int .i64 64] w _ := Any.strconv_ParseInt_10_at64_range_var Tryd.laysC174 s (by omega) hp tp p w hv
    refine c.mono ?_
    rintro e w' ⟨N, rfl, _, _, hb⟩
    exact ⟨_, N, rfl, hb⟩

set_option maxHeartbeats 400000 in
theorem guess_null (w : World) :
    Calls Tryd.prog 26 #[.string ⟨#[110, 117, 108, 108]⟩] w fun e w' => e = .returned (.agg #[.int .i64 0, .int .i64 0, .string ⟨#[]⟩]) ∧ Below w.heap.size w w' := by
  go_enter Tryd.func26, Tryd.ntmps26
  go_wp2
  exact bodyPost_ret (v := .agg #[.int .i64 0, .int .i64 0, .string ⟨#[]⟩]) (by simp [results, Tryd.results26, go_sem]) rfl ⟨rfl, (Below.refl _ _).alloc (Nat.le_refl _) _⟩

theorem box_more {w w1 : World} {x y z : Value} {t : TypeId} (hb : Below (w.alloc (.cells #[x, y, z] t)).heap.size (w.alloc (.cells #[x, y, z] t)) w1) :
    w1.frozen? ⟨w.heap.size, 0, none⟩ = false ∧ w1.frozen? ⟨w.heap.size, 1, none⟩ = false ∧ w1.frozen? ⟨w.heap.size, 2, none⟩ = false := by
  have h := (bcell hb).2
  refine ⟨?_, ?_, ?_⟩
  · rw [h _ _ (by simp)]; simp
  · rw [h _ _ (by simp)]; simp
  · rw [h _ _ (by simp)]; simp

set_option maxHeartbeats 1000000 in
theorem guess_text (s : ByteArray) (w : World) (h1 : 0 < s.size) (hs : s.size ≤ 130) (hn : (s.toList == [110, 117, 108, 108]) = false) (hq' : ((s[0].toNat : Int) == 39) = true) :
    Calls Tryd.prog 26 #[.string s] w fun e w' => e = .returned (.agg #[.int .i64 2, .int .i64 0, .string ⟨(bareL (s.data.toList.drop 1)).toArray⟩]) ∧ Below w.heap.size w w' := by
  have he : (s.extract 1 s.size).data.toList = s.data.toList.drop 1 := Lib.extract_to_end s 1
  have hz : (s.extract 1 s.size).size ≤ 129 := by simp; omega
  rw [← he]
  clear he
  go_enter Tryd.func26, Tryd.ntmps26
  go_wp2_with (go_at_call 33; refine (bare_any _ _ hz).mono ?_; rintro e w1 ⟨rfl, hb1⟩; refine Hid.out ?_)
  refine Lib.hid ?_
  obtain ⟨c0, c1, c2, hlt⟩ := box_cells hb1
  obtain ⟨f0, f1, f2⟩ := box_more hb1
  have hbw : Below w.heap.size w w1 := ((Below.refl _ w).alloc (Nat.le_refl _) _).trans (hb1.mono (by simp))
  go_wp2
  exact bodyPost_ret (v := .agg #[.int .i64 2, .int .i64 0, .string ⟨(bareL (s.extract 1 s.size).data.toList).toArray⟩]) (by simp [results, Tryd.results26, go_sem, c0, c1, c2]) rfl ⟨rfl, ((hbw.setCell (by simp) _).setCell (by simp) _).setCell (by simp) _⟩

set_option maxHeartbeats 1000000 in
theorem guess_int (s : ByteArray) (w : World) (h1 : 0 < s.size) (hs : s.size ≤ 130) (hn : (s.toList == [110, 117, 108, 108]) = false) (hq' : ((s[0].toNat : Int) == 39) = false) (v : Int) (hp : Lib.parseIntB 64 s.data.toList = .ok v) :
    Calls Tryd.prog 26 #[.string s] w fun e w' => e = .returned (.agg #[.int .i64 1, .int .i64 v, .string ⟨#[]⟩]) ∧ Below w.heap.size w w' := by
  have HP := Lib.hid hp
  clear hp
  go_enter Tryd.func26, Tryd.ntmps26
  go_wp2_with (go_at_call 34; refine (parse_ok _ hs v HP.out _).mono ?_; rintro e w1 ⟨rfl, hb1⟩; refine Hid.out ?_)
  refine Lib.hid ?_
  obtain ⟨c0, c1, c2, hlt⟩ := box_cells hb1
  obtain ⟨f0, f1, f2⟩ := box_more hb1
  have hbw : Below w.heap.size w w1 := ((Below.refl _ w).alloc (Nat.le_refl _) _).trans (hb1.mono (by simp))
  go_wp2
  exact bodyPost_ret (v := .agg #[.int .i64 1, .int .i64 v, .string ⟨#[]⟩]) (by simp [results, Tryd.results26, go_sem, c0, c1, c2]) rfl ⟨rfl, ((hbw.setCell (by simp) _).setCell (by simp) _).setCell (by simp) _⟩

set_option maxHeartbeats 1000000 in
theorem guess_no (s : ByteArray) (w : World) (hg : Gd w) (h1 : 0 < s.size) (hs : s.size ≤ 130) (hn : (s.toList == [110, 117, 108, 108]) = false) (hq' : ((s[0].toNat : Int) == 39) = false) (hp : ∀ v, Lib.parseIntB 64 s.data.toList ≠ .ok v) :
    Calls Tryd.prog 26 #[.string s] w fun e w' => e = .returned (.agg #[.int .i64 0, .int .i64 0, .string ⟨#[]⟩]) ∧ Below w.heap.size w w' := by
  have HP := Lib.hid hp
  clear hp
  go_enter Tryd.func26, Tryd.ntmps26
  go_wp2_with (go_at_call 34; refine (parse_no _ hs HP.out _ (hg.on ((Below.refl _ w).alloc (Nat.le_refl _) _))).mono ?_; rintro e w1 ⟨n1, N1, rfl, hb1⟩; refine Hid.out ?_)
  refine Lib.hid ?_
  obtain ⟨c0, c1, c2, hlt⟩ := box_cells hb1
  obtain ⟨f0, f1, f2⟩ := box_more hb1
  have hbw : Below w.heap.size w w1 := ((Below.refl _ w).alloc (Nat.le_refl _) _).trans (hb1.mono (by simp))
  go_wp2
  exact bodyPost_ret (v := .agg #[.int .i64 0, .int .i64 0, .string ⟨#[]⟩]) (by simp [results, Tryd.results26, go_sem, c0, c1, c2]) rfl ⟨rfl, ((hbw.setCell (by simp) _).setCell (by simp) _).setCell (by simp) _⟩

abbrev errRead : Ending := .returned (.tuple #[.agg #[.int .i64 0, .int .i64 0, .string ⟨#[]⟩], .int .i64 10])

set_option maxHeartbeats 1000000 in
theorem read_empty (s : ByteArray) (w : World) (hn : s.toList.isEmpty = true) :
    Calls Tryd.prog 16 #[.string s] w fun e w' => e = errRead ∧ Below w.heap.size w w' := by
  go_enter Tryd.func16, Tryd.ntmps16
  go_wp2
  exact bodyPost_ret (v := .tuple #[.agg #[.int .i64 0, .int .i64 0, .string ⟨#[]⟩], .int .i64 10]) (by simp [results, Tryd.results16, go_sem]) rfl ⟨rfl, (Below.refl _ _).alloc (Nat.le_refl _) _⟩

set_option maxHeartbeats 1000000 in
theorem read_long (s : ByteArray) (w : World) (hn : s.toList.isEmpty = false) (hs : (130 : Int) < (s.size : Int)) :
    Calls Tryd.prog 16 #[.string s] w fun e w' => e = errRead ∧ Below w.heap.size w w' := by
  go_enter Tryd.func16, Tryd.ntmps16
  go_wp2
  exact bodyPost_ret (v := .tuple #[.agg #[.int .i64 0, .int .i64 0, .string ⟨#[]⟩], .int .i64 10]) (by simp [results, Tryd.results16, go_sem]) rfl ⟨rfl, (Below.refl _ _).alloc (Nat.le_refl _) _⟩

theorem box_two {w w1 w2 : World} {x y z x' y' z' : Value} {t : TypeId} (hb : Below (w.alloc (.cells #[x, y, z] t)).heap.size (w.alloc (.cells #[x, y, z] t)) w1)
    (hb2 : Below (w1.alloc (.cells #[x', y', z'] t)).heap.size (w1.alloc (.cells #[x', y', z'] t)) w2) :
    Below (w.alloc (.cells #[x, y, z] t)).heap.size (w.alloc (.cells #[x, y, z] t)) w2 :=
  (hb.alloc (by have := hb.size; exact this) _).trans (hb2.mono (by have := hb.size; simp at *; omega))

set_option maxHeartbeats 2000000 in
theorem read_yes (s : ByteArray) (k n : Int) (b : ByteArray) (w : World) (hg : Gd w) (hn : s.toList.isEmpty = false) (hs : (s.size : Int) ≤ 130) (h0 : -9223372036854775808 ≤ n) (h1 : n ≤ 9223372036854775807)
    (hgs : ∀ w, Gd w → Calls Tryd.prog 26 #[.string s] w fun e w' => e = .returned (.agg #[.int .i64 k, .int .i64 n, .string b]) ∧ Below w.heap.size w w')
    (hr : rightB k n b = true) (hp : (prt k n b == s.toList) = true) :
    Calls Tryd.prog 16 #[.string s] w fun e w' => e = .returned (.tuple #[.agg #[.int .i64 k, .int .i64 n, .string b], .int .i64 0]) ∧ Below w.heap.size w w' := by
  have HG := Lib.hid hgs
  clear hgs
  go_enter Tryd.func16, Tryd.ntmps16
  go_wp2_with (go_at_call 26; refine (HG.out _ (hg.on ((Below.refl _ w).alloc (Nat.le_refl _) _))).mono ?_; rintro e w1 ⟨rfl, hb1⟩; refine Hid.out ?_)
  refine Lib.hid ?_
  have hbw1 : Below w.heap.size w w1 := ((Below.refl _ w).alloc (Nat.le_refl _) _).trans (hb1.mono (by simp))
  have hz1 := hbw1.size
  go_wp2_with (go_at_call 14; refine (print_yes _ _ _ _ (hg.on (hbw1.alloc hz1 _)) h0 h1 hr).mono ?_; rintro e w2 ⟨rfl, hb2⟩; refine Hid.out ?_)
  refine Lib.hid ?_
  have hb3 := box_two hb1 hb2
  obtain ⟨c0, c1, c2, hlt⟩ := box_cells hb3
  obtain ⟨f0, f1, f2⟩ := box_more hb3
  obtain ⟨d0, d1, d2, hlt2⟩ := box_cells hb2
  have hbw : Below w.heap.size w w2 := ((Below.refl _ w).alloc (Nat.le_refl _) _).trans (hb3.mono (by simp))
  go_wp2
  exact bodyPost_ret (v := .tuple #[.agg #[.int .i64 k, .int .i64 n, .string b], .int .i64 0]) (by simp [results, Tryd.results16, go_sem, c0, c1, c2]) rfl ⟨rfl, ((hbw.setCell (by simp) _).setCell (by simp) _).setCell (by simp) _⟩

set_option maxHeartbeats 2000000 in
theorem read_other (s : ByteArray) (k n : Int) (b : ByteArray) (w : World) (hg : Gd w) (hn : s.toList.isEmpty = false) (hs : (s.size : Int) ≤ 130) (h0 : -9223372036854775808 ≤ n) (h1 : n ≤ 9223372036854775807)
    (hgs : ∀ w, Gd w → Calls Tryd.prog 26 #[.string s] w fun e w' => e = .returned (.agg #[.int .i64 k, .int .i64 n, .string b]) ∧ Below w.heap.size w w')
    (hr : rightB k n b = true) (hp : (prt k n b == s.toList) = false) :
    Calls Tryd.prog 16 #[.string s] w fun e w' => e = errRead ∧ Below w.heap.size w w' := by
  have HG := Lib.hid hgs
  clear hgs
  go_enter Tryd.func16, Tryd.ntmps16
  go_wp2_with (go_at_call 26; refine (HG.out _ (hg.on ((Below.refl _ w).alloc (Nat.le_refl _) _))).mono ?_; rintro e w1 ⟨rfl, hb1⟩; refine Hid.out ?_)
  refine Lib.hid ?_
  have hbw1 : Below w.heap.size w w1 := ((Below.refl _ w).alloc (Nat.le_refl _) _).trans (hb1.mono (by simp))
  have hz1 := hbw1.size
  go_wp2_with (go_at_call 14; refine (print_yes _ _ _ _ (hg.on (hbw1.alloc hz1 _)) h0 h1 hr).mono ?_; rintro e w2 ⟨rfl, hb2⟩; refine Hid.out ?_)
  refine Lib.hid ?_
  have hb3 := box_two hb1 hb2
  obtain ⟨c0, c1, c2, hlt⟩ := box_cells hb3
  obtain ⟨f0, f1, f2⟩ := box_more hb3
  have hbw : Below w.heap.size w w2 := ((Below.refl _ w).alloc (Nat.le_refl _) _).trans (hb3.mono (by simp))
  go_wp2
  exact bodyPost_ret (v := .tuple #[.agg #[.int .i64 0, .int .i64 0, .string ⟨#[]⟩], .int .i64 10]) (by simp [results, Tryd.results16, go_sem, c0, c1, c2]) rfl ⟨rfl, ((hbw.setCell (by simp) _).setCell (by simp) _).setCell (by simp) _⟩

set_option maxHeartbeats 2000000 in
theorem read_wrong (s : ByteArray) (k n : Int) (b : ByteArray) (w : World) (hg : Gd w) (hn : s.toList.isEmpty = false) (hs : (s.size : Int) ≤ 130)
    (hgs : ∀ w, Gd w → Calls Tryd.prog 26 #[.string s] w fun e w' => e = .returned (.agg #[.int .i64 k, .int .i64 n, .string b]) ∧ Below w.heap.size w w')
    (hr : rightB k n b = false) :
    Calls Tryd.prog 16 #[.string s] w fun e w' => e = errRead ∧ Below w.heap.size w w' := by
  have HG := Lib.hid hgs
  clear hgs
  go_enter Tryd.func16, Tryd.ntmps16
  go_wp2_with (go_at_call 26; refine (HG.out _ (hg.on ((Below.refl _ w).alloc (Nat.le_refl _) _))).mono ?_; rintro e w1 ⟨rfl, hb1⟩; refine Hid.out ?_)
  refine Lib.hid ?_
  have hbw1 : Below w.heap.size w w1 := ((Below.refl _ w).alloc (Nat.le_refl _) _).trans (hb1.mono (by simp))
  have hz1 := hbw1.size
  go_wp2_with (go_at_call 14; refine (print_no _ _ _ _ hr).mono ?_; rintro e w2 ⟨rfl, hb2⟩; refine Hid.out ?_)
  refine Lib.hid ?_
  have hb3 := box_two hb1 hb2
  obtain ⟨c0, c1, c2, hlt⟩ := box_cells hb3
  obtain ⟨f0, f1, f2⟩ := box_more hb3
  have hbw : Below w.heap.size w w2 := ((Below.refl _ w).alloc (Nat.le_refl _) _).trans (hb3.mono (by simp))
  go_wp2
  exact bodyPost_ret (v := .tuple #[.agg #[.int .i64 0, .int .i64 0, .string ⟨#[]⟩], .int .i64 10]) (by simp [results, Tryd.results16, go_sem, c0, c1, c2]) rfl ⟨rfl, ((hbw.setCell (by simp) _).setCell (by simp) _).setCell (by simp) _⟩
end Go.Proofs.YtakpahmngkfpkaaDoor
