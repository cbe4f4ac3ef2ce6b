/- The walk of keys.appendValue. -/
import Derived.Test.YtbepekgaipipjaaWa
import Derived.Test.YtbepekgaipipjaaWb
import Derived.Deep.RegionLaw
import Derived.Deep.AppendLies
namespace Go.Proofs.Ytbepekgaipipjaa
open Go.RowKit

theorem bcell {W w1 : World} (hb : Below W.heap.size W w1) : (∀ b o, b < W.heap.size → w1.cell? ⟨b, o, none⟩ = W.cell? ⟨b, o, none⟩) ∧ (∀ b o, b < W.heap.size → w1.frozen? ⟨b, o, none⟩ = W.frozen? ⟨b, o, none⟩) :=
  ⟨fun b o h => hb.cell (p := ⟨b, o, none⟩) h, fun b o h => hb.frozen (p := ⟨b, o, none⟩) h⟩

theorem box_own {w : World} {B : Nat} {v : Value} {n : Nat} {xs : List Value} {o1 o2 : Obj} (h : w.ownsRow B 5 1 v n xs) : (((w.alloc o1).alloc o2).drew).ownsRow B 5 1 v n xs := (h.alloc o1).alloc o2
theorem news_at (w : World) (o : Obj) (c : Value) (t : TypeId) : ∀ j u, [c][j]? = some u → ((w.alloc o).alloc (.cells #[c] t)).cell? ((⟨w.heap.size + 1, 0, none⟩ : Addr).add j) = some u := by
  intro j u hj
  have := news_one (w.alloc o) c t j u hj
  rwa [show (w.alloc o).heap.size = w.heap.size + 1 by simp] at this

set_option maxHeartbeats 2000000 in
set_option maxRecDepth 100000 in
theorem appendValue_null (v : Value) (l : List UInt8) (B : Nat) (n : Int) (s : ByteArray) (w : World) (hown : w.ownsRow B 5 1 v l.length (Lib.byteCells l)) (hB : B ≤ w.heap.size) (hl : l.length ≤ 9000) :
    Calls Try.prog 58 #[v, .agg #[.int .i64 0, .int .i64 n, .string s]] w fun e w' => ∃ v', e = .returned v' ∧ w'.ownsRow B 5 1 v' (l ++ [1]).length (Lib.byteCells (l ++ [1])) ∧ Below B w w' := by
  obtain ⟨i0, hi, hz0, hz1, hz2⟩ := info_parts infoByte
  go_enter Try.func58, Try.ntmps58
  go_wp2_with (at_builtin; refine wpList_append_own _ rfl _ _ 87 rfl B 5 i0 (.int .u8 0) 1 1 Try.underlying87 hi hz0 hz1 hz2 rfl (by decide) _ _ _ rfl ((hown.alloc _).alloc _) ⟨w.heap.size + 1, 0, none⟩ 1 1 [Value.int .u8 1] rfl rfl (news_at _ _ _ _) (by intro u' hu'; simp at hu'; subst hu'; rfl) (by unfold maxLen; omega) (by omega) (by simp; omega) ?_; intro v2 w2 hown2 hgrow2 _; refine Hid.out ?_)
  refine Lib.hid ?_
  have hb2 : Below B w w2 := (((Below.refl _ w).alloc hB _).alloc (by simp; omega) _).grown hgrow2 (by simp; omega) (fun k hk => (hown.lt k hk).1)
  go_wp2
  go_ret
  refine ⟨_, rfl, ?_, hb2⟩
  have e1 : (l ++ [1]).length = l.length + 1 := by simp
  have e2 : Lib.byteCells (l ++ [1]) = Lib.byteCells l ++ [Value.int .u8 1] := by simp [Lib.byteCells]
  rw [e1, e2]
  exact hown2

theorem own_byte {w : World} {B : Nat} {v : Value} {l : List UInt8} {c : UInt8} (h : w.ownsRow B 5 1 v (l.length + 1) (Lib.byteCells l ++ [Value.int .u8 c.toNat])) : w.ownsRow B 5 1 v (l ++ [c]).length (Lib.byteCells (l ++ [c])) := by
  have e1 : (l ++ [c]).length = l.length + 1 := by simp
  have e2 : Lib.byteCells (l ++ [c]) = Lib.byteCells l ++ [Value.int .u8 c.toNat] := by simp [Lib.byteCells]
  rw [e1, e2]
  exact h

set_option maxHeartbeats 2000000 in
set_option maxRecDepth 100000 in
theorem appendValue_num (v : Value) (l : List UInt8) (B : Nat) (n : Int) (s : ByteArray) (w : World) (hf : Fit n) (hown : w.ownsRow B 5 1 v l.length (Lib.byteCells l)) (hB : B ≤ w.heap.size) (hl : l.length ≤ 9000) :
    Calls Try.prog 58 #[v, .agg #[.int .i64 1, .int .i64 n, .string s]] w fun e w' => ∃ v', e = .returned v' ∧ w'.ownsRow B 5 1 v' (l ++ [2] ++ be 8 (bias n)).length (Lib.byteCells (l ++ [2] ++ be 8 (bias n))) ∧ Below B w w' := by
  obtain ⟨i0, hi, hz0, hz1, hz2⟩ := info_parts infoByte
  have hl2 : (l ++ [(2 : UInt8)]).length ≤ 10000 := by simp; omega
  obtain ⟨R, hR⟩ : ∃ R, R = l ++ [2] ++ be 8 (bias n) := ⟨_, rfl⟩
  rw [← hR]
  have HR := Lib.hid hR
  clear hR
  go_enter Try.func58, Try.ntmps58
  go_wp2
  go_region_law (first
    | (refine step_append_lies _ rfl _ _ 87 rfl B 5 i0 (.int .u8 0) 1 1 Try.underlying87 hi hz0 hz1 hz2 rfl (by decide) v l.length (Lib.byteCells l) (by simp [Act.eval]) (box_own hown) ⟨w.heap.size + 1, 0, none⟩ 1 1 [Value.int .u8 2] (by simp [Act.eval]) rfl (news_at _ _ _ _) (by intro u' hu'; simp at hu'; subst hu'; rfl) (by decide) (by unfold maxLen; omega) (by omega) (by simp; omega) _ rfl ?_; intro g cap w1 hown1 hgrow1 _ _; have hb1 : Below B w w1 := ((((Below.refl _ w).alloc hB _).alloc (by simp; omega) _).drew).grown hgrow1 (by simp; omega) (fun k hk => (hown.lt k hk).1); have cN : w1.cell? ⟨w.heap.size, 1, none⟩ = some (.int .i64 n) := (by rw [hgrow1.cell_far _ (by simp; omega) (by intro h; have := (hown.lt _ h.symm).2; simp at this)]; simp))
    | (go_simp; go_at_call 59; refine (appendNumber_any _ (l ++ [2]) B n _ hf (own_byte hown1) (Nat.le_trans hB hb1.size) hl2).mono ?_; rintro e w2 ⟨v2, rfl, hown2, hb2⟩; rw [← HR.out] at hown2))
  all_goals go_wp2
  all_goals go_ret
  all_goals exact ⟨_, rfl, hown2, hb1.trans hb2⟩

set_option maxHeartbeats 2000000 in
set_option maxRecDepth 100000 in
theorem appendValue_text (v : Value) (l : List UInt8) (B : Nat) (n : Int) (s : ByteArray) (w : World) (hs : s.size ≤ 64) (hown : w.ownsRow B 5 1 v l.length (Lib.byteCells l)) (hB : B ≤ w.heap.size) (hl : l.length ≤ 9000) :
    Calls Try.prog 58 #[v, .agg #[.int .i64 2, .int .i64 n, .string s]] w fun e w' => ∃ v', e = .returned v' ∧ w'.ownsRow B 5 1 v' (l ++ [3] ++ (esc s.data.toList ++ [0, 1])).length (Lib.byteCells (l ++ [3] ++ (esc s.data.toList ++ [0, 1]))) ∧ Below B w w' := by
  obtain ⟨i0, hi, hz0, hz1, hz2⟩ := info_parts infoByte
  have hl2 : (l ++ [(3 : UInt8)]).length ≤ 10000 := by simp; omega
  obtain ⟨R, hR⟩ : ∃ R, R = l ++ [3] ++ (esc s.data.toList ++ [0, 1]) := ⟨_, rfl⟩
  rw [← hR]
  have HR := Lib.hid hR
  clear hR
  go_enter Try.func58, Try.ntmps58
  go_wp2
  go_region_law (first
    | (refine step_append_lies _ rfl _ _ 87 rfl B 5 i0 (.int .u8 0) 1 1 Try.underlying87 hi hz0 hz1 hz2 rfl (by decide) v l.length (Lib.byteCells l) (by simp [Act.eval]) (box_own hown) ⟨w.heap.size + 1, 0, none⟩ 1 1 [Value.int .u8 3] (by simp [Act.eval]) rfl (news_at _ _ _ _) (by intro u' hu'; simp at hu'; subst hu'; rfl) (by decide) (by unfold maxLen; omega) (by omega) (by simp; omega) _ rfl ?_; intro g cap w1 hown1 hgrow1 _ _; have hb1 : Below B w w1 := ((((Below.refl _ w).alloc hB _).alloc (by simp; omega) _).drew).grown hgrow1 (by simp; omega) (fun k hk => (hown.lt k hk).1); have cN : w1.cell? ⟨w.heap.size, 2, none⟩ = some (.string s) := (by rw [hgrow1.cell_far _ (by simp; omega) (by intro h; have := (hown.lt _ h.symm).2; simp at this)]; simp))
    | (go_simp; go_at_call 60; refine (appendText_any _ (l ++ [3]) B s _ hs (own_byte hown1) (Nat.le_trans hB hb1.size) hl2).mono ?_; rintro e w2 ⟨v2, rfl, hown2, hb2⟩; rw [← HR.out] at hown2))
  all_goals go_wp2
  all_goals go_ret
  all_goals exact ⟨_, rfl, hown2, hb1.trans hb2⟩

/-- Every value that may be. -/
theorem appendValue_any (v : Value) (l : List UInt8) (B : Nat) (x : V) (w : World) (hx : Right x) (hown : w.ownsRow B 5 1 v l.length (Lib.byteCells l)) (hB : B ≤ w.heap.size) (hl : l.length ≤ 9000) :
    Calls Try.prog 58 #[v, .agg #[.int .i64 x.k, .int .i64 x.n, .string x.s]] w fun e w' => ∃ v', e = .returned v' ∧ w'.ownsRow B 5 1 v' (l ++ enc1 x).length (Lib.byteCells (l ++ enc1 x)) ∧ Below B w w' := by
  rcases hx.kinds with ⟨k, n, s⟩ | ⟨k, s⟩ | ⟨k, n, s⟩
  · rw [enc_null k, k]
    exact appendValue_null v l B x.n x.s w hown hB hl
  · have h := appendValue_num v l B x.n x.s w ⟨hx.lo, hx.hi⟩ hown hB hl
    rw [List.append_assoc] at h
    rw [enc_num k, k]
    exact h
  · have h := appendValue_text v l B x.n x.s w (by simpa using s) hown hB hl
    rw [List.append_assoc] at h
    rw [enc_text k, k]
    exact h
end Go.Proofs.Ytbepekgaipipjaa
