/- The walks of awake and AgendaNil; an agenda among new blocks. -/
import Derived.Test.YtmehdhjelggkpaaMf
namespace Go.Proofs.Ytmehdhjelggkpaa
open Go.RowKit Go.Maps

/-- All blocks since B. -/
def Frm (B : Nat) (w : World) : Nat → Prop := fun k => B ≤ k ∧ k < w.heap.size
/-- The agenda at A, among blocks since B. -/
def Own (B : Nat) (w : World) (A c : Nat) (R : List Ti) : Prop := B ≤ w.heap.size ∧ Agd w A (Frm B w) c R

section
variable {B A c : Nat} {w w' : World} {S : Nat → Prop} {R : List Ti}
theorem Own.like (h : Own B w A c R) (k : Like w' w) : Own B w' A c R := by
  refine ⟨by rw [k.heap]; exact h.1, ?_⟩
  have := h.2.like k
  refine this.wider ?_ ?_
  · rintro j ⟨a, b⟩
    exact ⟨a, by rw [k.heap]; exact b⟩
  · rintro j ⟨_, b⟩
    exact b
theorem Own.drewN (h : Own B w A c R) (k : Nat) : Own B (w.drewN k) A c R := h.like ⟨rfl, rfl, rfl, rfl⟩
theorem own_below (hB : B ≤ w.heap.size) (h : Fr w w' (Frm B w)) : Below B w w' := h.toBelow (fun k hk q => by have := q.1; omega) hB
theorem Own.new (w : World) : Calls Try.prog 10 #[] w fun e w' => e = .returned (.pointer (some ⟨w.heap.size, 0, none⟩)) ∧ Own w.heap.size w' w.heap.size 0 [] ∧ Below w.heap.size w w' := by
  refine (new_any w).mono ?_
  rintro e w' ⟨rfl, ha, hb, hs⟩
  refine ⟨rfl, ⟨hb.size, ha.wider ?_ ?_⟩, hb⟩
  · rintro k rfl
    exact ⟨Nat.le_refl _, by omega⟩
  · rintro k ⟨_, q⟩
    exact q
theorem Own.set {what d : Int} (h : Own B w A c R) (hc : c < 900000) (hi : inI what) : Calls Try.prog 16 #[.pointer (some ⟨A, 0, none⟩), .int .i64 what, .int .i64 d] w fun e w' => e = .returned (.tuple #[]) ∧ Own B w' A (c + 1) (setL R what d) ∧ Below B w w' := by
  refine (set_any h.2 hc hi).mono ?_
  rintro e w' ⟨rfl, ha, hf⟩
  refine ⟨rfl, ⟨Nat.le_trans h.1 hf.size, ha.wider ?_ (fun _ q => q.2)⟩, own_below h.1 hf⟩
  rintro k (⟨a, b⟩ | ⟨a, b⟩)
  · exact ⟨a, Nat.lt_of_lt_of_le b hf.size⟩
  · exact ⟨Nat.le_trans h.1 a, b⟩
theorem Own.kept {R' : List Ti} (h : Own B w A c R) (ha : Agd w' A (Frm B w) c R') (hf : Fr w w' (Frm B w)) : Own B w' A c R' ∧ Below B w w' :=
  ⟨⟨Nat.le_trans h.1 hf.size, ha.wider (fun _ q => ⟨q.1, Nat.lt_of_lt_of_le q.2 hf.size⟩) (fun _ q => q.2)⟩, own_below h.1 hf⟩
theorem Own.drop {what : Int} (h : Own B w A c R) (hi : inI what) : Calls Try.prog 17 #[.pointer (some ⟨A, 0, none⟩), .int .i64 what] w fun e w' => e = .returned (.tuple #[]) ∧ Own B w' A c (dropL R what) ∧ Below B w w' := by
  refine (drop_any h.2 hi).mono ?_
  rintro e w' ⟨rfl, ha, hf⟩
  exact ⟨rfl, h.kept ha hf⟩
theorem Own.pop {t : Ti} {now : Int} (h : Own B w A c R) (ht : nextL R = some t) (hd : t.due ≤ now) : Calls Try.prog 14 #[.pointer (some ⟨A, 0, none⟩), .int .i64 now] w fun e w' => e = .returned (.tuple #[.int .i64 t.what, .bool true]) ∧ Own B w' A c (dropL R t.what) ∧ Below B w w' := by
  refine (pop_due h.2 ht hd).mono ?_
  rintro e w' ⟨rfl, ha, hf⟩
  exact ⟨rfl, h.kept ha hf⟩
end

theorem aw1 : setL (setL (setL [] 7 30) 8 20) 9 20 = [⟨7, 30⟩, ⟨8, 20⟩, ⟨9, 20⟩] := by simp [setL, dropL]
theorem aw2 : nextL [⟨7, 30⟩, ⟨8, 20⟩, ⟨9, 20⟩] = some ⟨8, 20⟩ := by simp [nextL, better]
theorem aw3 : dropL [⟨7, 30⟩, ⟨8, 20⟩, ⟨9, 20⟩] 8 = [⟨7, 30⟩, ⟨9, 20⟩] := by simp [dropL]

set_option maxHeartbeats 2000000 in
set_option maxRecDepth 100000 in
theorem awake_any (w : World) : Calls Try.prog 9 #[] w fun e w' => e = .returned (.bool true) ∧ Below w.heap.size w w' := by
  go_enter Try.func9, Try.ntmps9
  go_wp2_with fail
  refine (Own.new w).mono ?_
  rintro e w1 ⟨rfl, h1, b1⟩
  go_wp2_with fail
  refine (h1.set (by omega) (inI_of (by omega) (by omega))).mono ?_
  rintro e w2 ⟨rfl, h2, b2⟩
  go_wp2_with fail
  refine (h2.set (by omega) (inI_of (by omega) (by omega))).mono ?_
  rintro e w3 ⟨rfl, h3, b3⟩
  go_wp2_with fail
  refine (h3.set (by omega) (inI_of (by omega) (by omega))).mono ?_
  rintro e w4 ⟨rfl, h4, b4⟩
  rw [aw1] at h4
  go_wp2_with fail
  refine (next_yes h4.2 aw2).mono ?_
  rintro e w5 ⟨rfl, k, rfl⟩
  go_wp2_with fail
  refine (pop_late (h4.drewN _).2 aw2 (by simp)).mono ?_
  rintro e w6 ⟨rfl, rfl⟩
  go_wp2_with fail
  refine ((h4.drewN _).pop aw2 (by simp)).mono ?_
  rintro e w7 ⟨rfl, h7, b7⟩
  rw [aw3] at h7
  go_wp2_with fail
  refine (alen_any h7.2).mono ?_
  rintro e w8 ⟨rfl, rfl⟩
  go_wp2
  go_ret
  exact ⟨rfl, (((b1.trans b2).trans b3).trans b4).trans ⟨b7.os, b7.tape, b7.output, b7.size, b7.block⟩⟩

set_option maxHeartbeats 1000000 in
theorem nil_set (a b : Int) (w : World) : Calls Try.prog 16 #[.pointer none, .int .i64 a, .int .i64 b] w fun e w' => e = .returned (.tuple #[]) ∧ w' = w := by
  go_enter Try.func16, Try.ntmps16
  go_wp2
  refine bodyPost_ret (results_none rfl _ _ _) rfl ?_
  exact ⟨rfl, rfl⟩
set_option maxHeartbeats 1000000 in
theorem nil_drop (a : Int) (w : World) : Calls Try.prog 17 #[.pointer none, .int .i64 a] w fun e w' => e = .returned (.tuple #[]) ∧ w' = w := by
  go_enter Try.func17, Try.ntmps17
  go_wp2
  refine bodyPost_ret (results_none rfl _ _ _) rfl ?_
  exact ⟨rfl, rfl⟩
set_option maxHeartbeats 1000000 in
theorem nil_len (w : World) : Calls Try.prog 15 #[.pointer none] w fun e w' => e = .returned (.int .i64 0) ∧ w' = w := by
  go_enter Try.func15, Try.ntmps15
  go_wp2
  go_ret
  exact ⟨rfl, rfl⟩
set_option maxHeartbeats 1000000 in
theorem nil_next (w : World) : Calls Try.prog 13 #[.pointer none] w fun e w' => e = .returned (.tuple #[.int .i64 0, .int .i64 0, .bool false]) ∧ w' = w := by
  go_enter Try.func13, Try.ntmps13
  go_wp2_with fail
  refine (nil_len w).mono ?_
  rintro e w' ⟨rfl, rfl⟩
  go_wp2
  go_ret3
  exact ⟨rfl, rfl⟩
set_option maxHeartbeats 1000000 in
theorem nil_pop (a : Int) (w : World) : Calls Try.prog 14 #[.pointer none, .int .i64 a] w fun e w' => e = .returned (.tuple #[.int .i64 0, .bool false]) ∧ w' = w := by
  go_enter Try.func14, Try.ntmps14
  go_wp2_with fail
  refine (nil_len w).mono ?_
  rintro e w' ⟨rfl, rfl⟩
  go_wp2
  go_ret2
  exact ⟨rfl, rfl⟩

set_option maxHeartbeats 2000000 in
set_option maxRecDepth 100000 in
theorem agendaNil_any (a b : Int) (w : World) : Calls Try.prog 8 #[.int .i64 a, .int .i64 b] w fun e w' => e = .returned (.bool true) ∧ Below w.heap.size w w' := by
  go_enter Try.func8, Try.ntmps8
  go_wp2_with fail
  refine (nil_set a b w).mono ?_
  rintro e w' ⟨rfl, rfl⟩
  go_wp2_with fail
  refine (nil_drop a _).mono ?_
  rintro e w' ⟨rfl, rfl⟩
  go_wp2_with fail
  refine (nil_next _).mono ?_
  rintro e w' ⟨rfl, rfl⟩
  go_wp2_with fail
  refine (nil_pop b _).mono ?_
  rintro e w' ⟨rfl, rfl⟩
  go_wp2_with fail
  refine (awake_any _).mono ?_
  rintro e w' ⟨rfl, hb⟩
  go_wp2_with fail
  refine (nil_len _).mono ?_
  rintro e w' ⟨rfl, rfl⟩
  go_wp2
  go_ret
  exact ⟨rfl, hb⟩
end Go.Proofs.Ytmehdhjelggkpaa
