/- The document's agenda in memory: the walks of its Drop, Set, Next and Pop. -/
import Derived.Test.YtmehdhjelggkpaaLd
namespace Go.Proofs.Ytmehdhjelggkpaa
open Go.RowKit Go.Maps

def flat2 (R : List Ti) : List Value := R.flatMap fun t => [.int .i64 t.what, .int .i64 t.due]
theorem flat2_len (R : List Ti) : (flat2 R).length = R.length * 2 := by
  induction R with
  | nil => rfl
  | cons t R ih => simp [flat2] at *; omega
theorem flat2_append (a b : List Ti) : flat2 (a ++ b) = flat2 a ++ flat2 b := by simp [flat2]
theorem flat2_one (t : Ti) : flat2 [t] = [.int .i64 t.what, .int .i64 t.due] := by simp [flat2]
theorem flat2_get (R : List Ti) : ∀ (k : Nat) (h : k < R.length), (flat2 R)[k * 2]? = some (.int .i64 R[k].what) ∧ (flat2 R)[k * 2 + 1]? = some (.int .i64 R[k].due) := by
  induction R with
  | nil => intro k h; simp at h
  | cons t R ih =>
    intro k h
    have e : flat2 (t :: R) = [.int .i64 t.what, .int .i64 t.due] ++ flat2 R := by simp [flat2]
    rw [e]
    cases k with
    | zero => simp
    | succ k =>
      have h' : k < R.length := by simpa using h
      obtain ⟨a, b⟩ := ih k h'
      have e1 : (k + 1) * 2 = k * 2 + 2 := by omega
      rw [e1]
      constructor
      · rw [List.getElem?_append_right (by simp)]
        simpa using a
      · rw [List.getElem?_append_right (by simp)]
        have e2 : k * 2 + 2 + 1 - [Value.int .i64 t.what, Value.int .i64 t.due].length = k * 2 + 1 := by simp
        rw [e2]
        simpa using b

/-- The document's agenda at block B: v its list. -/
structure Rf (w : World) (B : Nat) (v : Value) (R : List Ti) : Prop where
  ag : w.heap[B]? = some (.cells #[v] 29 (0, 0))
  own : w.ownsRow 0 62 2 v R.length (flat2 R)
  small : R.length ≤ 900000
/-- .. with its blocks among T. -/
def Rfd (w : World) (B : Nat) (T : Nat → Prop) (R : List Ti) : Prop := (∀ k, T k → k < w.heap.size) ∧ ∃ v, Rf w B v R ∧ T B ∧ ∀ k, v.ownBlock = some k → T k

section
variable {w w' : World} {B : Nat} {v : Value} {R : List Ti} {T : Nat → Prop}
theorem Rf.rowTag (h : Rf w B v R) : ∀ k, v.ownBlock = some k → ∃ cur, w.heap[k]? = some (.cells cur 62 (0, 0)) := by
  intro k hk
  rcases h.own.2 with ⟨rfl, _⟩ | ⟨g', cap', cur, rfl, _, hg, _⟩
  · cases hk
  · simp only [Value.ownBlock, Option.some.injEq] at hk
    subst hk
    exact ⟨cur, hg⟩
theorem Rf.agRow (h : Rf w B v R) : ∀ k, v.ownBlock = some k → B ≠ k := by
  intro k hk
  obtain ⟨cur, hg⟩ := h.rowTag k hk
  exact tag_ne h.ag hg (by decide)
theorem Rf.like (h : Rf w B v R) (k : Like w' w) : Rf w' B v R := ⟨by rw [k.heap]; exact h.ag, own_like h.own (fun b _ => by rw [k.heap]), h.small⟩
theorem Rf.below (h : Rf w B v R) (k : Below w.heap.size w w') : Rf w' B v R := ⟨(k.block B (blk_lt h.ag)).trans h.ag, own_like h.own (fun b hb => k.block b (h.own.lt b hb).2), h.small⟩
theorem Rf.shape (h : Rf w B v R) : ∃ ad cap, v = .slice ad R.length cap := by
  rcases h.own.2 with ⟨rfl, e⟩ | ⟨g', cap', cur, rfl, _⟩
  · exact ⟨none, 0, by rw [e]⟩
  · exact ⟨_, _, rfl⟩
theorem Rf.form (h : Rf w B v R) (hn : 0 < R.length) : ∃ g cap, v = .slice (some ⟨g, 0, none⟩) R.length cap := by
  rcases h.own.2 with ⟨_, h0⟩ | ⟨g, cap, cur, rfl, _⟩
  · omega
  · exact ⟨g, cap, rfl⟩
theorem Rf.at' {g cap k : Nat} (h : Rf w B (.slice (some ⟨g, 0, none⟩) R.length cap) R) (hk : k < R.length) : w.cell? ⟨g, k * 2, none⟩ = some (.int .i64 R[k].what) ∧ w.cell? ⟨g, k * 2 + 1, none⟩ = some (.int .i64 R[k].due) := by
  obtain ⟨a, b⟩ := flat2_get R k hk
  exact ⟨(h.own.cellAt _ (by omega)).trans a, (h.own.cellAt _ (by omega)).trans b⟩
theorem Rfd.stays {S : Nat → Prop} (h : Rfd w B T R) (k : Fr w w' S) (hd : ∀ b, T b → ¬ S b) : Rfd w' B T R := by
  obtain ⟨hT, v, h, hB, hv⟩ := h
  exact ⟨fun b hb => Nat.lt_of_lt_of_le (hT b hb) k.size, v, ⟨(k.block B (blk_lt h.ag) (hd B hB)).trans h.ag, own_like h.own (fun b hb => k.block b (h.own.lt b hb).2 (hd b (hv b hb))), h.small⟩, hB, hv⟩
theorem Rfd.alloc (h : Rfd w B T R) (o : Obj) : Rfd (w.alloc o) B T R := h.stays (S := fun _ => False) ((Fr.refl w _).alloc o) (fun _ _ q => q)
theorem Rfd.like (h : Rfd w B T R) (k : Like w' w) : Rfd w' B T R := by
  obtain ⟨hT, v, h, hB, hv⟩ := h
  exact ⟨by rw [k.heap]; exact hT, v, h.like k, hB, hv⟩
theorem Rfd.drewN (h : Rfd w B T R) (k : Nat) : Rfd (w.drewN k) B T R := h.like ⟨rfl, rfl, rfl, rfl⟩
end

theorem own_shape {w : World} {base : Nat} {e : TypeId} {size : Nat} {v : Value} {n : Nat} {xs : List Value} (h : w.ownsRow base e size v n xs) : ∃ ad cap, v = .slice ad n cap := by
  rcases h.2 with ⟨rfl, rfl⟩ | ⟨g', cap', cur, rfl, _⟩
  · exact ⟨none, 0, rfl⟩
  · exact ⟨_, _, rfl⟩
theorem infoT : (Try.prog.info? 62).map (fun i => (i.zero, i.size, i.bytes)) = some (some (.agg #[.int .i64 0, .int .i64 0]), 2, 16) := by kernel_rfl
theorem news_two (w : World) (x y : Value) (t : TypeId) : ∀ j u, [x, y][j]? = some u → (w.alloc (.cells #[x, y] t)).cell? ((⟨w.heap.size, 0, none⟩ : Addr).add j) = some u := by
  intro j u hj
  match j, hj with
  | 0, hj => simp at hj; subst hj; simp [Addr.add]
  | 1, hj => simp at hj; subst hj; simp [Addr.add]
theorem dropL_take (R : List Ti) (w : Int) (k : Nat) (h : k < R.length) : dropL (R.take (k + 1)) w = if R[k].what = w then dropL (R.take k) w else dropL (R.take k) w ++ [R[k]] := by
  rw [List.take_succ_eq_append_getElem h, dropL_append]
  by_cases e : R[k].what = w
  · simp [dropL, e]
  · simp [dropL, e]
theorem dropL_le (R : List Ti) (w : Int) : (dropL R w).length ≤ R.length := List.length_filter_le _ _

set_option maxHeartbeats 2000000 in
set_option maxRecDepth 100000 in
theorem rdrop_any {w : World} {B : Nat} {v : Value} {R : List Ti} (h : Rf w B v R) (what : Int) :
    Calls Try.prog 19 #[.pointer (some ⟨B, 0, none⟩), .int .i64 what] w fun e w' => e = .returned (.tuple #[]) ∧ ∃ v', Rf w' B v' (dropL R what) ∧ Fr w w' (fun k => k = B) ∧ (∀ k, v'.ownBlock = some k → w.heap.size ≤ k) := by
  obtain ⟨ad, cap, rfl⟩ := h.shape
  obtain ⟨i0, hi, hz0, hz1, hz2⟩ := info_parts infoT
  have hs := h.small
  have hs' : (R.length : Int) ≤ 900000 := by omega
  go_enter Try.func19, Try.ntmps19
  go_wp2
  go_loopw [4, 5] (fun o t wr => ∃ (k : Nat) (ov : Value), t = .int .i64 k ∧ o = ov ∧ k ≤ R.length ∧ wr.ownsRow w.heap.size 62 2 ov (dropL (R.take k) what).length (flat2 (dropL (R.take k) what)) ∧ Below w.heap.size w wr) (fun _ t _ => R.length - (intOf t).toNat)
  case atStart => exact ⟨0, _, rfl, rfl, Nat.zero_le _, World.ownsRow_nil _ _ _ _, Below.refl _ _⟩
  case round =>
    obtain ⟨k, ov, rfl, rfl, hk, ho, hb⟩ := hrel
    have hr := h.below hb
    have hcl : wr.cell? ⟨B, 0, none⟩ = some (.slice ad R.length cap) := by rw [cell_blk hr.ag]; rfl
    by_cases hlt : k < R.length
    · have q1 : (k : Int) < R.length := by omega
      have q0 : (0 : Int) ≤ k := by omega
      obtain ⟨g, cap', e⟩ := hr.form (by omega)
      simp only [Value.slice.injEq] at e
      obtain ⟨rfl, _, rfl⟩ := e
      obtain ⟨c0, c1⟩ := hr.at' hlt
      have hdt := dropL_take R what k hlt
      obtain ⟨x, hx⟩ : ∃ x, x = R[k] := ⟨_, rfl⟩
      rw [← hx] at c0 c1 hdt
      have hlen := dropL_le (R.take k) what
      have hlen2 : (R.take k).length ≤ k := List.length_take_le _ _
      have HD := Lib.hid hdt
      clear hx hdt
      by_cases e : x.what = what
      · go_wp2
        go_roundw
        case rel => exact ⟨k + 1, _, by go_num, rfl, by omega, by rw [HD.out, if_pos e]; exact ho, hb⟩
        case measure => simp [intOf]; omega
      · go_wp2_with (at_builtin; refine wpList_append_own _ rfl _ _ 27 rfl w.heap.size 62 i0 (.agg #[.int .i64 0, .int .i64 0]) 2 16 Try.underlying27 hi hz0 hz1 hz2 rfl (by decide) _ _ _ rfl (ho.alloc _) ⟨wr.heap.size, 0, none⟩ 1 1 [Value.int .i64 x.what, Value.int .i64 x.due] rfl rfl (news_two _ _ _ _) (by intro u' hu'; simp at hu'; rcases hu' with rfl | rfl <;> rfl) (by unfold maxLen; omega) (by omega) (by have := hb.size; simp; omega) ?_; intro v3 w3 hown3 hgrow3 _; refine Hid.out ?_)
        refine Lib.hid ?_
        go_wp2
        go_roundw
        case rel =>
          refine ⟨k + 1, _, by go_num, rfl, by omega, ?_, ?_⟩
          · rw [HD.out, if_neg e, flat2_append, flat2_one, List.length_append]
            exact hown3
          · exact (hb.alloc hb.size _).grown hgrow3 (by have := hb.size; simp; omega) (fun j hj => (ho.lt j hj).1)
        case measure => simp [intOf]; omega
    · have hkl : k = R.length := by omega
      subst hkl
      rw [List.take_of_length_le (Nat.le_refl _)] at ho
      have hfz : wr.frozen? ⟨B, 0, none⟩ = false := frozen_blk hr.ag 0
      obtain ⟨ad2, cap2, hsh⟩ := own_shape ho
      subst hsh
      go_wp2
      go_end0
      refine ⟨rfl, _, ⟨?_, ?_, Nat.le_trans (dropL_le _ _) hs⟩, ?_, fun j hj => (ho.lt j hj).1⟩
      · rw [set_blk hr.ag]
        rfl
      · refine own_like (Joins.ownsRow_le ho (Nat.zero_le _)) (fun j hj => set_other _ ?_)
        have := (ho.lt j hj).1
        have := blk_lt h.ag
        show j ≠ B
        omega
      · exact Fr.set (S := fun k => k = B) (Fr.ofBelow _ hb) (.inl rfl) _
end Go.Proofs.Ytmehdhjelggkpaa
