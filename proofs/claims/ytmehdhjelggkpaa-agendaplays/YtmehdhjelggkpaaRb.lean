/- The walks of the document's Set, Next and Pop. -/
import Derived.Test.YtmehdhjelggkpaaRa
namespace Go.Proofs.Ytmehdhjelggkpaa
open Go.RowKit Go.Maps

set_option maxHeartbeats 2000000 in
set_option maxRecDepth 100000 in
theorem rset_any {w : World} {B : Nat} {v : Value} {R : List Ti} (h : Rf w B v R) (hs : R.length < 900000) (what due : Int) :
    Calls Try.prog 18 #[.pointer (some ⟨B, 0, none⟩), .int .i64 what, .int .i64 due] w fun e w' => e = .returned (.tuple #[]) ∧ ∃ v', Rf w' B v' (setL R what due) ∧ Fr w w' (fun k => k = B) ∧ (∀ k, v'.ownBlock = some k → w.heap.size ≤ k) := by
  obtain ⟨i0, hi, hz0, hz1, hz2⟩ := info_parts infoT
  go_enter Try.func18, Try.ntmps18
  go_wp2_with fail
  refine (rdrop_any h what).mono ?_
  rintro e w1 ⟨rfl, v1, h1, f1, l1⟩
  have hle := dropL_le R what
  have hcl : w1.cell? ⟨B, 0, none⟩ = some v1 := by rw [cell_blk h1.ag]; rfl
  have hBlt := blk_lt h1.ag
  obtain ⟨R1, hR1⟩ : ∃ R1, R1 = dropL R what := ⟨_, rfl⟩
  have hset : setL R what due = R1 ++ [⟨what, due⟩] := by rw [hR1]; rfl
  rw [← hR1] at h1 hle
  have HSet := Lib.hid hset
  have ho := h1.own
  clear hR1 hset
  go_wp2_with (at_builtin; refine wpList_append_own_at _ rfl _ _ 27 rfl 0 62 i0 (.agg #[.int .i64 0, .int .i64 0]) 2 16 Try.underlying27 hi hz0 hz1 hz2 rfl (by decide) _ _ _ rfl (ho.alloc _) ⟨w1.heap.size, 0, none⟩ 1 1 [Value.int .i64 what, Value.int .i64 due] rfl rfl (news_two _ _ _ _) (by intro u' hu'; simp at hu'; rcases hu' with rfl | rfl <;> rfl) (by unfold maxLen; omega) (by omega) (Nat.zero_le _) ?_; intro v3 w3 hown3 hgrow3 hnil hloc; obtain ⟨g', cap', rfl⟩ := Joins.ownsRow_form hown3 (by omega); have hb : w3.heap[B]? = some (.cells #[v1] 29 (0, 0)) := ((hgrow3.block B (by simp; omega) (fun e => h1.agRow B e.symm rfl)).trans (Below.heap_alloc w1 _ B hBlt)).trans h1.ag; have hb1 : w3.cell? ⟨B, 0, none⟩ = some v1 := (cell_blk hb 0).trans rfl; have hb2 := frozen_blk hb 0; refine Hid.out ?_)
  refine Lib.hid ?_
  go_wp2
  go_end0
  rw [HSet.out]
  refine ⟨rfl, .slice (some ⟨g', 0, none⟩) (R1.length + 1) cap', ⟨?_, ?_, by simp; omega⟩, ?_, ?_⟩
  · rw [set_blk hb]
    rfl
  · rw [flat2_append, flat2_one, List.length_append]
    refine own_like hown3 (fun j hj => set_other _ ?_)
    show j ≠ B
    rcases hloc with q | q
    · exact Ne.symm (h1.agRow j (q.symm.trans hj))
    · rw [q] at hj
      have := Option.some.inj hj
      simp at this
      omega
  · refine Fr.set (S := fun k => k = B) ?_ (.inl rfl) _
    exact (f1.alloc _).grown hgrow3 (fun j hj => .inr (l1 j hj))
  · intro j hj
    rcases hloc with q | q
    · exact l1 j (q.symm.trans hj)
    · rw [q] at hj
      have := Option.some.inj hj
      have := f1.size
      simp at *
      omega

theorem nextL_take (R : List Ti) (k : Nat) (h : k < R.length) : nextL (R.take (k + 1)) = better (nextL (R.take k)) R[k] := by
  rw [List.take_succ_eq_append_getElem h]
  unfold nextL
  rw [List.foldl_append]
  rfl
/-- What the document's Next has found: in front of k, at a. -/
def Found (R : List Ti) (k : Nat) (a : Int) : Prop := (k = 0 ∧ a = -1) ∨ ∃ (j : Nat) (h : j < R.length), j < k ∧ a = j ∧ nextL (R.take k) = some R[j]

theorem found_first (R : List Ti) (h : 0 < R.length) : Found R 1 0 := by
  refine .inr ⟨0, h, by omega, rfl, ?_⟩
  rw [nextL_take R 0 h]
  rfl
theorem found_less {R : List Ti} {k j : Nat} (hk : k < R.length) (hj : j < R.length) (hn : nextL (R.take k) = some R[j]) (hd : R[k].due < R[j].due) : Found R (k + 1) k := by
  refine .inr ⟨k, hk, by omega, rfl, ?_⟩
  rw [nextL_take R k hk, hn]
  exact if_pos hd
theorem found_more {R : List Ti} {k j : Nat} (hk : k < R.length) (hj : j < R.length) (hjk : j < k) (hn : nextL (R.take k) = some R[j]) (hd : ¬ R[k].due < R[j].due) : Found R (k + 1) j := by
  refine .inr ⟨j, hj, by omega, rfl, ?_⟩
  rw [nextL_take R k hk, hn]
  exact if_neg hd

/-- What the document's Next answers. -/
def nextV (R : List Ti) : Value := match nextL R with
  | none => .tuple #[.int .i64 0, .int .i64 0, .bool false]
  | some t => .tuple #[.int .i64 t.what, .int .i64 t.due, .bool true]

set_option maxHeartbeats 2000000 in
set_option maxRecDepth 100000 in
theorem rnext_any {w : World} {B : Nat} {v : Value} {R : List Ti} (h : Rf w B v R) :
    Calls Try.prog 21 #[.pointer (some ⟨B, 0, none⟩)] w fun e w' => e = .returned (nextV R) ∧ ∃ k, w' = w.drewN k := by
  obtain ⟨ad, cap, rfl⟩ := h.shape
  have hs := h.small
  have hs' : (R.length : Int) ≤ 900000 := by omega
  have hcl : w.cell? ⟨B, 0, none⟩ = some (.slice ad R.length cap) := by rw [cell_blk h.ag]; rfl
  go_enter Try.func21, Try.ntmps21
  go_wp2
  go_loopw [5, 6] (fun a t wr => ∃ (k : Nat) (av : Int), t = .int .i64 k ∧ a = .int .i64 av ∧ k ≤ R.length ∧ Found R k av ∧ ∃ nd, wr = w.drewN nd) (fun _ t _ => R.length - (intOf t).toNat)
  case atStart => exact ⟨0, -1, rfl, rfl, Nat.zero_le _, .inl ⟨rfl, rfl⟩, 0, rfl⟩
  case round =>
    obtain ⟨k, av, rfl, rfl, hk, hF, nd, rfl⟩ := hrel
    by_cases hlt : k < R.length
    · have q1 : (k : Int) < R.length := by omega
      have q0 : (0 : Int) ≤ k := by omega
      obtain ⟨g, cap', e⟩ := h.form (by omega)
      simp only [Value.slice.injEq] at e
      obtain ⟨rfl, _, rfl⟩ := e
      rcases hF with ⟨rfl, rfl⟩ | ⟨j, hj, hjk, rfl, hn⟩
      · have HF := Lib.hid (found_first R hlt)
        go_wp2
        go_quiet (fail)
        go_wp2
        go_roundw
        case rel => exact ⟨1, 0, rfl, rfl, by omega, HF.out, _, rfl⟩
        case measure => simp [intOf]; omega
      · obtain ⟨c0, c1⟩ := h.at' hlt
        obtain ⟨d0, d1⟩ := h.at' hj
        have j0 : (0 : Int) ≤ j := by omega
        have j1 : (j : Int) < R.length := by omega
        have j2 : ¬ (j : Int) < 0 := by omega
        have j3 : decide ((j : Int) < 0) = false := by simp
        by_cases hd : R[k].due < R[j].due
        · have HF := Lib.hid (found_less hlt hj hn hd)
          have HN := Lib.hid hn
          obtain ⟨x, hx⟩ : ∃ x, x = R[k] := ⟨_, rfl⟩
          obtain ⟨y, hy⟩ : ∃ y, y = R[j] := ⟨_, rfl⟩
          rw [← hx] at c0 c1 hd
          rw [← hy] at d0 d1 hd
          clear hx hy hn
          go_wp2
          go_quiet (fail)
          go_wp2
          go_roundw
          case rel => exact ⟨k + 1, k, by go_num, rfl, by omega, HF.out, _, rfl⟩
          case measure => simp [intOf]; omega
        · have HF := Lib.hid (found_more hlt hj hjk hn hd)
          have hd' : decide (R[k].due < R[j].due) = false := by simpa using hd
          obtain ⟨x, hx⟩ : ∃ x, x = R[k] := ⟨_, rfl⟩
          obtain ⟨y, hy⟩ : ∃ y, y = R[j] := ⟨_, rfl⟩
          rw [← hx] at c0 c1 hd hd'
          rw [← hy] at d0 d1 hd hd'
          clear hx hy hn
          go_wp2
          go_quiet (fail)
          go_wp2
          go_roundw
          case rel => exact ⟨k + 1, j, by go_num, rfl, by omega, HF.out, _, rfl⟩
          case measure => simp [intOf]; omega
    · have hkl : k = R.length := by omega
      subst hkl
      rcases hF with ⟨hz, rfl⟩ | ⟨j, hj, hjk, rfl, hn⟩
      · have hRn : R = [] := List.length_eq_zero_iff.1 hz
        subst hRn
        go_wp2
        go_ret3
        exact ⟨rfl, _, rfl⟩
      · rw [List.take_of_length_le (Nat.le_refl _)] at hn
        have hv : nextV R = .tuple #[.int .i64 R[j].what, .int .i64 R[j].due, .bool true] := by unfold nextV; rw [hn]
        obtain ⟨g, cap', e⟩ := h.form (by omega)
        simp only [Value.slice.injEq] at e
        obtain ⟨rfl, _, rfl⟩ := e
        obtain ⟨d0, d1⟩ := h.at' hj
        have j0 : (0 : Int) ≤ j := by omega
        have j1 : (j : Int) < R.length := by omega
        have j2 : ¬ (j : Int) < 0 := by omega
        obtain ⟨y, hy⟩ : ∃ y, y = R[j] := ⟨_, rfl⟩
        rw [← hy] at d0 d1 hv
        have HV := Lib.hid hv
        clear hy hn hv
        go_wp2
        go_quiet (fail)
        go_wp2
        go_ret3
        rw [HV.out]
        exact ⟨rfl, drewN_two _ _ _⟩

/-- The contracts over Rfd. -/
theorem rf_next {w : World} {B : Nat} {T : Nat → Prop} {R : List Ti} (h : Rfd w B T R) : Calls Try.prog 21 #[.pointer (some ⟨B, 0, none⟩)] w fun e w' => e = .returned (nextV R) ∧ ∃ k, w' = w.drewN k := by
  obtain ⟨_, v, h, _⟩ := h
  exact rnext_any h
theorem Rf.rfd {w w' : World} {B : Nat} {T : Nat → Prop} {R' : List Ti} {v' : Value} (hT : ∀ k, T k → k < w.heap.size) (hB : T B) (h : Rf w' B v' R') (hf : Fr w w' (fun k => k = B)) (hv : ∀ k, v'.ownBlock = some k → w.heap.size ≤ k) : Rfd w' B (Gro T w w') R' ∧ Fr w w' T :=
  ⟨⟨gro_lt hT hf.size, v', h, .inl hB, fun k hk => .inr ⟨hv k hk, (h.own.lt k hk).2⟩⟩, hf.mono (fun k hk => by rw [hk]; exact hB)⟩
theorem rf_drop {w : World} {B : Nat} {T : Nat → Prop} {R : List Ti} (h : Rfd w B T R) (what : Int) : Calls Try.prog 19 #[.pointer (some ⟨B, 0, none⟩), .int .i64 what] w fun e w' => e = .returned (.tuple #[]) ∧ Rfd w' B (Gro T w w') (dropL R what) ∧ Fr w w' T := by
  obtain ⟨hT, v, h, hB, _⟩ := h
  refine (rdrop_any h what).mono ?_
  rintro e w' ⟨rfl, v', h', hf, hv⟩
  exact ⟨rfl, h'.rfd hT hB hf hv⟩
theorem rf_set {w : World} {B : Nat} {T : Nat → Prop} {R : List Ti} (h : Rfd w B T R) (hs : R.length < 900000) (what due : Int) : Calls Try.prog 18 #[.pointer (some ⟨B, 0, none⟩), .int .i64 what, .int .i64 due] w fun e w' => e = .returned (.tuple #[]) ∧ Rfd w' B (Gro T w w') (setL R what due) ∧ Fr w w' T := by
  obtain ⟨hT, v, h, hB, _⟩ := h
  refine (rset_any h hs what due).mono ?_
  rintro e w' ⟨rfl, v', h', hf, hv⟩
  exact ⟨rfl, h'.rfd hT hB hf hv⟩
theorem gro_drew {T : Nat → Prop} {w w' : World} {k : Nat} {j : Nat} (h : Gro T (w.drewN k) w' j) : Gro T w w' j := h

set_option maxHeartbeats 1000000 in
theorem rf_pop_none {w : World} {B : Nat} {T : Nat → Prop} (h : Rfd w B T []) (now : Int) : Calls Try.prog 20 #[.pointer (some ⟨B, 0, none⟩), .int .i64 now] w fun e w' => e = .returned (.tuple #[.int .i64 0, .bool false]) ∧ ∃ k, w' = w.drewN k := by
  have hv : nextV [] = .tuple #[.int .i64 0, .int .i64 0, .bool false] := rfl
  go_enter Try.func20, Try.ntmps20
  go_wp2_with fail
  refine (rf_next h).mono ?_
  rintro e w1 ⟨rfl, k, rfl⟩
  rw [hv]
  go_wp2
  go_ret2
  exact ⟨rfl, _, rfl⟩
set_option maxHeartbeats 1000000 in
theorem rf_pop_late {w : World} {B : Nat} {T : Nat → Prop} {R : List Ti} {t : Ti} (h : Rfd w B T R) {now : Int} (ht : nextL R = some t) (hd : now < t.due) : Calls Try.prog 20 #[.pointer (some ⟨B, 0, none⟩), .int .i64 now] w fun e w' => e = .returned (.tuple #[.int .i64 0, .bool false]) ∧ ∃ k, w' = w.drewN k := by
  have hv : nextV R = .tuple #[.int .i64 t.what, .int .i64 t.due, .bool true] := by unfold nextV; rw [ht]
  have HV := Lib.hid hv
  clear hv ht
  go_enter Try.func20, Try.ntmps20
  go_wp2_with fail
  refine (rf_next h).mono ?_
  rintro e w1 ⟨rfl, k, rfl⟩
  rw [HV.out]
  go_wp2
  go_ret2
  exact ⟨rfl, _, rfl⟩
set_option maxHeartbeats 1000000 in
theorem rf_pop_due {w : World} {B : Nat} {T : Nat → Prop} {R : List Ti} {t : Ti} (h : Rfd w B T R) {now : Int} (ht : nextL R = some t) (hd : t.due ≤ now) : Calls Try.prog 20 #[.pointer (some ⟨B, 0, none⟩), .int .i64 now] w fun e w' => e = .returned (.tuple #[.int .i64 t.what, .bool true]) ∧ Rfd w' B (Gro T w w') (dropL R t.what) ∧ Fr w w' T := by
  have hv : nextV R = .tuple #[.int .i64 t.what, .int .i64 t.due, .bool true] := by unfold nextV; rw [ht]
  have HV := Lib.hid hv
  have hd1 : ¬ now < t.due := by omega
  have hd2 : decide (now < t.due) = false := by simpa using hd1
  clear hv ht
  go_enter Try.func20, Try.ntmps20
  go_wp2_with fail
  refine (rf_next h).mono ?_
  rintro e w1 ⟨rfl, k, rfl⟩
  rw [HV.out]
  go_wp2_with fail
  refine (rf_drop (h.drewN k) t.what).mono ?_
  rintro e w2 ⟨rfl, h2, f2⟩
  go_wp2
  go_ret2
  exact ⟨rfl, h2, ⟨f2.os, f2.tape, f2.output, f2.size, f2.block⟩⟩
end Go.Proofs.Ytmehdhjelggkpaa
