/- The walk of the statements' done: a call of an agenda and of the document's. -/
import Derived.Test.YtmehdhjelggkpaaRc
namespace Go.Proofs.Ytmehdhjelggkpaa
open Go.RowKit Go.Maps

/-- What done answers and leaves. -/
def Done (K : Nat → Prop) (w : World) (A B c : Nat) (e : Ending) (w' : World) : Prop := e = .returned (.bool true) ∧ (∃ c' R', c' ≤ c + 1 ∧ Two K w' A B c' R' R') ∧ Fr w w' (fun k => ¬ K k)
theorem done_of {K : Nat → Prop} {w w2 w' : World} {A B c c' : Nat} {R' : List Ti} (hK : ∀ k, K k → k < w.heap.size) (h : Two (fun k => K k ∨ k = w.heap.size) w2 A B c' R' R') (hf : Fr w w2 (fun k => ¬ K k)) (hc : c' ≤ c + 1) (hl : Like w' w2) : Done K w A B c (.returned (.bool true)) w' := by
  refine ⟨rfl, ⟨c', R', hc, ?_⟩, hf.like hl⟩
  have h1 := h.less (J := K) (fun k q => .inl q)
  obtain ⟨_, S, T, ha, hr, hd, hk⟩ := h1
  exact ⟨fun k q => by rw [hl.heap]; exact Nat.lt_of_lt_of_le (hK k q) hf.size, S, T, ha.like hl, hr.like hl, hd, hk⟩
theorem alen_q {w : World} {A c : Nat} {S : Nat → Prop} {R : List Ti} (h : Agd w A S c R) (k n : Nat) : Calls Try.prog 15 #[.pointer (some ⟨A, 0, none⟩)] (w.drewN (k + n)) fun e w'' => e = .returned (.int .i64 R.length) ∧ ∃ m, w'' = w.drewN (k + m) :=
  (alen_any (h.drewN (k + n))).mono (fun _ _ q => ⟨q.1, n, q.2⟩)
theorem fr_box {K : Nat → Prop} {w w2 : World} (o : Obj) (hf : Fr (w.alloc o) w2 (fun k => ¬ (K k ∨ k = w.heap.size))) : Fr w w2 (fun k => ¬ K k) :=
  Fr.step (S := fun k => ¬ K k) ((Fr.refl w _).alloc o) hf (fun j q => by
    by_cases p : K j
    · exact absurd (.inl p) q
    · exact .inl p)

set_option maxHeartbeats 4000000 in
set_option maxRecDepth 100000 in
theorem done_set {K : Nat → Prop} {w : World} {A B c : Nat} {R : List Ti} (x : O) (h : Two K w A B c R R) (hc : c < 800000) (hi : inI x.what) : Calls Try.prog 11 #[.pointer (some ⟨A, 0, none⟩), .pointer (some ⟨B, 0, none⟩), .agg #[.int .i64 1, .int .i64 x.what, .int .i64 x.due]] w fun e w' => Done K w A B c e w' := by
  have hK := h.1
  have hbx := h.box (.cells #[.int .i64 1, .int .i64 x.what, .int .i64 x.due] 31)
  have hfew := h.few
  have hb0 := heap_alloc_new w (.cells #[.int .i64 1, .int .i64 x.what, .int .i64 x.due] 31)
  have hKb : (fun k => K k ∨ k = w.heap.size) w.heap.size := .inr rfl
  have hlt : w.heap.size < (w.alloc (.cells #[.int .i64 1, .int .i64 x.what, .int .i64 x.due] 31)).heap.size := by simp
  go_enter Try.func11, Try.ntmps11
  go_wp2_with fail
  refine (hbx.set (by omega) hi).mono ?_
  rintro e w1 ⟨rfl, h1, f1⟩
  have hbk : w1.heap[w.heap.size]? = some (.cells #[.int .i64 1, .int .i64 x.what, .int .i64 x.due] 31 (0, 0)) := (f1.block _ hlt (fun q => q (.inr rfl))).trans hb0
  have hb1 : w1.cell? ⟨w.heap.size, 1, none⟩ = some (.int .i64 x.what) := by rw [cell_blk hbk]; rfl
  have hb2 : w1.cell? ⟨w.heap.size, 2, none⟩ = some (.int .i64 x.due) := by rw [cell_blk hbk]; rfl
  go_wp2_with fail
  refine (h1.rset (by omega) x.what x.due).mono ?_
  rintro e w2 ⟨rfl, h2, f2⟩
  have hfr := fr_box _ (f1.trans f2)
  obtain ⟨R2, hR2⟩ : ∃ R2, R2 = setL R x.what x.due := ⟨_, rfl⟩
  rw [← hR2] at h2
  clear hR2
  obtain ⟨S, ha⟩ := h2.agd
  obtain ⟨T, hr⟩ := h2.rfd
  cases hn : nextL R2 with
  | none =>
    have hRn := next_none hn
    rw [hRn] at ha hr
    have hvn : nextV [] = .tuple #[.int .i64 0, .int .i64 0, .bool false] := rfl
    go_wp2_with fail
    refine (next_no ha).mono ?_
    rintro e w5 ⟨rfl, rfl⟩
    go_wp2_with fail
    refine (rf_next hr).mono ?_
    rintro e w6 ⟨rfl, k6, rfl⟩
    rw [hvn]
    obtain ⟨hT, v, hrf, hB, hv⟩ := hr
    obtain ⟨ad, cap, rfl⟩ := hrf.shape
    have hcl : w5.cell? ⟨B, 0, none⟩ = some (.slice ad ([] : List Ti).length cap) := by rw [cell_blk hrf.ag]; rfl
    go_wp2
    go_quiet ((go_at_call 15; exact alen_q ha _ _))
    go_wp2
    go_ret
    exact done_of hK h2 hfr (by omega) ⟨rfl, rfl, rfl, rfl⟩
  | some t =>
    have hvn : nextV R2 = .tuple #[.int .i64 t.what, .int .i64 t.due, .bool true] := by unfold nextV; rw [hn]
    have HV := Lib.hid hvn
    clear hvn
    go_wp2_with fail
    refine (next_yes ha hn).mono ?_
    rintro e w5 ⟨rfl, k5, rfl⟩
    go_wp2_with fail
    refine (rf_next (hr.drewN k5)).mono ?_
    rintro e w6 ⟨rfl, k6, rfl⟩
    rw [HV.out]
    obtain ⟨hT, v, hrf, hB, hv⟩ := hr
    obtain ⟨ad, cap, rfl⟩ := hrf.shape
    have hcl : w2.cell? ⟨B, 0, none⟩ = some (.slice ad R2.length cap) := by rw [cell_blk hrf.ag]; rfl
    clear hn
    go_wp2
    go_quiet ((go_at_call 15; exact alen_q ha _ _))
    go_wp2
    go_ret
    exact done_of hK h2 hfr (by omega) ⟨rfl, rfl, rfl, rfl⟩

set_option maxHeartbeats 4000000 in
set_option maxRecDepth 100000 in
theorem done_drop {K : Nat → Prop} {w : World} {A B c : Nat} {R : List Ti} (x : O) (h : Two K w A B c R R) (hi : inI x.what) : Calls Try.prog 11 #[.pointer (some ⟨A, 0, none⟩), .pointer (some ⟨B, 0, none⟩), .agg #[.int .i64 2, .int .i64 x.what, .int .i64 x.due]] w fun e w' => Done K w A B c e w' := by
  have hK := h.1
  have hbx := h.box (.cells #[.int .i64 2, .int .i64 x.what, .int .i64 x.due] 31)
  have hfew := h.few
  have hb0 := heap_alloc_new w (.cells #[.int .i64 2, .int .i64 x.what, .int .i64 x.due] 31)
  have hKb : (fun k => K k ∨ k = w.heap.size) w.heap.size := .inr rfl
  have hlt : w.heap.size < (w.alloc (.cells #[.int .i64 2, .int .i64 x.what, .int .i64 x.due] 31)).heap.size := by simp
  go_enter Try.func11, Try.ntmps11
  go_wp2_with fail
  refine (hbx.drop hi).mono ?_
  rintro e w1 ⟨rfl, h1, f1⟩
  have hbk : w1.heap[w.heap.size]? = some (.cells #[.int .i64 2, .int .i64 x.what, .int .i64 x.due] 31 (0, 0)) := (f1.block _ hlt (fun q => q (.inr rfl))).trans hb0
  have hb1 : w1.cell? ⟨w.heap.size, 1, none⟩ = some (.int .i64 x.what) := by rw [cell_blk hbk]; rfl
  have hb2 : w1.cell? ⟨w.heap.size, 2, none⟩ = some (.int .i64 x.due) := by rw [cell_blk hbk]; rfl
  go_wp2_with fail
  refine (h1.rdrop x.what).mono ?_
  rintro e w2 ⟨rfl, h2, f2⟩
  have hfr := fr_box _ (f1.trans f2)
  obtain ⟨R2, hR2⟩ : ∃ R2, R2 = dropL R x.what := ⟨_, rfl⟩
  rw [← hR2] at h2
  clear hR2
  obtain ⟨S, ha⟩ := h2.agd
  obtain ⟨T, hr⟩ := h2.rfd
  cases hn : nextL R2 with
  | none =>
    have hRn := next_none hn
    rw [hRn] at ha hr
    have hvn : nextV [] = .tuple #[.int .i64 0, .int .i64 0, .bool false] := rfl
    go_wp2_with fail
    refine (next_no ha).mono ?_
    rintro e w5 ⟨rfl, rfl⟩
    go_wp2_with fail
    refine (rf_next hr).mono ?_
    rintro e w6 ⟨rfl, k6, rfl⟩
    rw [hvn]
    obtain ⟨hT, v, hrf, hB, hv⟩ := hr
    obtain ⟨ad, cap, rfl⟩ := hrf.shape
    have hcl : w5.cell? ⟨B, 0, none⟩ = some (.slice ad ([] : List Ti).length cap) := by rw [cell_blk hrf.ag]; rfl
    go_wp2
    go_quiet ((go_at_call 15; exact alen_q ha _ _))
    go_wp2
    go_ret
    exact done_of hK h2 hfr (by omega) ⟨rfl, rfl, rfl, rfl⟩
  | some t =>
    have hvn : nextV R2 = .tuple #[.int .i64 t.what, .int .i64 t.due, .bool true] := by unfold nextV; rw [hn]
    have HV := Lib.hid hvn
    clear hvn
    go_wp2_with fail
    refine (next_yes ha hn).mono ?_
    rintro e w5 ⟨rfl, k5, rfl⟩
    go_wp2_with fail
    refine (rf_next (hr.drewN k5)).mono ?_
    rintro e w6 ⟨rfl, k6, rfl⟩
    rw [HV.out]
    obtain ⟨hT, v, hrf, hB, hv⟩ := hr
    obtain ⟨ad, cap, rfl⟩ := hrf.shape
    have hcl : w2.cell? ⟨B, 0, none⟩ = some (.slice ad R2.length cap) := by rw [cell_blk hrf.ag]; rfl
    clear hn
    go_wp2
    go_quiet ((go_at_call 15; exact alen_q ha _ _))
    go_wp2
    go_ret
    exact done_of hK h2 hfr (by omega) ⟨rfl, rfl, rfl, rfl⟩

set_option maxHeartbeats 4000000 in
set_option maxRecDepth 100000 in
theorem done_look {K : Nat → Prop} {w : World} {A B c : Nat} {R : List Ti} (x : O) (h : Two K w A B c R R) (k1 : ¬ x.kind = 1) (k2 : ¬ x.kind = 2) (k3 : ¬ x.kind = 3) : Calls Try.prog 11 #[.pointer (some ⟨A, 0, none⟩), .pointer (some ⟨B, 0, none⟩), .agg #[.int .i64 x.kind, .int .i64 x.what, .int .i64 x.due]] w fun e w' => Done K w A B c e w' := by
  have hK := h.1
  have hbx := h.box (.cells #[.int .i64 x.kind, .int .i64 x.what, .int .i64 x.due] 31)
  have hfew := h.few
  have hb0 := heap_alloc_new w (.cells #[.int .i64 x.kind, .int .i64 x.what, .int .i64 x.due] 31)
  have hKb : (fun k => K k ∨ k = w.heap.size) w.heap.size := .inr rfl
  have hlt : w.heap.size < (w.alloc (.cells #[.int .i64 x.kind, .int .i64 x.what, .int .i64 x.due] 31)).heap.size := by simp
  obtain ⟨w2, hw2⟩ : ∃ w2, w2 = w.alloc (.cells #[.int .i64 x.kind, .int .i64 x.what, .int .i64 x.due] 31) := ⟨_, rfl⟩
  have hfr : Fr w w2 (fun k => ¬ K k) := by rw [hw2]; exact (Fr.refl w _).alloc _
  rw [← hw2] at hbx hb0 hlt
  have HW := Lib.hid hw2
  have hbc : w2.cell? ⟨w.heap.size, 0, none⟩ = some (.int .i64 x.kind) := by rw [cell_blk hb0]; rfl
  clear hw2
  go_enter Try.func11, Try.ntmps11
  go_wp2_with fail
  rw [← HW.out]
  obtain ⟨S, ha⟩ := hbx.agd
  obtain ⟨T, hr⟩ := hbx.rfd
  cases hn : nextL R with
  | none =>
    have hRn := next_none hn
    rw [hRn] at ha hr
    have hvn : nextV [] = .tuple #[.int .i64 0, .int .i64 0, .bool false] := rfl
    refine (next_no ha).mono ?_
    rintro e w5 ⟨rfl, rfl⟩
    go_wp2_with fail
    refine (rf_next hr).mono ?_
    rintro e w6 ⟨rfl, k6, rfl⟩
    rw [hvn]
    obtain ⟨hT, v, hrf, hB, hv⟩ := hr
    obtain ⟨ad, cap, rfl⟩ := hrf.shape
    have hcl : w5.cell? ⟨B, 0, none⟩ = some (.slice ad ([] : List Ti).length cap) := by rw [cell_blk hrf.ag]; rfl
    go_wp2
    go_quiet ((go_at_call 15; exact alen_q ha _ _))
    go_wp2
    go_ret
    exact done_of hK hbx hfr (by omega) ⟨rfl, rfl, rfl, rfl⟩
  | some t =>
    have hvn : nextV R = .tuple #[.int .i64 t.what, .int .i64 t.due, .bool true] := by unfold nextV; rw [hn]
    have HV := Lib.hid hvn
    clear hvn
    refine (next_yes ha hn).mono ?_
    rintro e w5 ⟨rfl, k5, rfl⟩
    go_wp2_with fail
    refine (rf_next (hr.drewN k5)).mono ?_
    rintro e w6 ⟨rfl, k6, rfl⟩
    rw [HV.out]
    obtain ⟨hT, v, hrf, hB, hv⟩ := hr
    obtain ⟨ad, cap, rfl⟩ := hrf.shape
    have hcl : w2.cell? ⟨B, 0, none⟩ = some (.slice ad R.length cap) := by rw [cell_blk hrf.ag]; rfl
    clear hn
    go_wp2
    go_quiet ((go_at_call 15; exact alen_q ha _ _))
    go_wp2
    go_ret
    exact done_of hK hbx hfr (by omega) ⟨rfl, rfl, rfl, rfl⟩

set_option maxHeartbeats 4000000 in
set_option maxRecDepth 100000 in
theorem done_pop {K : Nat → Prop} {w : World} {A B c : Nat} {R : List Ti} (x : O) (h : Two K w A B c R R) : Calls Try.prog 11 #[.pointer (some ⟨A, 0, none⟩), .pointer (some ⟨B, 0, none⟩), .agg #[.int .i64 3, .int .i64 x.what, .int .i64 x.due]] w fun e w' => Done K w A B c e w' := by
  have hK := h.1
  have hbx := h.box (.cells #[.int .i64 3, .int .i64 x.what, .int .i64 x.due] 31)
  have hfew := h.few
  have hb0 := heap_alloc_new w (.cells #[.int .i64 3, .int .i64 x.what, .int .i64 x.due] 31)
  have hKb : (fun k => K k ∨ k = w.heap.size) w.heap.size := .inr rfl
  have hlt : w.heap.size < (w.alloc (.cells #[.int .i64 3, .int .i64 x.what, .int .i64 x.due] 31)).heap.size := by simp
  obtain ⟨S, ha⟩ := hbx.agd
  obtain ⟨T, hr⟩ := hbx.rfd
  cases hn : nextL R with
  | none =>
    have hRn := next_none hn
    rw [hRn] at ha hr
    go_enter Try.func11, Try.ntmps11
    go_wp2_with fail
    refine (pop_none ha).mono ?_
    rintro e w1 ⟨rfl, rfl⟩
    go_wp2_with fail
    refine (rf_pop_none hr _).mono ?_
    rintro e w2 ⟨rfl, k2, rfl⟩
    go_wp2
    go_ret
    exact done_of hK hbx ((Fr.refl w _).alloc _) (by omega) ⟨rfl, rfl, rfl, rfl⟩
  | some t =>
    by_cases hd : t.due ≤ x.due
    · go_enter Try.func11, Try.ntmps11
      go_wp2_with fail
      refine (hbx.pop hn hd).mono ?_
      rintro e w1 ⟨rfl, h1, f1⟩
      have hbk : w1.heap[w.heap.size]? = some (.cells #[.int .i64 3, .int .i64 x.what, .int .i64 x.due] 31 (0, 0)) := (f1.block _ hlt (fun q => q (.inr rfl))).trans hb0
      have hb1 : w1.cell? ⟨w.heap.size, 1, none⟩ = some (.int .i64 x.what) := by rw [cell_blk hbk]; rfl
      have hb2 : w1.cell? ⟨w.heap.size, 2, none⟩ = some (.int .i64 x.due) := by rw [cell_blk hbk]; rfl
      go_wp2_with fail
      refine (h1.rpop hn hd).mono ?_
      rintro e w2 ⟨rfl, h2, f2⟩
      go_wp2
      go_ret
      exact done_of hK h2 (fr_box _ (f1.trans f2)) (by omega) ⟨rfl, rfl, rfl, rfl⟩
    · have hd' : x.due < t.due := by omega
      go_enter Try.func11, Try.ntmps11
      go_wp2_with fail
      refine (pop_late ha hn hd').mono ?_
      rintro e w1 ⟨rfl, rfl⟩
      go_wp2_with fail
      refine (rf_pop_late hr hn hd').mono ?_
      rintro e w2 ⟨rfl, k2, rfl⟩
      go_wp2
      go_ret
      exact done_of hK hbx ((Fr.refl w _).alloc _) (by omega) ⟨rfl, rfl, rfl, rfl⟩

theorem done_any {K : Nat → Prop} {w : World} {A B c : Nat} {R : List Ti} (x : O) (h : Two K w A B c R R) (hc : c < 800000) (hi : inI x.what) : Calls Try.prog 11 #[.pointer (some ⟨A, 0, none⟩), .pointer (some ⟨B, 0, none⟩), .agg #[.int .i64 x.kind, .int .i64 x.what, .int .i64 x.due]] w fun e w' => Done K w A B c e w' := by
  by_cases k1 : x.kind = 1
  · rw [k1]; exact done_set x h hc hi
  · by_cases k2 : x.kind = 2
    · rw [k2]; exact done_drop x h hi
    · by_cases k3 : x.kind = 3
      · rw [k3]; exact done_pop x h
      · exact done_look x h k1 k2 k3
end Go.Proofs.Ytmehdhjelggkpaa
