/- The walk of AgendaRises. -/
import Derived.Test.YtmehdhjelggkpaaLd
namespace Go.Proofs.Ytmehdhjelggkpaa
open Go.RowKit Go.Maps

/-- The least whole number of 64 bits, behind a name. -/
def leastI : Int := -9223372036854775808

theorem least_le {k : Int} (h : inI k) : leastI ≤ k := (bounds_i64 h).1
theorem setL_due {R : List Ti} {w d : Int} {P : Ti → Prop} (h : ∀ t ∈ R, P t) (hd : P ⟨w, d⟩) : ∀ t ∈ setL R w d, P t := by
  intro t ht
  unfold setL at ht
  rcases List.mem_append.1 ht with ht | ht
  · exact h t (dropL_mem.1 ht).1
  · simp at ht
    subst ht
    exact hd
theorem sets_due_from (L : List O) (h : ∀ v ∈ L, inI v.due) : ∀ R : List Ti, (∀ t ∈ R, inI t.due) → ∀ t ∈ L.foldl (fun R o => setL R o.what o.due) R, inI t.due := by
  induction L with
  | nil => intro R hR; exact hR
  | cons o L ih =>
    intro R hR
    rw [List.foldl_cons]
    exact ih (fun v hv => h v (by simp [hv])) _ (setL_due (P := fun t => inI t.due) hR (h o (by simp)))
theorem sets_due (L : List O) (h : ∀ v ∈ L, inI v.due) : ∀ t ∈ sets L, inI t.due := sets_due_from L h [] (fun t ht => by cases ht)
theorem Agd.fits {w : World} {A c : Nat} {S : Nat → Prop} {R : List Ti} (h : Agd w A S c R) : R.length ≤ 900000 := by
  obtain ⟨_, _, _, _, _, h⟩ := h
  have := h.len
  have := h.few
  have := h.small
  omega

set_option maxHeartbeats 2000000 in
set_option maxRecDepth 100000 in
theorem rises_out (L : List O) (ad : Option Addr) (cap : Nat) (w : World) (hl : 400 < L.length) : Calls Try.prog 4 #[.slice ad L.length cap] w fun e w' => e = .returned (.bool true) ∧ Below w.heap.size w w' := by
  have h1 : 400 < (L.length : Int) := by omega
  go_enter Try.func4, Try.ntmps4
  go_wp2_with fail
  refine (awake_any _).mono ?_
  rintro e w1 ⟨rfl, b1⟩
  go_wp2_with fail
  refine (awake_any _).mono ?_
  rintro e w2 ⟨rfl, b2⟩
  go_wp2
  go_ret
  exact ⟨rfl, b1.trans (b2.mono b1.size)⟩

set_option maxHeartbeats 2000000 in
set_option maxRecDepth 100000 in
theorem rises_in (L : List O) (ad : Option Addr) (cap : Nat) (w : World) (hL : Li L ad w.heap.size w) (hf : Fits L) (hl : L.length ≤ 400) : Calls Try.prog 4 #[.slice ad L.length cap] w fun e w' => e = .returned (.bool true) ∧ Below w.heap.size w w' := by
  have h1 : ¬ 400 < (L.length : Int) := by omega
  have h1' : decide (400 < (L.length : Int)) = false := by simpa using h1
  have hmm := @run_makeMap Try.prog
  go_enter Try.func4, Try.ntmps4
  go_wp2_with fail
  refine (awake_any _).mono ?_
  rintro e w1 ⟨rfl, b1⟩
  go_wp2_with fail
  refine (setf_any L ad cap w.heap.size w1 (hL.on b1) hf b1.size hl).mono ?_
  rintro e w2 ⟨A, rfl, o2, b2⟩
  have hB : w.heap.size ≤ w1.heap.size := b1.size
  have b2' := b1.trans (b2.mono hB)
  have hM0 := Bm.made w2
  obtain ⟨M, hMe⟩ : ∃ M, M = w2.heap.size := ⟨_, rfl⟩
  obtain ⟨n, hn⟩ : ∃ n, n = (sets L).length := ⟨_, rfl⟩
  have hn9 : n ≤ 900000 := by rw [hn]; exact o2.2.fits
  rw [← hMe] at hM0
  rw [← hn]
  have a2 := o2.2.alloc (.map #[] 0)
  have hS2 : ∀ j, Frm w1.heap.size w2 j → w.heap.size ≤ j := fun j hj => Nat.le_trans hB hj.1
  have hSM2 : ¬ Frm w1.heap.size w2 M := fun q => by have := q.2; omega
  have hwM : w.heap.size ≤ M := by rw [hMe]; exact Nat.le_trans hB b2.size
  have bm2 : Below w.heap.size w (w2.alloc (.map #[] 0)) := b2'.alloc (by have := b2.size; omega) _
  have HE := Lib.hid hMe
  have HN := Lib.hid hn
  clear hMe hn
  have hdu : ∀ u ∈ sets L, leastI ≤ u.due := fun u hu => least_le (sets_due L hf.due u hu)
  have HD := Lib.hid hdu
  clear hdu
  go_wp2
  rw [← HE.out]
  go_loopw [5] (fun t wr => ∃ (R : List Ti) (S : Nat → Prop) (m : Nat) (P : Int → Prop) (last : Int), t = .int .i64 last ∧ Agd wr A S L.length R ∧ (∀ j, S j → w.heap.size ≤ j) ∧ ¬ S M ∧ Bm wr M m m P ∧ m + R.length = n ∧ (∀ u ∈ R, last ≤ u.due) ∧ (∀ u ∈ R, ¬ P u.what) ∧ Below w.heap.size w wr) (fun _ wr => lenAt wr A)
  case atStart => exact ⟨sets L, _, 0, fun _ => False, _, rfl, a2, hS2, hSM2, hM0, by rw [HN.out]; omega, HD.out, fun _ _ q => q, bm2⟩
  case round =>
    obtain ⟨R, S, m, P, last, rfl, ha, hS, hSM, hM, hmn, hle, hP, hb⟩ := hrel
    have hlen0 := Lib.hid ha.lenAt
    have HMN := Lib.hid hmn
    have hm9 : m ≤ 900000 := by omega
    clear hmn
    cases hR : R with
    | nil =>
      subst hR
      have hlm := hM.len 3
      have hmn' : m = n := by have := HMN.out; simpa using this
      go_wp2_with fail
      refine (next_no ha).mono ?_
      rintro e w5 ⟨rfl, rfl⟩
      go_wp2_with fail
      refine (pop_none ha).mono ?_
      rintro e w6 ⟨rfl, rfl⟩
      go_wp2_with fail
      refine (alen_any ha).mono ?_
      rintro e w7 ⟨rfl, rfl⟩
      go_wp2
      go_ret
      exact ⟨rfl, hb⟩
    | cons u0 R0 =>
      obtain ⟨u, hu, hmu⟩ := next_ex (R := R) (t := u0) (by rw [hR]; simp)
      clear hR
      have hiu := ha.ints u hmu
      have hPu := hP u hmu
      have hlu : ¬ u.due < last := by have := hle u hmu; omega
      have hlu' : decide (u.due < last) = false := by simpa using hlu
      have hdl := Lib.hid (drop_len ha.once (List.mem_map.2 ⟨u, hmu, rfl⟩))
      have hnx := Lib.hid (next_least (next_of hu))
      have hP' := Lib.hid hP
      clear hP hle
      go_wp2_with fail
      refine (next_yes ha hu).mono ?_
      rintro e w5 ⟨rfl, kk, rfl⟩
      go_wp2_with fail
      refine (pop_due (ha.drewN kk) hu (Int.le_refl _)).mono ?_
      rintro e w6 ⟨rfl, a6, f6⟩
      have f6' : Fr wr w6 S := ⟨f6.os, f6.tape, f6.output, f6.size, f6.block⟩
      have hM6 := hM.stays (f6'.block M hM.lt hSM)
      have hlk := hM6.no hiu hPu
      obtain ⟨w7, hrun, hM7, hg7⟩ := hM6.put (m' := m + 1) (Q := fun j => P j ∨ j = u.what) hiu (by unfold maxLen; omega) (.inr ⟨hPu, rfl⟩) (fun _ => ⟨fun q => q, fun q => q⟩)
      have a7 := a6.stays (T := fun j => j = M) ((Fr.refl w6 _).grown hg7 (fun j hj => .inl (by cases hj; rfl))) (fun j hj e => by subst e; exact hSM hj)
      have hlen7 := Lib.hid a7.lenAt
      have hb7 : Below w.heap.size w w7 := by
        have f1 : Fr w w6 (fun j => w.heap.size ≤ j) := (Fr.ofBelow _ ⟨hb.os, hb.tape, hb.output, hb.size, hb.block⟩).trans (f6'.mono hS)
        have f2 := f1.grown hg7 (fun j hj => .inl (by cases hj; exact hwM))
        exact f2.toBelow (fun j hj q => by omega) (Nat.le_refl _)
      have H7 := Lib.hid hb7
      clear hb7
      go_wp2
      go_roundw
      case rel =>
        refine ⟨_, S, m + 1, _, u.due, rfl, a7, hS, hSM, hM7, ?_, ?_, ?_, H7.out⟩
        · have a1 := HMN.out
          have a3 := hdl.out
          omega
        · intro x hx
          exact hnx.out x (dropL_mem.1 hx).1
        · intro x hx q
          have hx' := dropL_mem.1 hx
          rcases q with q | q
          · exact hP'.out x hx'.1 q
          · exact hx'.2 q
      case measure =>
        have a1 := hlen0.out
        have a2 := hlen7.out
        have a3 := hdl.out
        show lenAt w7 A < lenAt wr A
        omega

theorem agendaRises_any (L : List O) (ad : Option Addr) (cap : Nat) (w : World) (hL : Li L ad w.heap.size w) (hf : Fits L) : Calls Try.prog 4 #[.slice ad L.length cap] w fun e w' => e = .returned (.bool true) ∧ Below w.heap.size w w' := by
  by_cases h : 400 < L.length
  · exact rises_out L ad cap w h
  · exact rises_in L ad cap w hL hf (by omega)
end Go.Proofs.Ytmehdhjelggkpaa
