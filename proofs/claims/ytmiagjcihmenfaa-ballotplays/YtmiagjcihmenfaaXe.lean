/- The walk of the document's settle. -/
import Derived.Test.YtmiagjcihmenfaaXd
namespace Go.Proofs.Ytmiagjcihmenfaa
open Go.RowKit

def SR (b : Bs) (w wr : World) (bv iv : Value) : Prop := ∃ (q n : Nat), q ≤ (b.last - b.commit).toNat ∧ iv = .int .i64 (b.commit + 1 + (q : Nat)) ∧ bv = .int .i64 (b.best q) ∧ wr = w.drewN n
section
variable {w w' w1 : World} {A : Nat} {S T : Nat → Prop} {b : Bs}
theorem matched_le (b : Bs) (i : Int) : ∀ n, b.matched i n ≤ n
  | 0 => Nat.le_refl _
  | n + 1 => by
    have := matched_le b i n
    unfold Bs.matched
    split <;> omega
/-- A field is written anew. -/
theorem Rb.setf (h : Rb w A S b) {i : Nat} {v : Value} {b' : Bs} (hs : ∀ lv ov, (bC b lv ov).setIfInBounds i v = bC b' lv ov) (hl : b'.log = b.log) (ho : b'.out = b.out) (hb : b'.base = b.base) (hav : b'.av = b.av := by rfl) : Rb (w.setCell ⟨A, i, none⟩ v) A S b' ∧ Fr w (w.setCell ⟨A, i, none⟩ v) S := by
  obtain ⟨lv, ov, O, h⟩ := h
  have hf : Fr w (w.setCell ⟨A, i, none⟩ v) S := Fr.set (a := ⟨A, i, none⟩) (Fr.refl w S) (Or.inl h.covA) _
  have hne : ∀ k, ov.ownBlock = some k → k ≠ A := by
    intro k hk e
    subst e
    rcases h.out.2 with ⟨hv, _⟩ | ⟨g, cap, cur, hv, _, hg, _⟩
    · rw [hv] at hk; cases hk
    · rw [hv] at hk
      simp only [Value.ownBlock, Option.some.injEq] at hk
      subst hk
      exact tag_ne h.ob hg (by decide) rfl
  refine ⟨⟨lv, ov, O, ⟨?_, ?_, by rw [ho]; exact h.eo, own_like h.out (fun k hk => set_other _ (hne k hk)), fun p hp => (h.ls p hp).stays hf (fun _ q => .inl q), h.covA, h.cov, fun k hk => Nat.lt_of_lt_of_le (h.lt k hk) hf.size, h.few, by rw [hl]; exact h.len, by rw [hb]; exact h.b0, by rw [hb]; exact h.b1, fun k hk => Nat.lt_of_lt_of_le (h.avl k (hav ▸ hk)) hf.size⟩⟩, hf⟩
  · rw [set_blk h.ob, hs]
  · rw [hl, hav]
    exact h.log.staysU hf (fun _ q => .inl q)
theorem Rt.start {b' : Bs} (h : Rb w' A S b') (hf : Fr w w' S) : Rt w w' A S b' := ⟨S, h, fun _ q => .inl q, hf⟩
set_option maxHeartbeats 4000000 in
set_option maxRecDepth 100000 in
theorem settle_any (h : Rb w A S b) (hsz : b.size ≤ 5) (hf : b.out.length < 800000) (hn : Nb b) (hbc : b.base ≤ b.commit) (hcl : b.commit ≤ b.last) :
    Calls Try.prog 61 #[.pointer (some ⟨A, 0, none⟩)] w fun e w' => e = .returned (.tuple #[]) ∧ Rt w w' A S b.settle := by
  obtain ⟨l1, b0, b1⟩ := h.len
  have hlast0 : ∀ n, Calls Try.prog 38 #[.pointer (some ⟨A, 0, none⟩)] (w.drewN n) fun e w' => e = .returned (.int .i64 b.last) ∧ ∃ n, w' = w.drewN n := fun n => by
    refine (last_any (h.drewN n)).mono ?_
    rintro e w' ⟨rfl, n', rfl⟩
    exact ⟨rfl, _, World.drewN_drewN ..⟩
  have hterm0 : ∀ i n, Calls Try.prog 56 #[.pointer (some ⟨A, 0, none⟩), .int .i64 i] (w.drewN n) fun e w' => e = .returned (.int .i64 (b.termAt i)) ∧ ∃ n, w' = w.drewN n := fun i n => by
    refine (term_any (h.drewN n) i).mono ?_
    rintro e w' ⟨rfl, n', rfl⟩
    exact ⟨rfl, _, World.drewN_drewN ..⟩
  have hl2 : b.last ≤ 4398047411104 := by unfold Bs.last; omega
  have hl3 : b.last - b.commit ≤ 900000 := by unfold Bs.last; omega
  have H0 := Lib.hid h
  obtain ⟨lv, ov, O, h⟩ := h
  have c0 : w.cell? ⟨A, 0, none⟩ = some (.int .i64 b.id) := h.cell 0
  have c1 : w.cell? ⟨A, 1, none⟩ = some (.int .i64 b.size) := h.cell 1
  have c2 : w.cell? ⟨A, 2, none⟩ = some (.int .i64 b.term) := h.cell 2
  have c25 : w.cell? ⟨A, 25, none⟩ = some (.int .i64 b.commit) := h.cell 25
  have hmat : ∀ k, k < 5 → w.cell? ⟨A, 20 + k, none⟩ = some (.int .i64 (b.mat.getD k 0)) := fun k hk => h.matc hk
  have HM := Lib.hid hmat
  clear h hmat
  have hc0 : 0 ≤ b.commit := by omega
  go_enter Try.func61, Try.ntmps61
  go_wp2
  go_loopw [2, 3] (fun bv iv wr => SR b w wr bv iv) (fun _ i _ => (b.last + 1 - intOf i).toNat)
  case atStart => exact ⟨0, 0, Nat.zero_le _, by simp, rfl, rfl⟩
  case round =>
    obtain ⟨q, n, hq, rfl, rfl, rfl⟩ := hrel
    by_cases hgo : b.commit + 1 + q ≤ b.last
    · obtain ⟨i, hi⟩ : ∃ i, b.commit + 1 + (q : Int) = i := ⟨_, rfl⟩
      have hbest : b.best (q + 1) = if b.most i then i else b.best q := by rw [← hi]; rfl
      have hi2 : 0 < i := by omega
      have hi3 : i ≤ 4398047411104 := by omega
      obtain ⟨bst, hbst⟩ : ∃ bst, b.best q = bst := ⟨_, rfl⟩
      rw [hbst] at hbest
      have HBE := Lib.hid hbest
      have HI := Lib.hid hi
      rw [hi] at hgo ⊢
      rw [hbst]
      clear hbest hbst hi
      go_wp2_with fail
      refine (hlast0 n).mono ?_
      rintro e9 w9 ⟨rfl, n1, rfl⟩
      go_wp2
      go_loopw [4, 5] (fun nv tv wr => ∃ (t m : Nat), t ≤ b.size ∧ tv = .int .i64 (t : Nat) ∧ nv = .int .i64 ((1 + b.matched i t : Nat) : Int) ∧ wr = w.drewN m) (fun _ tv _ => b.size - (intOf tv).toNat)
      case atStart => exact ⟨0, n1, Nat.zero_le _, rfl, rfl, rfl⟩
      case round =>
        obtain ⟨t, m, ht, rfl, rfl, rfl⟩ := hrel
        by_cases htl : t < b.size
        · have t0 : (0 : Int) ≤ t := by omega
          have t1 : (t : Int) < b.size := by omega
          have t5 : (t : Int) < 5 := by omega
          have t6 : t < 5 := by omega
          have cm := HM.out t t6
          obtain ⟨y, hy⟩ : ∃ y, b.mat.getD t 0 = y := ⟨_, rfl⟩
          have hle := matched_le b i t
          obtain ⟨N, hN⟩ : ∃ N, 1 + b.matched i t = N := ⟨_, rfl⟩
          rw [hy] at cm
          rw [hN]
          have hst : b.matched i (t + 1) = b.matched i t + if t ≠ b.id ∧ i ≤ y then 1 else 0 := by
            rw [← hy]; rfl
          have N6 : N ≤ 6 := by omega
          by_cases hid : t = b.id
          · have hd : (t : Int) = b.id := by omega
            rw [if_neg (by omega)] at hst
            have hfin : (1 + b.matched i (t + 1) : Nat) = N := by omega
            have HF := Lib.hid hfin
            clear hfin hst hN hle hy hid
            go_wp2
            exact ⟨⟨t + 1, m, htl, by go_num, by rw [HF.out], rfl⟩, by simp [intOf]; omega⟩
          · have hd : ¬ (t : Int) = b.id := by omega
            by_cases hiy : i ≤ y
            · rw [if_pos ⟨hid, hiy⟩] at hst
              have hfin : (1 + b.matched i (t + 1) : Nat) = N + 1 := by omega
              have HF := Lib.hid hfin
              clear hfin hst hN hle hy hid
              go_wp2
              exact ⟨⟨t + 1, m, htl, by go_num, by rw [HF.out]; go_num, rfl⟩, by simp [intOf]; omega⟩
            · rw [if_neg (fun z => hiy z.2)] at hst
              have hfin : (1 + b.matched i (t + 1) : Nat) = N := by omega
              have HF := Lib.hid hfin
              clear hfin hst hN hle hy hid
              go_wp2
              exact ⟨⟨t + 1, m, htl, by go_num, by rw [HF.out], rfl⟩, by simp [intOf]; omega⟩
        · have t1 : ¬ (t : Int) < b.size := by omega
          have et : t = b.size := by omega
          subst et
          have hle := matched_le b i b.size
          obtain ⟨N, hN⟩ : ∃ N, 1 + b.matched i b.size = N := ⟨_, rfl⟩
          rw [hN]
          have hmost : b.most i ↔ ((b.size : Int) < 2 * N ∧ b.termAt i = b.term) := by
            unfold Bs.most
            rw [← hN]
            simp
          obtain ⟨W, hW⟩ : ∃ W, W = w.drewN m := ⟨_, rfl⟩
          have hterm1 : ∀ n, Calls Try.prog 56 #[.pointer (some ⟨A, 0, none⟩), .int .i64 i] (W.drewN n) fun e w' => e = .returned (.int .i64 (b.termAt i)) ∧ ∃ k, w' = (W.drewN n).drewN k := fun n => term_any (by rw [hW]; exact (H0.out.drewN m).drewN n) i
          have d1 : W.cell? ⟨A, 1, none⟩ = some (.int .i64 b.size) := by rw [hW]; exact c1
          have d2 : W.cell? ⟨A, 2, none⟩ = some (.int .i64 b.term) := by rw [hW]; exact c2
          rw [← hW]
          obtain ⟨N2, hN2⟩ : ∃ N2 : Int, 2 * (N : Int) = N2 := ⟨_, rfl⟩
          have hmul : IntKind.i64.wrap (2 * (N : Int)) = N2 := by rw [IntKind.wrap_i64]; omega
          rw [hN2] at hmost
          obtain ⟨tm, htm⟩ : ∃ tm, b.termAt i = tm := ⟨_, rfl⟩
          rw [htm] at hterm1 hmost
          have HMO := Lib.hid hmost
          have HWW := Lib.hid hW
          clear hmost hN hN2 htm hW hle
          have hii := HI.out
          by_cases g1 : (b.size : Int) < N2
          · have gd : decide ((b.size : Int) < N2) = true := by simpa using g1
            by_cases g2 : tm = b.term
            · have hb := HBE.out
              rw [if_pos (HMO.out.2 ⟨g1, g2⟩)] at hb
              have HB2 := Lib.hid hb
              clear hb
              go_wp2
              go_quiet ((go_at_call 56; exact Calls.quiet_of (hterm1 _)))
              go_wp2
              exact ⟨⟨q + 1, m + nq, by omega, by rw [← HI.out]; congr 1; omega, by rw [HB2.out], by rw [HWW.out, World.drewN_drewN]⟩, by simp [intOf]; omega⟩
            · have hb := HBE.out
              rw [if_neg (fun z => g2 (HMO.out.1 z).2)] at hb
              have HB2 := Lib.hid hb
              clear hb
              go_wp2
              go_quiet ((go_at_call 56; exact Calls.quiet_of (hterm1 _)))
              go_wp2
              exact ⟨⟨q + 1, m + nq, by omega, by rw [← HI.out]; congr 1; omega, by rw [HB2.out], by rw [HWW.out, World.drewN_drewN]⟩, by simp [intOf]; omega⟩
          · have gd : decide ((b.size : Int) < N2) = false := by simpa using g1
            have hb := HBE.out
            rw [if_neg (fun z => g1 (HMO.out.1 z).1)] at hb
            have HB2 := Lib.hid hb
            clear hb
            go_wp2
            go_quiet (fail)
            go_wp2
            exact ⟨⟨q + 1, m + nq, by omega, by rw [← HI.out]; congr 1; omega, by rw [HB2.out], by rw [HWW.out, World.drewN_drewN]⟩, by simp [intOf]; omega⟩
    · have eq : q = (b.last - b.commit).toNat := by omega
      have hset : b.settle = if 0 < b.best q then ({ b with commit := b.best q }).feedAll else b := by rw [eq]; rfl
      obtain ⟨bst, hbst⟩ : ∃ bst, b.best q = bst := ⟨_, rfl⟩
      rw [hbst] at hset ⊢
      clear hbst eq hq
      have g1 : ¬ b.commit + 1 + q ≤ b.last := hgo
      by_cases hpos : 0 < bst
      · rw [if_pos hpos] at hset
        have hcall : ∀ n, Calls Try.prog 59 #[.pointer (some ⟨A, 0, none⟩)] ((w.drewN n).setCell ⟨A, 25, none⟩ (.int .i64 bst)) fun e w' => e = .returned (.tuple #[]) ∧ Rt w w' A S b.settle := by
          intro n
          obtain ⟨r1, r2⟩ := (H0.out.drewN n).setf (i := 25) (v := .int .i64 bst) (b' := { b with commit := bst }) (fun _ _ => rfl) rfl rfl rfl
          refine (feedAll_any r1 hsz hf hn).mono ?_
          rintro e w' ⟨rfl, hT⟩
          refine ⟨rfl, ?_⟩
          rw [hset]
          have s1 : Rt w ((w.drewN n).setCell ⟨A, 25, none⟩ (.int .i64 bst)) A S { b with commit := bst } := Rt.start r1 ⟨r2.os, r2.tape, r2.output, r2.size, r2.block⟩
          obtain ⟨S2, k1, k2, k3⟩ := hT
          obtain ⟨S1, q1, q2, q3⟩ := s1
          have hz := q3.size
          have kz := k3.size
          refine ⟨S2, k1, fun z hz2 => ?_, q3.step k3 (fun z hz2 => .inl hz2)⟩
          rcases k2 z hz2 with z' | z'
          · exact .inl z'
          · exact .inr ⟨by omega, z'.2⟩
        have f25 : w.frozen? ⟨A, 25, none⟩ = false := by
          obtain ⟨l9, o9, O9, h9⟩ := H0.out
          exact frozen_blk h9.ob 25
        clear hset
        go_wp2_with fail
        refine (hlast0 n).mono ?_
        rintro e9 w9 ⟨rfl, n1, rfl⟩
        go_wp2_with fail
        refine (hcall n1).mono ?_
        rintro e8 w8 ⟨rfl, h8⟩
        go_wp2
        go_end0
        exact ⟨rfl, h8⟩
      · rw [if_neg hpos] at hset
        go_wp2_with fail
        refine (hlast0 n).mono ?_
        rintro e9 w9 ⟨rfl, n1, rfl⟩
        go_wp2
        go_end0
        rw [hset]
        exact ⟨rfl, Rt.same H0.out (below_draw (Below.refl _ _) n1)⟩
end
end Go.Proofs.Ytmiagjcihmenfaa
/- The walk of the document's count. -/
namespace Go.Proofs.Ytmiagjcihmenfaa
open Go.RowKit

section
variable {w w' w1 : World} {A : Nat} {S T : Nat → Prop} {b : Bs}
theorem getD_set (l : List Int) (t k : Nat) (x : Int) (ht : t < l.length) : (l.set t x).getD k 0 = if k = t then x else l.getD k 0 := by
  by_cases h : k = t
  · subst h
    simp [ht]
  · rw [if_neg h]
    simp [List.getD, List.getElem?_set_ne (Ne.symm h)]
theorem bC_next (b : Bs) (lv ov : Value) {t : Nat} (ht : t < 5) (hl : b.next.length = 5) (x : Int) : (bC b lv ov).setIfInBounds (15 + t) (.int .i64 x) = bC { b with next := b.next.set t x } lv ov := by
  unfold bC
  simp only [getD_set _ _ _ _ (by omega : t < b.next.length)]
  have : t = 0 ∨ t = 1 ∨ t = 2 ∨ t = 3 ∨ t = 4 := by omega
  rcases this with rfl | rfl | rfl | rfl | rfl <;> simp
theorem bC_mat (b : Bs) (lv ov : Value) {t : Nat} (ht : t < 5) (hl : b.mat.length = 5) (x : Int) : (bC b lv ov).setIfInBounds (20 + t) (.int .i64 x) = bC { b with mat := b.mat.set t x } lv ov := by
  unfold bC
  simp only [getD_set _ _ _ _ (by omega : t < b.mat.length)]
  have : t = 0 ∨ t = 1 ∨ t = 2 ∨ t = 3 ∨ t = 4 := by omega
  rcases this with rfl | rfl | rfl | rfl | rfl <;> simp
theorem fill_step {α : Type} (l : List α) (t : Nat) (x : α) (ht : t < l.length) : Bs.fill l (t + 1) x = (Bs.fill l t x).set t x := by
  unfold Bs.fill
  rw [List.set_append_right _ _ (by simp), List.length_replicate, Nat.sub_self, List.replicate_succ']
  have e : (l.drop t).set 0 x = x :: l.drop (t + 1) := by
    rw [List.drop_eq_getElem_cons ht]
    rfl
  rw [e]
  simp
/-- The first t nodes' numbers are set; then all are. -/
def ldT (b : Bs) (t : Nat) : Bs := { b with role := 2, lead := b.id, next := Bs.fill b.next t (b.last + 1), mat := Bs.fill b.mat t 0 }
theorem ldT_zero (b : Bs) : ldT b 0 = { b with role := 2, lead := b.id } := by unfold ldT Bs.fill; simp
theorem ldT_size (b : Bs) : ldT b b.size = b.leads := rfl
theorem Rb.next_set (h : Rb w A S b) {t : Nat} (ht : t < 5) (hl : b.next.length = 5) (x : Int) : Rb (w.setCell ⟨A, 15 + t, none⟩ (.int .i64 x)) A S { b with next := b.next.set t x } ∧ Fr w (w.setCell ⟨A, 15 + t, none⟩ (.int .i64 x)) S :=
  h.setf (fun lv ov => bC_next b lv ov ht hl x) rfl rfl rfl
theorem Rb.mat_set (h : Rb w A S b) {t : Nat} (ht : t < 5) (hl : b.mat.length = 5) (x : Int) : Rb (w.setCell ⟨A, 20 + t, none⟩ (.int .i64 x)) A S { b with mat := b.mat.set t x } ∧ Fr w (w.setCell ⟨A, 20 + t, none⟩ (.int .i64 x)) S :=
  h.setf (fun lv ov => bC_mat b lv ov ht hl x) rfl rfl rfl
theorem ldT_step {t : Nat} (h : Rb w A S (ldT b t)) (ht : t < b.size) (hs : b.size ≤ 5) (hn : b.next.length = 5) (hm : b.mat.length = 5) :
    Rb ((w.setCell ⟨A, 15 + t, none⟩ (.int .i64 (b.last + 1))).setCell ⟨A, 20 + t, none⟩ (.int .i64 0)) A S (ldT b (t + 1)) ∧ Fr w ((w.setCell ⟨A, 15 + t, none⟩ (.int .i64 (b.last + 1))).setCell ⟨A, 20 + t, none⟩ (.int .i64 0)) S := by
  have f1 : (Bs.fill b.next t (b.last + 1)).length = 5 := (Bs.fill_len _ _ _ (by omega)).trans hn
  have f2 : (Bs.fill b.mat t 0).length = 5 := (Bs.fill_len _ _ _ (by omega)).trans hm
  obtain ⟨r1, r2⟩ := h.next_set (t := t) (by omega) f1 (b.last + 1)
  obtain ⟨r3, r4⟩ := r1.mat_set (t := t) (by omega) f2 0
  refine ⟨?_, r2.trans r4⟩
  have e : ldT b (t + 1) = { ldT b t with next := (Bs.fill b.next t (b.last + 1)).set t (b.last + 1), mat := (Bs.fill b.mat t 0).set t 0 } := by
    unfold ldT
    rw [fill_step _ _ _ (by omega), fill_step _ _ _ (by omega)]
  rw [e]
  exact r3
end
end Go.Proofs.Ytmiagjcihmenfaa
/- The walk of the document's count: the votes, then the leader's numbers. -/
namespace Go.Proofs.Ytmiagjcihmenfaa
open Go.RowKit

section
variable {w w' w1 : World} {A : Nat} {S T : Nat → Prop} {b : Bs}
theorem votes_le (b : Bs) : ∀ n, b.votes n ≤ n
  | 0 => Nat.le_refl _
  | n + 1 => by
    have := votes_le b n
    unfold Bs.votes
    split <;> omega
theorem Rt.step {w1 w2 : World} {b2 : Bs} (h : Fr w w1 S) (k : Rt w1 w2 A S b2) : Rt w w2 A S b2 := by
  obtain ⟨S2, k1, k2, k3⟩ := k
  have hz := h.size
  refine ⟨S2, k1, fun j q => ?_, h.step k3 (fun j q => .inl q)⟩
  rcases k2 j q with q | q
  · exact .inl q
  · exact .inr ⟨by omega, q.2⟩
theorem fill_getD (l : List Int) (n k : Nat) (x : Int) : (Bs.fill l n x).getD k 0 = if k < n then x else l.getD k 0 := by
  unfold Bs.fill
  rw [List.getD_eq_getElem?_getD, List.getD_eq_getElem?_getD]
  by_cases q : k < n
  · rw [List.getElem?_append_left (by simpa using q), if_pos q, List.getElem?_replicate, if_pos q]
    rfl
  · rw [List.getElem?_append_right (by simp; omega), if_neg q, List.getElem?_drop, List.length_replicate, show n + (k - n) = k by omega]
theorem Rt.comb {w1 w2 : World} {S1 : Nat → Prop} {b2 : Bs} (h2 : ∀ k, S1 k → Gro S w w1 k) (h3 : Fr w w1 S) (k : Rt w1 w2 A S1 b2) : Rt w w2 A S b2 := by
  obtain ⟨S2, k1, k2, k3⟩ := k
  have hz := h3.size
  have kz := k3.size
  refine ⟨S2, k1, fun j q => ?_, h3.step k3 (fun j q => ?_)⟩
  · rcases k2 j q with q | q
    · rcases h2 j q with q | q
      · exact .inl q
      · exact .inr ⟨q.1, by omega⟩
    · exact .inr ⟨by omega, q.2⟩
  · rcases h2 j q with q | q
    · exact .inl q
    · exact .inr q.1
set_option maxHeartbeats 4000000 in
set_option maxRecDepth 100000 in
theorem count_any (h : Rb w A S b) (hI : Bs.Inv b) (hf : b.out.length < 700000) (hn : Nb b) (hlen : b.log.length < 900000) :
    Calls Try.prog 57 #[.pointer (some ⟨A, 0, none⟩)] w fun e w' => e = .returned (.tuple #[]) ∧ Rt w w' A S b.count := by
  have hsz := hI.sz
  have hnx := hI.nx
  have hmt := hI.mt
  obtain ⟨l1, b0, b1⟩ := h.len
  have HH := Lib.hid h
  obtain ⟨lv, ov, O, h⟩ := h
  have c0 : w.cell? ⟨A, 0, none⟩ = some (.int .i64 b.id) := h.cell 0
  have c1 : w.cell? ⟨A, 1, none⟩ = some (.int .i64 b.size) := h.cell 1
  have hhas : ∀ k, k < 5 → w.cell? ⟨A, 10 + k, none⟩ = some (.bool (b.has.getD k false)) := fun k hk => h.hasc hk
  have HC := Lib.hid hhas
  have c4 : w.cell? ⟨A, 4, none⟩ = some (.int .i64 b.role) := h.cell 4
  have c5 : w.cell? ⟨A, 5, none⟩ = some (.int .i64 b.lead) := h.cell 5
  have f4 : w.frozen? ⟨A, 4, none⟩ = false := frozen_blk h.ob 4
  have f5 : w.frozen? ⟨A, 5, none⟩ = false := frozen_blk h.ob 5
  have HI := Lib.hid hI
  clear h hhas hI
  go_enter Try.func57, Try.ntmps57
  go_wp2
  go_loopw [2, 3] (fun nv iv wr => ∃ t : Nat, t ≤ b.size ∧ iv = .int .i64 (t : Nat) ∧ nv = .int .i64 ((b.votes t : Nat) : Int) ∧ wr = w) (fun _ iv _ => b.size - (intOf iv).toNat)
  case atStart => exact ⟨0, Nat.zero_le _, rfl, rfl, rfl⟩
  case round =>
    obtain ⟨t, ht, rfl, rfl, rfl⟩ := hrel
    by_cases htl : t < b.size
    · have t0 : (0 : Int) ≤ t := by omega
      have t1 : (t : Int) < b.size := by omega
      have t5 : (t : Int) < 5 := by omega
      have t6 : t < 5 := by omega
      have cm := HC.out t t6
      have hle := votes_le b t
      have hst : b.votes (t + 1) = b.votes t + if b.has.getD t false then 1 else 0 := rfl
      obtain ⟨y, hy⟩ : ∃ y, b.has.getD t false = y := ⟨_, rfl⟩
      obtain ⟨N, hN⟩ : ∃ N, b.votes t = N := ⟨_, rfl⟩
      rw [hy] at cm hst
      rw [hN] at hst hle ⊢
      have HS := Lib.hid hst
      clear hst hN hy
      cases y with
      | true =>
        go_wp2
        exact ⟨⟨t + 1, htl, by go_num, by rw [HS.out]; simp, by first | rfl | trivial⟩, by simp [intOf]; omega⟩
      | false =>
        go_wp2
        exact ⟨⟨t + 1, htl, by go_num, by rw [HS.out]; simp, by first | rfl | trivial⟩, by simp [intOf]; omega⟩
    · have t1 : ¬ (t : Int) < b.size := by omega
      have et : t = b.size := by omega
      subst et
      have hle := votes_le b b.size
      have hcnt : b.count = if 2 * b.votes b.size ≤ b.size then b else ((b.leads.put (b.last + 1) [⟨b.term, 0, 0, noT⟩]).feedAll).settle := rfl
      obtain ⟨N, hN⟩ : ∃ N, b.votes b.size = N := ⟨_, rfl⟩
      rw [hN] at hcnt hle ⊢
      clear hN
      by_cases hmaj : 2 * N ≤ b.size
      · rw [if_pos hmaj] at hcnt
        have m1 : 2 * (N : Int) ≤ b.size := by omega
        have HCN := Lib.hid hcnt
        clear hcnt
        go_wp2
        refine bodyPost_ret (results_none rfl _ _ _) rfl ?_
        rw [HCN.out]
        exact ⟨rfl, Rt.same HH.out (Below.refl _ _)⟩
      · rw [if_neg hmaj] at hcnt
        have m1 : ¬ 2 * (N : Int) ≤ b.size := by omega
        obtain ⟨r1, r2⟩ := HH.out.setf (i := 4) (v := .int .i64 2) (b' := { b with role := 2 }) (fun _ _ => rfl) rfl rfl rfl
        obtain ⟨r3, r4⟩ := r1.setf (i := 5) (v := .int .i64 b.id) (b' := { b with role := 2, lead := b.id }) (fun _ _ => rfl) rfl rfl rfl
        rw [← ldT_zero b] at r3
        have r5 := r2.trans r4
        have HCN := Lib.hid hcnt
        clear hcnt r1 r2 r4 hmaj
        go_wp2
        go_loopw [4] (fun iv wr2 => ∃ t : Nat, t ≤ b.size ∧ iv = .int .i64 (t : Nat) ∧ Rb wr2 A S (ldT b t) ∧ Fr wr wr2 S) (fun iv _ => b.size - (intOf iv).toNat)
        case atStart => exact ⟨0, Nat.zero_le _, rfl, r3, r5⟩
        case round =>
          clear r3 r5 c0 c1 c4 c5 f4 f5
          obtain ⟨t, ht, rfl, hR, hFr⟩ := hrel
          obtain ⟨l2, o2, O2, h2⟩ := hR
          have hR : Rb wr A S (ldT b t) := ⟨l2, o2, O2, h2⟩
          have c1 : wr.cell? ⟨A, 1, none⟩ = some (.int .i64 b.size) := h2.cell 1
          by_cases htl2 : t < b.size
          · have t0 : (0 : Int) ≤ t := by omega
            have t1 : (t : Int) < b.size := by omega
            have t5 : (t : Int) < 5 := by omega
            have t6 : t < 5 := by omega
            have cn := h2.nextc t6
            have cm := h2.matc t6
            have fn : wr.frozen? ⟨A, 15 + t, none⟩ = false := frozen_blk h2.ob _
            have fm : wr.frozen? ⟨A, 20 + t, none⟩ = false := frozen_blk h2.ob _
            obtain ⟨xn, hxn⟩ : ∃ xn, (ldT b t).next.getD t 0 = xn := ⟨_, rfl⟩
            obtain ⟨xm, hxm⟩ : ∃ xm, (ldT b t).mat.getD t 0 = xm := ⟨_, rfl⟩
            rw [hxn] at cn
            rw [hxm] at cm
            have hlast1 : Calls Try.prog 38 #[.pointer (some ⟨A, 0, none⟩)] wr.drew fun e w' => e = .returned (.int .i64 b.last) ∧ ∃ n, w' = wr.drewN n := by
              refine (last_any (hR.drewN 1)).mono ?_
              rintro e w' ⟨rfl, n', rfl⟩
              exact ⟨rfl, _, World.drewN_drewN ..⟩
            have hstep : ∀ n, Rb (((wr.drewN n).setCell ⟨A, 15 + t, none⟩ (.int .i64 (b.last + 1))).setCell ⟨A, 20 + t, none⟩ (.int .i64 0)) A S (ldT b (t + 1)) ∧ Fr (wr.drewN n) (((wr.drewN n).setCell ⟨A, 15 + t, none⟩ (.int .i64 (b.last + 1))).setCell ⟨A, 20 + t, none⟩ (.int .i64 0)) S := fun n => ldT_step (hR.drewN n) htl2 hsz hnx hmt
            have hll : b.last ≤ 4398047411104 ∧ 0 ≤ b.last := by unfold Bs.last; omega
            obtain ⟨L1, hL1⟩ : ∃ L1, b.last + 1 = L1 := ⟨_, rfl⟩
            have hw1 : IntKind.i64.wrap (b.last + 1) = L1 := by rw [IntKind.wrap_i64]; omega
            rw [hL1] at hstep
            have HST := Lib.hid hstep
            have HFR := Lib.hid hFr
            clear h2 hxn hxm hL1 hR hstep hFr hll
            go_wp2
            go_region_with (go_at_call 38; refine hlast1.mono ?_; rintro e7 w7 ⟨rfl, n2, rfl⟩)
            all_goals
              go_wp2
              exact ⟨⟨t + 1, htl2, by go_num, (HST.out n2).1, (HFR.out.drewN n2).trans (HST.out n2).2⟩, by simp [intOf]; omega⟩
          · have t1 : ¬ (t : Int) < b.size := by omega
            have et : t = b.size := by omega
            subst et
            rw [ldT_size] at hR
            have hll : b.last ≤ 4398047411104 ∧ 0 ≤ b.last := by unfold Bs.last; omega
            obtain ⟨L1, hL1⟩ : ∃ L1, b.last + 1 = L1 := ⟨_, rfl⟩
            have hw1 : IntKind.i64.wrap (b.last + 1) = L1 := by rw [IntKind.wrap_i64]; omega
            obtain ⟨_, iL⟩ := Bs.leads_stays HI.out
            obtain ⟨_, iX⟩ := Bs.put_stays (b := b.leads) (i := b.last + 1) [⟨b.term, 0, 0, noT⟩] iL (by have := HI.out.cl; show b.commit < _; omega) (Int.le_refl _) (.inl rfl)
            have hlast1 : ∀ V, Sa wr V → Calls Try.prog 38 #[.pointer (some ⟨A, 0, none⟩)] V fun e w' => e = .returned (.int .i64 b.last) ∧ ∃ n, w' = V.drewN n := fun V hV => last_any (b := b.leads) (hR.on hV.below)
            have hlast2 : ∀ V, Sa (wr.alloc (enO ⟨b.term, 0, 0, noT⟩)) V → Calls Try.prog 38 #[.pointer (some ⟨A, 0, none⟩)] V fun e w' => e = .returned (.int .i64 b.last) ∧ ∃ n, w' = V.drewN n := fun V hV => last_any (b := b.leads) ((hR.on ((Below.refl _ wr).alloc (Nat.le_refl _) _)).on hV.below)
            have c2 : wr.cell? ⟨A, 2, none⟩ = some (.int .i64 b.term) := h2.cell 2
            have hal : Below wr.heap.size wr (wr.alloc (enO ⟨b.term, 0, 0, noT⟩)) := (Below.refl _ wr).alloc (Nat.le_refl _) _
            obtain ⟨X1, hX1⟩ : ∃ X1, b.leads.put (b.last + 1) [⟨b.term, 0, 0, noT⟩] = X1 := ⟨_, rfl⟩
            have x_out : X1.out = b.out := by rw [← hX1]; rfl
            have x_sz : X1.size = b.size := by rw [← hX1]; rfl
            have x_nb : Nb X1 := by
              rw [← hX1]
              intro k
              show (Bs.fill b.next b.size (b.last + 1)).getD k 0 ≤ _
              have hk := hn k
              rw [fill_getD]
              split <;> omega
            have x_inv : Bs.Inv X1 := by rw [← hX1]; exact iX
            have hput : ∀ V, Sa (wr.alloc (enO ⟨b.term, 0, 0, noT⟩)) V → Calls Try.prog 60 #[.pointer (some ⟨A, 0, none⟩), .int .i64 L1, .slice (some ⟨wr.heap.size, 0, none⟩) 1 1] V fun e w' => e = .returned (.tuple #[]) ∧ Rt wr w' A S X1 := by
              intro V hV
              have hb2 := hal.trans (hV.below.mono hal.size)
              have hes : Es V S [⟨b.term, 0, 0, noT⟩] (.slice (some ⟨wr.heap.size, 0, none⟩) 1 1) := by
                refine ⟨some ⟨wr.heap.size, 0, none⟩, 1, rfl, fun q => (by cases q), Nat.le_refl _, (by unfold maxLen; omega), fun i hi => ?_⟩
                have hi0 : i = 0 := by simp at hi; omega
                subst hi0
                have hblk : V.heap[wr.heap.size]? = some (enO ⟨b.term, 0, 0, noT⟩) := by rw [hV.1]; exact heap_alloc_new wr _
                refine ⟨wr.heap.size, 0, rfl, blk_lt hblk, fun q => ?_, ?_, ?_, ?_, ?_⟩
                · have := h2.lt _ q
                  omega
                all_goals (rw [cell_blk hblk]; rfl)
              refine (put_any (b := b.leads) (i := L1) (l := [⟨b.term, 0, 0, noT⟩]) (hR.on hb2) (by rw [← hL1]; show b.base < b.last + 1; unfold Bs.last; omega) (by rw [← hL1]; exact Int.le_refl _) hes (by show b.log.length + 1 ≤ _; omega)).mono ?_
              rintro e w' ⟨rfl, hT⟩
              refine ⟨rfl, ?_⟩
              rw [← hX1, hL1]
              exact Rt.from hb2 hT
            have HFR := Lib.hid hFr
            have HX := Lib.hid hX1
            have HIX := Lib.hid x_inv
            clear hX1 iX iL hR h2 hFr hL1 x_inv hal
            go_wp2
            go_region_with (first | (go_at_call 38; refine (hlast1 _ (by exact ⟨rfl, rfl, rfl, rfl⟩)).mono ?_; rintro e7 w7 ⟨rfl, n2, rfl⟩) | (go_at_call 38; refine (hlast2 _ (by exact ⟨rfl, rfl, rfl, rfl⟩)).mono ?_; rintro e7 w7 ⟨rfl, n2, rfl⟩) | (go_at_call 60; refine (hput _ (by exact ⟨rfl, rfl, rfl, rfl⟩)).mono ?_; rintro e8 w8 ⟨rfl, h8⟩))
            all_goals
              obtain ⟨S1, k1, k2, k3⟩ := Rt.step HFR.out h8
              have hfa := feedAll_any k1 (by omega) (by rw [x_out]; omega) x_nb
              go_wp2_with fail
              refine hfa.mono ?_
              rintro e5 w5 ⟨rfl, h5⟩
              obtain ⟨S2, j1, j2, j3⟩ := Rt.comb k2 k3 h5
              have so := Bs.so_feedAll X1
              have hsout := feedTo_out X1 X1.size
              have y_sz : X1.feedAll.size = X1.size := by unfold Bs.So at so; rw [so]
              have y_nx : X1.feedAll.next = X1.next := by unfold Bs.So at so; rw [so]
              have hIX := HIX.out.so so
              have hst := settle_any j1 (by rw [y_sz]; omega) (by have e : X1.feedAll.out.length ≤ X1.out.length + X1.size := hsout; rw [x_out] at e; omega) (by unfold Nb; rw [y_nx]; exact x_nb) hIX.bc hIX.cl
              clear so hsout y_sz y_nx hIX j1 h5 hfa k1
              go_wp2_with fail
              refine hst.mono ?_
              rintro e4 w4 ⟨rfl, h4⟩
              go_wp2
              go_end0
              rw [HCN.out, HX.out]
              exact ⟨rfl, Rt.comb j2 j3 h4⟩
end
end Go.Proofs.Ytmiagjcihmenfaa
/- The walks of the document's Beat and rebase. -/
namespace Go.Proofs.Ytmiagjcihmenfaa
open Go.RowKit

/-- A call that answers messages: the ballot is b' then, the slice ov has the messages M. -/
def Ro (w w' : World) (A : Nat) (S : Nat → Prop) (b' : Bs) (M : List Ms) (ov : Value) : Prop :=
  ∃ S', Rb w' A S' b' ∧ (∀ k, S' k → Gro S w w' k) ∧ Fr w w' S ∧ ∃ O, O.map Prod.fst = M ∧ w'.ownsRow 0 34 10 ov O.length (msC O) ∧ ∀ p ∈ O, Es w' S' p.1.list p.2
section
variable {w w' w1 : World} {A : Nat} {S T : Nat → Prop} {b : Bs}
/-- sent behind a step. -/
theorem sent_ro (h : Rt w w1 A S b) : Calls Try.prog 58 #[.pointer (some ⟨A, 0, none⟩)] w1 fun e w' => ∃ ov, e = .returned ov ∧ Ro w w' A S b.sent.1 b.sent.2 ov := by
  obtain ⟨S1, h1, h2, h3⟩ := h
  refine (sent_any h1).mono ?_
  rintro e w' ⟨ov, O, rfl, e1, e2, _, e4, e5, e6⟩
  have hz := h3.size
  have kz := e6.size
  refine ⟨ov, rfl, S1, e5, fun j q => ?_, h3.step e6 (fun j q => ?_), O, e1, e2, e4⟩
  · rcases h2 j q with q | q
    · exact .inl q
    · exact .inr ⟨q.1, by omega⟩
  · rcases h2 j q with q | q
    · exact .inl q
    · exact .inr q.1
set_option maxHeartbeats 2000000 in
theorem beat_any (h : Rb w A S b) (hsz : b.size ≤ 5) (hf : b.out.length < 800000) (hn : Nb b) :
    Calls Try.prog 33 #[.pointer (some ⟨A, 0, none⟩)] w fun e w' => ∃ ov, e = .returned ov ∧ Ro w w' A S b.beat.1 b.beat.2 ov := by
  have hbe : b.beat = (if b.role = 2 then b.feedAll else b).sent := rfl
  have hfa := feedAll_any h hsz hf hn
  have hsn := sent_ro (Rt.same h (Below.refl _ w))
  obtain ⟨lv, ov, O, h⟩ := h
  have c4 : w.cell? ⟨A, 4, none⟩ = some (.int .i64 b.role) := h.cell 4
  clear h
  by_cases hr : b.role = 2
  · rw [if_pos hr] at hbe
    rw [hbe]
    clear hbe hsn
    go_enter Try.func33, Try.ntmps33
    go_wp2_with fail
    refine hfa.mono ?_
    rintro e w1 ⟨rfl, h1⟩
    have hsn := sent_ro h1
    clear hfa
    go_wp2_with fail
    refine hsn.mono ?_
    rintro e w2 ⟨ov, rfl, h2⟩
    clear hsn
    go_wp2
    go_ret
    exact ⟨ov, rfl, h2⟩
  · rw [if_neg hr] at hbe
    rw [hbe]
    clear hbe hfa
    go_enter Try.func33, Try.ntmps33
    go_wp2_with fail
    refine hsn.mono ?_
    rintro e w2 ⟨ov, rfl, h2⟩
    clear hsn
    go_wp2
    go_ret
    exact ⟨ov, rfl, h2⟩
end
end Go.Proofs.Ytmiagjcihmenfaa
/- The walk of the document's Timeout. -/
namespace Go.Proofs.Ytmiagjcihmenfaa
open Go.RowKit

section
variable {w w' w1 : World} {A : Nat} {S T : Nat → Prop} {b : Bs}
/-- The block is written anew as a whole. -/
theorem Rv.all {lv ov : Value} {O : List (Ms × Value)} {W : World} {b' : Bs} (h : Rv w A S b lv ov O) (hk : Fr w W (fun k => k = A)) (hW : W.heap[A]? = some (.cells (bC b' lv ov) 81 (0, 0))) (hl : b'.log = b.log) (ho : b'.out = b.out) (hb : b'.base = b.base) (hav : b'.av = b.av := by rfl) : Rb W A S b' ∧ Fr w W S := by
  have hf : Fr w W S := hk.mono (fun j q => (show j = A from q) ▸ h.covA)
  have hne : ∀ k, ov.ownBlock = some k → ¬ k = A := by
    intro k hq e
    subst e
    rcases h.out.2 with ⟨hv, _⟩ | ⟨g, cap, cur, hv, _, hg, _⟩
    · rw [hv] at hq; cases hq
    · rw [hv] at hq
      simp only [Value.ownBlock, Option.some.injEq] at hq
      subst hq
      exact tag_ne h.ob hg (by decide) rfl
  refine ⟨⟨lv, ov, O, ⟨hW, ?_, by rw [ho]; exact h.eo, row_keep h.out hk hne, fun p hp => (h.ls p hp).stays hf (fun _ q => .inl q), h.covA, h.cov, fun k hk => Nat.lt_of_lt_of_le (h.lt k hk) hf.size, h.few, by rw [hl]; exact h.len, by rw [hb]; exact h.b0, by rw [hb]; exact h.b1, fun k hk => Nat.lt_of_lt_of_le (h.avl k (hav ▸ hk)) hf.size⟩⟩, hf⟩
  rw [hl, hav]
  exact h.log.staysU hf (fun _ q => .inl q)
theorem bC_has (b : Bs) (lv ov : Value) {t : Nat} (ht : t < 5) (hl : b.has.length = 5) (x : Bool) : (bC b lv ov).setIfInBounds (10 + t) (.bool x) = bC { b with has := b.has.set t x } lv ov := by
  have e : ∀ k, (b.has.set t x).getD k false = if k = t then x else b.has.getD k false := by
    intro k
    by_cases h : k = t
    · subst h
      simp [hl, ht]
    · rw [if_neg h]
      simp [List.getD, List.getElem?_set_ne (Ne.symm h)]
  unfold bC
  simp only [e]
  have : t = 0 ∨ t = 1 ∨ t = 2 ∨ t = 3 ∨ t = 4 := by omega
  rcases this with rfl | rfl | rfl | rfl | rfl <;> simp
theorem askTo_out (b : Bs) : ∀ n, (b.askTo n).out.length ≤ b.out.length + n
  | 0 => Nat.le_refl _
  | n + 1 => by
    have ih := askTo_out b n
    unfold Bs.askTo
    split
    · omega
    · simp only [Bs.send, List.length_append, List.length_singleton]
      omega
theorem Rb.has_set (h : Rb w A S b) {t : Nat} (ht : t < 5) (hl : b.has.length = 5) (x : Bool) : Rb (w.setCell ⟨A, 10 + t, none⟩ (.bool x)) A S { b with has := b.has.set t x } ∧ Fr w (w.setCell ⟨A, 10 + t, none⟩ (.bool x)) S :=
  h.setf (fun lv ov => bC_has b lv ov ht hl x) rfl rfl rfl
def st5 (b : Bs) : Bs := { b with term := b.term + 1, vote := b.id, role := 1, lead := -1, touched := true, has := List.replicate 5 false }
theorem five_false (l : List Bool) (h : l.length = 5) : ((((l.set 0 false).set 1 false).set 2 false).set 3 false).set 4 false = List.replicate 5 false := by
  match l, h with
  | [a, b, c, d, e], _ => rfl
theorem st5_any (h : Rb w A S b) (hl : b.has.length = 5) : Rb ((((((((((w.setCell ⟨A, 2, none⟩ (.int .i64 (b.term + 1))).setCell ⟨A, 3, none⟩ (.int .i64 b.id)).setCell ⟨A, 4, none⟩ (.int .i64 1)).setCell ⟨A, 5, none⟩ (.int .i64 (-1))).setCell ⟨A, 26, none⟩ (.bool true)).setCell ⟨A, 10, none⟩ (.bool false)).setCell ⟨A, 11, none⟩ (.bool false)).setCell ⟨A, 12, none⟩ (.bool false)).setCell ⟨A, 13, none⟩ (.bool false)).setCell ⟨A, 14, none⟩ (.bool false)) A S (st5 b) ∧ Fr w ((((((((((w.setCell ⟨A, 2, none⟩ (.int .i64 (b.term + 1))).setCell ⟨A, 3, none⟩ (.int .i64 b.id)).setCell ⟨A, 4, none⟩ (.int .i64 1)).setCell ⟨A, 5, none⟩ (.int .i64 (-1))).setCell ⟨A, 26, none⟩ (.bool true)).setCell ⟨A, 10, none⟩ (.bool false)).setCell ⟨A, 11, none⟩ (.bool false)).setCell ⟨A, 12, none⟩ (.bool false)).setCell ⟨A, 13, none⟩ (.bool false)).setCell ⟨A, 14, none⟩ (.bool false)) S := by
  obtain ⟨a1, f1⟩ := h.setf (i := 2) (v := .int .i64 (b.term + 1)) (b' := { b with term := b.term + 1 }) (fun _ _ => rfl) rfl rfl rfl
  obtain ⟨a2, f2⟩ := a1.setf (i := 3) (v := .int .i64 b.id) (b' := { b with term := b.term + 1, vote := b.id }) (fun _ _ => rfl) rfl rfl rfl
  obtain ⟨a3, f3⟩ := a2.setf (i := 4) (v := .int .i64 1) (b' := { b with term := b.term + 1, vote := b.id, role := 1 }) (fun _ _ => rfl) rfl rfl rfl
  obtain ⟨a4, f4⟩ := a3.setf (i := 5) (v := .int .i64 (-1)) (b' := { b with term := b.term + 1, vote := b.id, role := 1, lead := -1 }) (fun _ _ => rfl) rfl rfl rfl
  obtain ⟨a5, f5⟩ := a4.setf (i := 26) (v := .bool true) (b' := { b with term := b.term + 1, vote := b.id, role := 1, lead := -1, touched := true }) (fun _ _ => rfl) rfl rfl rfl
  obtain ⟨a6, f6⟩ := a5.has_set (t := 0) (by decide) hl false
  obtain ⟨a7, f7⟩ := a6.has_set (t := 1) (by decide) (by simpa using hl) false
  obtain ⟨a8, f8⟩ := a7.has_set (t := 2) (by decide) (by simpa using hl) false
  obtain ⟨a9, f9⟩ := a8.has_set (t := 3) (by decide) (by simpa using hl) false
  obtain ⟨a10, f10⟩ := a9.has_set (t := 4) (by decide) (by simpa using hl) false
  refine ⟨?_, f1.trans (f2.trans (f3.trans (f4.trans (f5.trans (f6.trans (f7.trans (f8.trans (f9.trans f10))))))))⟩
  have e := five_false b.has hl
  unfold st5
  rw [← e]
  exact a10
set_option maxHeartbeats 2000000 in
set_option maxRecDepth 100000 in
theorem timeout_any (h : Rb w A S b) (hI : Bs.Inv b) (hf : b.out.length < 600000) (hn : Nb b) (hlen : b.log.length < 900000) (ht : b.term ≤ 4398046511104) :
    Calls Try.prog 32 #[.pointer (some ⟨A, 0, none⟩)] w fun e w' => ∃ ov, e = .returned ov ∧ ((b.role = 2 ∧ w' = w ∧ ov = .slice none 0 0) ∨ (b.role ≠ 2 ∧ Ro w w' A S b.timeout.1 b.timeout.2 ov)) := by
  have t0 := hI.t0
  have hid := hI.idl
  have hsz := hI.sz
  have HH := Lib.hid h
  obtain ⟨lv, ov, O, h⟩ := h
  have c0 : w.cell? ⟨A, 0, none⟩ = some (.int .i64 b.id) := h.cell 0
  have c2 : w.cell? ⟨A, 2, none⟩ = some (.int .i64 b.term) := h.cell 2
  have c3 : w.cell? ⟨A, 3, none⟩ = some (.int .i64 b.vote) := h.cell 3
  have c4 : w.cell? ⟨A, 4, none⟩ = some (.int .i64 b.role) := h.cell 4
  have c5 : w.cell? ⟨A, 5, none⟩ = some (.int .i64 b.lead) := h.cell 5
  have c26 : w.cell? ⟨A, 26, none⟩ = some (.bool b.touched) := h.cell 26
  have c10 : w.cell? ⟨A, 10, none⟩ = some (.bool (b.has.getD 0 false)) := h.cell 10
  have c11 : w.cell? ⟨A, 11, none⟩ = some (.bool (b.has.getD 1 false)) := h.cell 11
  have c12 : w.cell? ⟨A, 12, none⟩ = some (.bool (b.has.getD 2 false)) := h.cell 12
  have c13 : w.cell? ⟨A, 13, none⟩ = some (.bool (b.has.getD 3 false)) := h.cell 13
  have c14 : w.cell? ⟨A, 14, none⟩ = some (.bool (b.has.getD 4 false)) := h.cell 14
  have f2 : w.frozen? ⟨A, 2, none⟩ = false := frozen_blk h.ob 2
  have f3 : w.frozen? ⟨A, 3, none⟩ = false := frozen_blk h.ob 3
  have f4 : w.frozen? ⟨A, 4, none⟩ = false := frozen_blk h.ob 4
  have f5 : w.frozen? ⟨A, 5, none⟩ = false := frozen_blk h.ob 5
  have f26 : w.frozen? ⟨A, 26, none⟩ = false := frozen_blk h.ob 26
  have f10 : w.frozen? ⟨A, 10, none⟩ = false := frozen_blk h.ob 10
  have f11 : w.frozen? ⟨A, 11, none⟩ = false := frozen_blk h.ob 11
  have f12 : w.frozen? ⟨A, 12, none⟩ = false := frozen_blk h.ob 12
  have f13 : w.frozen? ⟨A, 13, none⟩ = false := frozen_blk h.ob 13
  have f14 : w.frozen? ⟨A, 14, none⟩ = false := frozen_blk h.ob 14
  have HV := Lib.hid h
  clear h
  by_cases hr : b.role = 2
  · clear hI
    go_enter Try.func32, Try.ntmps32
    go_wp2
    go_ret
    exact ⟨_, rfl, .inl ⟨hr, rfl, rfl⟩⟩
  · have HI := Lib.hid hI
    have hrb : (b.role == 2) = false := by simpa using hr
    obtain ⟨rl, hrl⟩ : ∃ rl, b.role = rl := ⟨_, rfl⟩
    rw [hrl] at c4 hrb
    clear hI hrl
    go_enter Try.func32, Try.ntmps32
    go_wp2
    obtain ⟨W, hW⟩ : ∃ W, W = ((((((((((w.setCell ⟨A, 2, none⟩ (.int .i64 (b.term + 1))).setCell ⟨A, 3, none⟩ (.int .i64 b.id)).setCell ⟨A, 4, none⟩ (.int .i64 1)).setCell ⟨A, 5, none⟩ (.int .i64 (-1))).setCell ⟨A, 26, none⟩ (.bool true)).setCell ⟨A, 10, none⟩ (.bool false)).setCell ⟨A, 11, none⟩ (.bool false)).setCell ⟨A, 12, none⟩ (.bool false)).setCell ⟨A, 13, none⟩ (.bool false)).setCell ⟨A, 14, none⟩ (.bool false)) := ⟨_, rfl⟩
    rw [← hW]
    obtain ⟨r1, r2⟩ := st5_any HH.out HI.out.hs
    rw [← hW] at r1 r2
    obtain ⟨lv5, ov5, O5, h5⟩ := r1
    have r1 : Rb W A S (st5 b) := ⟨lv5, ov5, O5, h5⟩
    have hWb := h5.ob
    have r3 := r1.setf (i := 10 + b.id) (v := .bool true) (b' := b.stand) (fun lv ov => bC_has (st5 b) lv ov (by omega) rfl true) rfl rfl rfl
    have d0 : W.cell? ⟨A, 0, none⟩ = some (.int .i64 b.id) := cell_blk hWb 0
    have dh : W.cell? ⟨A, 10 + b.id, none⟩ = some (.bool false) := by
      rw [cell_blk hWb]
      have : b.id = 0 ∨ b.id = 1 ∨ b.id = 2 ∨ b.id = 3 ∨ b.id = 4 := by omega
      unfold bC
      rcases this with e | e | e | e | e <;> rw [e] <;> rfl
    have fh : W.frozen? ⟨A, 10 + b.id, none⟩ = false := frozen_blk hWb _
    have i0 : (0 : Int) ≤ b.id := by omega
    have i5 : (b.id : Int) < 5 := by omega
    have i6 : b.id < 5 := by omega
    have r4 : Rt w (W.setCell ⟨A, 10 + b.id, none⟩ (.bool true)).drew A S b.stand := Rt.start (r3.1.drewN 1) ((r2.trans r3.2).drewN 1)
    have R4 := Lib.hid r4
    clear hW hWb h5 r1 r2 r3 r4 c0 c2 c3 c4 c5 c26 c10 c11 c12 c13 c14 f2 f3 f4 f5 f26 f10 f11 f12 f13 f14
    go_region
    all_goals
      go_wp2
      go_loopw [3] (fun iv wr => ∃ t : Nat, t ≤ b.size ∧ iv = .int .i64 (t : Nat) ∧ Rt w wr A S (b.stand.askTo t)) (fun iv _ => b.size - (intOf iv).toNat)
      case atStart => exact ⟨0, Nat.zero_le _, rfl, R4.out⟩
      case round =>
        clear d0 dh fh
        obtain ⟨t, htl, rfl, hR⟩ := hrel
        have so := Bs.so_askTo b.stand t
        have hout := askTo_out b.stand t
        have e1 : (b.stand.askTo t).size = b.size := by unfold Bs.So at so; rw [so]; rfl
        have e2 : (b.stand.askTo t).id = b.id := by unfold Bs.So at so; rw [so]; rfl
        have e3 : (b.stand.askTo t).last = b.stand.last := by unfold Bs.So at so; rw [so]; rfl
        have e4 : ∀ i, (b.stand.askTo t).termAt i = b.stand.termAt i := by unfold Bs.So at so; rw [so]; intro i; rfl
        have e5 : (b.stand.askTo t).next = b.next := by unfold Bs.So at so; rw [so]; rfl
        have e6 : (b.stand.askTo t).log = b.log := by unfold Bs.So at so; rw [so]; rfl
        have hIs : Bs.Inv (b.stand.askTo t) := by
          refine Bs.Inv.so ?_ so
          have hI := HI.out
          exact ⟨hI.idl, hI.sz, by simp [Bs.stand], hI.nx, hI.mt, hI.b0, hI.bc, hI.cl, by show -1 ≤ (b.id : Int); omega, by show (b.id : Int) < b.size; omega, by show 0 ≤ b.term + 1; omega⟩
        have hout2 : b.stand.out = b.out := rfl
        rw [hout2] at hout
        obtain ⟨S1, h1, h2, h3⟩ := hR
        have hR1 : Rt w wr A S (b.stand.askTo t) := ⟨S1, h1, h2, h3⟩
        obtain ⟨lv6, ov6, O6, h6⟩ := h1
        have h1 : Rb wr A S1 (b.stand.askTo t) := ⟨lv6, ov6, O6, h6⟩
        have c1 : wr.cell? ⟨A, 1, none⟩ = some (.int .i64 b.size) := by rw [← e1]; exact h6.cell 1
        have c0 : wr.cell? ⟨A, 0, none⟩ = some (.int .i64 b.id) := by rw [← e2]; exact h6.cell 0
        by_cases hlt : t < b.size
        · have j0 : (0 : Int) ≤ t := by omega
          have j1 : (t : Int) < b.size := by omega
          by_cases hidt : t = b.id
          · have hd2 : (t : Int) = b.id := by omega
            have ef : b.stand.askTo (t + 1) = b.stand.askTo t := by
              show (if t = b.stand.id then b.stand.askTo t else _) = _
              exact if_pos hidt
            have HF := Lib.hid ef
            have HR := Lib.hid hR1
            clear ef h6 h1 h2 h3 so hout e1 e2 e3 e4 e5 e6 hR1 hIs
            go_wp2
            exact ⟨⟨t + 1, hlt, by go_num, by rw [HF.out]; exact HR.out⟩, by simp [intOf]; omega⟩
          · have hd2 : ¬ (t : Int) = b.id := by omega
            have ef : b.stand.askTo (t + 1) = (b.stand.askTo t).send { ms0 with kind := 1, tgt := t, index := b.stand.last, prev := b.stand.termAt b.stand.last } := by
              show (if t = b.stand.id then _ else (b.stand.askTo t).send { ms0 with kind := 1, tgt := t, index := b.stand.last, prev := b.stand.termAt b.stand.last }) = _
              exact if_neg hidt
            have hlast : ∀ n, Calls Try.prog 38 #[.pointer (some ⟨A, 0, none⟩)] (wr.drewN n) fun e w' => e = .returned (.int .i64 b.stand.last) ∧ ∃ n, w' = wr.drewN n := fun n => by
              refine (last_any (h1.drewN n)).mono ?_
              rintro e w' ⟨rfl, n', rfl⟩
              exact ⟨by rw [e3], _, World.drewN_drewN ..⟩
            have hterm : ∀ n, Calls Try.prog 56 #[.pointer (some ⟨A, 0, none⟩), .int .i64 b.stand.last] (wr.drewN n) fun e w' => e = .returned (.int .i64 (b.stand.termAt b.stand.last)) ∧ ∃ n, w' = wr.drewN n := fun n => by
              refine (term_any (h1.drewN n) _).mono ?_
              rintro e w' ⟨rfl, n', rfl⟩
              exact ⟨by rw [e4], _, World.drewN_drewN ..⟩
            have hsend : ∀ n, Calls Try.prog 55 #[.pointer (some ⟨A, 0, none⟩), msV { ms0 with kind := 1, tgt := t, index := b.stand.last, prev := b.stand.termAt b.stand.last } (.slice none 0 0)] (wr.drewN n) fun e w' => e = .returned (.tuple #[]) ∧ Rt w w' A S (b.stand.askTo (t + 1)) := fun n => by
              refine (send_any (m := { ms0 with kind := 1, tgt := t, index := b.stand.last, prev := b.stand.termAt b.stand.last }) (h1.drewN n) (Es.nil _ _) (by omega)).mono ?_
              rintro e w' ⟨rfl, k1, k2⟩
              rw [ef]
              exact ⟨rfl, Rt.comb h2 h3 (Rt.from (below_draw (Below.refl _ wr) n) (Rt.of k1 k2))⟩
            have hl0 : Calls Try.prog 38 #[.pointer (some ⟨A, 0, none⟩)] wr fun e w' => e = .returned (.int .i64 b.stand.last) ∧ ∃ n, w' = wr.drewN n := hlast 0
            obtain ⟨lst, hlst⟩ : ∃ lst, b.stand.last = lst := ⟨_, rfl⟩
            obtain ⟨tm, htm⟩ : ∃ tm, b.stand.termAt b.stand.last = tm := ⟨_, rfl⟩
            rw [htm] at hterm hsend
            rw [hlst] at hlast hterm hsend hl0
            clear ef h6 h1 h2 h3 so hout e1 e2 e3 e4 e5 e6 hR1 hIs hlst htm
            go_wp2_with fail
            refine hl0.mono ?_
            rintro x1 y1 ⟨rfl, n1, rfl⟩
            go_wp2_with fail
            refine (hlast _).mono ?_
            rintro x2 y2 ⟨rfl, n2, rfl⟩
            go_wp2_with fail
            refine (hterm _).mono ?_
            rintro x3 y3 ⟨rfl, n3, rfl⟩
            go_wp2_with fail
            refine (hsend _).mono ?_
            rintro x4 y4 ⟨rfl, k4⟩
            go_wp2
            go_roundw
            case rel => exact ⟨t + 1, hlt, by go_num, k4⟩
            case measure => simp [intOf]; omega
        · have j1 : ¬ (t : Int) < b.size := by omega
          have et : t = b.size := by omega
          subst et
          have hcnt := count_any h1 hIs (by omega) (by unfold Nb; rw [e5]; exact hn) (by rw [e6]; exact hlen)
          have hto : b.timeout = ((b.stand.askTo b.size).count).sent := by
            show (if b.role = 2 then (b, []) else ((b.stand.askTo b.size).count).sent) = _
            rw [if_neg hr]
          have HTO := Lib.hid hto
          have H2 := Lib.hid h2
          have H3 := Lib.hid h3
          clear h6 h1 h2 h3 so hout e1 e2 e3 e4 e5 e6 hR1 hIs hto
          go_wp2_with fail
          refine hcnt.mono ?_
          rintro x1 y1 ⟨rfl, k1⟩
          have hsn := sent_ro (Rt.comb H2.out H3.out k1)
          clear hcnt
          go_wp2_with fail
          refine hsn.mono ?_
          rintro x2 y2 ⟨ovv, rfl, k2⟩
          clear hsn
          go_wp2
          go_ret
          refine ⟨ovv, rfl, .inr ⟨hr, ?_⟩⟩
          rw [HTO.out]
          exact k2
end
end Go.Proofs.Ytmiagjcihmenfaa
/- The walk of the document's Propose. -/
namespace Go.Proofs.Ytmiagjcihmenfaa
open Go.RowKit

section
variable {w w' w1 : World} {A : Nat} {S T : Nat → Prop} {b : Bs}
set_option maxHeartbeats 4000000 in
set_option maxRecDepth 100000 in
theorem propose_any (h : Rb w A S b) (hI : Bs.Inv b) (hf : b.out.length < 600000) (hn : Nb b) (hlen : b.log.length < 900000) (at' born : Int) (text : ByteArray) :
    Calls Try.prog 34 #[.pointer (some ⟨A, 0, none⟩), .int .i64 at', .int .i64 born, .string text] w fun e w' => ∃ ov, e = .returned (.tuple #[.int .i64 (b.propose at' born text).1, ov]) ∧ ((b.role ≠ 2 ∧ w' = w ∧ ov = .slice none 0 0) ∨ (b.role = 2 ∧ Ro w w' A S (b.propose at' born text).2.1 (b.propose at' born text).2.2 ov)) := by
  have hsz := hI.sz
  obtain ⟨l1, b0, b1⟩ := h.len
  have hR := h
  obtain ⟨lv, ov, O, h2⟩ := h
  have c4 : w.cell? ⟨A, 4, none⟩ = some (.int .i64 b.role) := h2.cell 4
  have c2 : w.cell? ⟨A, 2, none⟩ = some (.int .i64 b.term) := h2.cell 2
  obtain ⟨e0, he0⟩ : ∃ e0 : En, e0 = ⟨b.term, at', born, text⟩ := ⟨_, rfl⟩
  by_cases hr : b.role = 2
  · have hpr : b.propose at' born text = ((b.put (b.last + 1) [e0]).last, (((b.put (b.last + 1) [e0]).feedAll).settle).sent) := by
      rw [he0]
      exact if_pos hr
    rw [hpr]
    have hll : b.last ≤ 4398047411104 ∧ 0 ≤ b.last := by unfold Bs.last; omega
    obtain ⟨L1, hL1⟩ : ∃ L1, b.last + 1 = L1 := ⟨_, rfl⟩
    have hw1 : IntKind.i64.wrap (b.last + 1) = L1 := by rw [IntKind.wrap_i64]; omega
    obtain ⟨_, iX⟩ := Bs.put_stays (b := b) (i := b.last + 1) [e0] hI (by have := hI.cl; omega) (Int.le_refl _) (.inl rfl)
    have hlast1 : ∀ V, Sa w V → Calls Try.prog 38 #[.pointer (some ⟨A, 0, none⟩)] V fun e w' => e = .returned (.int .i64 b.last) ∧ ∃ n, w' = V.drewN n := fun V hV => last_any (hR.on hV.below)
    have hal : Below w.heap.size w (w.alloc (enO ⟨b.term, at', born, text⟩)) := (Below.refl _ w).alloc (Nat.le_refl _) _
    have hlast2 : ∀ V, Sa (w.alloc (enO ⟨b.term, at', born, text⟩)) V → Calls Try.prog 38 #[.pointer (some ⟨A, 0, none⟩)] V fun e w' => e = .returned (.int .i64 b.last) ∧ ∃ n, w' = V.drewN n := fun V hV => last_any ((hR.on hal).on hV.below)
    obtain ⟨X1, hX1⟩ : ∃ X1, b.put (b.last + 1) [e0] = X1 := ⟨_, rfl⟩
    have x_out : X1.out = b.out := by rw [← hX1]; rfl
    have x_sz : X1.size = b.size := by rw [← hX1]; rfl
    have x_nb : Nb X1 := by rw [← hX1]; exact hn
    have x_inv : Bs.Inv X1 := by rw [← hX1]; exact iX
    have hput : ∀ V, Sa (w.alloc (enO ⟨b.term, at', born, text⟩)) V → Calls Try.prog 60 #[.pointer (some ⟨A, 0, none⟩), .int .i64 L1, .slice (some ⟨w.heap.size, 0, none⟩) 1 1] V fun e w' => e = .returned (.tuple #[]) ∧ Rt w w' A S X1 := by
      intro V hV
      have hb2 := hal.trans (hV.below.mono hal.size)
      have hes : Es V S [e0] (.slice (some ⟨w.heap.size, 0, none⟩) 1 1) := by
        refine ⟨some ⟨w.heap.size, 0, none⟩, 1, rfl, fun q => (by cases q), Nat.le_refl _, (by unfold maxLen; omega), fun i hi => ?_⟩
        have hi0 : i = 0 := by simp at hi; omega
        subst hi0
        have hblk : V.heap[w.heap.size]? = some (enO e0) := by rw [hV.1, he0]; exact heap_alloc_new w _
        refine ⟨w.heap.size, 0, rfl, blk_lt hblk, fun q => ?_, ?_, ?_, ?_, ?_⟩
        · have := h2.lt _ q
          omega
        all_goals (rw [cell_blk hblk]; rfl)
      refine (put_any (i := L1) (l := [e0]) (hR.on hb2) (by rw [← hL1]; unfold Bs.last; omega) (by rw [← hL1]; exact Int.le_refl _) hes (by show b.log.length + 1 ≤ _; omega)).mono ?_
      rintro e w' ⟨rfl, hT⟩
      refine ⟨rfl, ?_⟩
      rw [← hX1, hL1]
      exact Rt.from hb2 hT
    rw [hX1]
    have HIX := Lib.hid x_inv
    clear hX1 iX hR h2 hL1 x_inv hal hpr he0 hI hn
    go_enter Try.func34, Try.ntmps34
    go_wp2
    go_region_with (first | (go_at_call 38; refine (hlast1 _ (by exact ⟨rfl, rfl, rfl, rfl⟩)).mono ?_; rintro e7 w7 ⟨rfl, n2, rfl⟩) | (go_at_call 38; refine (hlast2 _ (by exact ⟨rfl, rfl, rfl, rfl⟩)).mono ?_; rintro e7 w7 ⟨rfl, n2, rfl⟩) | (go_at_call 60; refine (hput _ (by exact ⟨rfl, rfl, rfl, rfl⟩)).mono ?_; rintro e8 w8 ⟨rfl, h8⟩))
    all_goals
      obtain ⟨S1, k1, k2, k3⟩ := h8
      have hla := last_any k1
      go_wp2_with fail
      refine hla.mono ?_
      rintro e6 w6 ⟨rfl, n6, rfl⟩
      clear hla
      have hfa := feedAll_any (k1.drewN n6) (by omega) (by rw [x_out]; omega) x_nb
      have k3' := k3.drewN n6
      go_wp2_with fail
      refine hfa.mono ?_
      rintro e5 w5 ⟨rfl, h5⟩
      obtain ⟨S2, j1, j2, j3⟩ := Rt.comb (fun q hq => (show Gro S w (w8.drewN n6) q from k2 q hq)) k3' h5
      have so := Bs.so_feedAll X1
      have hsout := feedTo_out X1 X1.size
      have y_sz : X1.feedAll.size = X1.size := by unfold Bs.So at so; rw [so]
      have y_nx : X1.feedAll.next = X1.next := by unfold Bs.So at so; rw [so]
      have hIX := HIX.out.so so
      have hst := settle_any j1 (by rw [y_sz]; omega) (by have e : X1.feedAll.out.length ≤ X1.out.length + X1.size := hsout; rw [x_out] at e; omega) (by unfold Nb; rw [y_nx]; exact x_nb) hIX.bc hIX.cl
      clear so hsout y_sz y_nx hIX j1 h5 hfa k1
      go_wp2_with fail
      refine hst.mono ?_
      rintro e4 w4 ⟨rfl, h4⟩
      have hsn := sent_ro (Rt.comb j2 j3 h4)
      clear hst
      go_wp2_with fail
      refine hsn.mono ?_
      rintro e3 w3 ⟨ov3, rfl, h3⟩
      clear hsn
      go_wp2
      refine bodyPost_ret (v := .tuple #[.int .i64 X1.last, ov3]) (by simp [results, Try.results34, go_sem]) rfl ?_
      exact ⟨ov3, rfl, .inr ⟨hr, h3⟩⟩
  · have hpr : b.propose at' born text = (0, b, []) := if_neg hr
    rw [hpr]
    clear hR h2 hI hpr
    go_enter Try.func34, Try.ntmps34
    go_wp2
    refine bodyPost_ret (v := .tuple #[.int .i64 0, .slice none 0 0]) (by simp [results, Try.results34, go_sem]) rfl ?_
    exact ⟨_, rfl, .inl ⟨hr, rfl, rfl⟩⟩
end
end Go.Proofs.Ytmiagjcihmenfaa
/- The walk of the document's rebase. -/
namespace Go.Proofs.Ytmiagjcihmenfaa
open Go.RowKit

section
variable {w w' w1 : World} {A : Nat} {S T : Nat → Prop} {b : Bs}
/-- The list of entries is another one. -/
theorem Rb.setlog (h : Rb w A S b) {L : List En} {v : Value} (hL : Es w (Un S b.av) L v) (hl : L.length ≤ 900000) : Rb (w.setCell ⟨A, 9, none⟩ v) A S { b with log := L } ∧ Fr w (w.setCell ⟨A, 9, none⟩ v) S := by
  obtain ⟨lv, ov, O, h⟩ := h
  have hf : Fr w (w.setCell ⟨A, 9, none⟩ v) S := Fr.set (a := ⟨A, 9, none⟩) (Fr.refl w S) (Or.inl h.covA) _
  have hne : ∀ k, ov.ownBlock = some k → k ≠ A := by
    intro k hk e
    subst e
    rcases h.out.2 with ⟨hv, _⟩ | ⟨g, cap, cur, hv, _, hg, _⟩
    · rw [hv] at hk; cases hk
    · rw [hv] at hk
      simp only [Value.ownBlock, Option.some.injEq] at hk
      subst hk
      exact tag_ne h.ob hg (by decide) rfl
  refine ⟨⟨v, ov, O, ⟨?_, hL.staysU hf (fun _ q => .inl q), h.eo, own_like h.out (fun k hk => set_other _ (hne k hk)), fun p hp => (h.ls p hp).stays hf (fun _ q => .inl q), h.covA, h.cov, fun k hk => Nat.lt_of_lt_of_le (h.lt k hk) hf.size, h.few, hl, h.b0, h.b1, fun k hk => Nat.lt_of_lt_of_le (h.avl k hk) hf.size⟩⟩, hf⟩
  rw [set_blk h.ob]
  rfl
/-- The base is another one. -/
theorem Rb.setbase (h : Rb w A S b) {i : Int} (h0 : 0 ≤ i) (h1 : i ≤ 4398046511104) : Rb (w.setCell ⟨A, 6, none⟩ (.int .i64 i)) A S { b with base := i } ∧ Fr w (w.setCell ⟨A, 6, none⟩ (.int .i64 i)) S := by
  obtain ⟨lv, ov, O, h⟩ := h
  have hf : Fr w (w.setCell ⟨A, 6, none⟩ (.int .i64 i)) S := Fr.set (a := ⟨A, 6, none⟩) (Fr.refl w S) (Or.inl h.covA) _
  have hne : ∀ k, ov.ownBlock = some k → k ≠ A := by
    intro k hk e
    subst e
    rcases h.out.2 with ⟨hv, _⟩ | ⟨g, cap, cur, hv, _, hg, _⟩
    · rw [hv] at hk; cases hk
    · rw [hv] at hk
      simp only [Value.ownBlock, Option.some.injEq] at hk
      subst hk
      exact tag_ne h.ob hg (by decide) rfl
  refine ⟨⟨lv, ov, O, ⟨?_, h.log.staysU hf (fun _ q => .inl q), h.eo, own_like h.out (fun k hk => set_other _ (hne k hk)), fun p hp => (h.ls p hp).stays hf (fun _ q => .inl q), h.covA, h.cov, fun k hk => Nat.lt_of_lt_of_le (h.lt k hk) hf.size, h.few, h.len, h0, h1, fun k hk => Nat.lt_of_lt_of_le (h.avl k hk) hf.size⟩⟩, hf⟩
  rw [set_blk h.ob]
  rfl
set_option maxHeartbeats 1000000 in
set_option maxRecDepth 100000 in
theorem rebase_any (h : Rb w A S b) {i tm : Int} {snap : ByteArray} {L : List En} {v : Value} (hL : Es w (Un S b.av) L v) (hl : L.length ≤ 900000) (h0 : 0 ≤ i) (h1 : i ≤ 4398046511104) :
    Calls Try.prog 67 #[.pointer (some ⟨A, 0, none⟩), .int .i64 i, .int .i64 tm, .string snap, v] w fun e w' => e = .returned (.tuple #[]) ∧ Rb w' A S (b.rebase i tm snap L) ∧ Fr w w' S := by
  obtain ⟨a1, f1⟩ := h.setbase h0 h1
  obtain ⟨a2, f2⟩ := a1.setf (i := 7) (v := .int .i64 tm) (b' := { b with base := i, baseTerm := tm }) (fun _ _ => rfl) rfl rfl rfl
  obtain ⟨a3, f3⟩ := a2.setf (i := 8) (v := .string snap) (b' := { b with base := i, baseTerm := tm, snap := snap }) (fun _ _ => rfl) rfl rfl rfl
  have hL3 := hL.staysU (f1.trans (f2.trans f3)) (fun _ q => .inl q)
  obtain ⟨a4, f4⟩ := a3.setlog hL3 hl
  obtain ⟨a5, f5⟩ := a4.setf (i := 26) (v := .bool true) (b' := { b with base := i, baseTerm := tm, snap := snap, log := L, touched := true }) (fun _ _ => rfl) rfl rfl rfl
  obtain ⟨a6, f6⟩ := a5.setf (i := 27) (v := .bool true) (b' := { b with base := i, baseTerm := tm, snap := snap, log := L, touched := true, whole := true }) (fun _ _ => rfl) rfl rfl rfl
  have hfin := f1.trans (f2.trans (f3.trans (f4.trans (f5.trans f6))))
  obtain ⟨ad, cap, rfl, _, _⟩ := hL.shape
  obtain ⟨lv, ov, O, h2⟩ := h
  have c6 : w.cell? ⟨A, 6, none⟩ = some (.int .i64 b.base) := h2.cell 6
  have c7 : w.cell? ⟨A, 7, none⟩ = some (.int .i64 b.baseTerm) := h2.cell 7
  have c8 : w.cell? ⟨A, 8, none⟩ = some (.string b.snap) := h2.cell 8
  have c9 : w.cell? ⟨A, 9, none⟩ = some lv := h2.cell 9
  have c26 : w.cell? ⟨A, 26, none⟩ = some (.bool b.touched) := h2.cell 26
  have c27 : w.cell? ⟨A, 27, none⟩ = some (.bool b.whole) := h2.cell 27
  have g6 : w.frozen? ⟨A, 6, none⟩ = false := frozen_blk h2.ob 6
  have g7 : w.frozen? ⟨A, 7, none⟩ = false := frozen_blk h2.ob 7
  have g8 : w.frozen? ⟨A, 8, none⟩ = false := frozen_blk h2.ob 8
  have g9 : w.frozen? ⟨A, 9, none⟩ = false := frozen_blk h2.ob 9
  have g26 : w.frozen? ⟨A, 26, none⟩ = false := frozen_blk h2.ob 26
  have g27 : w.frozen? ⟨A, 27, none⟩ = false := frozen_blk h2.ob 27
  have HA := Lib.hid a6
  have HF := Lib.hid hfin
  clear a1 a2 a3 a4 a5 a6 f1 f2 f3 f4 f5 f6 hfin hL hL3 h2
  go_enter Try.func67, Try.ntmps67
  go_wp2
  go_end0
  exact ⟨rfl, HA.out, HF.out⟩
end
end Go.Proofs.Ytmiagjcihmenfaa
/- The document's Load: what a change leaves. -/
namespace Go.Proofs.Ytmiagjcihmenfaa
open Go.RowKit

section
variable {w w' W : World} {A : Nat} {S : Nat → Prop} {b : Bs} {d : De} {dad : Option Addr} {dcap : Nat}
theorem fin_over {L : List En} {v : Value} {b1 b2 : Bs} (h : Rb w A S b1) (hL : Es w (Un S b1.av) L v) (hl : L.length ≤ 900000) (t u : Int) (e : b2 = { b1 with log := L, term := t, vote := u }) :
    Rb (((w.setCell ⟨A, 9, none⟩ v).setCell ⟨A, 2, none⟩ (.int .i64 t)).setCell ⟨A, 3, none⟩ (.int .i64 u)) A S b2 ∧ Fr w (((w.setCell ⟨A, 9, none⟩ v).setCell ⟨A, 2, none⟩ (.int .i64 t)).setCell ⟨A, 3, none⟩ (.int .i64 u)) S := by
  obtain ⟨a1, f1⟩ := h.setlog hL hl
  obtain ⟨a2, f2⟩ := a1.setf (i := 2) (v := .int .i64 t) (b' := { b1 with log := L, term := t }) (fun _ _ => rfl) rfl rfl rfl
  obtain ⟨a3, f3⟩ := a2.setf (i := 3) (v := .int .i64 u) (b' := { b1 with log := L, term := t, vote := u }) (fun _ _ => rfl) rfl rfl rfl
  subst e
  exact ⟨a3, f1.trans (f2.trans f3)⟩
set_option maxHeartbeats 1000000 in
theorem over_w (h : Rb W A S b) (hw : d.whole = true) (hE : Es W S d.list (.slice dad d.list.length dcap)) (hz : d.list.length ≤ 900000) (h0 : 0 ≤ d.base) (h1 : d.base ≤ 2199023255552) :
    ∃ ad cap w4 lv ov, (Builtin.append_ #[32, 32] 32 #[.slice (some ⟨W.heap.size, 0, none⟩) 0 0, .slice dad d.list.length dcap]).run Try.prog ((((W.setCell ⟨A, 6, none⟩ (.int .i64 d.base)).setCell ⟨A, 7, none⟩ (.int .i64 d.baseTerm)).setCell ⟨A, 8, none⟩ (.string d.snap)).alloc (.cells #[] 49)) = .ok (.slice ad d.list.length cap) w4 ∧
      w4.heap[A]? = some (.cells (bC { b with base := d.base, baseTerm := d.baseTerm, snap := d.snap } lv ov) 81 (0, 0)) ∧ Fr W w4 S ∧
      Rb (((w4.setCell ⟨A, 9, none⟩ (.slice ad d.list.length cap)).setCell ⟨A, 2, none⟩ (.int .i64 d.term)).setCell ⟨A, 3, none⟩ (.int .i64 d.vote)) A S (b.over d) ∧ Fr W (((w4.setCell ⟨A, 9, none⟩ (.slice ad d.list.length cap)).setCell ⟨A, 2, none⟩ (.int .i64 d.term)).setCell ⟨A, 3, none⟩ (.int .i64 d.vote)) S := by
  obtain ⟨a1, f1⟩ := h.setbase h0 (by omega : d.base ≤ 4398046511104)
  obtain ⟨a2, f2⟩ := a1.setf (i := 7) (v := .int .i64 d.baseTerm) (b' := { b with base := d.base, baseTerm := d.baseTerm }) (fun _ _ => rfl) rfl rfl rfl
  obtain ⟨a3, f3⟩ := a2.setf (i := 8) (v := .string d.snap) (b' := { b with base := d.base, baseTerm := d.baseTerm, snap := d.snap }) (fun _ _ => rfl) rfl rfl rfl
  have f13 := f1.trans (f2.trans f3)
  have hE3 := hE.stays f13 (fun _ q => .inl q)
  obtain ⟨v', w4, hrun, ho, hb4⟩ := ens_copy hE3 hz
  obtain ⟨ad, cap, rfl⟩ := own_shape ho
  have hsz : (((W.setCell ⟨A, 6, none⟩ (.int .i64 d.base)).setCell ⟨A, 7, none⟩ (.int .i64 d.baseTerm)).setCell ⟨A, 8, none⟩ (.string d.snap)).heap.size = W.heap.size := by simp [World.setCell]
  have a4 := a3.on hb4
  have hlt := a3.ltU
  have hL4 : Es w4 (Un S b.av) d.list (.slice ad d.list.length cap) := Es.own ho (fun k hk q => by have := (ho.lt k hk).1; have := hlt k q; omega)
  obtain ⟨a5, f5⟩ := fin_over a4 hL4 hz d.term d.vote (b2 := b.over d) (by unfold Bs.over; rw [if_pos hw])
  have f4 : Fr W w4 S := f13.below hb4
  obtain ⟨lv, ov, O, hv⟩ := a4
  rw [hsz] at hrun
  exact ⟨ad, cap, w4, lv, ov, hrun, hv.ob, f4, a5, f4.trans f5⟩
set_option maxHeartbeats 1000000 in
theorem over_n {p : Nat} (h : Rb W A S b) (hw : d.whole = false) (hE : Es W S d.list (.slice dad d.list.length dcap)) (hz : b.log.length + d.list.length ≤ 900000) (h1 : d.fr ≤ b.last + 1) (hp : (d.fr - b.base - 1).toNat = p) :
    ∃ lad lcap ov O v1 w3 ad cap w4, Rv W A S b (.slice lad b.log.length lcap) ov O ∧ p ≤ b.log.length ∧ p ≤ lcap ∧ (b.log.length ≤ lcap) ∧
      (Builtin.append_ #[32, 32] 32 #[.slice (some ⟨W.heap.size, 0, none⟩) 0 0, .slice lad p lcap]).run Try.prog (W.drew.alloc (.cells #[] 49)) = .ok v1 w3 ∧
      (Builtin.append_ #[32, 32] 32 #[v1, .slice dad d.list.length dcap]).run Try.prog w3 = .ok (.slice ad (p + d.list.length) cap) w4 ∧
      Below W.heap.size W w3 ∧ Below W.heap.size W w4 ∧
      Rb (((w4.setCell ⟨A, 9, none⟩ (.slice ad (p + d.list.length) cap)).setCell ⟨A, 2, none⟩ (.int .i64 d.term)).setCell ⟨A, 3, none⟩ (.int .i64 d.vote)) A S (b.over d) ∧ Fr W (((w4.setCell ⟨A, 9, none⟩ (.slice ad (p + d.list.length) cap)).setCell ⟨A, 2, none⟩ (.int .i64 d.term)).setCell ⟨A, 3, none⟩ (.int .i64 d.vote)) S := by
  obtain ⟨l1, b0, b1⟩ := h.len
  have hlt := h.ltU
  have h' := h
  obtain ⟨lv, ov, O, hv⟩ := h'
  have hpl : p ≤ b.log.length := by unfold Bs.last at h1; omega
  obtain ⟨lad, lcap, rfl, hcap, _⟩ := hv.log.shape
  have hT := hv.log.take hpl
  have elen : (b.log.take p).length = p := by simp; omega
  obtain ⟨v1, w3, hrun1, ho1, hb1⟩ := ens_copy (w := W.drew) (hT.on ⟨rfl, rfl, rfl, Nat.le_refl _, fun _ _ => rfl⟩) (by omega)
  have hb1' : Below W.heap.size W w3 := ⟨hb1.os, hb1.tape, hb1.output, hb1.size, hb1.block⟩
  rw [elen] at hrun1 ho1
  have ho1' : w3.ownsRow W.heap.size 49 4 v1 p (enC (b.log.take p)) := ho1
  obtain ⟨v2, w4, hrun2, ho2, hg2, hat2⟩ := ens_run (w := w3) ho1' hb1'.size (hE.on hb1').src (enC_one _) (by omega)
  have hb2 : Below W.heap.size W w4 := hb1'.grown hg2 hb1'.size (fun k hk => (ho1'.lt k hk).1)
  obtain ⟨ad, cap, rfl⟩ := own_shape ho2
  have elog : (b.log.take p ++ d.list).length = p + d.list.length := by rw [List.length_append, elen]
  have ho4 : w4.ownsRow W.heap.size 49 4 (.slice ad (p + d.list.length) cap) (b.log.take p ++ d.list).length (enC (b.log.take p ++ d.list)) := by
    rw [elog, enC_append]
    exact ho2
  have hL4 : Es w4 (Un S b.av) (b.log.take p ++ d.list) (.slice ad (p + d.list.length) cap) := Es.own ho4 (fun k hk q => by have := (ho4.lt k hk).1; have := hlt k q; omega)
  obtain ⟨a5, f5⟩ := fin_over (h.on hb2) hL4 (by rw [elog]; omega) d.term d.vote (b2 := b.over d) (by unfold Bs.over; rw [if_neg (by rw [hw]; decide), hp])
  exact ⟨lad, lcap, ov, O, v1, w3, ad, cap, w4, hv, hpl, by omega, hcap, hrun1, hrun2, hb1', hb2, a5, (Fr.ofBelow S hb2).trans f5⟩
end
end Go.Proofs.Ytmiagjcihmenfaa
