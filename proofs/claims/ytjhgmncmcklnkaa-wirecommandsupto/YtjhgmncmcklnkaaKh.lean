/- The walks of number and numbers. -/
import Derived.Test.YtjhgmncmcklnkaaKg
namespace Go.Proofs.Ytjhgmncmcklnkaa
open Go.RowKit

theorem liesS_kinds {w : World} {S : Nat → Prop} {B : Nat} : ∀ {t : List Ty} {x : List At} {o : Nat}, hasS t x → liesS w S B o x → ∀ i (h : i < t.length), ∃ v, w.cell? ⟨B, o + i, none⟩ = some v ∧ t[i].kind v
  | [], _, _, _, _, i, h => by simp at h
  | t :: r, [], _, hs, _, _, _ => by simp [hasS] at hs
  | t :: r, a :: q, o, hs, hl, i, h => by
    unfold hasS at hs
    simp only [liesS] at hl
    cases i with
    | zero =>
      obtain ⟨⟨v, h1, h2⟩, _⟩ := hl
      exact ⟨v, h1, At.kind hs.1 h2⟩
    | succ i =>
      have := liesS_kinds hs.2 hl.2 i (by simpa using h)
      rw [show o + 1 + i = o + (i + 1) by omega] at this
      exact this
theorem hasS_one {t : Ty} {x : List At} (h : hasS [t] x) : ∃ a, x = [a] ∧ t.has a := by
  match x, h with
  | [a], h =>
    unfold hasS at h
    exact ⟨a, rfl, h.1⟩
  | [], h => simp [hasS] at h
  | _ :: _ :: _, h => simp [hasS] at h
theorem has_num {a : At} (h : Ty.num.has a) : ∃ n, a = .num n ∧ I64 n := by
  cases a <;> simp only [Ty.has] at h
  exact ⟨_, rfl, h⟩
theorem has_yes {a : At} (h : Ty.yes.has a) : ∃ b, a = .yes b := by
  cases a <;> simp only [Ty.has] at h
  exact ⟨_, rfl⟩
theorem has_text {a : At} (h : Ty.text.has a) : ∃ s, a = .text s ∧ s.data.toList.length ≤ 9223372036854775807 := by
  cases a <;> simp only [Ty.has] at h
  exact ⟨_, rfl, h⟩
theorem has_list {t : List Ty} {a : At} (h : (Ty.list t).has a) : ∃ l, a = .list l ∧ l.length ≤ 9223372036854775807 ∧ hasL t l := by
  cases a <;> simp only [Ty.has] at h
  exact ⟨_, rfl, h.1, h.2⟩
section
variable {w w' w1 w2 : World} {A : Nat} {S S1 : Nat → Prop} {s s1 : TS} {B o : Nat} {t u : List Ty} {x y : List At}
theorem Post.wrote (h : Pre w A S s B o t x) (hr : s.reads = false) (k : Tt w w' A S { s with wr := s.wr ++ encS x }) : Post w w' A S s B o t x := by
  obtain ⟨S', p1, p2, p3⟩ := k
  obtain ⟨cs, ty, h1, h2⟩ := h.blk
  have hb := p3.block B (blk_lt h1) h.nB
  refine ⟨S', _, p1, p2, p3.mono (fun _ q => .inl q), ⟨cs, cs, ty, h1, hb.trans h1, rfl, h2, fun _ _ => rfl, fun _ => rfl, fun i hi => ?_⟩, .inl ⟨hr, rfl⟩⟩
  have := liesS_kinds h.has h.lies i hi
  rwa [cell_blk h1] at this
/-- One field is read. -/
theorem Post.stored {t : Ty} {v : Value} (h : Pre w A S s B o [t] x) (hr : s.reads = true) (hT : Tp w1 A S s1) (hF : Fr w w1 S) (hv : t.kind v)
    (hout : (∃ y r, t.has y ∧ s.rest = y.enc ++ r ∧ s1 = { s with rest := r } ∧ y.lies (w1.setCell ⟨B, o, none⟩ v) (fun k => k < w.heap.size ∨ S k) v) ∨ (¬ Rd [t] s.rest ∧ s1 = { s with rest := [], bad := true })) :
    Post w (w1.setCell ⟨B, o, none⟩ v) A S s B o [t] x := by
  obtain ⟨cs, ty, h1, h2⟩ := h.blk
  simp only [List.length_cons, List.length_nil] at h2
  have hB : B < w.heap.size := blk_lt h1
  have hb1 : w1.heap[B]? = some (.cells cs ty (0, 0)) := (hF.block B hB h.nB).trans h1
  have hb2 := set_blk (i := o) hb1 v
  have hne : ∀ k, k ≠ B → (w1.setCell ⟨B, o, none⟩ v).heap[k]? = w1.heap[k]? := fun k hk => set_other (a := ⟨B, o, none⟩) _ hk
  have hz : (w1.setCell ⟨B, o, none⟩ v).heap.size = w1.heap.size := by simp [World.setCell]
  have hcell : (w1.setCell ⟨B, o, none⟩ v).cell? ⟨B, o, none⟩ = some v := by
    rw [cell_blk hb2]
    simp [Array.getElem?_setIfInBounds]
    omega
  refine ⟨S, s1, hT.like (fun k hk => hne k (fun e => h.nB (e ▸ hk))) (by rw [hz]; exact Nat.le_refl _), fun k hk => .inl hk, (hF.mono (fun _ q => .inl q)).set (a := ⟨B, o, none⟩) (.inl (.inr rfl)) v, ⟨cs, _, ty, h1, hb2, by simp, by simpa using h2, fun i hi => ?_, fun q => (by rw [hr] at q; cases q), fun i hi => ?_⟩, ?_⟩
  · simp only [List.length_cons, List.length_nil] at hi
    rw [Array.getElem?_setIfInBounds_ne (by omega)]
  · have : i = 0 := by simpa using hi
    subst this
    refine ⟨v, ?_, hv⟩
    rw [cell_blk hb2] at hcell
    simpa using hcell
  · rcases hout with ⟨y, r, q1, q2, q3, q4⟩ | q
    · refine .inr (.inl ⟨hr, [y], r, by unfold hasS; exact ⟨q1, by simp [hasS]⟩, by simpa [encS] using q2, q3, ?_⟩)
      simp only [liesS, and_true]
      exact ⟨v, hcell, q4⟩
    · exact .inr (.inr ⟨hr, q⟩)
theorem rd_num {l r : List UInt8} {z : Nat} (h : rdN 10 l = some (z, r)) : I64 (zag z) ∧ l = num (zag z) ++ r ∧ U64 z := by
  obtain ⟨h1, h2⟩ := (rd_iff l r z).1 h
  refine ⟨zag_in h1, ?_, h1⟩
  unfold num
  rw [zig_zag]
  exact h2
theorem rd_no {l : List UInt8} (h : rdN 10 l = none) : ∀ n r, I64 n → l ≠ num n ++ r := by
  intro n r hn e
  have := (rd_iff l r (zig n)).2 ⟨zig_lt hn, e⟩
  rw [h] at this
  cases this
theorem Got.tape (h : Got w w' A S s s1) : Tp w' A S s1 ∧ Fr w w' S := ⟨h.1, h.2.1⟩
set_option maxHeartbeats 2000000 in
set_option maxRecDepth 100000 in
theorem number_any (h : Pre w A S s B o [.num] x) : Calls Try.prog 78 #[.pointer (some ⟨A, 0, none⟩), .pointer (some ⟨B, o, none⟩)] w fun e w' => e = .returned (.tuple #[]) ∧ Post w w' A S s B o [.num] x := by
  obtain ⟨a, rfl, ha⟩ := hasS_one h.has
  obtain ⟨n, rfl, hn⟩ := has_num ha
  have hl := h.lies
  simp only [liesS, At.lies, and_true] at hl
  obtain ⟨v, hc, rfl⟩ := hl
  have c0 : w.cell? ⟨A, 0, none⟩ = some (.bool s.reads) := by
    obtain ⟨rv, hT⟩ := h.tp
    exact cell_blk hT.ob 0
  have HH := Lib.hid h
  cases hr : s.reads with
  | false =>
    rw [hr] at c0
    have hw := h.lenW hr
    have HN := Lib.hid hn
    have HR := Lib.hid hr
    clear h ha hn hr
    simp only [encS, At.enc, List.append_nil] at hw
    go_enter Try.func78, Try.ntmps78
    go_wp2_with (first | (go_at_call 96; refine (fold_any _ _ HN.out).mono ?_; rintro e w1 ⟨rfl, rfl⟩) | (go_at_call 95; refine (writeGroups_any HH.out.tp (zig_lt HN.out) (by omega)).mono ?_; rintro e w2 ⟨rfl, q⟩; refine Hid.out ?_))
    refine Lib.hid ?_
    go_wp2
    go_end0
    refine ⟨rfl, Post.wrote HH.out HR.out ?_⟩
    simpa [encS, At.enc, num] using q
  | true =>
    rw [hr] at c0
    have hRd := readGroups_any h.tp h.lenR
    obtain ⟨cs, ty, hb, hs⟩ := h.blk
    have HR := Lib.hid hr
    have HB := Lib.hid hb
    have HSZ := Lib.hid hs
    clear h ha hn hr hb hs
    go_enter Try.func78, Try.ntmps78
    go_wp2_with (go_at_call 94; refine hRd.mono ?_; rintro e w1 q; rcases q with ⟨z, r, q1, rfl, q2⟩ | ⟨q1, rfl, q2⟩ <;> refine Hid.out ?_)
    · refine Lib.hid ?_
      obtain ⟨g1, g2, g3⟩ := rd_num q1
      have hb1 : w1.heap[B]? = some (.cells cs ty (0, 0)) := (q2.2.1.block B (blk_lt HB.out) HH.out.nB).trans HB.out
      have d0 : ∃ u, w1.cell? ⟨B, o, none⟩ = some u := by
        rw [cell_blk hb1]
        exact ⟨_, Array.getElem?_eq_getElem (by have := HSZ.out; simp at this; omega)⟩
      obtain ⟨u, d0⟩ := d0
      have f0 : w1.frozen? ⟨B, o, none⟩ = false := frozen_blk hb1 o
      have HQ := Lib.hid q2
      have H1 := Lib.hid g1
      have H2 := Lib.hid g2
      have H3 := Lib.hid g3
      clear q1 q2 g1 g2 g3 hb1 hRd
      go_wp2_with (go_at_call 93; refine (unfold_any _ _ H3.out).mono ?_; rintro e w2 ⟨rfl, rfl⟩)
      refine bodyPost_ret (results_none rfl _ _ _) rfl ?_
      refine ⟨rfl, Post.stored HH.out HR.out HQ.out.tape.1 HQ.out.tape.2 ⟨_, rfl⟩ (.inl ⟨.num (zag z), r, by simpa only [Ty.has] using H1.out, by simpa only [At.enc] using H2.out, rfl, by simp only [At.lies]⟩)⟩
    · refine Lib.hid ?_
      have g2 := rd_no q1
      have hb1 : w1.heap[B]? = some (.cells cs ty (0, 0)) := (q2.2.1.block B (blk_lt HB.out) HH.out.nB).trans HB.out
      have d0 : ∃ u, w1.cell? ⟨B, o, none⟩ = some u := by
        rw [cell_blk hb1]
        exact ⟨_, Array.getElem?_eq_getElem (by have := HSZ.out; simp at this; omega)⟩
      obtain ⟨u, d0⟩ := d0
      have f0 : w1.frozen? ⟨B, o, none⟩ = false := frozen_blk hb1 o
      have HQ := Lib.hid q2
      have H2 := Lib.hid g2
      clear q1 q2 g2 hb1 hRd
      go_wp2_with (go_at_call 93; refine (unfold_any 0 _ (by unfold U64; omega)).mono ?_; rintro e w2 ⟨rfl, rfl⟩)
      refine bodyPost_ret (results_none rfl _ _ _) rfl ?_
      refine ⟨rfl, Post.stored HH.out HR.out HQ.out.tape.1 HQ.out.tape.2 ⟨_, rfl⟩ (.inr ⟨?_, rfl⟩)⟩
      rintro ⟨y, r, hy, e⟩
      obtain ⟨b, rfl, hb⟩ := hasS_one hy
      obtain ⟨m, rfl, hm⟩ := has_num hb
      exact H2.out m r hm (by simpa [encS, At.enc] using e)
end
end Go.Proofs.Ytjhgmncmcklnkaa
