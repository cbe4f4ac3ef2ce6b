/- The walk of count. -/
import Derived.Test.YtjhgmncmcklnkaaKi
namespace Go.Proofs.Ytjhgmncmcklnkaa
open Go.RowKit

/-- What count leaves. -/
def CAns (w w' : World) (A : Nat) (S : Nat → Prop) (s : TS) (B : Nat) (n : Int) : Prop := ∃ S' s' m, Tp w' A S' s' ∧ (∀ k, S' k → Gro S w w' k) ∧ Fr w w' (fun k => S k ∨ k = B) ∧ w'.cell? ⟨B, 0, none⟩ = some (.int .i64 m) ∧
  ((s.reads = false ∧ m = n ∧ s' = { s with wr := s.wr ++ num n }) ∨
   (s.reads = true ∧ ∃ (c : Nat) (r : List UInt8), m = (c : Int) ∧ c ≤ r.length ∧ s.rest = num (c : Int) ++ r ∧ s' = { s with rest := r }) ∨
   (s.reads = true ∧ m = 0 ∧ (∀ (c : Nat) (r : List UInt8), c ≤ r.length → I64 (c : Int) → s.rest ≠ num (c : Int) ++ r) ∧ s' = { s with rest := [], bad := true }))
section
variable {w w' w1 w2 : World} {A : Nat} {S S1 : Nat → Prop} {s s1 : TS} {B o : Nat} {t u : List Ty} {x y : List At}
theorem ptrs_one (w : World) (B : Nat) (ty : TypeId) : Ptrs (w.alloc (.cells #[.pointer (some ⟨B, 0, none⟩)] ty)) w.heap.size B 0 1 := by
  refine ⟨_, _, heap_alloc_new w _, fun i hi => ?_⟩
  have : i = 0 := by omega
  subst this
  rfl
theorem CAns.from {n : Int} (hb : Below w.heap.size w w1) (h : CAns w1 w2 A S s B n) : CAns w w2 A S s B n := by
  obtain ⟨S', s', m, h1, h2, h3, h4⟩ := h
  have hz := hb.size
  refine ⟨S', s', m, h1, fun k hk => ?_, (Fr.ofBelow (fun k => S k ∨ k = B) hb).trans h3, h4⟩
  rcases h2 k hk with q | q
  · exact .inl q
  · exact .inr ⟨by omega, q.2⟩
theorem CAns.drew {n : Int} (h : CAns w w1 A S s B n) (k : Nat) : CAns w (w1.drewN k) A S s B n := by
  obtain ⟨S', s', m, ⟨rv, h1⟩, h2, h3, h4, h5⟩ := h
  exact ⟨S', s', m, ⟨rv, ⟨h1.ob, h1.row, h1.cov, h1.covA, h1.lt⟩⟩, h2, h3.drewN k, h4, h5⟩
theorem Tp.drew (h : Tp w A S s) (k : Nat) : Tp (w.drewN k) A S s := by
  obtain ⟨rv, h1⟩ := h
  exact ⟨rv, ⟨h1.ob, h1.row, h1.cov, h1.covA, h1.lt⟩⟩
theorem Fr.undrew {k : Nat} (h : Fr (w.drewN k) w1 S) : Fr w w1 S := ⟨h.os, h.tape, h.output, h.size, h.block⟩
set_option maxHeartbeats 2000000 in
set_option maxRecDepth 100000 in
theorem count_any {n : Int} (h : Pre w A S s B 0 [.num] [.num n]) : Calls Try.prog 80 #[.pointer (some ⟨A, 0, none⟩), .pointer (some ⟨B, 0, none⟩)] w fun e w' => e = .returned (.tuple #[]) ∧ CAns w w' A S s B n := by
  have hB := h.lt
  have hSl := h.tp.lt
  have hb : Below w.heap.size w (w.alloc (.cells #[.pointer (some ⟨B, 0, none⟩)] 135)) := Below.alloc (Below.refl _ _) (Nat.le_refl _) _
  have hnum := numbers_any (F := w.heap.size) (m := 1) (by omega) (by omega) (h.on hb) (ptrs_one w B 135) (fun q => by have := hSl _ q; omega) (by omega)
  have HFR : Hid (∀ w', Post (w.alloc (.cells #[.pointer (some ⟨B, 0, none⟩)] 135)) w' A S s B 0 [.num] [.num n] → Post w w' A S s B 0 [.num] [.num n]) := fun w' q => Post.from hb hB q
  have HH := Lib.hid h
  clear h hb hSl
  go_enter Try.func80, Try.ntmps80
  go_wp2_with (go_at_call 52; refine hnum.mono ?_; rintro e w1 ⟨rfl, Q⟩; refine Hid.out ?_)
  refine Lib.hid ?_
  obtain ⟨S1, s1, p1, p2, p3, ⟨c0, c1, ty', b1, b2, b3, b4, b5, b6, b7⟩, p5⟩ := HFR.out w1 Q
  obtain ⟨v, hv, m, rfl⟩ := b7 0 (by simp)
  have cm : w1.cell? ⟨B, 0, none⟩ = some (.int .i64 m) := by rw [cell_blk b2]; simpa using hv
  have fm : w1.frozen? ⟨B, 0, none⟩ = false := frozen_blk b2 0
  have HT := Lib.hid p1
  obtain ⟨rv, hT⟩ := p1
  have t0 : w1.cell? ⟨A, 0, none⟩ = some (.bool s1.reads) := cell_blk hT.ob 0
  have t2 : w1.cell? ⟨A, 2, none⟩ = some (.string (txt s1.rest)) := cell_blk hT.ob 2
  have hr1 : s1.reads = s.reads := by
    rcases p5 with ⟨_, q⟩ | ⟨_, _, _, _, _, q, _⟩ | ⟨_, _, q⟩ <;> rw [q]
  rw [hr1] at t0
  have nBA : B ≠ A := fun e => HH.out.nB (e ▸ HH.out.tp.covA)
  have nB1 : ¬ S1 B := fun q => by
    rcases p2 B q with q | q
    · exact HH.out.nB q
    · omega
  have HNB := Lib.hid nB1
  -- where the count is set to none
  have none : ∀ w2, Tp w2 A S1 { s1 with rest := [], bad := true } → Fr w1 w2 S1 → (∀ (c : Nat) (r : List UInt8), c ≤ r.length → I64 (c : Int) → s.rest ≠ num (c : Int) ++ r) → s.reads = true → ({ s1 with rest := [], bad := true } : TS) = { s with rest := [], bad := true } → w2.frozen? ⟨B, 0, none⟩ = false ∧ (∃ u, w2.cell? ⟨B, 0, none⟩ = some u) ∧ CAns w (w2.setCell ⟨B, 0, none⟩ (.int .i64 0)) A S s B n := by
    intro w2 hT2 hF2 hno hr es
    have hb2 : w2.heap[B]? = some (.cells c1 ty' (0, 0)) := (hF2.block B (blk_lt b2) nB1).trans b2
    have hne : ∀ k, k ≠ B → (w2.setCell ⟨B, 0, none⟩ (.int .i64 0)).heap[k]? = w2.heap[k]? := fun k hk => set_other (a := ⟨B, 0, none⟩) _ hk
    have hz : (w2.setCell ⟨B, 0, none⟩ (.int .i64 0)).heap.size = w2.heap.size := by simp [World.setCell]
    have hz2 := hF2.size
    have hlen : 0 < c1.size := by simp at b4; omega
    refine ⟨frozen_blk hb2 0, ⟨_, by rw [cell_blk hb2]; exact Array.getElem?_eq_getElem hlen⟩, S1, _, 0, hT2.like (fun k hk => hne k (fun e => nB1 (e ▸ hk))) (by rw [hz]; exact Nat.le_refl _), fun k hk => ?_, ?_, ?_, .inr (.inr ⟨hr, rfl, hno, es⟩)⟩
    · rcases p2 k hk with q | q
      · exact .inl q
      · exact .inr ⟨q.1, by rw [hz]; omega⟩
    · refine Fr.set (a := ⟨B, 0, none⟩) (p3.step hF2 (fun k hk => ?_)) (.inl (.inr rfl)) _
      rcases p2 k hk with q | q
      · exact .inl (.inl q)
      · exact .inr q.1
    · rw [cell_blk (set_blk (i := 0) hb2 _)]
      simp [hlen]
  have HN := Lib.hid none
  have keep : ((s.reads = false ∧ m = n ∧ s1 = { s with wr := s.wr ++ num n }) ∨
   (s.reads = true ∧ ∃ (c : Nat) (r : List UInt8), m = (c : Int) ∧ c ≤ r.length ∧ s.rest = num (c : Int) ++ r ∧ s1 = { s with rest := r }) ∨
   (s.reads = true ∧ m = 0 ∧ (∀ (c : Nat) (r : List UInt8), c ≤ r.length → I64 (c : Int) → s.rest ≠ num (c : Int) ++ r) ∧ s1 = { s with rest := [], bad := true })) → CAns w w1 A S s B n :=
    fun q => ⟨S1, s1, m, HT.out, p2, p3, cm, q⟩
  have HK := Lib.hid keep
  have H5 := Lib.hid p5
  have H6 : Hid (s.reads = false → m = n) := fun q => by
    have e := b6 q
    have hl := HH.out.lies
    simp only [liesS, At.lies, and_true] at hl
    obtain ⟨v, hc, rfl⟩ := hl
    rw [cell_blk b1, ← e] at hc
    simp only [Nat.add_zero] at hv
    rw [hv] at hc
    simpa using hc
  have HP4 := Lib.hid b4
  clear none keep p5 p2 p3 b1 b2 b3 b4 b5 b6 b7 hv Q hT hr1 nB1
  have hx1 : s1.rest.length ≤ 1000000000 := by
    have := HH.out.lenR
    rcases H5.out with ⟨_, q⟩ | ⟨_, y, r, _, q2, q, _⟩ | ⟨_, _, q⟩
    · rw [q]; exact this
    · rw [q]
      rw [q2, List.length_append] at this
      show r.length ≤ _
      omega
    · rw [q]; simp
  cases hr : s.reads with
  | false =>
    rw [hr] at t0
    have HR := Lib.hid hr
    clear hr
    go_wp2
    go_quiet (fail)
    go_wp2
    go_end0
    refine ⟨rfl, CAns.drew (HK.out (.inl ⟨HR.out, H6.out HR.out, ?_⟩)) _⟩
    rcases H5.out with ⟨_, q⟩ | ⟨q, _⟩ | ⟨q, _⟩
    · simpa [encS, At.enc] using q
    · rw [HR.out] at q; cases q
    · rw [HR.out] at q; cases q
  | true =>
    rw [hr] at t0
    have HR := Lib.hid hr
    clear hr
    obtain ⟨st, hst⟩ : ∃ st, txt s1.rest = st := ⟨_, rfl⟩
    obtain ⟨L, hL⟩ : ∃ L, s1.rest.length = L := ⟨_, rfl⟩
    have hsz : st.size = L := by rw [← hst, txt_size, hL]
    rw [hst] at t2
    have HL := Lib.hid hL
    rw [hL] at hx1
    clear hst hL
    -- what was read, if it is no count
    have hno : (m < 0 ∨ (L : Int) < m) → (∀ (c : Nat) (r : List UInt8), c ≤ r.length → I64 (c : Int) → s.rest ≠ num (c : Int) ++ r) ∧ ({ s1 with rest := [], bad := true } : TS) = { s with rest := [], bad := true } := by
      intro hm
      rcases H5.out with ⟨q, _⟩ | ⟨_, y, r, q1, q2, q3, q4⟩ | ⟨_, q1, q2⟩
      · rw [HR.out] at q; cases q
      · obtain ⟨a, rfl, ha⟩ := hasS_one q1
        obtain ⟨m', rfl, hm'⟩ := has_num ha
        simp only [liesS, At.lies, and_true] at q4
        obtain ⟨v, g1, rfl⟩ := q4
        rw [cm] at g1
        simp only [Option.some.injEq, Value.int.injEq, true_and] at g1
        subst g1
        refine ⟨fun c r' hc hi e => ?_, by rw [q3]⟩
        simp only [encS, At.enc, List.append_nil] at q2
        rw [q2] at e
        obtain ⟨e1, e2⟩ := num_pre hm' hi e
        have e3 : r.length = L := by rw [← HL.out, q3]
        rw [e2] at e3
        omega
      · refine ⟨fun c r hc hi e => q1 ⟨[.num c], r, ?_, ?_⟩, by rw [q2]⟩
        · unfold hasS; exact ⟨by simpa only [Ty.has] using hi, by simp [hasS]⟩
        · simpa [encS, At.enc] using e
    have HNO := Lib.hid hno
    clear hno
    by_cases h1 : m < 0
    · have hfail : ∀ k, Calls Try.prog 79 #[.pointer (some ⟨A, 0, none⟩)] (w1.drewN k) fun e w2 => e = .returned (.tuple #[]) ∧ Tp w2 A S1 { s1 with rest := [], bad := true } ∧ Fr w1 w2 S1 := fun k => (fail_any (HT.out.drew k)).mono (fun e w2 q => ⟨q.1, q.2.1, q.2.2.1.undrew⟩)
      go_wp2
      go_quiet (fail)
      go_wp2_with (go_at_call 79; refine (hfail _).mono ?_; rintro e w2 ⟨rfl, q1, q2⟩; refine Hid.out ?_)
      refine Lib.hid ?_
      obtain ⟨e1, e2⟩ := HNO.out (.inl h1)
      obtain ⟨d1, ⟨u, d2⟩, d3⟩ := HN.out w2 q1 q2 e1 HR.out e2
      have HD := Lib.hid d3
      clear d3 q1 q2 e1 e2
      go_wp2
      go_end0
      exact ⟨rfl, HD.out⟩
    · by_cases h2 : (L : Int) < m
      · have hfail : ∀ k, Calls Try.prog 79 #[.pointer (some ⟨A, 0, none⟩)] (w1.drewN k) fun e w2 => e = .returned (.tuple #[]) ∧ Tp w2 A S1 { s1 with rest := [], bad := true } ∧ Fr w1 w2 S1 := fun k => (fail_any (HT.out.drew k)).mono (fun e w2 q => ⟨q.1, q.2.1, q.2.2.1.undrew⟩)
        go_wp2
        go_quiet (fail)
        go_wp2_with (go_at_call 79; refine (hfail _).mono ?_; rintro e w2 ⟨rfl, q1, q2⟩; refine Hid.out ?_)
        refine Lib.hid ?_
        obtain ⟨e1, e2⟩ := HNO.out (.inr h2)
        obtain ⟨d1, ⟨u, d2⟩, d3⟩ := HN.out w2 q1 q2 e1 HR.out e2
        have HD := Lib.hid d3
        clear d3 q1 q2 e1 e2
        go_wp2
        go_end0
        exact ⟨rfl, HD.out⟩
      · go_wp2
        go_quiet (fail)
        go_wp2
        go_end0
        refine ⟨rfl, CAns.drew (HK.out (.inr ?_)) _⟩
        rcases H5.out with ⟨q, _⟩ | ⟨_, y, r, q1, q2, q3, q4⟩ | ⟨_, q1, q2⟩
        · rw [HR.out] at q; cases q
        · obtain ⟨a, rfl, ha⟩ := hasS_one q1
          obtain ⟨m', rfl, hm'⟩ := has_num ha
          simp only [liesS, At.lies, and_true] at q4
          obtain ⟨v, g1, rfl⟩ := q4
          rw [cm] at g1
          simp only [Option.some.injEq, Value.int.injEq, true_and] at g1
          subst g1
          have e3 : r.length = L := by rw [← HL.out, q3]
          refine .inl ⟨HR.out, m.toNat, r, by omega, by omega, ?_, q3⟩
          rw [show ((m.toNat : Nat) : Int) = m by omega]
          simpa [encS, At.enc] using q2
        · have e3 : L = 0 := by rw [← HL.out, q2]; rfl
          refine .inr ⟨HR.out, by omega, fun c r hc hi e => q1 ⟨[.num c], r, ?_, ?_⟩, q2⟩
          · unfold hasS; exact ⟨by simpa only [Ty.has] using hi, by simp [hasS]⟩
          · simpa [encS, At.enc] using e
end
end Go.Proofs.Ytjhgmncmcklnkaa
