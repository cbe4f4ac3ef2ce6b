/- The walk of the agenda's Set. -/
import Derived.Test.YtmehdhjelggkpaaMd
namespace Go.Proofs.Ytmehdhjelggkpaa
open Go.RowKit Go.Maps

/-- The same things at the same places, due at other times. -/
theorem Mp.alike {w : World} {mv : Value} {N : Nat} {L L' : List Th} (h : Mp w mv N L) (h1 : ∀ y ∈ L, ∃ z ∈ L', z.what = y.what ∧ z.blk = y.blk) (h2 : ∀ z ∈ L', ∃ y ∈ L, y.what = z.what) : Mp w mv N L' := by
  rcases h with ⟨rfl, rfl⟩ | ⟨b, D, rfl, ho, hk⟩
  · refine .inl ⟨rfl, ?_⟩
    cases L' with
    | nil => rfl
    | cons z r => obtain ⟨y, hy, _⟩ := h2 z (by simp); cases hy
  · refine .inr ⟨b, D, rfl, ho, fun k hi => ?_⟩
    rcases hk k hi with ⟨y, hy, e, hh, ha⟩ | ⟨hy, r⟩
    · obtain ⟨z, hz, e1, e2⟩ := h1 y hy
      exact .inl ⟨z, hz, e1.trans e, hh, by rw [ha, e2]⟩
    · refine .inr ⟨fun z hz e => ?_, r⟩
      obtain ⟨y, hy', e'⟩ := h2 z hz
      exact hy y hy' (e'.trans e)

section
variable {w : World} {A c n : Nat} {S : Nat → Prop} {R : List Ti} {v mv : Value} {f : Nat → Th}
/-- One Set more is counted. -/
theorem Qs.count {C D : Int} (h : Qs w A v mv C f n) : Qs (w.setCell ⟨A, 2, none⟩ (.int .i64 D)) A v mv D f n :=
  ⟨by rw [set_blk h.ag]; rfl, own_like h.own (fun k hk => set_other _ (Ne.symm (h.agRow k hk))), fun i hi => by rw [set_other _ (Ne.symm (h.agNe hi))]; exact h.th i hi, h.small⟩
/-- A thing is set anew, where it stands. -/
theorem Qs.turn {C d s : Int} {i : Nat} (h : Qs w A v mv C f n) (hi : i < n) : Qs ((w.setCell ⟨(f i).blk, 1, none⟩ (.int .i64 d)).setCell ⟨(f i).blk, 2, none⟩ (.int .i64 s)) A v mv C (put f i ⟨(f i).what, d, s, (f i).blk⟩) n := by
  have hb : ∀ k, (put f i ⟨(f i).what, d, s, (f i).blk⟩ k).blk = (f k).blk := by
    intro k
    unfold put
    split
    · rename_i e; rw [e]
    · rfl
  refine ⟨?_, ?_, ?_, h.small⟩
  · rw [set_other _ (h.agNe hi), set_other _ (h.agNe hi)]; exact h.ag
  · rw [ptrs_congr (g := f) (fun k _ => hb k)]
    refine own_like h.own (fun k hk => ?_)
    obtain ⟨cur, hg⟩ := h.rowTag k hk
    have := tag_ne hg (h.th i hi) (by decide)
    rw [set_other _ this, set_other _ this]
  · intro k hk
    rw [hb k]
    by_cases e : k = i
    · subst e
      rw [put_at, set_blk (set_blk (h.th k hi) _)]
      rfl
    · have hne : (f k).blk ≠ (f i).blk := fun q => e (h.inj hk hi q)
      rw [put_o _ _ _ _ e, set_other _ hne, set_other _ hne]
      exact h.th k hk
theorem put_blk (f : Nat → Th) (i : Nat) (d s : Int) (k : Nat) : (put f i ⟨(f i).what, d, s, (f i).blk⟩ k).blk = (f k).blk ∧ (put f i ⟨(f i).what, d, s, (f i).blk⟩ k).what = (f k).what := by
  unfold put
  split
  · rename_i e; rw [e]; exact ⟨rfl, rfl⟩
  · exact ⟨rfl, rfl⟩
end

theorem gro_lt {S : Nat → Prop} {w w' : World} (hS : ∀ k, S k → k < w.heap.size) (h : w.heap.size ≤ w'.heap.size) : ∀ k, Gro S w w' k → k < w'.heap.size := by
  rintro k (hk | hk)
  · exact Nat.lt_of_lt_of_le (hS k hk) h
  · exact hk.2

/-- What a Set of a thing that is there leaves. -/
theorem Ags.again {w w1 w2 : World} {A c n i : Nat} {S : Nat → Prop} {R : List Ti} {v mv : Value} {f f' : Nat → Th} {d : Int} (hS : ∀ k, S k → k < w.heap.size) (h : Ags w A S c R v mv f n) (hc9 : c < 900000) (hi : i < n) (hfr1 : Fr w w1 (fun k => S k ∧ mv ≠ .map (some k)))
    (hq : Qs w2 A v mv ((c : Int) + 1) f' n) (hh : Heap f' n) (hs : Sift (put f i ⟨(f i).what, d, (c : Int) + 1, (f i).blk⟩) f' n) (hfr2 : Fr w1 w2 (fun k => S k ∧ mv ≠ .map (some k))) :
    Agd w2 A (Gro S w w2) (c + 1) (setL R (f i).what d) ∧ Fr w w2 S := by
  have hfr := hfr1.trans hfr2
  have hsz := hfr.size
  refine ⟨⟨gro_lt hS hsz, v, mv, f', n, ?_⟩, hfr.mono (fun _ q => q.1)⟩
  have hp : (f i :: row f' n).Perm (⟨(f i).what, d, (c : Int) + 1, (f i).blk⟩ :: row f n) := (List.Perm.cons _ hs.perm).trans (row_put f n _ i hi)
  have hrow : ∀ k, k < n → ∃ j, j < n ∧ (f' k).blk = (f j).blk ∧ (f' k).what = (f j).what := by
    intro k hk
    obtain ⟨j, hj, e⟩ := mem_row.1 (hs.perm.mem_iff.1 (mem_row.2 ⟨k, hk, rfl⟩))
    have := put_blk f i d ((c : Int) + 1) j
    rw [e] at this
    exact ⟨j, hj, this⟩
  have hrow' : ∀ k, k < n → ∃ j, j < n ∧ (f' j).blk = (f k).blk ∧ (f' j).what = (f k).what := by
    intro k hk
    obtain ⟨j, hj, e⟩ := mem_row.1 (hs.perm.mem_iff.2 (mem_row.2 ⟨k, hk, rfl⟩))
    have := put_blk f i d ((c : Int) + 1) k
    rw [← e] at this
    exact ⟨j, hj, this⟩
  refine ⟨by simpa using hq, hh, ?_, ?_, ⟨fun k hk => .inl (h.cov.row k hk), ?_⟩, .inl h.covA, fun b hb => .inl (h.covM b hb), by omega, by have := h.few; omega, ?_⟩
  · have := h.rep.fix hi (g := f') (x := ⟨(f i).what, d, (c : Int) + 1, (f i).blk⟩) (d := (c : Int) + 1 + 1) hp rfl (by simp) (by simp; omega)
    simpa using this
  · refine ((h.mp.stays (fun b hb => hfr.block b (h.mp.lt hb) (fun q => q.2 hb))).mono (Nat.le_succ c)).alike ?_ ?_
    · intro y hy
      obtain ⟨k, hk, rfl⟩ := mem_row.1 hy
      obtain ⟨j, hj, e1, e2⟩ := hrow' k hk
      exact ⟨f' j, mem_row.2 ⟨j, hj, rfl⟩, e2, e1⟩
    · intro y hy
      obtain ⟨k, hk, rfl⟩ := mem_row.1 hy
      obtain ⟨j, hj, e1, e2⟩ := hrow k hk
      exact ⟨f j, mem_row.2 ⟨j, hj, rfl⟩, e2.symm⟩
  · intro k hk
    obtain ⟨j, hj, e1, _⟩ := hrow k hk
    rw [e1]
    exact .inl (h.cov.th j hj)
  · intro t ht
    unfold setL at ht
    rcases List.mem_append.1 ht with ht | ht
    · exact h.ints t (dropL_mem.1 ht).1
    · simp at ht
      subst ht
      exact h.inI hi

/-- What a Set of a new thing leaves. -/
theorem Ags.anew {w w2 w3 : World} {A c n : Nat} {S : Nat → Prop} {R : List Ti} {v mv : Value} {f : Nat → Th} {x : Th} (hS : ∀ k, S k → k < w.heap.size) (h : Ags w A S c R v mv f n) (hc9 : c < 900000) (hw : x.what ∉ whats R) (hi : Ytmehdhjelggkpaa.inI x.what) (hx : x.seq = (c : Int) + 1) (hxb : x.blk = w.heap.size)
    (hfr : Fr w w2 S) (hsz2 : w.heap.size < w2.heap.size) (ha : Added w2 A c n (fun k => S k ∨ k = w.heap.size) ((c : Int) + 1) f x w3) : Agd w3 A (Gro S w w3) (c + 1) (setL R x.what x.due) ∧ Fr w w3 S := by
  obtain ⟨v', mv', f', hq, hh, hp, hmp, hf, hv, hm⟩ := ha
  have hf3 : Fr w w3 S := hfr.step hf (fun k q => q.elim .inl (fun e => .inr (by omega)))
  have lt3 := hf.size
  refine ⟨⟨gro_lt hS hf3.size, v', mv', f', n + 1, ?_⟩, hf3⟩
  have put : ∀ k, k < w3.heap.size → (S k ∨ k = w.heap.size) ∨ w2.heap.size ≤ k → Gro S w w3 k := by
    rintro k hk ((q | q) | q)
    · exact .inl q
    · exact .inr ⟨by omega, hk⟩
    · exact .inr ⟨by omega, hk⟩
  refine ⟨by simpa using hq, hh, ?_, hmp, ⟨fun k hk => put k (hq.own.lt k hk).2 (hv k hk), ?_⟩, .inl h.covA, fun b hb => put b (hmp.lt hb) (hm b hb), by omega, by have := h.few; omega, ?_⟩
  · have := h.rep.push (g := f') (x := x) (d := (c : Int) + 1 + 1) hp hw (by omega) (by omega)
    simpa using this
  · intro k hk
    obtain e | e := List.mem_cons.1 (hp.mem_iff.1 (mem_row.2 ⟨k, hk, rfl⟩))
    · rw [e, hxb]
      exact .inr ⟨Nat.le_refl _, by omega⟩
    · obtain ⟨j, hj, e⟩ := mem_row.1 e
      rw [← e]
      exact .inl (h.cov.th j hj)
  · intro t ht
    unfold setL at ht
    rcases List.mem_append.1 ht with ht | ht
    · exact h.ints t (dropL_mem.1 ht).1
    · simp at ht
      subst ht
      exact hi
end Go.Proofs.Ytmehdhjelggkpaa
