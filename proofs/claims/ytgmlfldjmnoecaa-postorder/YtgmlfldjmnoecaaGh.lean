/- A bag, a list of letters beside it, and blocks that stay. -/
import Derived.Test.YtgmlfldjmnoecaaGf
namespace Go.Proofs.Ytgmlfldjmnoecaa
open Go.RowKit

/-- A bag that was made since w0, a list of letters v, blocks K that stay, and blocks X of others. -/
def Bg (w0 w : World) (A : Nat) (R : List Lt) (v : Value) (M : List Lt) (K : List (Nat × Obj)) (X : Nat → Prop) : Prop :=
  ∃ S, Ps w A S R ∧ (∀ k, S k → w0.heap.size ≤ k) ∧ Below w0.heap.size w0 w ∧ w.ownsRow w0.heap.size 28 3 v M.length (ltC M) ∧ (∀ k, v.ownBlock = some k → ¬ S k) ∧
    (∀ p ∈ K, w.heap[p.1]? = some p.2 ∧ ¬ S p.1 ∧ v.ownBlock ≠ some p.1) ∧ ∀ k, X k → k < w.heap.size ∧ ¬ S k ∧ v.ownBlock ≠ some k
section
variable {w0 w w' : World} {A : Nat} {R R' M M' : List Lt} {K K' : List (Nat × Obj)} {S S' X : Nat → Prop} {v v' : Value}
theorem Bg.below (h : Bg w0 w A R v M K X) : Below w0.heap.size w0 w := by
  obtain ⟨S, _, _, hb, _⟩ := h
  exact hb
theorem Bg.few (h : Bg w0 w A R v M K X) : R.length ≤ 900000 := by
  obtain ⟨S, h, _⟩ := h
  exact h.few
theorem Bg.row (h : Bg w0 w A R v M K X) : w.ownsRow w0.heap.size 28 3 v M.length (ltC M) := by
  obtain ⟨S, _, _, _, hr, _⟩ := h
  exact hr
theorem Bg.blk (h : Bg w0 w A R v M K X) : ∀ p ∈ K, w.heap[p.1]? = some p.2 := by
  obtain ⟨S, _, _, _, _, _, hk, _⟩ := h
  exact fun p hp => (hk p hp).1
theorem Bg.turn (h2 : ∀ k, S k → w0.heap.size ≤ k) (h3 : Below w0.heap.size w0 w) (h4 : w.ownsRow w0.heap.size 28 3 v M.length (ltC M)) (h5 : ∀ k, v.ownBlock = some k → ¬ S k)
    (h6 : ∀ p ∈ K, w.heap[p.1]? = some p.2 ∧ ¬ S p.1 ∧ v.ownBlock ≠ some p.1) (h7 : ∀ k, X k → k < w.heap.size ∧ ¬ S k ∧ v.ownBlock ≠ some k) (hp : Ps w' A S' R') (hs : ∀ k, S' k → Gro S w w' k) (hf : Fr w w' S) :
    Bg w0 w' A R' v M K X ∧ Fr w w' (fun k => ¬ X k) := by
  have hno : ∀ k, k < w.heap.size → ¬ S k → ¬ S' k := by
    intro k hk hS q
    rcases hs k q with q | q
    · exact hS q
    · omega
  refine ⟨⟨S', hp, fun k q => gro_fresh h2 h3.size k (hs k q), fr_below h2 h3 hf, row_keep h4 hf h5, fun k hk => hno k (h4.lt k hk).2 (h5 k hk), fun p hpK => ?_, fun k hk => ?_⟩, hf.mono (fun k q hx => (h7 k hx).2.1 q)⟩
  · obtain ⟨a, b, c⟩ := h6 p hpK
    exact ⟨(hf.block p.1 (blk_lt a) b).trans a, hno p.1 (blk_lt a) b, c⟩
  · obtain ⟨a, b, c⟩ := h7 k hk
    exact ⟨Nat.lt_of_lt_of_le a hf.size, hno k a b, c⟩
theorem Bg.on (h : Bg w0 w A R v M K X) (hb : Below w.heap.size w w') : Bg w0 w' A R v M K X := by
  obtain ⟨S, h1, h2, h3, h4, h5, h6, h7⟩ := h
  exact (Bg.turn h2 h3 h4 h5 h6 h7 (h1.on hb) (fun _ q => .inl q) (Fr.ofBelow _ hb)).1
theorem Bg.box (h : Bg w0 w A R v M K X) (o : Obj) : Bg w0 (w.alloc o) A R v M ((w.heap.size, o) :: K) X := by
  have hal : Below w.heap.size w (w.alloc o) := (Below.refl _ w).alloc (Nat.le_refl _) _
  obtain ⟨S, h1, h2, h3, h4, h5, h6, h7⟩ := h
  refine ⟨S, h1.on hal, h2, h3.trans (hal.mono h3.size), own_below h4 hal, h5, fun p hp => ?_, fun k hk => ⟨Nat.lt_of_lt_of_le (h7 k hk).1 hal.size, (h7 k hk).2⟩⟩
  rcases List.mem_cons.1 hp with rfl | hp
  · refine ⟨heap_alloc_new w _, fun q => ?_, fun q => ?_⟩
    · have q1 : w.heap.size < w.heap.size := h1.lt w.heap.size q
      omega
    · have q1 : w.heap.size < w.heap.size := (h4.lt _ q).2
      omega
  · obtain ⟨a, b⟩ := h6 p hp
    exact ⟨(hal.block p.1 (blk_lt a)).trans a, b⟩
theorem Bg.sub (h : Bg w0 w A R v M K X) (hK : ∀ p ∈ K', p ∈ K) : Bg w0 w A R v M K' X := by
  obtain ⟨S, h1, h2, h3, h4, h5, h6, h7⟩ := h
  exact ⟨S, h1, h2, h3, h4, h5, fun p hp => h6 p (hK p hp), h7⟩
theorem Bg.drewN (h : Bg w0 w A R v M K X) (k : Nat) : Bg w0 (w.drewN k) A R v M K X := h.on (below_draw (Below.refl _ _) k)
theorem Bg.drew (h : Bg w0 w A R v M K X) : Bg w0 w.drew A R v M K X := h.drewN 1
/-- A block of K is written anew. -/
theorem Bg.set3 (h : Bg w0 w A R v M K X) {b : Nat} {l l' : Lt} (hb : (b, ltO l) ∈ K) (hb0 : w0.heap.size ≤ b) (hK : ∀ p ∈ K', p = (b, ltO l') ∨ (p ∈ K ∧ p.1 ≠ b)) :
    Bg w0 (((w.setCell ⟨b, 0, none⟩ (.int .i64 l'.fr)).setCell ⟨b, 1, none⟩ (.int .i64 l'.to)).setCell ⟨b, 2, none⟩ (.string l'.text)) A R v M K' X := by
  have h' := h.blk
  obtain ⟨S, h1, h2, h3, h4, h5, h6, h7⟩ := h
  obtain ⟨a, nS, nv⟩ := h6 _ hb
  have hfr := three w b (.int .i64 l'.fr) (.int .i64 l'.to) (.string l'.text)
  have hbk : (((w.setCell ⟨b, 0, none⟩ (.int .i64 l'.fr)).setCell ⟨b, 1, none⟩ (.int .i64 l'.to)).setCell ⟨b, 2, none⟩ (.string l'.text)).heap[b]? = some (ltO l') := by
    have := set_blk (i := 2) (set_blk (i := 1) (set_blk (i := 0) a (.int .i64 l'.fr)) (.int .i64 l'.to)) (.string l'.text)
    simpa using this
  refine ⟨S, h1.stays hfr (fun k hk e => nS (e ▸ hk)), h2, ?_, row_keep h4 hfr (fun j hj e => nv (e ▸ hj)), h5, fun p hp => ?_, fun k hk => ⟨Nat.lt_of_lt_of_le (h7 k hk).1 hfr.size, (h7 k hk).2⟩⟩
  · exact fr_below (fun k q => (show k = b from q) ▸ hb0) h3 hfr
  · rcases hK p hp with rfl | ⟨hp, hne⟩
    · exact ⟨hbk, nS, nv⟩
    · obtain ⟨a', b'⟩ := h6 p hp
      exact ⟨(hfr.block p.1 (blk_lt a') hne).trans a', b'⟩
theorem bg_send (h : Bg w0 w A R v M K X) (hf : R.length < 900000) (l : Lt) : Calls Try.prog 9 #[.pointer (some ⟨A, 0, none⟩), ltV l] w fun e w' => e = .returned (.tuple #[]) ∧ Bg w0 w' A (R ++ [l]) v M K X ∧ Fr w w' (fun k => ¬ X k) := by
  obtain ⟨S, h1, h2, h3, h4, h5, h6, h7⟩ := h
  refine (send_any h1 hf).mono ?_
  rintro e w' ⟨rfl, hp, hfr⟩
  exact ⟨rfl, Bg.turn h2 h3 h4 h5 h6 h7 hp (fun _ q => q) hfr⟩
theorem bg_take (h : Bg w0 w A R v M K X) (i : Int) : Calls Try.prog 10 #[.pointer (some ⟨A, 0, none⟩), .int .i64 i] w fun e w' => e = .returned (.tuple #[ltV (atL R i), .bool (isL R i)]) ∧ Bg w0 w' A (remL R i) v M K X ∧ Fr w w' (fun k => ¬ X k) := by
  obtain ⟨S, h1, h2, h3, h4, h5, h6, h7⟩ := h
  refine (take_any h1 i).mono ?_
  rintro e w' ⟨rfl, hp, hfr⟩
  exact ⟨rfl, Bg.turn h2 h3 h4 h5 h6 h7 hp (fun _ q => q) hfr⟩
theorem bg_lose (h : Bg w0 w A R v M K X) (i : Int) : Calls Try.prog 12 #[.pointer (some ⟨A, 0, none⟩), .int .i64 i] w fun e w' => e = .returned (.bool (isL R i)) ∧ Bg w0 w' A (remL R i) v M K X := by
  obtain ⟨S, h1, h2, h3, h4, h5, h6, h7⟩ := h
  refine (lose_any h1 i).mono ?_
  rintro e w' ⟨rfl, hp, hfr⟩
  exact ⟨rfl, (Bg.turn h2 h3 h4 h5 h6 h7 hp (fun _ q => q) hfr).1⟩
theorem bg_len (h : Bg w0 w A R v M K X) : Calls Try.prog 14 #[.pointer (some ⟨A, 0, none⟩)] w fun e w' => e = .returned (.int .i64 R.length) ∧ w' = w := by
  obtain ⟨S, h1, _⟩ := h
  exact len_any h1
theorem bg_copy (h : Bg w0 w A R v M K X) (i : Int) : Calls Try.prog 11 #[.pointer (some ⟨A, 0, none⟩), .int .i64 i] w fun e w' => e = .returned (.tuple #[ltV (atL R i), .bool (isL R i)]) ∧ Bg w0 w' A R v M K X := by
  have h0 := h
  obtain ⟨S, h1, _⟩ := h
  refine (copy_any h1 i).mono ?_
  rintro e w' ⟨rfl, hb⟩
  exact ⟨rfl, h0.on hb⟩
/-- The list is another one, new. -/
theorem Bg.renew (h : Bg w0 w A R v M K X) (hr : w'.ownsRow w.heap.size 28 3 v' M'.length (ltC M')) (hb : Below w.heap.size w w') : Bg w0 w' A R v' M' K X := by
  obtain ⟨S, h1, h2, h3, h4, h5, h6, h7⟩ := h
  refine ⟨S, h1.on hb, h2, h3.trans (hb.mono h3.size), own_mono hr h3.size, fun k hk q => ?_, fun p hp => ?_, fun k hk => ?_⟩
  · have := (hr.lt k hk).1
    have := h1.lt k q
    omega
  · obtain ⟨a, b, c⟩ := h6 p hp
    refine ⟨(hb.block p.1 (blk_lt a)).trans a, b, fun q => ?_⟩
    have := (hr.lt p.1 q).1
    have := blk_lt a
    omega
  · obtain ⟨a, b, c⟩ := h7 k hk
    refine ⟨Nat.lt_of_lt_of_le a hb.size, b, fun q => ?_⟩
    have := (hr.lt k q).1
    omega
theorem bg_without {ad : Option Addr} {cap : Nat} (h : Bg w0 w A R (.slice ad M.length cap) M K X) (hf : M.length ≤ 900000) (i : Int) :
    Calls Try.prog 13 #[.slice ad M.length cap, .int .i64 i] w fun e w' => ∃ v', e = .returned v' ∧ Bg w0 w' A R v' (remL M i) K X ∧ Below w.heap.size w w' := by
  obtain ⟨ad', cap', e, hL⟩ := Lk.own h.row
  cases e
  refine (without_any hL hf i).mono ?_
  rintro e w' ⟨v', rfl, hr, hb⟩
  exact ⟨v', rfl, h.renew hr hb, hb⟩
/-- The list gets one letter more. -/
theorem Bg.more (h : Bg w0 w A R v M K X) (hz : M.length ≤ 900000) (l : Lt) :
    ∃ v' w', (Builtin.append_ #[26, 26] 26 #[v, .slice (some ⟨w.heap.size, 0, none⟩) 1 1]).run Try.prog (w.alloc (.cells #[.int .i64 l.fr, .int .i64 l.to, .string l.text] 28)) = .ok v' w' ∧ Bg w0 w' A R v' (M ++ [l]) K X := by
  have hal := h.box (ltO l)
  obtain ⟨v', w', hrun, ho, hg, hat⟩ := append_one h.row h.below.size l (by omega)
  refine ⟨v', w', hrun, ?_⟩
  obtain ⟨S, h1, h2, h3, h4, h5, h6, h7⟩ := hal
  have hf : Fr (w.alloc (ltO l)) w' (fun k => v.ownBlock = some k) := (Fr.refl _ _).grown hg (fun k hk => .inl hk)
  have hnew : ∀ k, k < (w.alloc (ltO l)).heap.size → v'.ownBlock = some k → v.ownBlock = some k := by
    intro k hk q
    rcases hat with e | e
    · rw [← e]; exact q
    · rw [e] at q
      cases q
      simp at hk
  refine ⟨S, h1.stays hf (fun k hk q => h5 k q hk), h2, ?_, ho, fun k hk q => h5 k (hnew k (h1.lt k q) hk) q, fun p hp => ?_, fun k hk => ?_⟩
  · exact fr_below (fun k q => (h4.lt k q).1) h3 hf
  · obtain ⟨a, b, c⟩ := h6 p (List.mem_cons_of_mem _ hp)
    exact ⟨(hf.block p.1 (blk_lt a) c).trans a, b, fun q => c (hnew _ (blk_lt a) q)⟩
  · obtain ⟨a, b, c⟩ := h7 k hk
    exact ⟨Nat.lt_of_lt_of_le a hf.size, b, fun q => c (hnew _ a q)⟩
end
end Go.Proofs.Ytgmlfldjmnoecaa
