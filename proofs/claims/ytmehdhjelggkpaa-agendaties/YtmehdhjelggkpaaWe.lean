/- The walks of the queue's Push and Pop. -/
import Derived.Test.YtmehdhjelggkpaaWc
import Derived.Lib.SmallJoins
import Derived.Maps.AppendAt
import Derived.Laws.EntriesVeiled
namespace Go.Proofs.Ytmehdhjelggkpaa
open Go.RowKit

section
variable {w : World} {A : Nat} {mv : Value} {c : Int} {f : Nat → Th} {n g cap : Nat}
theorem Qs.caps (h : Qs w A (.slice (some ⟨g, 0, none⟩) n cap) mv c f n) : n ≤ cap ∧ cap ≤ maxLen := by
  rcases h.own.2 with ⟨h0, _⟩ | ⟨g', cap', cur, e, _, hg, h1, h2, _⟩
  · cases h0
  · simp only [Value.slice.injEq, Option.some.injEq, Addr.mk.injEq] at e
    obtain ⟨_, _, rfl⟩ := e
    exact ⟨h1, h2⟩
/-- The last one goes. -/
theorem Qs.pop (h : Qs w A (.slice (some ⟨g, 0, none⟩) (n + 1) cap) mv c f (n + 1)) : Qs ((w.setCell ⟨g, n, none⟩ (.pointer none)).setCell ⟨A, 0, none⟩ (.slice (some ⟨g, 0, none⟩) n cap)) A (.slice (some ⟨g, 0, none⟩) n cap) mv c f n := by
  have hAg : A ≠ g := h.agRow g rfl
  refine ⟨?_, ?_, ?_, by have := h.small; omega⟩
  · have a := h.ag
    rw [← set_other (w := w) (a := ⟨g, n, none⟩) (k := A) (.pointer none) hAg] at a
    rw [set_blk a]
    rfl
  · refine ⟨by rw [ptrs_len]; omega, .inr ?_⟩
    rcases h.own.2 with ⟨h0, _⟩ | ⟨g', cap', cur, e, h0, hg, h1, h2, h3, h4⟩
    · cases h0
    · simp only [Value.slice.injEq, Option.some.injEq, Addr.mk.injEq] at e
      obtain ⟨⟨rfl, _⟩, _, rfl⟩ := e
      refine ⟨g, cap, cur.setIfInBounds n (.pointer none), rfl, Nat.zero_le _, ?_, by omega, h2, by simpa using h3, ?_⟩
      · rw [set_other _ (Ne.symm hAg)]
        exact set_blk hg _
      · rw [Array.toList_setIfInBounds, List.take_set_of_le (by omega)]
        have e5 : cur.toList.take (n * 1) = (cur.toList.take ((n + 1) * 1)).take n := by rw [List.take_take]; congr 1; omega
        rw [e5, h4, ptrs_snoc, List.take_append_of_le_length (by rw [ptrs_len]; omega), List.take_of_length_le (by rw [ptrs_len]; omega)]
  · intro i hi
    have hb : (f i).blk ≠ g := Ne.symm (h.rowNe (by omega))
    have hb' : (f i).blk ≠ A := Ne.symm (h.agNe (by omega))
    rw [set_other _ hb', set_other _ hb]
    exact h.th i (by omega)
end

theorem infoP : (Try.prog.info? 54).map (fun i => (i.zero, i.size, i.bytes)) = some (some (.pointer none), 1, 8) := by kernel_rfl

set_option maxHeartbeats 1000000 in
set_option maxRecDepth 100000 in
theorem qpop_any {w : World} {A g cap n : Nat} {mv : Value} {c : Int} {f : Nat → Th} {S : Nat → Prop} (h : Qs w A (.slice (some ⟨g, 0, none⟩) (n + 1) cap) mv c f (n + 1)) (hc : Cov S (.slice (some ⟨g, 0, none⟩) (n + 1) cap) f (n + 1)) (hA : S A) :
    Calls Try.prog 48 #[.pointer (some ⟨A, 0, none⟩)] w fun e w' => e = .returned (.iface 54 (.pointer (some ⟨(f n).blk, 0, none⟩))) ∧ Qs w' A (.slice (some ⟨g, 0, none⟩) n cap) mv c f n ∧ Fr w w' S ∧ w'.heap[(f n).blk]? = some (thO (f n) n) := by
  have hcl := h.slot
  have hN := h.small
  have hr := h.rowAt (i := n) (by omega)
  have hfz := h.rowFree n
  have hfA : w.frozen? ⟨A, 0, none⟩ = false := frozen_blk h.ag 0
  have hAg : A ≠ g := h.agRow g rfl
  have hgA : g ≠ A := Ne.symm hAg
  have n0 : (0 : Int) ≤ n := by omega
  have n1 : (n : Int) ≤ 1000000 := by omega
  obtain ⟨hcap1, hcap2⟩ := h.caps
  have c1 : n ≤ cap := by omega
  have c2 : ¬ cap = 0 := by omega
  go_enter Try.func48, Try.ntmps48
  go_wp2
  go_ret
  exact ⟨rfl, h.pop, ((Fr.refl w S).set (.inl (hc.row g rfl)) _).set (.inl hA) _, by rw [set_other _ (Ne.symm (h.agNe (by omega))), set_other _ (Ne.symm (h.rowNe (by omega)))]; exact h.th n (by omega)⟩

theorem assert_run (w : World) (v : Value) : (Instr.typeAssert (.iface 54 v) 20 54 false).run Try.prog w = .ok v w := by kernel_rfl
theorem news_one (w : World) (v : Value) (t : TypeId) : ∀ j u, [v][j]? = some u → (w.alloc (.cells #[v] t)).cell? ((⟨w.heap.size, 0, none⟩ : Addr).add j) = some u := by
  intro j u hj
  match j, hj with
  | 0, hj => simp at hj; subst hj; simp [Addr.add]

theorem news_at (w : World) (v : Value) (t : TypeId) (B : Nat) (hB : B = w.heap.size) : ∀ j u, [v][j]? = some u → (w.alloc (.cells #[v] t)).cell? ((⟨B, 0, none⟩ : Addr).add j) = some u := by
  subst hB
  exact news_one w v t

section
variable {w w1 : World} {A : Nat} {v v' mv : Value} {c : Int} {f : Nat → Th} {n : Nat} {x : Th} {pl : Int} {t : TypeId}
theorem Qs.rowTag (h : Qs w A v mv c f n) : ∀ k, v.ownBlock = some k → ∃ cur, w.heap[k]? = some (.cells cur 54 (0, 0)) := by
  intro k hk
  rcases h.own.2 with ⟨rfl, _⟩ | ⟨g', cap', cur, rfl, _, hg, _⟩
  · cases hk
  · simp only [Value.ownBlock, Option.some.injEq] at hk
    subst hk
    exact ⟨cur, hg⟩
theorem Qs.pushOwn (h : Qs w A v mv c f n) (hx : w.heap[x.blk]? = some (thO x pl)) : (w.setCell ⟨x.blk, 3, none⟩ (.int .i64 n)).ownsRow 0 54 1 v n (ptrs f n) := by
  refine own_like h.own ?_
  intro k hk
  obtain ⟨cur, hg⟩ := h.rowTag k hk
  exact set_other _ (tag_ne hg hx (by decide))
/-- What push leaves of an old block. -/
theorem Qs.pushOld (hg : ((w.setCell ⟨x.blk, 3, none⟩ (.int .i64 n)).alloc (.cells #[.pointer (some ⟨x.blk, 0, none⟩)] t)).grownBy w1 v.ownBlock) {k : Nat} (hk : k < w.heap.size) (hr : v.ownBlock ≠ some k) : w1.heap[k]? = (w.setCell ⟨x.blk, 3, none⟩ (.int .i64 n)).heap[k]? :=
  (hg.block k (by simp; omega) (Ne.symm hr)).trans (Below.heap_alloc _ _ k (by simpa using hk))
theorem Qs.pushAg (h : Qs w A v mv c f n) (hx : w.heap[x.blk]? = some (thO x pl)) (hg : ((w.setCell ⟨x.blk, 3, none⟩ (.int .i64 n)).alloc (.cells #[.pointer (some ⟨x.blk, 0, none⟩)] t)).grownBy w1 v.ownBlock) : w1.heap[A]? = some (agO v mv c) := by
  rw [Qs.pushOld hg (blk_lt h.ag) (fun e => h.agRow A e rfl), set_other _ (tag_ne h.ag hx (by decide))]
  exact h.ag
theorem Qs.push (h : Qs w A v mv c f n) (hx : w.heap[x.blk]? = some (thO x pl)) (hne : ∀ i, i < n → (f i).blk ≠ x.blk) (ho : w1.ownsRow 0 54 1 v' (n + 1) (ptrs f n ++ [.pointer (some ⟨x.blk, 0, none⟩)]))
    (hg : ((w.setCell ⟨x.blk, 3, none⟩ (.int .i64 n)).alloc (.cells #[.pointer (some ⟨x.blk, 0, none⟩)] t)).grownBy w1 v.ownBlock) (hl : v'.ownBlock = v.ownBlock ∨ v'.ownBlock = some ((w.setCell ⟨x.blk, 3, none⟩ (.int .i64 n)).alloc (.cells #[.pointer (some ⟨x.blk, 0, none⟩)] t)).heap.size) (hn : n < 1000000) :
    Qs (w1.setCell ⟨A, 0, none⟩ v') A v' mv c (put f n x) (n + 1) := by
  have hAlt := blk_lt h.ag
  refine ⟨?_, ?_, ?_, by omega⟩
  · rw [set_blk (h.pushAg hx hg)]
    rfl
  · have e : ptrs (put f n x) (n + 1) = ptrs f n ++ [.pointer (some ⟨x.blk, 0, none⟩)] := by
      rw [ptrs_snoc, put_at, ptrs_congr (g := f) (fun k hk => by rw [put_o _ _ _ _ (by omega)])]
    rw [e]
    refine own_like ho ?_
    intro k hk
    refine set_other _ ?_
    show k ≠ A
    rcases hl with q | q
    · exact Ne.symm (h.agRow k (by rw [← q]; exact hk))
    · rw [q] at hk
      have := Option.some.inj hk
      simp at this
      omega
  · intro i hi
    by_cases e : i = n
    · subst e
      rw [put_at, set_other _ (tag_ne hx h.ag (by decide)), Qs.pushOld hg (blk_lt hx) (fun q => by
        obtain ⟨cur, hc⟩ := h.rowTag _ q
        exact tag_ne hc hx (by decide) rfl), set_blk hx]
      rfl
    · have hi' : i < n := by omega
      have ht := h.th i hi'
      rw [put_o _ _ _ _ e, set_other _ (tag_ne ht h.ag (by decide)), Qs.pushOld hg (blk_lt ht) (fun q => by
        obtain ⟨cur, hc⟩ := h.rowTag _ q
        exact tag_ne hc ht (by decide) rfl), set_other _ (hne i hi')]
      exact ht
theorem Qs.pushFr {S : Nat → Prop} (_ : Qs w A v mv c f n) (_ : w.heap[x.blk]? = some (thO x pl)) (hc : Cov S v f n) (hA : S A) (hxS : S x.blk) (hg : ((w.setCell ⟨x.blk, 3, none⟩ (.int .i64 n)).alloc (.cells #[.pointer (some ⟨x.blk, 0, none⟩)] t)).grownBy w1 v.ownBlock) :
    Fr w (w1.setCell ⟨A, 0, none⟩ v') S :=
  (((((Fr.refl w S).set (.inl hxS) _).alloc _)).grown hg (fun k hk => .inl (hc.row k hk))).set (.inl hA) _
end

set_option maxHeartbeats 1000000 in
set_option maxRecDepth 100000 in
theorem qpush_any {w : World} {A : Nat} {v mv : Value} {c : Int} {f : Nat → Th} {n : Nat} {x : Th} {S : Nat → Prop} {pl : Int} (h : Qs w A v mv c f n) (hx : w.heap[x.blk]? = some (thO x pl)) (hc : Cov S v f n) (hA : S A) (hxS : S x.blk) (hn : n < 1000000) (hne : ∀ i, i < n → (f i).blk ≠ x.blk) :
    Calls Try.prog 49 #[.pointer (some ⟨A, 0, none⟩), .iface 54 (.pointer (some ⟨x.blk, 0, none⟩))] w fun e w' => e = .returned (.tuple #[]) ∧ ∃ v', Qs w' A v' mv c (put f n x) (n + 1) ∧ Fr w w' S ∧ (∀ k, v'.ownBlock = some k → S k ∨ w.heap.size ≤ k) := by
  obtain ⟨ad, cap, rfl⟩ : ∃ ad cap, v = .slice ad n cap := by
    rcases h.own.2 with ⟨rfl, rfl⟩ | ⟨g', cap', cur, rfl, _⟩
    · exact ⟨none, 0, rfl⟩
    · exact ⟨_, _, rfl⟩
  have hcl := h.slot
  have hfA : w.frozen? ⟨A, 0, none⟩ = false := frozen_blk h.ag 0
  have hx3 : w.cell? ⟨x.blk, 3, none⟩ = some (.int .i64 pl) := by rw [cell_blk hx]; rfl
  have hxf : w.frozen? ⟨x.blk, 3, none⟩ = false := frozen_blk hx 3
  have hAx : A ≠ x.blk := tag_ne h.ag hx (by decide)
  have hxA : x.blk ≠ A := Ne.symm hAx
  have ha := assert_run
  obtain ⟨i0, hi, hz0, hz1, hz2⟩ := info_parts infoP
  have hown := h.pushOwn hx
  have hlt : A < w.heap.size := blk_lt h.ag
  go_enter Try.func49, Try.ntmps49
  go_wp2_with (at_builtin; refine wpList_append_own_at _ rfl _ _ 50 rfl 0 54 i0 (.pointer none) 1 8 Try.underlying50 hi hz0 hz1 hz2 rfl (by decide) _ _ _ rfl (hown.alloc _) ⟨w.heap.size, 0, none⟩ 1 1 [Value.pointer (some ⟨x.blk, 0, none⟩)] rfl rfl (news_at _ _ _ _ (by simp)) (by intro u' hu'; simp at hu'; subst hu'; rfl) (by unfold maxLen; omega) (by omega) (Nat.zero_le _) ?_; intro v' w1 hown' hgrow hnil hloc; obtain ⟨g', cap', rfl⟩ := Joins.ownsRow_form hown' (by omega); have hb := h.pushAg hx hgrow; have hb1 : w1.cell? ⟨A, 0, none⟩ = some (.slice ad n cap) := (cell_blk hb 0).trans rfl; have hb2 := frozen_blk hb 0; refine Hid.out ?_)
  refine Lib.hid ?_
  go_wp2
  go_end0
  exact ⟨rfl, _, h.push hx hne hown' hgrow hloc hn, h.pushFr hx hc hA hxS hgrow, fun k hk => by
    rcases hloc with q | q
    · exact .inl (hc.row k (q.symm.trans hk))
    · rw [q] at hk
      have := Option.some.inj hk
      simp at this
      exact .inr (by omega)⟩
end Go.Proofs.Ytmehdhjelggkpaa
