/- A command with lists of its own: rows of reads. -/
import Derived.Test.YtcoaahlakkghhaaGm
namespace Go.Proofs.Ytcoaahlakkghhaa
open Go.RowKit
section
variable {ρ : Operand → Value} {X : World} {d : Option Tmp} {ty : TypeId} {ps : String} {af : Array Edge} {g : Option (Nat × Bool)}
theorem op_f47_4 {x : Operand} {B o : Nat} (e : ρ x = .pointer (some ⟨B, o, none⟩)) : (execOp ρ ⟨d, .fieldAddr 47 x 4, ty, ps, af, g⟩).run Try.prog X = .ok (.value (.pointer (some ⟨B, o + 8, none⟩))) X := by
  simp only [execOp, e]
  go_simp
theorem op_i38 {x y : Operand} {B n m i : Nat} (e : ρ x = .slice (some ⟨B, 0, none⟩) n m) (e2 : ρ y = .int .i64 (i : Int)) (h : i < n) : (execOp ρ ⟨d, .indexAddr 38 x y, ty, ps, af, g⟩).run Try.prog X = .ok (.value (.pointer (some ⟨B, i * 3, none⟩))) X := by
  have k0 : (0 : Int) ≤ (i : Int) := by omega
  have k1 : (i : Int) < (n : Int) := by omega
  simp only [execOp, e, e2]
  go_simp
theorem op_e58 : (execOp ρ ⟨d, .buildSlice 58 0 #[], ty, ps, af, g⟩).run Try.prog X = .ok (.value (.slice (some ⟨X.heap.size, 0, none⟩) 0 0)) (X.alloc (.cells #[] 82)) := by
  simp only [execOp]
  go_simp
theorem op_store58 {x y : Operand} {B i : Nat} {a : Option Addr} {n m : Nat} {u : Value} (e : ρ x = .pointer (some ⟨B, i, none⟩)) (e2 : ρ y = .slice a n m) (c : X.cell? ⟨B, i, none⟩ = some u) (z : X.frozen? ⟨B, i, none⟩ = false) : (execOp ρ ⟨d, .store 58 x y, ty, ps, af, g⟩).run Try.prog X = .ok .skip (X.setCell ⟨B, i, none⟩ (.slice a n m)) := by
  simp only [execOp, e, e2]
  go_simp
end
theorem info_rd : (Try.prog.info? 60).map (fun i => (i.zero, i.size, i.bytes)) = some (some (.agg #[.string ⟨#[]⟩, .string ⟨#[]⟩, .slice none 0 0]), 3, 56) := by kernel_rfl
theorem run_rd {w : World} {v : Value} {base n m c : Nat} {xs news : List Value} {ad : Option Addr} (ho : w.ownsRow base 60 3 v n xs) (hb : base ≤ w.heap.size) (hs : (ad = none ∧ m = 0 ∧ c = 0 ∧ news = []) ∨ ∃ a, ad = some a ∧ news.length = m * 3 ∧ (∀ j u, news[j]? = some u → w.cell? (a.add j) = some u))
    (h1 : ∀ u ∈ news, u.oneCell' = true) (hnm : (n + m) * 56 ≤ 140737488355328) : ∃ ad' cap' w', (Builtin.append_ #[38, 38] 38 #[v, .slice ad m c]).run Try.prog w = .ok (.slice ad' (n + m) cap') w' ∧ w'.ownsRow base 60 3 (.slice ad' (n + m) cap') (n + m) (xs ++ news) ∧ w.grownBy w' v.ownBlock ∧ ((Value.slice ad' (n + m) cap').ownBlock = v.ownBlock ∨ (Value.slice ad' (n + m) cap').ownBlock = some w.heap.size) := by
  obtain ⟨i0, hi, hz0, hz1, hz2⟩ := info_parts info_rd
  rcases hs with ⟨rfl, rfl, rfl, rfl⟩ | ⟨a, rfl, hl, hc⟩
  · obtain ⟨ad', cap', rfl⟩ := own_shape ho
    refine ⟨ad', cap', w, ?_, by simpa using ho, ⟨rfl, rfl, rfl, Nat.le_refl _, fun _ _ _ => rfl⟩, .inl rfl⟩
    exact run_append_owned_none (P := Try.prog) (w := w) base 38 38 60 i0 3 Try.underlying38 hi _ n xs ho
  · obtain ⟨v', w', hr, ho', hg, _, hat⟩ := run_append_own_at (P := Try.prog) (w := w) base 38 38 60 i0 _ 3 56 Try.underlying38 hi hz0 hz1 hz2 rfl (by decide) v n xs ho a m c news hl hc h1 (by unfold maxLen; omega) hnm hb
    obtain ⟨ad', cap', rfl⟩ := own_shape ho'
    exact ⟨ad', cap', w', hr, ho', hg, hat⟩
theorem info_sm : (Try.prog.info? 82).map (fun i => (i.zero, i.size, i.bytes)) = some (some (.agg #[.string ⟨#[]⟩, .int .i64 0]), 2, 24) := by kernel_rfl
theorem run_sm {w : World} {v : Value} {base n m c : Nat} {xs news : List Value} {ad : Option Addr} (ho : w.ownsRow base 82 2 v n xs) (hb : base ≤ w.heap.size) (hs : (ad = none ∧ m = 0 ∧ c = 0 ∧ news = []) ∨ ∃ a, ad = some a ∧ news.length = m * 2 ∧ (∀ j u, news[j]? = some u → w.cell? (a.add j) = some u))
    (h1 : ∀ u ∈ news, u.oneCell' = true) (hnm : (n + m) * 24 ≤ 140737488355328) : ∃ ad' cap' w', (Builtin.append_ #[58, 58] 58 #[v, .slice ad m c]).run Try.prog w = .ok (.slice ad' (n + m) cap') w' ∧ w'.ownsRow base 82 2 (.slice ad' (n + m) cap') (n + m) (xs ++ news) ∧ w.grownBy w' v.ownBlock ∧ ((Value.slice ad' (n + m) cap').ownBlock = v.ownBlock ∨ (Value.slice ad' (n + m) cap').ownBlock = some w.heap.size) := by
  obtain ⟨i0, hi, hz0, hz1, hz2⟩ := info_parts info_sm
  rcases hs with ⟨rfl, rfl, rfl, rfl⟩ | ⟨a, rfl, hl, hc⟩
  · obtain ⟨ad', cap', rfl⟩ := own_shape ho
    refine ⟨ad', cap', w, ?_, by simpa using ho, ⟨rfl, rfl, rfl, Nat.le_refl _, fun _ _ _ => rfl⟩, .inl rfl⟩
    exact run_append_owned_none (P := Try.prog) (w := w) base 58 58 82 i0 2 Try.underlying58 hi _ n xs ho
  · obtain ⟨v', w', hr, ho', hg, _, hat⟩ := run_append_own_at (P := Try.prog) (w := w) base 58 58 82 i0 _ 2 24 Try.underlying58 hi hz0 hz1 hz2 rfl (by decide) v n xs ho a m c news hl hc h1 (by unfold maxLen; omega) hnm hb
    obtain ⟨ad', cap', rfl⟩ := own_shape ho'
    exact ⟨ad', cap', w', hr, ho', hg, hat⟩
abbrev Gr := Rn × Value
abbrev grL (g : Gr) : List Value := [.string g.1.span.lo, .string g.1.span.hi, g.2]
theorem grL_len (g : Gr) : (grL g).length = 3 := rfl
theorem pick_reads {w : World} {L : List Rn} {v : Value} (h : Lr rnE 3 w L v) : ∃ K : List Gr, K.map Prod.fst = L ∧ Lr (fun _ x cs => cs = grL x) 3 w K v ∧ ∀ g ∈ K, Lr smE 2 w g.1.seen g.2 := by
  obtain ⟨ad, cap, rfl, h0, h1, h2, h3⟩ := h
  have hex : ∀ i : Fin L.length, ∃ u : Value, Lr smE 2 w L[i].seen u ∧ ∃ b o, ad = some ⟨b, o, none⟩ ∧ b < w.heap.size ∧ ∀ j x, (grL (L[i], u))[j]? = some x → w.cell? ⟨b, o + i.1 * 3 + j, none⟩ = some x := fun i => by
    obtain ⟨b, o, cs, ha, hl, ⟨sa, sc, rfl, hs⟩, _, hh⟩ := h3 i.1 i.2
    exact ⟨_, hs, b, o, ha, hl, hh⟩
  obtain ⟨f, hf⟩ := Classical.axiomOfChoice hex
  refine ⟨List.ofFn (fun i : Fin L.length => (L[i], f i)), ?_, ⟨ad, cap, by rw [List.length_ofFn], h0, by rw [List.length_ofFn]; exact h1, h2, fun i hi => ?_⟩, fun g hg => ?_⟩
  · apply List.ext_getElem
    · simp
    · intro i h1 h2
      simp
  · have hi' : i < L.length := by rw [List.length_ofFn] at hi; exact hi
    obtain ⟨_, b, o, ha, hl, hh⟩ := hf ⟨i, hi'⟩
    exact ⟨b, o, grL (L[i], f ⟨i, hi'⟩), ha, hl, by simp, rfl, hh⟩
  · rw [List.mem_ofFn] at hg
    obtain ⟨i, rfl⟩ := hg
    exact (hf i).1
theorem Lr.reads {w : World} {K : List Gr} {L : List Rn} {v : Value} (hK : K.map Prod.fst = L) (h : Lr (fun _ x cs => cs = grL x) 3 w K v) (hs : ∀ g ∈ K, Lr smE 2 w g.1.seen g.2) : Lr rnE 3 w L v := by
  subst hK
  obtain ⟨ad, cap, rfl, h0, h1, h2, h3⟩ := h
  refine ⟨ad, cap, by rw [List.length_map], h0, by rw [List.length_map]; exact h1, h2, fun i hi => ?_⟩
  have hi' : i < K.length := by rw [List.length_map] at hi; exact hi
  obtain ⟨b, o, cs, ha, hl, hE, hc, hh⟩ := h3 i hi'
  have hE' : cs = grL K[i] := hE
  have hsi := hs K[i] (List.getElem_mem hi')
  obtain ⟨sa, sc, e, _⟩ := hsi
  refine ⟨b, o, cs, ha, hl, ?_, hc, hh⟩
  rw [List.getElem_map, hE']
  refine ⟨sa, sc, ?_, ?_⟩
  · show [_, _, K[i].2] = _
    rw [e]
  · rw [← e]
    exact hs K[i] (List.getElem_mem hi')
theorem gr_set : ∀ (K : List Gr) (i : Nat) (hi : i < K.length) (u : Value), (K.flatMap grL).set (i * 3 + 2) u = (K.set i (K[i].1, u)).flatMap grL
  | [], _, hi, _ => absurd hi (by simp)
  | x :: K, 0, _, u => rfl
  | x :: K, i + 1, hi, u => by
    have hi' : i < K.length := by simpa using hi
    have e := gr_set K i hi' u
    show (_ :: _ :: _ :: K.flatMap grL).set ((i + 1) * 3 + 2) u = _ :: _ :: _ :: (K.set i (K[i].1, u)).flatMap grL
    rw [show (i + 1) * 3 + 2 = (i * 3 + 2) + 1 + 1 + 1 from by omega]
    simp only [List.set_cons_succ]
    rw [e]
theorem row_setc {w : World} {base g cap n c : Nat} {e : TypeId} {xs : List Value} (h : w.ownsRow base e c (.slice (some ⟨g, 0, none⟩) n cap) n xs) (j : Nat) (u : Value) : (w.setCell ⟨g, j, none⟩ u).ownsRow base e c (.slice (some ⟨g, 0, none⟩) n cap) n (xs.set j u) := by
  rcases h.2 with ⟨hv, _⟩ | ⟨g', cap', cur, hv, h0, hg, h1, h2, h3, h4⟩
  · cases hv
  · cases hv
    refine ⟨by rw [List.length_set]; exact h.1, .inr ⟨g, cap, cur.setIfInBounds j u, rfl, h0, set_blk hg u, h1, h2, by simp [h3], ?_⟩⟩
    rw [Array.toList_setIfInBounds, List.take_set, h4]
theorem keep_rowB {w w' : World} {B : Nat} {T : Nat → Prop} {e : TypeId} {c n : Nat} {v : Value} {xs : List Value} (hr : w.ownsRow B e c v n xs) (hf : Fr w w' T) (ht : ∀ k, T k → ∀ cs, w.heap[k]? ≠ some (.cells cs e (0, 0))) : w'.ownsRow B e c v n xs :=
  row_keep hr hf (fun j hj q => by
    obtain ⟨cs, t⟩ := own_tag hr j hj
    exact ht j q cs t)
theorem sib_ne {cs : Array Value} {i j : Nat} {v : Value} (h : i ≠ j) : (cs.setIfInBounds i v)[j]? = cs[j]? := Array.getElem?_setIfInBounds_ne h
theorem sib_eq {cs : Array Value} {i : Nat} {v : Value} (h : i < cs.size) : (cs.setIfInBounds i v)[i]? = some v := by simp [h]
theorem sib_one {cs : Array Value} {i : Nat} {v : Value} (h : cs.all (·.oneCell') = true) (hv : v.oneCell' = true) : (cs.setIfInBounds i v).all (·.oneCell') = true := by
  rw [Array.all_eq_true] at h ⊢
  intro j hj
  rw [Array.size_setIfInBounds] at hj
  rw [Array.getElem_setIfInBounds]
  split
  · exact hv
  · exact h j hj
/-- A command whose lists lie in memory of its own, from N on. -/
structure OwnC (N : Nat) (w : World) (c : Cm) (cs : Array Value) (ra : Option Addr) (rc : Nat) (wa : Option Addr) (wc : Nat) (K : List Gr) : Prop where
  cc : Cc w c cs ra rc wa wc
  kr : K.map Prod.fst = c.reads
  rs : w.ownsRow N 60 3 (.slice ra c.reads.length rc) c.reads.length (K.flatMap grL)
  ws : w.ownsRow N 55 3 (.slice wa c.writes.length wc) c.writes.length (c.writes.flatMap wrL)
  sn : ∀ g ∈ K, w.ownsRow N 82 2 g.2 g.1.seen.length (g.1.seen.flatMap smL)
section
variable {w w' : World} {N : Nat} {S : Nat → Prop} {c : Cm} {cs cs' : Array Value} {ra wa ra' wa' : Option Addr} {rc wc rc' wc' : Nat} {K : List Gr}
theorem Cc.with (h : Cc w c cs ra rc wa wc) (hr : Lr rnE 3 w' c.reads (.slice ra' c.reads.length rc')) (hw : Lr wrE 3 w' c.writes (.slice wa' c.writes.length wc')) (e : cs' = (cs.setIfInBounds 9 (.slice wa' c.writes.length wc')).setIfInBounds 8 (.slice ra' c.reads.length rc')) : Cc w' c cs' ra' rc' wa' wc' := by
  have n8 : ∀ j, 8 ≠ j → 9 ≠ j → cs'[j]? = cs[j]? := fun j h1 h2 => by rw [e, sib_ne h1, sib_ne h2]
  have hz := h.sz
  exact {
    sz := by rw [e]; simp [hz]
    one := by rw [e]; exact sib_one (sib_one h.one rfl) rfl
    k := by rw [n8 0 (by decide) (by decide)]; exact h.k
    t0 := by rw [n8 4 (by decide) (by decide)]; exact h.t0
    t1 := by rw [n8 5 (by decide) (by decide)]; exact h.t1
    t2 := by rw [n8 6 (by decide) (by decide)]; exact h.t2
    hm := by rw [n8 7 (by decide) (by decide)]; exact h.hm
    rs := by rw [e]; exact sib_eq (by simp [hz])
    ws := by rw [e, sib_ne (by decide)]; exact sib_eq (by rw [hz]; decide)
    mn := by rw [n8 10 (by decide) (by decide)]; exact h.mn
    til := by rw [n8 11 (by decide) (by decide)]; exact h.til
    ts := by rw [n8 12 (by decide) (by decide)]; exact h.ts
    rl := hr
    wl := hw }
theorem OwnC.stays (h : OwnC N w c cs ra rc wa wc K) (hf : Fr w w' S) (hS : ∀ k, S k → k < N) : OwnC N w' c cs ra rc wa wc K := by
  have kp : ∀ {e : TypeId} {m n : Nat} {v : Value} {xs : List Value}, w.ownsRow N e m v n xs → w'.ownsRow N e m v n xs := fun hr => row_keep hr hf (fun j hj q => by
    have := (hr.lt j hj).1
    have := hS j q
    omega)
  have hl : c.reads.length = K.length := by rw [← h.kr]; simp
  have rs' := kp h.rs
  have rl : Lr rnE 3 w' c.reads (.slice ra c.reads.length rc) := Lr.reads h.kr (by rw [hl] at rs' ⊢; exact Lr.own grL_len rs') (fun g hg => Lr.own smL_len (kp (h.sn g hg)))
  exact ⟨⟨h.cc.sz, h.cc.one, h.cc.k, h.cc.t0, h.cc.t1, h.cc.t2, h.cc.hm, h.cc.rs, h.cc.ws, h.cc.mn, h.cc.til, h.cc.ts, rl, Lr.own wrL_len (kp h.ws)⟩, h.kr, rs', kp h.ws, fun g hg => kp (h.sn g hg)⟩
theorem OwnC.apart (h : OwnC N w c cs ra rc wa wc K) (hS : ∀ k, S k → k < N) : Apart w S c cs ra rc wa wc := fun _ hX => (h.stays hX hS).cc
end
end Go.Proofs.Ytcoaahlakkghhaa
/- The walk of own. -/
namespace Go.Proofs.Ytcoaahlakkghhaa
open Go.RowKit
theorem box2 {w W : World} {cs zs : Array Value} (hW : W = (w.alloc (.cells cs 47)).alloc (.cells zs 47)) : Below w.heap.size w W ∧ W.heap[w.heap.size]? = some (.cells cs 47 (0, 0)) ∧ W.heap[w.heap.size + 1]? = some (.cells zs 47 (0, 0)) ∧ w.heap.size + 1 < W.heap.size := by
  subst hW
  refine ⟨((Below.refl _ w).alloc (Nat.le_refl _) _).alloc (by simp) _, ?_, ?_, by simp⟩
  · rw [Below.heap_alloc _ _ _ (by simp)]
    exact heap_alloc_new w _
  · have := heap_alloc_new (w.alloc (.cells cs 47)) (.cells zs 47)
    simp only [World.size_alloc] at this
    exact this
theorem emptyRow (w : World) (N : Nat) (e : TypeId) (c : Nat) (hN : N ≤ w.heap.size) : (w.alloc (.cells #[] e)).ownsRow N e c (.slice (some ⟨w.heap.size, 0, none⟩) 0 0) 0 [] :=
  ⟨by simp, .inr ⟨w.heap.size, 0, #[], rfl, hN, heap_alloc_new w _, Nat.le_refl _, Nat.zero_le _, by simp, by simp⟩⟩
theorem wr_one (L : List Wr) : ∀ u ∈ L.flatMap wrL, u.oneCell' = true := fun u hu => by
  obtain ⟨x, _, hx⟩ := List.mem_flatMap.1 hu
  simp at hx
  rcases hx with rfl | rfl | rfl <;> rfl
theorem sm_one (L : List Sm) : ∀ u ∈ L.flatMap smL, u.oneCell' = true := fun u hu => by
  obtain ⟨x, _, hx⟩ := List.mem_flatMap.1 hu
  simp at hx
  rcases hx with rfl | rfl <;> rfl
theorem gr_one {K : List Gr} {w : World} (h : ∀ g ∈ K, Lr smE 2 w g.1.seen g.2) : ∀ u ∈ K.flatMap grL, u.oneCell' = true := fun u hu => by
  obtain ⟨x, hx, hu⟩ := List.mem_flatMap.1 hu
  obtain ⟨sa, sc, e, _⟩ := h x hx
  unfold grL at hu
  rw [e] at hu
  simp at hu
  rcases hu with rfl | rfl | rfl <;> rfl
/-- Both lists are copied: what stands then. -/
structure Own0 (w : World) (c : Cm) (cs : Array Value) (Y Z : Nat) (zs : Array Value) (ra : Option Addr) (rc : Nat) (wa : Option Addr) (wc : Nat) (K : List Gr) (V : World) (j : Nat) : Prop where
  bY : V.heap[Y]? = some (.cells ((cs.setIfInBounds 9 (.slice wa c.writes.length wc)).setIfInBounds 8 (.slice ra c.reads.length rc)) 47 (0, 0))
  bZ : V.heap[Z]? = some (.cells zs 47 (0, 0))
  kr : K.map Prod.fst = c.reads
  rs : V.ownsRow w.heap.size 60 3 (.slice ra c.reads.length rc) c.reads.length (K.flatMap grL)
  ws : V.ownsRow w.heap.size 55 3 (.slice wa c.writes.length wc) c.writes.length (c.writes.flatMap wrL)
  dn : ∀ i (h : i < K.length), i < j → V.ownsRow w.heap.size 82 2 K[i].2 K[i].1.seen.length (K[i].1.seen.flatMap smL)
  td : ∀ i (h : i < K.length), j ≤ i → Lr smE 2 w K[i].1.seen K[i].2
  lw : Below w.heap.size w V
def OJ (w : World) (c : Cm) (cs : Array Value) (Y Z : Nat) (zs : Array Value) (ra : Option Addr) (rc : Nat) (wa : Option Addr) (wc : Nat) (V : World) (iv : Value) : Prop := ∃ (j : Nat) (K : List Gr), j ≤ c.reads.length ∧ iv = .int .i64 (j : Int) ∧ Own0 w c cs Y Z zs ra rc wa wc K V j
section
variable {w W V X : World} {c : Cm} {cs zs : Array Value} {ra wa ra' wa' : Option Addr} {rc wc rc' wc' Y Z g : Nat} {K : List Gr}
/-- One read's list is copied. -/
theorem Own0.next {j : Nat} (h : Own0 w c cs Y Z zs (some ⟨g, 0, none⟩) rc' wa' wc' K V j) (hj : j < K.length) {ad : Option Addr} {cap : Nat} (hX : Below V.heap.size V X) (ho : X.ownsRow V.heap.size 82 2 (.slice ad K[j].1.seen.length cap) K[j].1.seen.length (K[j].1.seen.flatMap smL)) :
    Own0 w c cs Y Z zs (some ⟨g, 0, none⟩) rc' wa' wc' (K.set j (K[j].1, .slice ad K[j].1.seen.length cap)) (X.setCell ⟨g, j * 3 + 2, none⟩ (.slice ad K[j].1.seen.length cap)) (j + 1) := by
  have rX := own_below h.rs hX
  have hgw := (rX.lt g rfl).1
  have hgt : ∃ cs, X.heap[g]? = some (.cells cs 60 (0, 0)) := own_tag rX g rfl
  have f : Fr X (X.setCell ⟨g, j * 3 + 2, none⟩ (.slice ad K[j].1.seen.length cap)) (fun k => k = g) := Fr.set (a := ⟨g, j * 3 + 2, none⟩) (Fr.refl X (fun k => k = g)) (Or.inl rfl) _
  have tag : ∀ {e : TypeId}, e ≠ 60 → ∀ k, k = g → ∀ cs, X.heap[k]? ≠ some (.cells cs e (0, 0)) := by
    rintro e q1 k rfl cs hk
    obtain ⟨cs', t⟩ := hgt
    rw [t] at hk
    simp only [Option.some.injEq, Obj.cells.injEq] at hk
    exact q1 hk.2.1.symm
  have blk : ∀ (B : Nat) (cs : Array Value), X.heap[B]? = some (.cells cs 47 (0, 0)) → (X.setCell ⟨g, j * 3 + 2, none⟩ (.slice ad K[j].1.seen.length cap)).heap[B]? = some (.cells cs 47 (0, 0)) := fun B cs hB => (f.block B (blk_lt hB) (fun e => tag (e := 47) (by decide) B e cs hB)).trans hB
  refine ⟨blk Y _ ((hX.block Y (blk_lt h.bY)).trans h.bY), blk Z _ ((hX.block Z (blk_lt h.bZ)).trans h.bZ), ?_, ?_, keep_rowB (own_below h.ws hX) f (tag (by decide)), ?_, ?_, ?_⟩
  · rw [List.map_set, ← h.kr]
    apply List.ext_getElem
    · simp
    · intro i h1 h2
      rw [List.getElem_set]
      split
      · rename_i e
        subst e
        simp
      · rfl
  · rw [← gr_set K j hj]
    exact row_setc rX _ _
  · intro i hi hij
    rw [List.length_set] at hi
    by_cases e : i = j
    · subst e
      rw [List.getElem_set_self]
      exact keep_rowB (own_mono ho h.lw.size) f (tag (by decide))
    · rw [List.getElem_set_ne (fun q => e q.symm)]
      exact keep_rowB (own_below (h.dn i hi (by omega)) hX) f (tag (by decide))
  · intro i hi hij
    rw [List.length_set] at hi
    rw [List.getElem_set_ne (by omega)]
    exact h.td i hi (by omega)
  · have b1 : Below w.heap.size w X := h.lw.trans (hX.mono h.lw.size)
    exact ⟨f.os.trans b1.os, f.tape.trans b1.tape, f.output.trans b1.output, Nat.le_trans b1.size f.size, fun k hk => (f.block k (Nat.lt_of_lt_of_le hk b1.size) (fun e => by have e' : k = g := e; omega)).trans (b1.block k hk)⟩
set_option maxHeartbeats 4000000 in
set_option maxRecDepth 100000 in
theorem own_any (hc : Cc w c cs ra rc wa wc) (hz1 : c.reads.length * 56 ≤ 140737488355328) (hz2 : c.writes.length * 40 ≤ 140737488355328) (hz3 : ∀ r ∈ c.reads, r.seen.length * 24 ≤ 140737488355328) : Calls Try.prog 12 #[.agg cs] w fun e w' => ∃ cs' ra' rc' wa' wc' K, e = .returned (.agg cs') ∧ OwnC w.heap.size w' c cs' ra' rc' wa' wc' K ∧ Below w.heap.size w w' := by
  obtain ⟨zs, hzs⟩ : ∃ zs : Array Value, zs = #[.int .i64 0, .int .i64 0, .int .i64 0, .int .i64 0, .int .i64 0, .int .i64 0, .int .i64 0, .int .i64 0, .slice none 0 0, .slice none 0 0, .int .i64 0, .int .i64 0, .int .i64 0, .int .i64 0, .int .i64 0, .int .i64 0, .string ⟨#[]⟩, .string ⟨#[]⟩, .string ⟨#[]⟩, .string ⟨#[]⟩, .bool false, .int .i64 0, .int .i64 0, .int .i64 0, .string ⟨#[]⟩, .slice none 0 0, .int .i64 0, .int .i64 0, .string ⟨#[]⟩, .int .i64 0] := ⟨_, rfl⟩
  have hzz : zs.size = 30 := by rw [hzs]; rfl
  obtain ⟨W, hW⟩ : ∃ W, W = (w.alloc (.cells cs 47)).alloc (.cells zs 47) := ⟨_, rfl⟩
  obtain ⟨hb, jY, jZ, hZW⟩ := box2 hW
  obtain ⟨Y, hY⟩ : ∃ Y, w.heap.size = Y := ⟨_, rfl⟩
  obtain ⟨Z, hZ⟩ : ∃ Z, Y + 1 = Z := ⟨_, rfl⟩
  rw [hY] at jY jZ hZW
  rw [hZ] at jZ hZW
  obtain ⟨K, hK, hKl, hKs⟩ := pick_reads hc.rl
  have hKn : c.reads.length = K.length := by rw [← hK]; simp
  -- the writes
  have y9 : W.cell? ⟨Y, 9, none⟩ = some (.slice wa c.writes.length wc) := (cell_blk jY 9).trans hc.ws
  have bE1 : Below W.heap.size W (W.alloc (.cells #[] 55)) := (Below.refl _ W).alloc (Nat.le_refl _) _
  obtain ⟨wa1, wc1, V1, hrun1, o1, g1, t1⟩ := run_wr (emptyRow W w.heap.size 55 3 hb.size) (Nat.le_trans hb.size bE1.size) (Lr.src (f := wrL) wrL_len ((hc.wl.on wrE_held hb).on wrE_held bE1)) (wr_one c.writes) (by omega)
  rw [Nat.zero_add, List.nil_append] at o1
  rw [Nat.zero_add] at hrun1
  have b1 : Below W.heap.size W V1 := bE1.grown g1 bE1.size (fun k hk => by have e : W.heap.size = k := Option.some.inj hk; omega)
  have y9V : (W.alloc (.cells #[] 55)).cell? ⟨Y, 9, none⟩ = some (.slice wa c.writes.length wc) := cell_on bE1 y9
  have jY1 := (b1.block Y (blk_lt jY)).trans jY
  have jZ1 := (b1.block Z (blk_lt jZ)).trans jZ
  have p9 : V1.cell? ⟨Y, 9, none⟩ = some (.slice wa c.writes.length wc) := (cell_blk jY1 9).trans hc.ws
  have q9 : V1.frozen? ⟨Y, 9, none⟩ = false := frozen_blk jY1 9
  obtain ⟨V2, hV2⟩ : ∃ V2, V2 = V1.setCell ⟨Y, 9, none⟩ (.slice wa1 c.writes.length wc1) := ⟨_, rfl⟩
  have f2 : Fr V1 V2 (fun k => k = Y) := by rw [hV2]; exact Fr.set (a := ⟨Y, 9, none⟩) (Fr.refl V1 (fun k => k = Y)) (Or.inl rfl) _
  have jY2 : V2.heap[Y]? = some (.cells (cs.setIfInBounds 9 (.slice wa1 c.writes.length wc1)) 47 (0, 0)) := by rw [hV2]; exact set_blk jY1 _
  have jZ2 := (f2.block Z (blk_lt jZ1) (fun e => by have e' : Z = Y := e; omega)).trans jZ1
  have tagY : ∀ {e : TypeId}, e ≠ 47 → ∀ k, k = Y → ∀ cs, V1.heap[k]? ≠ some (.cells cs e (0, 0)) := by
    rintro e q1 k rfl cs hk
    rw [jY1] at hk
    simp only [Option.some.injEq, Obj.cells.injEq] at hk
    exact q1 hk.2.1.symm
  have o2 := keep_rowB o1 f2 (tagY (by decide))
  have bw1 : Below w.heap.size w V1 := hb.trans (b1.mono hb.size)
  have bw2 : Below w.heap.size w V2 := ⟨f2.os.trans bw1.os, f2.tape.trans bw1.tape, f2.output.trans bw1.output, Nat.le_trans bw1.size f2.size, fun k hk => (f2.block k (Nat.lt_of_lt_of_le hk bw1.size) (fun e => by have e' : k = Y := e; omega)).trans (bw1.block k hk)⟩
  -- the reads
  have y8 : V2.cell? ⟨Y, 8, none⟩ = some (.slice ra c.reads.length rc) := (cell_blk jY2 8).trans ((sib_ne (by decide)).trans hc.rs)
  have bE2 : Below V2.heap.size V2 (V2.alloc (.cells #[] 60)) := (Below.refl _ V2).alloc (Nat.le_refl _) _
  have y8V : (V2.alloc (.cells #[] 60)).cell? ⟨Y, 8, none⟩ = some (.slice ra c.reads.length rc) := cell_on bE2 y8
  have hKl2 := (hKl.on (fun _ _ _ _ _ h => h) bw2).on (fun _ _ _ _ _ h => h) bE2
  rw [hKn] at hKl2
  obtain ⟨ra1, rc1, V3, hrun2, o3, g3, t3⟩ := run_rd (emptyRow V2 w.heap.size 60 3 bw2.size) (Nat.le_trans bw2.size bE2.size) (Lr.src (f := grL) grL_len hKl2) (gr_one hKs) (by omega)
  rw [Nat.zero_add, List.nil_append, ← hKn] at o3
  rw [Nat.zero_add, ← hKn] at hrun2
  have b3 : Below V2.heap.size V2 V3 := bE2.grown g3 bE2.size (fun k hk => by have e : V2.heap.size = k := Option.some.inj hk; omega)
  have jY3 := (b3.block Y (blk_lt jY2)).trans jY2
  have jZ3 := (b3.block Z (blk_lt jZ2)).trans jZ2
  have p8 : V3.cell? ⟨Y, 8, none⟩ = some (.slice ra c.reads.length rc) := (cell_blk jY3 8).trans ((sib_ne (by decide)).trans hc.rs)
  have q8 : V3.frozen? ⟨Y, 8, none⟩ = false := frozen_blk jY3 8
  obtain ⟨V4, hV4⟩ : ∃ V4, V4 = V3.setCell ⟨Y, 8, none⟩ (.slice ra1 c.reads.length rc1) := ⟨_, rfl⟩
  have f4 : Fr V3 V4 (fun k => k = Y) := by rw [hV4]; exact Fr.set (a := ⟨Y, 8, none⟩) (Fr.refl V3 (fun k => k = Y)) (Or.inl rfl) _
  have jY4 : V4.heap[Y]? = some (.cells ((cs.setIfInBounds 9 (.slice wa1 c.writes.length wc1)).setIfInBounds 8 (.slice ra1 c.reads.length rc1)) 47 (0, 0)) := by rw [hV4]; exact set_blk jY3 _
  have jZ4 := (f4.block Z (blk_lt jZ3) (fun e => by have e' : Z = Y := e; omega)).trans jZ3
  have tagY3 : ∀ {e : TypeId}, e ≠ 47 → ∀ k, k = Y → ∀ cs, V3.heap[k]? ≠ some (.cells cs e (0, 0)) := by
    rintro e q1 k rfl cs hk
    rw [jY3] at hk
    simp only [Option.some.injEq, Obj.cells.injEq] at hk
    exact q1 hk.2.1.symm
  have bw3 : Below w.heap.size w V3 := bw2.trans (b3.mono bw2.size)
  have bw4 : Below w.heap.size w V4 := ⟨f4.os.trans bw3.os, f4.tape.trans bw3.tape, f4.output.trans bw3.output, Nat.le_trans bw3.size f4.size, fun k hk => (f4.block k (Nat.lt_of_lt_of_le hk bw3.size) (fun e => by have e' : k = Y := e; omega)).trans (bw3.block k hk)⟩
  have H0 : Hid (OJ w c cs Y Z zs ra1 rc1 wa1 wc1 V4 (.int .i64 0)) := ⟨0, K, Nat.zero_le _, rfl, ⟨jY4, jZ4, hK, keep_rowB o3 f4 (tagY3 (by decide)), keep_rowB (own_below o2 b3) f4 (tagY3 (by decide)), fun i _ hi => absurd hi (by omega), fun i hi _ => hKs _ (List.getElem_mem hi), bw4⟩⟩
  have hcs8 : ((cs.setIfInBounds 9 (.slice wa1 c.writes.length wc1)).setIfInBounds 8 (.slice ra1 c.reads.length rc1))[8]? = some (.slice ra1 c.reads.length rc1) := sib_eq (by simp [hc.sz])
  have z8 : V4.cell? ⟨Y, 8, none⟩ = some (.slice ra1 c.reads.length rc1) := (cell_blk jY4 8).trans hcs8
  have hmx : (c.reads.length : Int) ≤ 9223372036854775807 := by omega
  have HCC := Lib.hid hc
  have HW : Hid (W = (w.alloc (.cells cs 47)).alloc (.cells #[.int .i64 0, .int .i64 0, .int .i64 0, .int .i64 0, .int .i64 0, .int .i64 0, .int .i64 0, .int .i64 0, .slice none 0 0, .slice none 0 0, .int .i64 0, .int .i64 0, .int .i64 0, .int .i64 0, .int .i64 0, .int .i64 0, .string ⟨#[]⟩, .string ⟨#[]⟩, .string ⟨#[]⟩, .string ⟨#[]⟩, .bool false, .int .i64 0, .int .i64 0, .int .i64 0, .string ⟨#[]⟩, .slice none 0 0, .int .i64 0, .int .i64 0, .string ⟨#[]⟩, .int .i64 0] 47)) := by rw [← hzs]; exact hW
  have HY := Lib.hid hY
  have HZ := Lib.hid hZ
  have HV2 := Lib.hid hV2
  have HV4 := Lib.hid hV4
  have H8 := Lib.hid hcs8
  have HZZ := Lib.hid hzz
  clear t1 t3 hW hb jY jZ hZW hK hKl hKs hKn y9 bE1 o1 g1 b1 jY1 jZ1 f2 jY2 jZ2 tagY o2 bw1 bw2 y8 bE2 hKl2 o3 g3 b3 jY3 jZ3 f4 jY4 jZ4 tagY3 bw3 bw4 hcs8 hc hV2 hV4 hY hZ hzz hzs
  obtain ⟨n, hn⟩ : ∃ n, c.reads.length = n := ⟨_, rfl⟩
  obtain ⟨m, hm⟩ : ∃ m, c.writes.length = m := ⟨_, rfl⟩
  have HN := Lib.hid hn
  have HM := Lib.hid hm
  rw [hm] at hrun1 y9V p9
  rw [hn] at hrun2 y8V p8 z8 hmx
  have e2 : V2 = V1.setCell ⟨Y, 9, none⟩ (.slice wa1 m wc1) := by rw [← hm]; exact HV2.out
  have e4 : V4 = V3.setCell ⟨Y, 8, none⟩ (.slice ra1 n rc1) := by rw [← hn]; exact HV4.out
  have HE2 := Lib.hid e2
  have HE4 := Lib.hid e4
  clear hn hm e2 e4
  go_enter Try.func12, Try.ntmps12
  go_upto_region 1 with fail
  rw [← HW.out, HY.out, HZ.out]
  go_upto_region 2 with (at_builtin; refine wpl_run2 _ _ rfl (by simp [Act.eval]) (by simp [Act.eval]) hrun1 ?_)
  rw [← HE2.out]
  go_upto_region 3 with (at_builtin; refine wpl_run2 _ _ rfl (by simp [Act.eval]) (by simp [Act.eval]) hrun2 ?_)
  rw [← HE4.out]
  go_wp2
  go_loopw [17] (fun iv wr => OJ w c cs Y Z zs ra1 rc1 wa1 wc1 wr iv) (fun iv _ => n - (intOf iv).toNat)
  case atStart => exact H0.out
  case round =>
    clear H0 hrun1 hrun2 y9V p9 q9 y8V p8 q8 z8
    obtain ⟨j, K, hj, rfl, ho⟩ := hrel
    obtain ⟨V, rfl⟩ : ∃ V, V = wr := ⟨_, rfl⟩
    have hKn : K.length = n := by rw [← HN.out, ← ho.kr]; simp
    by_cases hlt : j < n
    · have hjK : j < K.length := by omega
      have k0 : (0 : Int) ≤ j := by omega
      have k1 : (j : Int) < n := by omega
      obtain ⟨g, rfl⟩ : ∃ g, ra1 = some ⟨g, 0, none⟩ := by
        rcases ho.rs.2 with ⟨_, q⟩ | ⟨g, cap, cur, hv, _⟩
        · rw [HN.out] at q
          omega
        · cases hv
          exact ⟨g, rfl⟩
      have y8 : V.cell? ⟨Y, 8, none⟩ = some (.slice (some ⟨g, 0, none⟩) n rc1) := by rw [← HN.out]; exact (cell_blk ho.bY 8).trans H8.out
      have hsj := ho.td j hjK (Nat.le_refl _)
      obtain ⟨sa, sc, esv⟩ : ∃ sa sc, K[j].2 = .slice sa K[j].1.seen.length sc := by
        obtain ⟨a, b, e, _⟩ := hsj
        exact ⟨a, b, e⟩
      have c2 : V.cell? ⟨g, j * 3 + 2, none⟩ = some (.slice sa K[j].1.seen.length sc) := by
        rw [ho.rs.cellAt _ (by rw [HN.out]; omega), fl_get grL_len K j hjK 2 (by decide), ← esv]
        rfl
      have hsl : K[j].1.seen.length * 24 ≤ 140737488355328 := hz3 _ (by rw [← ho.kr]; exact List.mem_map_of_mem (List.getElem_mem hjK))
      rw [esv] at hsj
      have hsV := hsj.on smE_held ho.lw
      obtain ⟨sl, hsle⟩ : ∃ sl, K[j].1.seen.length = sl := ⟨_, rfl⟩
      obtain ⟨xs, hxs⟩ : ∃ xs, K[j].1.seen = xs := ⟨_, rfl⟩
      have hgX : ∀ X, Below V.heap.size V X → ∃ u, X.cell? ⟨g, j * 3 + 2, none⟩ = some u ∧ X.frozen? ⟨g, j * 3 + 2, none⟩ = false := fun X hX => by
        obtain ⟨cur, t⟩ := own_tag (own_below ho.rs hX) g rfl
        exact ⟨_, cell_on hX c2, frozen_blk t _⟩
      have HNX : Hid (∀ X ad cap, Below V.heap.size V X → X.ownsRow V.heap.size 82 2 (.slice ad xs.length cap) xs.length (xs.flatMap smL) → OJ w c cs Y Z zs (some ⟨g, 0, none⟩) rc1 wa1 wc1 (X.setCell ⟨g, j * 3 + 2, none⟩ (.slice ad xs.length cap)) (.int .i64 ((j + 1 : Nat) : Int))) := by
        intro X ad cap hX hox
        rw [← hxs] at hox ⊢
        exact ⟨j + 1, _, by rw [HN.out]; omega, rfl, ho.next hjK hX hox⟩
      have HSR : Hid (∀ X, Below V.heap.size V X → Lr smE 2 X xs (.slice sa xs.length sc)) := fun X hX => by
        rw [← hxs]
        exact hsV.on smE_held hX
      rw [hxs] at hsle hsl
      rw [hsle] at hsl
      rw [hxs, hsle] at c2
      have HSL := Lib.hid hsle
      have HGX := Lib.hid hgX
      clear ho hKn hsj hsV esv hxs hgX hjK hsle
      go_upto_region 6 with fail
      refine wp_region_once 10 (fun d X9 => Below V.heap.size V X9 ∧ (d = false → ∀ k, V.heap.size ≤ k → k < X9.heap.size → X9.heap[k]? = some (.cells #[] 82 (0, 0)))) (fun X9 X' => Below X9.heap.size X9 X') (fun X9 X' => Fr X9 X' (fun k => V.heap.size ≤ k)) [
        fun v9 _ => v9 = .pointer (some ⟨Y, 8, none⟩),
        fun v9 _ => v9 = .slice (some ⟨g, 0, none⟩) n rc1,
        fun v9 _ => v9 = .int .i64 (j : Int),
        fun v9 X9 => ∃ b, v9 = .slice (some ⟨b, 0, none⟩) 0 0 ∧ V.heap.size ≤ b ∧ b < X9.heap.size,
        fun v9 _ => v9 = .pointer (some ⟨Y, 8, none⟩),
        fun v9 _ => v9 = .slice (some ⟨g, 0, none⟩) n rc1,
        fun v9 _ => v9 = .int .i64 (j : Int),
        fun v9 _ => v9 = .pointer (some ⟨g, j * 3, none⟩),
        fun v9 _ => v9 = .pointer (some ⟨g, j * 3 + 2, none⟩),
        fun v9 _ => v9 = .slice sa sl sc,
        fun v9 X9 => ∃ ad9 cap9, v9 = .slice ad9 sl cap9 ∧ X9.ownsRow V.heap.size 82 2 (.slice ad9 sl cap9) sl (xs.flatMap smL),
        fun v9 _ => v9 = .pointer (some ⟨g, j * 3, none⟩),
        fun v9 _ => v9 = .pointer (some ⟨g, j * 3 + 2, none⟩)]
        (fun _ X8 => ∃ ad9 cap9 X9, X8 = X9.setCell ⟨g, j * 3 + 2, none⟩ (.slice ad9 sl cap9) ∧ X9.ownsRow V.heap.size 82 2 (.slice ad9 sl cap9) sl (xs.flatMap smL) ∧ Below V.heap.size V X9) rfl (by kernel_rfl) (by kernel_rfl) (by kernel_rfl) (by kernel_rfl) ?st ?stm ?g0 (by decide) ?os ?la ?en
      case st => exact ⟨fun _ _ _ _ h => h, fun _ _ _ _ h => h, fun _ _ _ _ h => h, fun _ _ _ hs ⟨b, e, z1, z2⟩ => ⟨b, e, z1, Nat.lt_of_lt_of_le z2 hs.size⟩, fun _ _ _ _ h => h, fun _ _ _ _ h => h, fun _ _ _ _ h => h, fun _ _ _ _ h => h, fun _ _ _ _ h => h, fun _ _ _ _ h => h, fun _ _ _ hs ⟨x1, x2, e, o1⟩ => ⟨x1, x2, e, own_below o1 hs⟩, fun _ _ _ _ h => h, fun _ _ _ _ h => h, trivial⟩
      case stm => exact ⟨fun _ _ _ _ h => h, fun _ _ _ _ h => h, fun _ _ _ _ h => h, fun _ _ _ hs ⟨b, e, z1, z2⟩ => ⟨b, e, z1, Nat.lt_of_lt_of_le z2 hs.size⟩, fun _ _ _ _ h => h, fun _ _ _ _ h => h, fun _ _ _ _ h => h, fun _ _ _ _ h => h, fun _ _ _ _ h => h, fun _ _ _ _ h => h, fun _ _ _ _ h => h, fun _ _ _ _ h => h, fun _ _ _ _ h => h, trivial⟩
      case g0 => exact ⟨⟨rfl, rfl, rfl, Nat.le_refl _, fun _ _ => rfl⟩, fun _ k k1 k2 => absurd (show k < V.heap.size from k2) (by omega)⟩
      case os =>
        refine ⟨?_, ?_, ?_, ?_, ?_, ?_, ?_, ?_, ?_, ?_, ?_, ?_, ?_, trivial⟩
        · exact ⟨rfl, fun _ ρ X9 d hg ho hc hf hr => Runs.val _ (op_f47_4 (show ρ (.tmp 1) = .pointer (some ⟨Y, 0, none⟩) from ho 1 rfl)) ⟨hg, Below.refl _ _, rfl⟩, fun e => absurd e (by decide)⟩
        · exact ⟨rfl, fun _ ρ X9 d hg ho hc hf hr => Runs.val _ (op_load38 (show ρ (.tmp 20) = .pointer (some ⟨Y, 8, none⟩) from hr 0 20 rfl rfl) (cell_on hg.1 y8)) ⟨hg, Below.refl _ _, rfl⟩, fun e => absurd e (by decide)⟩
        · exact ⟨rfl, fun _ ρ X9 d hg ho hc hf hr => Runs.val _ (op_move (show ρ (.tmp 3) = .int .i64 (j : Int) from ho 3 rfl)) ⟨hg, Below.refl _ _, rfl⟩, fun e => absurd e (by decide)⟩
        · refine ⟨rfl, fun _ ρ X9 d hg ho hc hf hr => ?_, fun e => absurd e (by decide)⟩
          have hb7 : Below X9.heap.size X9 (X9.alloc (.cells #[] 82)) := (Below.refl _ X9).alloc (Nat.le_refl _) _
          exact Runs.val _ op_e58 ⟨⟨hg.1.trans (hb7.mono hg.1.size), fun z k k1 k2 => (by
            by_cases e : k < X9.heap.size
            · exact (hb7.block k e).trans (hg.2 z k k1 e)
            · have e' : k = X9.heap.size := by rw [World.size_alloc] at k2; omega
              rw [e']
              exact heap_alloc_new X9 _)⟩, hb7, X9.heap.size, rfl, hg.1.size, by simp⟩
        · exact ⟨rfl, fun _ ρ X9 d hg ho hc hf hr => Runs.val _ (op_f47_4 (show ρ (.tmp 1) = .pointer (some ⟨Y, 0, none⟩) from ho 1 rfl)) ⟨hg, Below.refl _ _, rfl⟩, fun e => absurd e (by decide)⟩
        · exact ⟨rfl, fun _ ρ X9 d hg ho hc hf hr => Runs.val _ (op_load38 (show ρ (.tmp 24) = .pointer (some ⟨Y, 8, none⟩) from hr 4 24 rfl rfl) (cell_on hg.1 y8)) ⟨hg, Below.refl _ _, rfl⟩, fun e => absurd e (by decide)⟩
        · exact ⟨rfl, fun _ ρ X9 d hg ho hc hf hr => Runs.val _ (op_move (show ρ (.tmp 3) = .int .i64 (j : Int) from ho 3 rfl)) ⟨hg, Below.refl _ _, rfl⟩, fun e => absurd e (by decide)⟩
        · exact ⟨rfl, fun _ ρ X9 d hg ho hc hf hr => Runs.val _ (op_i38 (show ρ (.tmp 25) = .slice (some ⟨g, 0, none⟩) n rc1 from hr 5 25 rfl rfl) (show ρ (.tmp 26) = .int .i64 (j : Int) from hr 6 26 rfl rfl) hlt) ⟨hg, Below.refl _ _, rfl⟩, fun e => absurd e (by decide)⟩
        · exact ⟨rfl, fun _ ρ X9 d hg ho hc hf hr => Runs.val _ (op_f60_1 (show ρ (.tmp 27) = .pointer (some ⟨g, j * 3, none⟩) from hr 7 27 rfl rfl)) ⟨hg, Below.refl _ _, rfl⟩, fun e => absurd e (by decide)⟩
        · exact ⟨rfl, fun _ ρ X9 d hg ho hc hf hr => Runs.val _ (op_load58 (show ρ (.tmp 28) = .pointer (some ⟨g, j * 3 + 2, none⟩) from hr 8 28 rfl rfl) (cell_on hg.1 c2)) ⟨hg, Below.refl _ _, rfl⟩, fun e => absurd e (by decide)⟩
        · refine ⟨rfl, fun e => absurd rfl e, fun _ ρ X9 hg ho hc hf hr => ?_⟩
          obtain ⟨b, e, z1, z2⟩ : ∃ b, (ρ (.tmp 23)) = .slice (some ⟨b, 0, none⟩) 0 0 ∧ V.heap.size ≤ b ∧ b < X9.heap.size := hr 3 23 rfl rfl
          have hblk := hg.2 rfl b z1 z2
          have hemp : X9.ownsRow V.heap.size 82 2 (.slice (some ⟨b, 0, none⟩) 0 0) 0 [] := ⟨by simp, .inr ⟨b, 0, #[], rfl, z1, hblk, Nat.le_refl _, Nat.zero_le _, by simp, by simp⟩⟩
          have hsrc := HSR.out X9 hg.1
          have hsz := HSL.out
          obtain ⟨ad9, cap9, w9, hrun, o9, g9, _⟩ := run_sm hemp hg.1.size (Lr.src (f := smL) smL_len hsrc) (sm_one xs) (by omega)
          rw [Nat.zero_add, hsz] at hrun
          rw [Nat.zero_add, List.nil_append, hsz] at o9
          have f9 : Fr X9 w9 (fun k => V.heap.size ≤ k) := Fr.grown (Fr.refl X9 _) g9 (fun j hj => .inl (by have q : b = j := Option.some.inj hj; show V.heap.size ≤ j; omega))
          have b9 : Below V.heap.size V w9 := ⟨f9.os.trans hg.1.os, f9.tape.trans hg.1.tape, f9.output.trans hg.1.output, Nat.le_trans hg.1.size f9.size, fun k hk => (f9.block k (Nat.lt_of_lt_of_le hk hg.1.size) (fun e => by have e' : V.heap.size ≤ k := e; omega)).trans (hg.1.block k hk)⟩
          exact Runs.val _ (op_appendT e (show ρ (.tmp 29) = .slice sa sl sc from hr 9 29 rfl rfl) hrun) ⟨⟨b9, fun z => by cases z⟩, f9, ad9, cap9, rfl, o9⟩
        · exact ⟨rfl, fun _ ρ X9 d hg ho hc hf hr => Runs.val _ (op_i38 (show ρ (.tmp 21) = .slice (some ⟨g, 0, none⟩) n rc1 from hr 1 21 rfl rfl) (show ρ (.tmp 22) = .int .i64 (j : Int) from hr 2 22 rfl rfl) hlt) ⟨hg, Below.refl _ _, rfl⟩, fun e => absurd e (by decide)⟩
        · exact ⟨rfl, fun _ ρ X9 d hg ho hc hf hr => Runs.val _ (op_f60_1 (show ρ (.tmp 31) = .pointer (some ⟨g, j * 3, none⟩) from hr 11 31 rfl rfl)) ⟨hg, Below.refl _ _, rfl⟩, fun e => absurd e (by decide)⟩
      case la =>
        refine ⟨rfl, fun ρ X9 hg ho hc hf hr => ?_⟩
        obtain ⟨ad9, cap9, e, o1⟩ : ∃ ad9 cap9, (ρ (.tmp 30)) = .slice ad9 sl cap9 ∧ X9.ownsRow V.heap.size 82 2 (.slice ad9 sl cap9) sl (xs.flatMap smL) := hr 10 30 (by decide) rfl
        obtain ⟨u, hu, hz⟩ := HGX.out X9 hg.1
        exact Runs.skips (op_store58 (show ρ (.tmp 32) = .pointer (some ⟨g, j * 3 + 2, none⟩) from hr 12 32 (by decide) rfl) e hu hz) ⟨ad9, cap9, X9, rfl, o1, hg.1⟩
      case en =>
        intro a X9 Xb v9 hF hs hd ho hv9 hr
        obtain ⟨x9, hx, hxt⟩ := act_put hs hd ho
        change a = putAll _ x9 [20, 21, 22, 23, 24, 25, 26, 27, 28, 29, 30, 31, 32] at hx
        simp only [putAll, Act.put, List.setIfInBounds_toArray, List.set_cons_zero, List.set_cons_succ] at hx
        obtain ⟨ad9, cap9, X8, rfl, o8, b8⟩ := hF
        have hsz := HSL.out
        have HF := Lib.hid (HNX.out X8 ad9 cap9 b8 (by rw [hsz]; exact o8))
        rw [hsz] at HF
        clear hs hd ho hr hxt hv9 o8 b8 hsz
        subst hx
        go_wp2
        go_roundw
        case rel => exact HF.out
        case measure => simp [intOf]; omega
    · have hjn : j = n := by have := HN.out; omega
      have k1 : ¬ (j : Int) < n := by omega
      have hld : (Instr.loadAt 47 (.pointer (some ⟨Y, 0, none⟩))).run Try.prog V = .ok (.agg ((cs.setIfInBounds 9 (.slice wa1 c.writes.length wc1)).setIfInBounds 8 (.slice ra1 c.reads.length rc1))) V := load_row ho.bY Try.underlying47 rfl (by rw [Array.size_setIfInBounds, Array.size_setIfInBounds, HCC.out.sz]; exact size47)
      have hkw : c.reads.length = K.length := by rw [hKn, HN.out]
      have rl : Lr rnE 3 V c.reads (.slice ra1 c.reads.length rc1) := Lr.reads ho.kr (by
        have q := ho.rs
        rw [hkw] at q ⊢
        exact Lr.own grL_len q) (fun x hx => by
        obtain ⟨i, hi, rfl⟩ := List.getElem_of_mem hx
        exact Lr.own smL_len (ho.dn i hi (by omega)))
      have hcc := HCC.out.with rl (Lr.own wrL_len ho.ws) rfl
      have HOC : Hid (OwnC w.heap.size V c _ ra1 rc1 wa1 wc1 K) := ⟨hcc, ho.kr, ho.rs, ho.ws, fun x hx => by
        obtain ⟨i, hi, rfl⟩ := List.getElem_of_mem hx
        exact ho.dn i hi (by omega)⟩
      obtain ⟨cs2, hcs2⟩ : ∃ cs2, (cs.setIfInBounds 9 (.slice wa1 c.writes.length wc1)).setIfInBounds 8 (.slice ra1 c.reads.length rc1) = cs2 := ⟨_, rfl⟩
      rw [hcs2] at hld hcc
      have HCS := Lib.hid hcs2
      obtain ⟨X, hXe, jX, fX⟩ := sets_row ho.bZ cs2 (by rw [hcc.sz, HZZ.out])
      have hst : (Instr.storeAt 47 (.pointer (some ⟨Z, 0, none⟩)) (.agg cs2)).run Try.prog V = .ok () X := by
        rw [hXe]
        exact store_row ho.bZ (by rw [hcc.sz, HZZ.out]) (by rw [hcc.sz]; exact size47) hcc.one
      have hZl : w.heap.size ≤ Z := by have := HY.out; have := HZ.out; omega
      have HB : Hid (Below w.heap.size w X) := ⟨fX.os.trans ho.lw.os, fX.tape.trans ho.lw.tape, fX.output.trans ho.lw.output, Nat.le_trans ho.lw.size fX.size, fun k hk => (fX.block k (Nat.lt_of_lt_of_le hk ho.lw.size) (fun e => by have e' : k = Z := e; omega)).trans (ho.lw.block k hk)⟩
      have tagZ : ∀ {e : TypeId}, e ≠ 47 → ∀ k, k = Z → ∀ cs, V.heap[k]? ≠ some (.cells cs e (0, 0)) := by
        rintro e q1 k rfl cs hk
        rw [ho.bZ] at hk
        simp only [Option.some.injEq, Obj.cells.injEq] at hk
        exact q1 hk.2.1.symm
      have HOX : Hid (OwnC w.heap.size X c cs2 ra1 rc1 wa1 wc1 K) := by
        have q := HOC.out
        rw [HCS.out] at q
        have rs' := keep_rowB q.rs fX (tagZ (by decide))
        have ws' := keep_rowB q.ws fX (tagZ (by decide))
        have sn' : ∀ x ∈ K, X.ownsRow w.heap.size 82 2 x.2 x.1.seen.length (x.1.seen.flatMap smL) := fun x hx => keep_rowB (q.sn x hx) fX (tagZ (by decide))
        have rl' : Lr rnE 3 X c.reads (.slice ra1 c.reads.length rc1) := Lr.reads q.kr (by
          have z := rs'
          rw [hkw] at z ⊢
          exact Lr.own grL_len z) (fun x hx => Lr.own smL_len (sn' x hx))
        have d := q.cc
        exact ⟨⟨d.sz, d.one, d.k, d.t0, d.t1, d.t2, d.hm, d.rs, d.ws, d.mn, d.til, d.ts, rl', Lr.own wrL_len ws'⟩, q.kr, rs', ws', sn'⟩
      have HJX := Lib.hid jX
      have HSZ : Hid (cs2.size = 30) := Lib.hid hcc.sz
      clear ho hKn hkw rl hcc hcs2 hXe jX fX hZl tagZ hjn
      go_wp2_with (first | refine wpl_load _ rfl (by simp [Act.eval]) hld ?_ | refine wpl_store _ _ rfl (by simp [Act.eval, Act.put]) (by simp [Act.eval, Act.put]) hst ?_)
      refine bodyPost_ret (results_one Try.results12 rfl (load_var HJX.out Try.underlying47 rfl (by rw [HSZ.out]; exact size47))) rfl ?_
      exact ⟨cs2, rfl, ⟨_, _, _, _, _, HOX.out⟩, HB.out⟩
end
end Go.Proofs.Ytcoaahlakkghhaa
