/- A command with lists of its own: rows of reads. -/
import Derived.Test.YtcoaahlakkghhaaTd
namespace Go.Proofs.Ytcoaahlakkghhaa
open Go.RowKit
section
variable {ρ : Operand → Value} {X : World} {d : Option Tmp} {ty : TypeId} {ps : String} {af : Array Edge} {g : Option (Nat × Bool)}
theorem op_f47_4 {x : Operand} {B o : Nat} (e : ρ x = .pointer (some ⟨B, o, none⟩)) : (execOp ρ ⟨d, .fieldAddr 47 x 4, ty, ps, af, g⟩).run Try.prog X = .ok (.value (.pointer (some ⟨B, o + 8, none⟩))) X := by
  simp only [execOp, e]
  go_simp
theorem op_i38 {x y : Operand} {B n m i : Nat} (e : ρ x = .slice (some ⟨B, 0, none⟩) n m) (e2 : ρ y = .int .i64 (i : Int)) (h : i < n) : (execOp ρ ⟨d, .indexAddr 38 x y, ty, ps, af, g⟩).run Try.prog X = .ok (.value (.pointer (some ⟨B, i * 3, none⟩))) X := by
  have k0 : (0 : Int) ≤ (i : Int) := by omega
  have k1 : (i : Int) < (n : Int) := by omega
  simp only [execOp, e, e2]
  go_simp
theorem op_e58 : (execOp ρ ⟨d, .buildSlice 58 0 #[], ty, ps, af, g⟩).run Try.prog X = .ok (.value (.slice (some ⟨X.heap.size, 0, none⟩) 0 0)) (X.alloc (.cells #[] 82)) := by
  simp only [execOp]
  go_simp
theorem op_store58 {x y : Operand} {B i : Nat} {a : Option Addr} {n m : Nat} {u : Value} (e : ρ x = .pointer (some ⟨B, i, none⟩)) (e2 : ρ y = .slice a n m) (c : X.cell? ⟨B, i, none⟩ = some u) (z : X.frozen? ⟨B, i, none⟩ = false) : (execOp ρ ⟨d, .store 58 x y, ty, ps, af, g⟩).run Try.prog X = .ok .skip (X.setCell ⟨B, i, none⟩ (.slice a n m)) := by
  simp only [execOp, e, e2]
  go_simp
end
theorem info_rd : (Try.prog.info? 60).map (fun i => (i.zero, i.size, i.bytes)) = some (some (.agg #[.string ⟨#[]⟩, .string ⟨#[]⟩, .slice none 0 0]), 3, 56) := by kernel_rfl
theorem run_rd {w : World} {v : Value} {base n m c : Nat} {xs news : List Value} {ad : Option Addr} (ho : w.ownsRow base 60 3 v n xs) (hb : base ≤ w.heap.size) (hs : (ad = none ∧ m = 0 ∧ c = 0 ∧ news = []) ∨ ∃ a, ad = some a ∧ news.length = m * 3 ∧ (∀ j u, news[j]? = some u → w.cell? (a.add j) = some u))
    (h1 : ∀ u ∈ news, u.oneCell' = true) (hnm : (n + m) * 56 ≤ 140737488355328) : ∃ ad' cap' w', (Builtin.append_ #[38, 38] 38 #[v, .slice ad m c]).run Try.prog w = .ok (.slice ad' (n + m) cap') w' ∧ w'.ownsRow base 60 3 (.slice ad' (n + m) cap') (n + m) (xs ++ news) ∧ w.grownBy w' v.ownBlock ∧ ((Value.slice ad' (n + m) cap').ownBlock = v.ownBlock ∨ (Value.slice ad' (n + m) cap').ownBlock = some w.heap.size) := by
  obtain ⟨i0, hi, hz0, hz1, hz2⟩ := info_parts info_rd
  rcases hs with ⟨rfl, rfl, rfl, rfl⟩ | ⟨a, rfl, hl, hc⟩
  · obtain ⟨ad', cap', rfl⟩ := own_shape ho
    refine ⟨ad', cap', w, ?_, by simpa using ho, ⟨rfl, rfl, rfl, Nat.le_refl _, fun _ _ _ => rfl⟩, .inl rfl⟩
    exact run_append_owned_none (P := Try.prog) (w := w) base 38 38 60 i0 3 Try.underlying38 hi _ n xs ho
  · obtain ⟨v', w', hr, ho', hg, _, hat⟩ := run_append_own_at (P := Try.prog) (w := w) base 38 38 60 i0 _ 3 56 Try.underlying38 hi hz0 hz1 hz2 rfl (by decide) v n xs ho a m c news hl hc h1 (by unfold maxLen; omega) hnm hb
    obtain ⟨ad', cap', rfl⟩ := own_shape ho'
    exact ⟨ad', cap', w', hr, ho', hg, hat⟩
theorem info_sm : (Try.prog.info? 82).map (fun i => (i.zero, i.size, i.bytes)) = some (some (.agg #[.string ⟨#[]⟩, .int .i64 0]), 2, 24) := by kernel_rfl
theorem run_sm {w : World} {v : Value} {base n m c : Nat} {xs news : List Value} {ad : Option Addr} (ho : w.ownsRow base 82 2 v n xs) (hb : base ≤ w.heap.size) (hs : (ad = none ∧ m = 0 ∧ c = 0 ∧ news = []) ∨ ∃ a, ad = some a ∧ news.length = m * 2 ∧ (∀ j u, news[j]? = some u → w.cell? (a.add j) = some u))
    (h1 : ∀ u ∈ news, u.oneCell' = true) (hnm : (n + m) * 24 ≤ 140737488355328) : ∃ ad' cap' w', (Builtin.append_ #[58, 58] 58 #[v, .slice ad m c]).run Try.prog w = .ok (.slice ad' (n + m) cap') w' ∧ w'.ownsRow base 82 2 (.slice ad' (n + m) cap') (n + m) (xs ++ news) ∧ w.grownBy w' v.ownBlock ∧ ((Value.slice ad' (n + m) cap').ownBlock = v.ownBlock ∨ (Value.slice ad' (n + m) cap').ownBlock = some w.heap.size) := by
  obtain ⟨i0, hi, hz0, hz1, hz2⟩ := info_parts info_sm
  rcases hs with ⟨rfl, rfl, rfl, rfl⟩ | ⟨a, rfl, hl, hc⟩
  · obtain ⟨ad', cap', rfl⟩ := own_shape ho
    refine ⟨ad', cap', w, ?_, by simpa using ho, ⟨rfl, rfl, rfl, Nat.le_refl _, fun _ _ _ => rfl⟩, .inl rfl⟩
    exact run_append_owned_none (P := Try.prog) (w := w) base 58 58 82 i0 2 Try.underlying58 hi _ n xs ho
  · obtain ⟨v', w', hr, ho', hg, _, hat⟩ := run_append_own_at (P := Try.prog) (w := w) base 58 58 82 i0 _ 2 24 Try.underlying58 hi hz0 hz1 hz2 rfl (by decide) v n xs ho a m c news hl hc h1 (by unfold maxLen; omega) hnm hb
    obtain ⟨ad', cap', rfl⟩ := own_shape ho'
    exact ⟨ad', cap', w', hr, ho', hg, hat⟩
abbrev Gr := Rn × Value
abbrev grL (g : Gr) : List Value := [.string g.1.span.lo, .string g.1.span.hi, g.2]
theorem grL_len (g : Gr) : (grL g).length = 3 := rfl
theorem pick_reads {w : World} {L : List Rn} {v : Value} (h : Lr rnE 3 w L v) : ∃ K : List Gr, K.map Prod.fst = L ∧ Lr (fun _ x cs => cs = grL x) 3 w K v ∧ ∀ g ∈ K, Lr smE 2 w g.1.seen g.2 := by
  obtain ⟨ad, cap, rfl, h0, h1, h2, h3⟩ := h
  have hex : ∀ i : Fin L.length, ∃ u : Value, Lr smE 2 w L[i].seen u ∧ ∃ b o, ad = some ⟨b, o, none⟩ ∧ b < w.heap.size ∧ ∀ j x, (grL (L[i], u))[j]? = some x → w.cell? ⟨b, o + i.1 * 3 + j, none⟩ = some x := fun i => by
    obtain ⟨b, o, cs, ha, hl, ⟨sa, sc, rfl, hs⟩, _, hh⟩ := h3 i.1 i.2
    exact ⟨_, hs, b, o, ha, hl, hh⟩
  obtain ⟨f, hf⟩ := Classical.axiomOfChoice hex
  refine ⟨List.ofFn (fun i : Fin L.length => (L[i], f i)), ?_, ⟨ad, cap, by rw [List.length_ofFn], h0, by rw [List.length_ofFn]; exact h1, h2, fun i hi => ?_⟩, fun g hg => ?_⟩
  · apply List.ext_getElem
    · simp
    · intro i h1 h2
      simp
  · have hi' : i < L.length := by rw [List.length_ofFn] at hi; exact hi
    obtain ⟨_, b, o, ha, hl, hh⟩ := hf ⟨i, hi'⟩
    exact ⟨b, o, grL (L[i], f ⟨i, hi'⟩), ha, hl, by simp, rfl, hh⟩
  · rw [List.mem_ofFn] at hg
    obtain ⟨i, rfl⟩ := hg
    exact (hf i).1
theorem Lr.reads {w : World} {K : List Gr} {L : List Rn} {v : Value} (hK : K.map Prod.fst = L) (h : Lr (fun _ x cs => cs = grL x) 3 w K v) (hs : ∀ g ∈ K, Lr smE 2 w g.1.seen g.2) : Lr rnE 3 w L v := by
  subst hK
  obtain ⟨ad, cap, rfl, h0, h1, h2, h3⟩ := h
  refine ⟨ad, cap, by rw [List.length_map], h0, by rw [List.length_map]; exact h1, h2, fun i hi => ?_⟩
  have hi' : i < K.length := by rw [List.length_map] at hi; exact hi
  obtain ⟨b, o, cs, ha, hl, hE, hc, hh⟩ := h3 i hi'
  have hE' : cs = grL K[i] := hE
  have hsi := hs K[i] (List.getElem_mem hi')
  obtain ⟨sa, sc, e, _⟩ := hsi
  refine ⟨b, o, cs, ha, hl, ?_, hc, hh⟩
  rw [List.getElem_map, hE']
  refine ⟨sa, sc, ?_, ?_⟩
  · show [_, _, K[i].2] = _
    rw [e]
  · rw [← e]
    exact hs K[i] (List.getElem_mem hi')
theorem gr_set : ∀ (K : List Gr) (i : Nat) (hi : i < K.length) (u : Value), (K.flatMap grL).set (i * 3 + 2) u = (K.set i (K[i].1, u)).flatMap grL
  | [], _, hi, _ => absurd hi (by simp)
  | x :: K, 0, _, u => rfl
  | x :: K, i + 1, hi, u => by
    have hi' : i < K.length := by simpa using hi
    have e := gr_set K i hi' u
    show (_ :: _ :: _ :: K.flatMap grL).set ((i + 1) * 3 + 2) u = _ :: _ :: _ :: (K.set i (K[i].1, u)).flatMap grL
    rw [show (i + 1) * 3 + 2 = (i * 3 + 2) + 1 + 1 + 1 from by omega]
    simp only [List.set_cons_succ]
    rw [e]
theorem row_setc {w : World} {base g cap n c : Nat} {e : TypeId} {xs : List Value} (h : w.ownsRow base e c (.slice (some ⟨g, 0, none⟩) n cap) n xs) (j : Nat) (u : Value) : (w.setCell ⟨g, j, none⟩ u).ownsRow base e c (.slice (some ⟨g, 0, none⟩) n cap) n (xs.set j u) := by
  rcases h.2 with ⟨hv, _⟩ | ⟨g', cap', cur, hv, h0, hg, h1, h2, h3, h4⟩
  · cases hv
  · cases hv
    refine ⟨by rw [List.length_set]; exact h.1, .inr ⟨g, cap, cur.setIfInBounds j u, rfl, h0, set_blk hg u, h1, h2, by simp [h3], ?_⟩⟩
    rw [Array.toList_setIfInBounds, List.take_set, h4]
theorem keep_rowB {w w' : World} {B : Nat} {T : Nat → Prop} {e : TypeId} {c n : Nat} {v : Value} {xs : List Value} (hr : w.ownsRow B e c v n xs) (hf : Fr w w' T) (ht : ∀ k, T k → ∀ cs, w.heap[k]? ≠ some (.cells cs e (0, 0))) : w'.ownsRow B e c v n xs :=
  row_keep hr hf (fun j hj q => by
    obtain ⟨cs, t⟩ := own_tag hr j hj
    exact ht j q cs t)
theorem sib_ne {cs : Array Value} {i j : Nat} {v : Value} (h : i ≠ j) : (cs.setIfInBounds i v)[j]? = cs[j]? := Array.getElem?_setIfInBounds_ne h
theorem sib_eq {cs : Array Value} {i : Nat} {v : Value} (h : i < cs.size) : (cs.setIfInBounds i v)[i]? = some v := by simp [h]
theorem sib_one {cs : Array Value} {i : Nat} {v : Value} (h : cs.all (·.oneCell') = true) (hv : v.oneCell' = true) : (cs.setIfInBounds i v).all (·.oneCell') = true := by
  rw [Array.all_eq_true] at h ⊢
  intro j hj
  rw [Array.size_setIfInBounds] at hj
  rw [Array.getElem_setIfInBounds]
  split
  · exact hv
  · exact h j hj
/-- A command whose lists lie in memory of its own, from N on. -/
structure OwnC (N : Nat) (w : World) (c : Cm) (cs : Array Value) (ra : Option Addr) (rc : Nat) (wa : Option Addr) (wc : Nat) (K : List Gr) : Prop where
  cc : Cc w c cs ra rc wa wc
  kr : K.map Prod.fst = c.reads
  rs : w.ownsRow N 60 3 (.slice ra c.reads.length rc) c.reads.length (K.flatMap grL)
  ws : w.ownsRow N 55 3 (.slice wa c.writes.length wc) c.writes.length (c.writes.flatMap wrL)
  sn : ∀ g ∈ K, w.ownsRow N 82 2 g.2 g.1.seen.length (g.1.seen.flatMap smL)
section
variable {w w' : World} {N : Nat} {S : Nat → Prop} {c : Cm} {cs cs' : Array Value} {ra wa ra' wa' : Option Addr} {rc wc rc' wc' : Nat} {K : List Gr}
theorem Cc.with (h : Cc w c cs ra rc wa wc) (hr : Lr rnE 3 w' c.reads (.slice ra' c.reads.length rc')) (hw : Lr wrE 3 w' c.writes (.slice wa' c.writes.length wc')) (e : cs' = (cs.setIfInBounds 9 (.slice wa' c.writes.length wc')).setIfInBounds 8 (.slice ra' c.reads.length rc')) : Cc w' c cs' ra' rc' wa' wc' := by
  have n8 : ∀ j, 8 ≠ j → 9 ≠ j → cs'[j]? = cs[j]? := fun j h1 h2 => by rw [e, sib_ne h1, sib_ne h2]
  have hz := h.sz
  exact {
    sz := by rw [e]; simp [hz]
    one := by rw [e]; exact sib_one (sib_one h.one rfl) rfl
    k := by rw [n8 0 (by decide) (by decide)]; exact h.k
    t0 := by rw [n8 4 (by decide) (by decide)]; exact h.t0
    t1 := by rw [n8 5 (by decide) (by decide)]; exact h.t1
    t2 := by rw [n8 6 (by decide) (by decide)]; exact h.t2
    hm := by rw [n8 7 (by decide) (by decide)]; exact h.hm
    rs := by rw [e]; exact sib_eq (by simp [hz])
    ws := by rw [e, sib_ne (by decide)]; exact sib_eq (by rw [hz]; decide)
    mn := by rw [n8 10 (by decide) (by decide)]; exact h.mn
    til := by rw [n8 11 (by decide) (by decide)]; exact h.til
    ts := by rw [n8 12 (by decide) (by decide)]; exact h.ts
    rl := hr
    wl := hw }
theorem OwnC.stays (h : OwnC N w c cs ra rc wa wc K) (hf : Fr w w' S) (hS : ∀ k, S k → k < N) : OwnC N w' c cs ra rc wa wc K := by
  have kp : ∀ {e : TypeId} {m n : Nat} {v : Value} {xs : List Value}, w.ownsRow N e m v n xs → w'.ownsRow N e m v n xs := fun hr => row_keep hr hf (fun j hj q => by
    have := (hr.lt j hj).1
    have := hS j q
    omega)
  have hl : c.reads.length = K.length := by rw [← h.kr]; simp
  have rs' := kp h.rs
  have rl : Lr rnE 3 w' c.reads (.slice ra c.reads.length rc) := Lr.reads h.kr (by rw [hl] at rs' ⊢; exact Lr.own grL_len rs') (fun g hg => Lr.own smL_len (kp (h.sn g hg)))
  exact ⟨⟨h.cc.sz, h.cc.one, h.cc.k, h.cc.t0, h.cc.t1, h.cc.t2, h.cc.hm, h.cc.rs, h.cc.ws, h.cc.mn, h.cc.til, h.cc.ts, rl, Lr.own wrL_len (kp h.ws)⟩, h.kr, rs', kp h.ws, fun g hg => kp (h.sn g hg)⟩
theorem OwnC.apart (h : OwnC N w c cs ra rc wa wc K) (hS : ∀ k, S k → k < N) : Apart w S c cs ra rc wa wc := fun _ hX => (h.stays hX hS).cc
end
end Go.Proofs.Ytcoaahlakkghhaa
