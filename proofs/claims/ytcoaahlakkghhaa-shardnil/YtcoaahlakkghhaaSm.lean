/- What a record more, a transaction more that is over, leave of the shard in memory. -/
import Derived.Test.YtcoaahlakkghhaaSl
namespace Go.Proofs.Ytcoaahlakkghhaa
open Go.RowKit
section
variable {w w' : World} {A : Nat} {S1 S2 T : Nat → Prop} {s : Sh} {P M N : Nat} {G : List Gl} {lv rv ov rv' : Value}
/-- Rows stay where what is written bears another type. -/
theorem keep_row {e : TypeId} {c n : Nat} {v : Value} {xs : List Value} (hr : w.ownsRow 0 e c v n xs) (hf : Fr w w' T) (ht : ∀ k, T k → ∀ cs, w.heap[k]? ≠ some (.cells cs e (0, 0))) : w'.ownsRow 0 e c v n xs :=
  row_keep hr hf (fun j hj q => by
    obtain ⟨cs, t⟩ := own_tag hr j hj
    exact ht j q cs t)
/-- The shard's own cell, a row of things of type e, a map. -/
def Three (A : Nat) (v : Value) (M : Nat) : Nat → Prop := fun k => k = A ∨ v.ownBlock = some k ∨ k = M
theorem three_tag {e e' : TypeId} {c n : Nat} {v : Value} {xs cA : List Value} {es : Array MapEntry} {cl : Nat} (hA : w.heap[A]? = some (.cells cA.toArray 92 (0, 0))) (hv : w.ownsRow 0 e' c v n xs) (hM : w.heap[M]? = some (.map es cl)) (h1 : e ≠ 92) (h2 : e ≠ e') : ∀ k, Three A v M k → ∀ cs, w.heap[k]? ≠ some (.cells cs e (0, 0)) := by
  rintro k (rfl | q | rfl) cs hk
  · rw [hA] at hk
    simp only [Option.some.injEq, Obj.cells.injEq] at hk
    exact h1 hk.2.1.symm
  · obtain ⟨cs', t⟩ := own_tag hv k q
    rw [t] at hk
    simp only [Option.some.injEq, Obj.cells.injEq] at hk
    exact h2 hk.2.1.symm
  · rw [hM] at hk
    cases hk
theorem Sx.enter (h : Sx w A S1 S2 s P M N G lv rv ov) {r : Rc} (hn : recOf s.recs r.1 = none) (hf : Fr w w' (Three A rv M))
    (hob : w'.heap[A]? = some (.cells #[.pointer (some ⟨P, 0, none⟩), lv, rv', .map (some M), ov, .map (some N), .int .i64 s.high] 92 (0, 0)))
    (ho : w'.ownsRow 0 101 4 rv' (s.recs.length + 1) ((s.recs ++ [r]).flatMap rcL)) (hb : ∀ j, rv'.ownBlock = some j → rv.ownBlock = some j ∨ w.heap.size ≤ j)
    (hm : Mt w' M (s.recs.length + 1) (fun t => if t = r.1 then some (.int .i64 r.2) else (recOf s.recs t).map (fun n => .int .i64 n))) (hfew : s.recs.length < 800000) :
    Sx w' A S1 (Gro S2 w w') { s with recs := s.recs ++ [r] } P M N G lv rv' ov ∧ Fr w w' S2 := by
  obtain ⟨es, cl, hM⟩ := h.tm.isMap
  obtain ⟨es2, cl2, hN⟩ := h.en.isMap
  have tag : ∀ {e : TypeId}, e ≠ 92 → e ≠ 101 → ∀ k, Three A rv M k → ∀ cs, w.heap[k]? ≠ some (.cells cs e (0, 0)) := fun h1 h2 => three_tag (cA := [.pointer (some ⟨P, 0, none⟩), lv, rv, .map (some M), ov, .map (some N), .int .i64 s.high]) h.ob h.rcs hM h1 h2
  have hT : ∀ k, Three A rv M k → S2 k := by
    rintro k (rfl | q | rfl)
    · exact h.cA
    · exact h.cr k q
    · exact h.cM
  have hNT : ¬ Three A rv M N := by
    rintro (q | q | q)
    · rw [q, h.ob] at hN
      cases hN
    · obtain ⟨cs, t⟩ := own_tag h.rcs N q
      rw [hN] at t
      cases t
    · exact h.mn q.symm
  refine ⟨{ ob := hob, st := h.st.stays hf (fun k hk q => h.off k hk (hT k q)), lks := keep_row h.lks hf (tag (by decide) (by decide)), gl := h.gl,
            sp := fun g hg => keep_row (h.sp g hg) hf (tag (by decide) (by decide)), wr := fun g hg => keep_row (h.wr g hg) hf (tag (by decide) (by decide)),
            rcs := ?_, ovs := keep_row h.ovs hf (tag (by decide) (by decide)), tm := ?_, en := h.en.like (hf.block N (h.lt N h.cN) hNT), mn := h.mn,
            cA := .inl h.cA, cM := .inl h.cM, cN := .inl h.cN, cl := fun k hk => .inl (h.cl k hk), cr := fun k hk => ?_, co := fun k hk => .inl (h.co k hk),
            cs := fun g hg k hk => .inl (h.cs g hg k hk), cw := fun g hg k hk => .inl (h.cw g hg k hk), lt := fun k hk => ?_, off := fun k h1 h2 => ?_, fl := h.fl, fr := ?_, fo := h.fo }, hf.mono hT⟩
  · show w'.ownsRow 0 101 4 rv' (s.recs ++ [r]).length _
    rw [List.length_append]
    exact ho
  · have e : (fun t => (recOf (s.recs ++ [r]) t).map (fun n => Value.int .i64 n)) = (fun t => if t = r.1 then some (Value.int .i64 r.2) else (recOf s.recs t).map (fun n => Value.int .i64 n)) := by
      funext t
      rw [show (r : Rc) = (r.1, r.2) from rfl, recOf_snoc _ _ _ hn]
      split <;> rfl
    show Mt w' M (s.recs ++ [r]).length _
    rw [List.length_append]
    rw [e]
    exact hm
  · rcases hb k hk with q | q
    · exact .inl (h.cr k q)
    · exact .inr ⟨q, (ho.lt k hk).2⟩
  · rcases hk with q | q
    · exact Nat.lt_of_lt_of_le (h.lt k q) hf.size
    · exact q.2
  · rcases h2 with q | q
    · exact h.off k h1 q
    · have := h.st.lt k h1
      omega
  · show (s.recs ++ [r]).length ≤ 800000
    rw [List.length_append]
    show s.recs.length + 1 ≤ 800000
    omega
theorem Sx.ends (h : Sx w A S1 S2 s P M N G lv rv ov) {t : Td} (hf : Fr w w' (Three A ov N))
    (hob : w'.heap[A]? = some (.cells #[.pointer (some ⟨P, 0, none⟩), lv, rv, .map (some M), rv', .map (some N), .int .i64 s.high] 92 (0, 0)))
    (ho : w'.ownsRow 0 37 3 rv' (s.over.length + 1) ((s.over ++ [t]).flatMap tdL)) (hb : ∀ j, rv'.ownBlock = some j → ov.ownBlock = some j ∨ w.heap.size ≤ j)
    (hm : Mt w' N (s.over.length + 1) (fun x => if x = t then some (.agg #[]) else if x ∈ s.over then some (.agg #[]) else none)) (hfew : s.over.length < 800000) :
    Sx w' A S1 (Gro S2 w w') { s with over := s.over ++ [t] } P M N G lv rv rv' ∧ Fr w w' S2 := by
  obtain ⟨es, cl, hM⟩ := h.tm.isMap
  obtain ⟨es2, cl2, hN⟩ := h.en.isMap
  have tag : ∀ {e : TypeId}, e ≠ 92 → e ≠ 37 → ∀ k, Three A ov N k → ∀ cs, w.heap[k]? ≠ some (.cells cs e (0, 0)) := fun h1 h2 => three_tag (cA := [.pointer (some ⟨P, 0, none⟩), lv, rv, .map (some M), ov, .map (some N), .int .i64 s.high]) h.ob h.ovs hN h1 h2
  have hT : ∀ k, Three A ov N k → S2 k := by
    rintro k (rfl | q | rfl)
    · exact h.cA
    · exact h.co k q
    · exact h.cN
  have hNT : ¬ Three A ov N M := by
    rintro (q | q | q)
    · rw [q, h.ob] at hM
      cases hM
    · obtain ⟨cs, t⟩ := own_tag h.ovs M q
      rw [hM] at t
      cases t
    · exact h.mn q
  refine ⟨{ ob := hob, st := h.st.stays hf (fun k hk q => h.off k hk (hT k q)), lks := keep_row h.lks hf (tag (by decide) (by decide)), gl := h.gl,
            sp := fun g hg => keep_row (h.sp g hg) hf (tag (by decide) (by decide)), wr := fun g hg => keep_row (h.wr g hg) hf (tag (by decide) (by decide)),
            rcs := keep_row h.rcs hf (tag (by decide) (by decide)), ovs := ?_, tm := h.tm.like (hf.block M (h.lt M h.cM) hNT), en := ?_, mn := h.mn,
            cA := .inl h.cA, cM := .inl h.cM, cN := .inl h.cN, cl := fun k hk => .inl (h.cl k hk), cr := fun k hk => .inl (h.cr k hk), co := fun k hk => ?_,
            cs := fun g hg k hk => .inl (h.cs g hg k hk), cw := fun g hg k hk => .inl (h.cw g hg k hk), lt := fun k hk => ?_, off := fun k h1 h2 => ?_, fl := h.fl, fr := h.fr, fo := ?_ }, hf.mono hT⟩
  · show w'.ownsRow 0 37 3 rv' (s.over ++ [t]).length _
    rw [List.length_append]
    exact ho
  · have e : (fun x => if x ∈ s.over ++ [t] then some (Value.agg #[]) else none) = (fun x => if x = t then some (Value.agg #[]) else if x ∈ s.over then some (Value.agg #[]) else none) := by
      funext x
      by_cases q : x = t
      · simp [q]
      · by_cases q2 : x ∈ s.over <;> simp [q, q2]
    show Mt w' N (s.over ++ [t]).length _
    rw [List.length_append]
    rw [e]
    exact hm
  · rcases hb k hk with q | q
    · exact .inl (h.co k q)
    · exact .inr ⟨q, (ho.lt k hk).2⟩
  · rcases hk with q | q
    · exact Nat.lt_of_lt_of_le (h.lt k q) hf.size
    · exact q.2
  · rcases h2 with q | q
    · exact h.off k h1 q
    · have := h.st.lt k h1
      omega
  · show (s.over ++ [t]).length ≤ 800000
    rw [List.length_append]
    show s.over.length + 1 ≤ 800000
    omega
end
end Go.Proofs.Ytcoaahlakkghhaa
