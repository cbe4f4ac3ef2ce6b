import Derived.Test.YtkfnphhoebknnaaQBg
namespace Go.Proofs.Ytkfnphhoebknnaa
open Go.RowKit
theorem wpl_run {P : Program} {w w' : World} {ops : Array Oper} {rest : List Oper} {o : Oper} {a : Act} {Q : Exit → Act → World → Prop} {t u ty : TypeId} {v' : Value} {ds : Option Tmp} {ps : String} {af : Array Edge} (s x : Operand)
    (ho : o = ⟨ds, .call { callee := .builtin .append, args := #[s, x], argTypes := #[t, u] }, ty, ps, af, none⟩) (hrun : (Builtin.append_ #[t, u] ty #[a.eval s, a.eval x]).run P w = .ok v' w')
    (h : wpList P ops Q rest (a.put ds v') w') : wpList P ops Q (o :: rest) a w := by
  subst ho
  refine wpList_plain rfl fun K hK => ?_
  unfold Oper.wp execOp
  simp only [resolve, invoke, builtin, Sem.run_bind, Sem.run_pure, Result.andThen_ok, List.map_toArray, List.map_cons, List.map_nil, hrun]
  exact hK _ _ h
theorem wpl_run2 {P : Program} {w w' : World} {ops : Array Oper} {rest : List Oper} {o : Oper} {a : Act} {Q : Exit → Act → World → Prop} {t u ty : TypeId} {v1 v2 v' : Value} {ds : Option Tmp} {ps : String} {af : Array Edge} (s x : Operand)
    (ho : o = ⟨ds, .call { callee := .builtin .append, args := #[s, x], argTypes := #[t, u] }, ty, ps, af, none⟩) (hs : a.eval s = v1) (hx : a.eval x = v2) (hrun : (Builtin.append_ #[t, u] ty #[v1, v2]).run P w = .ok v' w')
    (h : wpList P ops Q rest (a.put ds v') w') : wpList P ops Q (o :: rest) a w := by
  subst hs
  subst hx
  exact wpl_run s x ho hrun h
section
variable {w : World}
/-- One more behind a row. -/
theorem pushC {X : World} {l : List Col} {v : Value} (ho : X.ownsRow 0 65 7 v l.length (l.flatMap colL)) (x : Col) (hz : l.length ≤ 1000000) :
    ∃ ad cap w', (Builtin.append_ #[42, 42] 42 #[v, .slice (some ⟨X.heap.size, 0, none⟩) 1 1]).run Try.prog (X.alloc (.cells (colA x) 65)) = .ok (.slice ad (l.length + 1) cap) w' ∧ w'.ownsRow 0 65 7 (.slice ad (l.length + 1) cap) (l ++ [x]).length ((l ++ [x]).flatMap colL) ∧ Fr X w' (fun k => v.ownBlock = some k) ∧ (∀ k, (Value.slice ad (l.length + 1) cap).ownBlock = some k → v.ownBlock = some k ∨ X.heap.size ≤ k) := by
  have hal := bnew X (.cells (colA x) 65)
  have hj := heap_alloc_new X (.cells (colA x) 65)
  obtain ⟨ad, cap, w', h1, h2, h3, h4⟩ := run_col (m := 1) (c := 1) (news := colL x) (own_below ho hal) (Nat.zero_le _) (.inr ⟨_, rfl, rfl, fun j u hu => by
    rw [add_at, Nat.zero_add, cell_blk hj]
    simpa using hu⟩) (fun u hu => oneC [x] u (by simpa using hu)) (by omega)
  refine ⟨ad, cap, w', h1, by simpa using h2, ?_, ?_⟩
  · refine ((Fr.refl X _).alloc _).grown h3 (fun k hk => .inl hk)
  · intro k hk
    rcases h4 with q | q
    · exact .inl (q.symm.trans hk)
    · rw [hk] at q
      cases q
      exact .inr hal.size
theorem pushI {X : World} {l : List Ix} {v : Value} (ho : X.ownsRow 0 70 5 v l.length (l.flatMap ixL)) (x : Ix) (hz : l.length ≤ 1000000) :
    ∃ ad cap w', (Builtin.append_ #[51, 51] 51 #[v, .slice (some ⟨X.heap.size, 0, none⟩) 1 1]).run Try.prog (X.alloc (.cells (ixA x) 70)) = .ok (.slice ad (l.length + 1) cap) w' ∧ w'.ownsRow 0 70 5 (.slice ad (l.length + 1) cap) (l ++ [x]).length ((l ++ [x]).flatMap ixL) ∧ Fr X w' (fun k => v.ownBlock = some k) ∧ (∀ k, (Value.slice ad (l.length + 1) cap).ownBlock = some k → v.ownBlock = some k ∨ X.heap.size ≤ k) := by
  have hal := bnew X (.cells (ixA x) 70)
  have hj := heap_alloc_new X (.cells (ixA x) 70)
  obtain ⟨ad, cap, w', h1, h2, h3, h4⟩ := run_ix (m := 1) (c := 1) (news := ixL x) (own_below ho hal) (Nat.zero_le _) (.inr ⟨_, rfl, rfl, fun j u hu => by
    rw [add_at, Nat.zero_add, cell_blk hj]
    simpa using hu⟩) (fun u hu => oneI [x] u (by simpa using hu)) (by omega)
  refine ⟨ad, cap, w', h1, by simpa using h2, ?_, ?_⟩
  · refine ((Fr.refl X _).alloc _).grown h3 (fun k hk => .inl hk)
  · intro k hk
    rcases h4 with q | q
    · exact .inl (q.symm.trans hk)
    · rw [hk] at q
      cases q
      exact .inr hal.size
theorem pushK {X : World} {l : List Fk} {v : Value} (ho : X.ownsRow 0 73 5 v l.length (l.flatMap fkL)) (x : Fk) (hz : l.length ≤ 1000000) :
    ∃ ad cap w', (Builtin.append_ #[52, 52] 52 #[v, .slice (some ⟨X.heap.size, 0, none⟩) 1 1]).run Try.prog (X.alloc (.cells (fkA x) 73)) = .ok (.slice ad (l.length + 1) cap) w' ∧ w'.ownsRow 0 73 5 (.slice ad (l.length + 1) cap) (l ++ [x]).length ((l ++ [x]).flatMap fkL) ∧ Fr X w' (fun k => v.ownBlock = some k) ∧ (∀ k, (Value.slice ad (l.length + 1) cap).ownBlock = some k → v.ownBlock = some k ∨ X.heap.size ≤ k) := by
  have hal := bnew X (.cells (fkA x) 73)
  have hj := heap_alloc_new X (.cells (fkA x) 73)
  obtain ⟨ad, cap, w', h1, h2, h3, h4⟩ := run_fk (m := 1) (c := 1) (news := fkL x) (own_below ho hal) (Nat.zero_le _) (.inr ⟨_, rfl, rfl, fun j u hu => by
    rw [add_at, Nat.zero_add, cell_blk hj]
    simpa using hu⟩) (fun u hu => oneK [x] u (by simpa using hu)) (by omega)
  refine ⟨ad, cap, w', h1, by simpa using h2, ?_, ?_⟩
  · refine ((Fr.refl X _).alloc _).grown h3 (fun k hk => .inl hk)
  · intro k hk
    rcases h4 with q | q
    · exact .inl (q.symm.trans hk)
    · rw [hk] at q
      cases q
      exact .inr hal.size
set_option maxHeartbeats 1000000 in
set_option maxRecDepth 100000 in
theorem ownC_any {l : List Col} {v : Value} (hl : Lr colE 7 w l v) (hz : l.length ≤ 1000000) : Calls Try.prog 85 #[v] w fun e w' => ∃ ad cap, e = .returned (.slice ad l.length cap) ∧ w'.ownsRow w.heap.size 65 7 (.slice ad l.length cap) l.length (l.flatMap colL) ∧ Below w.heap.size w w' := by
  obtain ⟨ad, cap, rfl, hr⟩ := hl
  have hs := Lr.src colL_len (L := l) (ad := ad) (cap := cap) (w := w) ⟨ad, cap, rfl, hr⟩
  obtain ⟨ad', cap', w', h1, h2, h3, _⟩ := run_col (w := w) (v := .slice none 0 0) (base := w.heap.size) (n := 0) (xs := []) (m := l.length) (c := cap) (news := l.flatMap colL) (World.ownsRow_nil _ _ 65 7) (Nat.le_refl _) hs (oneC l) (by omega)
  rw [Nat.zero_add] at h1 h2
  rw [List.nil_append] at h2
  have HO := Lib.hid h2
  have HB : Hid (Below w.heap.size w w') := ⟨h3.os, h3.tape, h3.output, h3.size, fun k hk => h3.block k hk (by simp [Value.ownBlock])⟩
  clear h2 h3 hs hr
  go_enter Try.func85, Try.ntmps85
  go_wp2_with (at_builtin; refine wpl_run2 _ _ rfl (by simp [Act.eval]) (by simp [Act.eval]) h1 ?_)
  go_ret
  exact ⟨_, _, rfl, HO.out, HB.out⟩
set_option maxHeartbeats 1000000 in
set_option maxRecDepth 100000 in
theorem ownI_any {l : List Ix} {v : Value} (hl : Lr ixE 5 w l v) (hz : l.length ≤ 1000000) : Calls Try.prog 86 #[v] w fun e w' => ∃ ad cap, e = .returned (.slice ad l.length cap) ∧ w'.ownsRow w.heap.size 70 5 (.slice ad l.length cap) l.length (l.flatMap ixL) ∧ Below w.heap.size w w' := by
  obtain ⟨ad, cap, rfl, hr⟩ := hl
  have hs := Lr.src ixL_len (L := l) (ad := ad) (cap := cap) (w := w) ⟨ad, cap, rfl, hr⟩
  obtain ⟨ad', cap', w', h1, h2, h3, _⟩ := run_ix (w := w) (v := .slice none 0 0) (base := w.heap.size) (n := 0) (xs := []) (m := l.length) (c := cap) (news := l.flatMap ixL) (World.ownsRow_nil _ _ 70 5) (Nat.le_refl _) hs (oneI l) (by omega)
  rw [Nat.zero_add] at h1 h2
  rw [List.nil_append] at h2
  have HO := Lib.hid h2
  have HB : Hid (Below w.heap.size w w') := ⟨h3.os, h3.tape, h3.output, h3.size, fun k hk => h3.block k hk (by simp [Value.ownBlock])⟩
  clear h2 h3 hs hr
  go_enter Try.func86, Try.ntmps86
  go_wp2_with (at_builtin; refine wpl_run2 _ _ rfl (by simp [Act.eval]) (by simp [Act.eval]) h1 ?_)
  go_ret
  exact ⟨_, _, rfl, HO.out, HB.out⟩
set_option maxHeartbeats 1000000 in
set_option maxRecDepth 100000 in
theorem ownK_any {l : List Fk} {v : Value} (hl : Lr fkE 5 w l v) (hz : l.length ≤ 1000000) : Calls Try.prog 87 #[v] w fun e w' => ∃ ad cap, e = .returned (.slice ad l.length cap) ∧ w'.ownsRow w.heap.size 73 5 (.slice ad l.length cap) l.length (l.flatMap fkL) ∧ Below w.heap.size w w' := by
  obtain ⟨ad, cap, rfl, hr⟩ := hl
  have hs := Lr.src fkL_len (L := l) (ad := ad) (cap := cap) (w := w) ⟨ad, cap, rfl, hr⟩
  obtain ⟨ad', cap', w', h1, h2, h3, _⟩ := run_fk (w := w) (v := .slice none 0 0) (base := w.heap.size) (n := 0) (xs := []) (m := l.length) (c := cap) (news := l.flatMap fkL) (World.ownsRow_nil _ _ 73 5) (Nat.le_refl _) hs (oneK l) (by omega)
  rw [Nat.zero_add] at h1 h2
  rw [List.nil_append] at h2
  have HO := Lib.hid h2
  have HB : Hid (Below w.heap.size w w') := ⟨h3.os, h3.tape, h3.output, h3.size, fun k hk => h3.block k hk (by simp [Value.ownBlock])⟩
  clear h2 h3 hs hr
  go_enter Try.func87, Try.ntmps87
  go_wp2_with (at_builtin; refine wpl_run2 _ _ rfl (by simp [Act.eval]) (by simp [Act.eval]) h1 ?_)
  go_ret
  exact ⟨_, _, rfl, HO.out, HB.out⟩
end
end Go.Proofs.Ytkfnphhoebknnaa
