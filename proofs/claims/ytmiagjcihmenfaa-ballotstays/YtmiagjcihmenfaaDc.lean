/- The walks of the document's sent and send. -/
import Derived.Test.YtmiagjcihmenfaaDb
namespace Go.Proofs.Ytmiagjcihmenfaa
open Go.RowKit

theorem step_run {P : Program} {w w' : World} {ops : Array Oper} {o : Oper} {a : Act} {K : Act → World → Prop} {Q : Exit → Act → World → Prop} {E : Prop} {t u : TypeId} {v' : Value} (s x : Operand) (hw : Region.wanted o (yielded ops a.tmps) = true)
    (ho : o.op = .call { callee := .builtin .append, args := #[s, x], argTypes := #[t, u] }) (hrun : (Builtin.append_ #[t, u] o.type #[a.eval s, a.eval x]).run P w = .ok v' w')
    (h : K (a.put o.dst v') w') : if Region.wanted o (yielded ops a.tmps) = true then Oper.wp P o a w K Q else E := by
  rw [if_pos hw]
  unfold Oper.wp execOp
  simp only [ho, resolve, invoke, builtin, Sem.run_bind, Sem.run_pure, Result.andThen_ok, List.map_toArray, List.map_cons, List.map_nil, hrun]
  exact h

theorem wpl_run {P : Program} {w w' : World} {ops : Array Oper} {rest : List Oper} {o : Oper} {a : Act} {Q : Exit → Act → World → Prop} {t u ty : TypeId} {v' : Value} {ds : Option Tmp} {ps : String} {af : Array Edge} (s x : Operand)
    (ho : o = ⟨ds, .call { callee := .builtin .append, args := #[s, x], argTypes := #[t, u] }, ty, ps, af, none⟩) (hrun : (Builtin.append_ #[t, u] ty #[a.eval s, a.eval x]).run P w = .ok v' w')
    (h : wpList P ops Q rest (a.put ds v') w') : wpList P ops Q (o :: rest) a w := by
  subst ho
  refine wpList_plain rfl fun K hK => ?_
  unfold Oper.wp execOp
  simp only [resolve, invoke, builtin, Sem.run_bind, Sem.run_pure, Result.andThen_ok, List.map_toArray, List.map_cons, List.map_nil, hrun]
  exact hK _ _ h
/-- append at messages. -/
theorem infoMs : (Try.prog.info? 34).map (fun i => (i.zero, i.size, i.bytes)) = some (some (.agg #[.int .i64 0, .int .i64 0, .int .i64 0, .int .i64 0, .int .i64 0, .int .i64 0, .int .i64 0, .bool false, .slice none 0 0, .string ⟨#[]⟩]), 10, 104) := by kernel_rfl
theorem infoEn : (Try.prog.info? 49).map (fun i => (i.zero, i.size, i.bytes)) = some (some (.agg #[.int .i64 0, .int .i64 0, .int .i64 0, .string ⟨#[]⟩]), 4, 40) := by kernel_rfl
section
variable {w w' : World} {v : Value}
theorem msgs_run {base n m c : Nat} {xs news : List Value} {a : Addr} (ho : w.ownsRow base 34 10 v n xs) (hb : base ≤ w.heap.size) (hl : news.length = m * 10) (hc : ∀ j u, news[j]? = some u → w.cell? (a.add j) = some u)
    (h1 : ∀ u ∈ news, u.oneCell' = true) (hnm : (n + m) * 104 ≤ 140737488355328) : ∃ v' w', (Builtin.append_ #[37, 37] 37 #[v, .slice (some a) m c]).run Try.prog w = .ok v' w' ∧ w'.ownsRow base 34 10 v' (n + m) (xs ++ news) ∧ w.grownBy w' v.ownBlock ∧ (v'.ownBlock = v.ownBlock ∨ v'.ownBlock = some w.heap.size) := by
  obtain ⟨i0, hi, hz0, hz1, hz2⟩ := info_parts infoMs
  obtain ⟨v', w', hr, ho', hg, _, hat⟩ := run_append_own_at (P := Try.prog) (w := w) base 37 37 34 i0 _ 10 104 Try.underlying37 hi hz0 hz1 hz2 rfl (by decide) v n xs ho a m c news hl hc h1 (by unfold maxLen; omega) hnm hb
  exact ⟨v', w', hr, ho', hg, hat⟩
theorem ens_run {base n m c : Nat} {xs news : List Value} {ad : Option Addr} (ho : w.ownsRow base 49 4 v n xs) (hb : base ≤ w.heap.size) (hs : (ad = none ∧ m = 0 ∧ c = 0 ∧ news = []) ∨ ∃ a, ad = some a ∧ news.length = m * 4 ∧ (∀ j u, news[j]? = some u → w.cell? (a.add j) = some u))
    (h1 : ∀ u ∈ news, u.oneCell' = true) (hnm : (n + m) * 40 ≤ 140737488355328) : ∃ v' w', (Builtin.append_ #[32, 32] 32 #[v, .slice ad m c]).run Try.prog w = .ok v' w' ∧ w'.ownsRow base 49 4 v' (n + m) (xs ++ news) ∧ w.grownBy w' v.ownBlock ∧ (v'.ownBlock = v.ownBlock ∨ v'.ownBlock = some w.heap.size) := by
  obtain ⟨i0, hi, hz0, hz1, hz2⟩ := info_parts infoEn
  rcases hs with ⟨rfl, rfl, rfl, rfl⟩ | ⟨a, rfl, hl, hc⟩
  · refine ⟨v, w, ?_, by simpa using ho, ⟨rfl, rfl, rfl, Nat.le_refl _, fun _ _ _ => rfl⟩, .inl rfl⟩
    exact run_append_owned_none (P := Try.prog) (w := w) base 32 32 49 i0 4 Try.underlying32 hi v n xs ho
  · obtain ⟨v', w', hr, ho', hg, _, hat⟩ := run_append_own_at (P := Try.prog) (w := w) base 32 32 49 i0 _ 4 40 Try.underlying32 hi hz0 hz1 hz2 rfl (by decide) v n xs ho a m c news hl hc h1 (by unfold maxLen; omega) hnm hb
    exact ⟨v', w', hr, ho', hg, hat⟩
end
section
variable {w w' : World} {A : Nat} {S T : Nat → Prop} {b : Bs} {lv ov : Value} {O : List (Ms × Value)}
/-- sent: what went out, with the lists' values; the bag is empty. -/
theorem sent_any (h : Rb w A S b) : Calls Try.prog 58 #[.pointer (some ⟨A, 0, none⟩)] w fun e w' => ∃ ov O, e = .returned ov ∧ O.map Prod.fst = b.out ∧ w'.ownsRow 0 34 10 ov O.length (msC O) ∧ (∀ k, ov.ownBlock = some k → S k ∧ k ≠ A) ∧ (∀ p ∈ O, Es w' S p.1.list p.2) ∧ Rb w' A S { b with out := [] } ∧ Fr w w' S := by
  obtain ⟨lv, ov, O, h⟩ := h
  have c29 : w.cell? ⟨A, 29, none⟩ = some ov := h.cell 29
  have fz : w.frozen? ⟨A, 29, none⟩ = false := frozen_blk h.ob 29
  have HH := Lib.hid h
  clear h
  go_enter Try.func58, Try.ntmps58
  go_wp2
  go_ret
  have h := HH.out
  have hf : Fr w (w.setCell ⟨A, 29, none⟩ (.slice none 0 0)) S := Fr.set (a := ⟨A, 29, none⟩) (Fr.refl w S) (Or.inl h.covA) _
  have hA : ∀ k, ov.ownBlock = some k → k ≠ A := by
    intro k hk e
    subst e
    rcases h.out.2 with ⟨hv, _⟩ | ⟨g, cap, cur, hv, _, hg, _⟩
    · rw [hv] at hk; cases hk
    · rw [hv] at hk
      simp only [Value.ownBlock, Option.some.injEq] at hk
      subst hk
      exact tag_ne h.ob hg (by decide) rfl
  have hset := set_blk (i := 29) h.ob (.slice none 0 0)
  refine ⟨ov, O, rfl, h.eo, own_like h.out (fun k hk => set_other _ (hA k hk)), fun k hk => ⟨h.cov k hk, hA k hk⟩, fun p hp => (h.ls p hp).stays hf (fun _ q => .inl q), ⟨lv, .slice none 0 0, [], ⟨?_, h.log.stays hf (fun _ q => .inl q), rfl, World.ownsRow_nil _ _ _ _, fun p hp => (by cases hp), h.covA, (fun k hk => by cases hk), fun k hk => Nat.lt_of_lt_of_le (h.lt k hk) hf.size, Nat.zero_le _, h.len, h.b0, h.b1⟩⟩, hf⟩
  rw [hset]
  rfl
theorem one_msg (w : World) (m : Ms) (v : Value) : ∀ j u, (msC [(m, v)])[j]? = some u → (w.alloc (.cells #[.int .i64 m.kind, .int .i64 m.fr, .int .i64 m.to, .int .i64 m.term, .int .i64 m.index, .int .i64 m.prev, .int .i64 m.commit, .bool m.good, v, .string m.snap] 34)).cell? ((⟨w.heap.size, 0, none⟩ : Addr).add j) = some u := by
  intro j u hu
  rw [add_at, Nat.zero_add, cell_blk (heap_alloc_new w _)]
  simpa [msC] using hu
set_option maxHeartbeats 4000000 in
set_option maxRecDepth 100000 in
theorem send_any {m : Ms} {mv : Value} (h : Rb w A S b) (hm : Es w S m.list mv) (hf : b.out.length < 900000) :
    Calls Try.prog 55 #[.pointer (some ⟨A, 0, none⟩), msV m mv] w fun e w' => e = .returned (.tuple #[]) ∧ Rb w' A (Gro S w w') (b.send m) ∧ Fr w w' S := by
  obtain ⟨lv, ov, O, h⟩ := h
  have hA := h.lt A h.covA
  have hfO : O.length < 900000 := by rw [← List.length_map (f := Prod.fst), h.eo]; exact hf
  obtain ⟨m', hm'⟩ : ∃ m' : Ms, m' = { m with fr := b.id, term := b.term } := ⟨_, rfl⟩
  obtain ⟨W1, hW1⟩ : ∃ W1, W1 = w.alloc (msO m' mv) := ⟨_, rfl⟩
  have hal1 : Below w.heap.size w W1.drew := by rw [hW1]; exact ((Below.refl _ w).alloc (Nat.le_refl _) _).drew
  have hal2 : Below W1.heap.size W1.drew (W1.drew.alloc (msO m' mv)) := (Below.refl _ W1.drew).alloc (Nat.le_refl _) _
  have hal := hal1.trans (hal2.mono hal1.size)
  obtain ⟨madd, mcap, hmv, _⟩ := hm.shape
  have hone : ∀ u ∈ msC [(m', mv)], u.oneCell' = true := by
    intro u hu
    rw [hmv] at hu
    simp [msC] at hu
    rcases hu with rfl | rfl | rfl | rfl | rfl | rfl | rfl | rfl | rfl | rfl <;> rfl
  have ho2 := own_below h.out hal
  obtain ⟨v', w3, hrun, ho3, hg3, hat3⟩ := msgs_run (a := ⟨W1.drew.heap.size, 0, none⟩) (m := 1) (c := 1) (news := msC [(m', mv)]) ho2 (Nat.zero_le _) (by rw [msC_len]; rfl) (one_msg W1.drew m' mv) hone (by omega)
  obtain ⟨ad3, cap3, rfl⟩ := own_shape ho3
  have z1 : W1.heap[w.heap.size]? = some (msO m' mv) := by rw [hW1]; exact heap_alloc_new w _
  have hblk : ∀ i, W1.cell? ⟨w.heap.size, i, none⟩ = (#[.int .i64 m'.kind, .int .i64 m'.fr, .int .i64 m'.to, .int .i64 m'.term, .int .i64 m'.index, .int .i64 m'.prev, .int .i64 m'.commit, .bool m'.good, mv, .string m'.snap] : Array Value)[i]? := fun i => cell_blk z1 i
  have e0 : W1.cell? ⟨w.heap.size, 0, none⟩ = some (.int .i64 m'.kind) := hblk 0
  have e1 : W1.cell? ⟨w.heap.size, 1, none⟩ = some (.int .i64 m'.fr) := hblk 1
  have e2 : W1.cell? ⟨w.heap.size, 2, none⟩ = some (.int .i64 m'.to) := hblk 2
  have e3 : W1.cell? ⟨w.heap.size, 3, none⟩ = some (.int .i64 m'.term) := hblk 3
  have e4 : W1.cell? ⟨w.heap.size, 4, none⟩ = some (.int .i64 m'.index) := hblk 4
  have e5 : W1.cell? ⟨w.heap.size, 5, none⟩ = some (.int .i64 m'.prev) := hblk 5
  have e6 : W1.cell? ⟨w.heap.size, 6, none⟩ = some (.int .i64 m'.commit) := hblk 6
  have e7 : W1.cell? ⟨w.heap.size, 7, none⟩ = some (.bool m'.good) := hblk 7
  have e8 : W1.cell? ⟨w.heap.size, 8, none⟩ = some mv := hblk 8
  have e9 : W1.cell? ⟨w.heap.size, 9, none⟩ = some (.string m'.snap) := hblk 9
  have c0 : w.cell? ⟨A, 0, none⟩ = some (.int .i64 b.id) := h.cell 0
  have c2 : w.cell? ⟨A, 2, none⟩ = some (.int .i64 b.term) := h.cell 2
  have hA1 : W1.heap[A]? = some (.cells (bC b lv ov) 81 (0, 0)) := (hal1.block A hA).trans h.ob
  have c29 : W1.cell? ⟨A, 29, none⟩ = some ov := cell_blk hA1 29
  have hA2 : (W1.drew.alloc (msO m' mv)).heap[A]? = some (.cells (bC b lv ov) 81 (0, 0)) := (hal.block A hA).trans h.ob
  have g29 : (W1.alloc (.cells #[.int .i64 m'.kind, .int .i64 m'.fr, .int .i64 m'.to, .int .i64 m'.term, .int .i64 m'.index, .int .i64 m'.prev, .int .i64 m'.commit, .bool m'.good, mv, .string m'.snap] 34)).cell? ⟨A, 29, none⟩ = some ov := cell_blk hA2 29
  have hne0 : ∀ k, ov.ownBlock = some k → k ≠ A := by
    intro k hk e
    subst e
    rcases h.out.2 with ⟨hv, _⟩ | ⟨g, cap, cur, hv, _, hg, _⟩
    · rw [hv] at hk; cases hk
    · rw [hv] at hk
      simp only [Value.ownBlock, Option.some.injEq] at hk
      subst hk
      exact tag_ne h.ob hg (by decide) rfl
  have d0 : w3.heap[A]? = some (.cells (bC b lv ov) 81 (0, 0)) := (hg3.block A (Nat.lt_of_lt_of_le hA hal.size) (fun e => hne0 A e.symm rfl)).trans hA2
  have d1 : w3.cell? ⟨A, 29, none⟩ = some ov := cell_blk d0 29
  have f1 : w3.frozen? ⟨A, 29, none⟩ = false := frozen_blk d0 29
  have HX : Hid (W1 = w.alloc (.cells #[.int .i64 m.kind, .int .i64 b.id, .int .i64 m.to, .int .i64 b.term, .int .i64 m.index, .int .i64 m.prev, .int .i64 m.commit, .bool m.good, mv, .string m.snap] 34)) := by
    show _ = _
    rw [hW1, hm']
  have HM := Lib.hid hm'
  have HH := Lib.hid h
  have HS := Lib.hid hm
  clear hW1 hm' h hm hmv hone ho2 hal hal2 hA1 hA2 hblk z1
  go_enter Try.func55, Try.ntmps55
  go_wp2
  rw [← HX.out]
  go_region_law (refine step_run (.tmp 18) (.tmp 20) rfl rfl hrun ?_)
  all_goals
    go_wp2
    go_end0
    have h := HH.out
    have hm := HS.out
    have hal2 : Below W1.heap.size W1.drew (W1.drew.alloc (msO m' mv)) := (Below.refl _ W1.drew).alloc (Nat.le_refl _) _
    have hal := hal1.trans (hal2.mono hal1.size)
    have hz3 := hg3.size
    have hza := hal.size
    have hfr : Fr w (w3.setCell ⟨A, 29, none⟩ (.slice ad3 (O.length + 1) cap3)) S := Fr.set (a := ⟨A, 29, none⟩) (Fr.grown (Fr.ofBelow S hal) hg3 (fun k hk => .inl (h.cov k hk))) (Or.inl h.covA) _
    have hne : ∀ k, (Value.slice ad3 (O.length + 1) cap3).ownBlock = some k → k ≠ A := by
      intro k hk e
      subst e
      rcases ho3.2 with ⟨hv, _⟩ | ⟨g, cap, cur, hv, _, hg, _⟩
      · rw [hv] at hk; cases hk
      · rw [hv] at hk
        simp only [Value.ownBlock, Option.some.injEq] at hk
        subst hk
        exact tag_ne d0 hg (by decide) rfl
    have hset := set_blk (i := 29) d0 (.slice ad3 (O.length + 1) cap3)
    refine ⟨rfl, ⟨lv, .slice ad3 (O.length + 1) cap3, O ++ [(m', mv)], ⟨?_, h.log.stays hfr (fun _ q => q), ?_, ?_, fun p hp => ?_, .inl h.covA, fun k hk => ?_, fun k hk => ?_, by simp; omega, h.len, h.b0, h.b1⟩⟩, hfr⟩
    · rw [hset]
      rfl
    · rw [List.map_append, h.eo, HM.out]
      rfl
    · rw [List.length_append, msC_append]
      exact own_like ho3 (fun k hk => set_other _ (hne k hk))
    · rcases List.mem_append.1 hp with hp | hp
      · exact (h.ls p hp).stays hfr (fun _ q => q)
      · rw [List.mem_singleton.1 hp]
        have e : m'.list = m.list := by rw [HM.out]
        show Es _ _ m'.list mv
        rw [e]
        exact hm.stays hfr (fun _ q => q)
    · have hlt := (ho3.lt k hk).2
      rcases hat3 with e | e
      · exact .inl (h.cov k (e ▸ hk))
      · rw [e] at hk
        cases hk
        exact .inr ⟨hza, by simpa [World.setCell] using hlt⟩
    · rcases hk with q | q
      · exact Nat.lt_of_lt_of_le (h.lt k q) hfr.size
      · exact q.2
end
end Go.Proofs.Ytmiagjcihmenfaa
