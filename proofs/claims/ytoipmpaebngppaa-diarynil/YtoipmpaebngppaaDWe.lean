/- The walks of the drive's Append, Sync, Swap and Read. -/
import Derived.Test.YtoipmpaebngppaaDWd
import Derived.Deep.RegionHeld3
import Derived.Deep.RegionLaw
namespace Go.Proofs.Ytoipmpaebngppaa
open Go.RowKit Go.Maps

/-- The file of a name, or an empty one. -/
def oldF (F : List Fl) (n : ByteArray) : Fl := (fileF F n).getD ⟨n, ⟨#[]⟩, 0⟩
/-- What Append, Sync and Swap leave. -/
def appF (F : List Fl) (n d : ByteArray) : List Fl := putF F ⟨n, (oldF F n).data ++ d, (oldF F n).safe⟩
def synF (F : List Fl) (n : ByteArray) : List Fl := match fileF F n with
  | some f => putF F ⟨n, f.data, f.data.size⟩
  | none => F
def swpF (F : List Fl) (n d : ByteArray) : List Fl := putF F ⟨n, d, d.size⟩
theorem app_list (a b : ByteArray) : (a ++ b).data.toList = a.data.toList ++ b.data.toList := by
  simp [ByteArray.data_append]

section
variable {w w' : World} {A N : Nat} {S : Nat → Prop} {F : List Fl} {left : Int} {down : Bool} {mv : Value} {loc : ByteArray → Value} {n : ByteArray}
theorem step_run {P : Program} {w w' : World} {ops : Array Oper} {o : Oper} {a : Act} {K : Act → World → Prop} {Q : Exit → Act → World → Prop} {E : Prop} {t u : TypeId} {v' : Value} (s x : Operand) (hw : Region.wanted o (yielded ops a.tmps) = true)
    (ho : o.op = .call { callee := .builtin .append, args := #[s, x], argTypes := #[t, u] }) (hrun : (Builtin.append_ #[t, u] o.type #[a.eval s, a.eval x]).run P w = .ok v' w')
    (h : K (a.put o.dst v') w') : if Region.wanted o (yielded ops a.tmps) = true then Oper.wp P o a w K Q else E := by
  rw [if_pos hw]
  unfold Oper.wp execOp
  simp only [ho, resolve, invoke, builtin, Sem.run_bind, Sem.run_pure, Result.andThen_ok, List.map_toArray, List.map_cons, List.map_nil, hrun]
  exact h
/-- Where a name's row lies. -/
def rowOf (F : List Fl) (loc : ByteArray → Value) (n : ByteArray) : Value := match fileF F n with
  | some _ => loc n
  | none => .slice none 0 0
theorem Dv.look (h : Dv w A S N F left down mv loc) (hn : n.size ≤ maxLen) : (Instr.lookup 58 mv (.string n) false).run Try.prog w = .ok (fileV (rowOf F loc n) (oldF F n).safe) w := by
  cases e : fileF F n with
  | none => simp only [rowOf, oldF, e]; exact (h.mp.no e hn).2
  | some f => simp only [rowOf, oldF, e]; exact (h.mp.yes e hn).2
theorem Dv.oldRow (h : Dv w A S N F left down mv loc) (n : ByteArray) : Row w (rowOf F loc n) (oldF F n).data.data.toList := by
  cases e : fileF F n with
  | none => simp only [rowOf, oldF, e]; exact .inl ⟨rfl, rfl⟩
  | some f =>
    simp only [rowOf, oldF, e]
    obtain ⟨e1, hf⟩ := fileF_name e
    have := h.row f hf
    rw [e1] at this
    exact this
theorem Dv.oldSafe (h : Dv w A S N F left down mv loc) (n : ByteArray) : (oldF F n).safe ≤ (oldF F n).data.size ∧ (oldF F n).data.size ≤ 140737488355328 := by
  cases e : fileF F n with
  | none =>
    simp only [oldF, e]
    exact ⟨Nat.le_refl _, Nat.zero_le _⟩
  | some f =>
    simp only [oldF, e]
    exact ⟨h.safe f (fileF_name e).2, h.big f (fileF_name e).2⟩
theorem rowOf_blk {k : Nat} (hk : (rowOf F loc n).ownBlock = some k) : ∃ f ∈ F, f.name = n ∧ (loc f.name).ownBlock = some k := by
  unfold rowOf at hk
  cases e : fileF F n with
  | none => rw [e] at hk; cases hk
  | some f =>
    rw [e] at hk
    obtain ⟨e1, hf⟩ := fileF_name e
    exact ⟨f, hf, e1, by rw [e1]; exact hk⟩
/-- S, and the row of v. -/
def And1 (S : Nat → Prop) (v : Value) : Nat → Prop := fun k => S k ∨ v.ownBlock = some k
/-- A text is put behind a name's row. -/
theorem Dv.appd (h : Dv w A S N F left down mv loc) (hn : n.size ≤ maxLen) (s : ByteArray) (hb : (oldF F n).data.size + s.size ≤ 140737488355328) (ty : TypeId) {W : World} (hW : Fr w W (fun _ => False)) :
    ∃ v' w1, (Builtin.append_ #[73, 9] ty #[rowOf F loc n, .string s]).run Try.prog W = .ok v' w1 ∧ Dv w1 A (And1 S v') N F left down mv loc ∧ May w1 (And1 S v') F loc ⟨n, (oldF F n).data ++ s, (oldF F n).safe⟩ v' ∧ Fr w w1 S ∧
      (∀ k, v'.ownBlock = some k → S k ∨ W.heap.size ≤ k) ∧ (∀ k, w.heap.size ≤ k → k < W.heap.size → w1.heap[k]? = W.heap[k]?) := by
  have hd := h.stays hW (fun _ _ q => q)
  obtain ⟨v', w1, hrun, hr', hr0, hg, hnew⟩ := (hd.oldRow n).append s (by simpa using hb) ty
  have hold : ∀ k, (rowOf F loc n).ownBlock = some k → S k := by
    intro k hk
    obtain ⟨f, hf, _, e⟩ := rowOf_blk hk
    exact h.covR f hf k e
  have hfr : Fr w w1 S := (hW.mono (fun _ q => q.elim)).grown hg (fun k hk => .inl (hold k hk))
  have hsz : w.heap.size ≤ W.heap.size := hW.size
  have hlt1 : ∀ k, S k → k < w1.heap.size := fun k hk => Nat.lt_of_lt_of_le (h.lt k hk) hfr.size
  have keep : ∀ k, k < W.heap.size → some k ≠ (rowOf F loc n).ownBlock → w1.heap[k]? = W.heap[k]? := fun k hk hne => hg.block k hk hne
  have hrow1 : ∀ f ∈ F, Row w1 (loc f.name) f.data.data.toList := by
    intro f hf
    by_cases e : f.name = n
    · have e1 : fileF F n = some f := by rw [← e]; exact fileF_mem h.rise hf
      have e2 : rowOf F loc n = loc f.name := by simp [rowOf, e1, e]
      have e3 : oldF F n = f := by simp [oldF, e1]
      rw [e2, e3] at hr0
      exact hr0
    · refine (hd.row f hf).keep (fun k hk => keep k (hd.lt k (hd.covR f hf k hk)) (fun q => ?_))
      obtain ⟨g, hg', eg, e2⟩ := rowOf_blk q.symm
      exact h.sep f hf g hg' (fun q => e (q.trans eg)) k hk e2
  have hnew' : ∀ k, v'.ownBlock = some k → S k ∨ W.heap.size ≤ k := by
    intro k hk
    rcases hnew k hk with e | e
    · exact .inl (hold k e)
    · exact .inr e
  have hd1 : Dv w1 A (And1 S v') N F left down mv loc := by
    refine ⟨?_, h.mp.stays (fun b hb => ?_), h.rise, hrow1, h.safe, h.big, h.nm, h.sep, .inl h.covA, fun b hb => .inl (h.covM b hb), fun f hf k hk => .inl (h.covR f hf k hk), ?_, h.few, h.int⟩
    · refine (keep A (hd.lt A h.covA) (fun q => ?_)).trans hd.ob
      obtain ⟨g, hg', eg, e2⟩ := rowOf_blk q.symm
      exact h.neR hg' e2 rfl
    · refine (keep b (hd.lt b (h.covM b hb)) (fun q => ?_)).trans (hW.block b (h.mp.lt hb) (fun q => q))
      obtain ⟨g, hg', eg, e2⟩ := rowOf_blk q.symm
      exact h.neMR hb hg' e2 rfl
    · intro k hk
      rcases hk with hk | hk
      · exact hlt1 k hk
      · obtain ⟨cur, fz, hb⟩ := hr'.blk hk
        exact blk_lt hb
  refine ⟨v', w1, hrun, hd1, ⟨hn, by rw [app_list]; exact hr', ?_, ?_, ?_, fun k hk => .inr hk⟩, hfr, hnew', fun k h1 h2 => keep k h2 (fun q => ?_)⟩
  · have := (h.oldSafe n).1
    simp only [ByteArray.size_append]
    omega
  · simp only [ByteArray.size_append]
    omega
  · intro f hf hne k hk q
    rcases hnew k hk with e | e
    · obtain ⟨g, hg', eg, e2⟩ := rowOf_blk e
      exact h.sep f hf g hg' (fun p => hne (p.trans eg)) k q e2
    · have := h.lt k (h.covR f hf k q)
      omega
  · have := h.lt k (hold k q.symm)
    omega

theorem append_down (h : Dv w A S N F left true mv loc) (n d : ByteArray) : Calls Try.prog 29 #[.pointer (some ⟨A, 0, none⟩), .string n, .string d] w fun e w' => e = .returned (.int .i64 50) ∧ w' = w := by
  have hp := power_any h
  go_enter Try.func29, Try.ntmps29
  go_wp2_with fail
  refine hp.mono ?_
  rintro e w' ⟨rfl, rfl⟩
  rw [show pw true = 50 from rfl]
  go_wp2
  go_ret
  exact ⟨rfl, rfl⟩
theorem append_nil (n d : ByteArray) (w : World) : Calls Try.prog 29 #[.pointer none, .string n, .string d] w fun e w' => e = .returned (.int .i64 2) ∧ w' = w := by
  go_enter Try.func29, Try.ntmps29
  go_wp2_with fail
  refine (power_nil w).mono ?_
  rintro e w' ⟨rfl, rfl⟩
  go_wp2
  go_ret
  exact ⟨rfl, rfl⟩

set_option maxHeartbeats 2000000 in
set_option maxRecDepth 100000 in
theorem append_up (h : Dv w A S N F left false mv loc) (hn : n.size ≤ maxLen) (d : ByteArray) (hb : (oldF F n).data.size + d.size ≤ 140737488355328) (hN : N < 900000) :
    Calls Try.prog 29 #[.pointer (some ⟨A, 0, none⟩), .string n, .string d] w fun e w' => e = .returned (.int .i64 (pw (downB left false))) ∧ Dr w' A (Gro S w w') (N + 1) (appF F n d) (leftB left) (downB left false) ∧ Fr w w' S := by
  obtain ⟨W, hW⟩ : ∃ W, W = w.alloc (.cells #[rowOf F loc n, .int .i64 (oldF F n).safe] 75) := ⟨_, rfl⟩
  have hal : Fr w W (fun _ => False) := by rw [hW]; exact (Fr.refl w _).alloc _
  have hWs : W.heap.size = w.heap.size + 1 := by rw [hW]; simp
  obtain ⟨v', w1, hrun, hd1, hm1, hf1, hn1, hk1⟩ := h.appd hn d hb 73 (W := W.drew) (hal.drewN 1)
  have hlk := h.look hn
  have hp := power_any h
  have c0 := h.c0
  have hWb : W.heap[w.heap.size]? = some (.cells #[rowOf F loc n, .int .i64 (oldF F n).safe] 75 (0, 0)) := by rw [hW]; exact heap_alloc_new w _
  have hbox : w1.heap[w.heap.size]? = some (.cells #[rowOf F loc n, .int .i64 (oldF F n).safe] 75 (0, 0)) := (hk1 w.heap.size (Nat.le_refl _) (by show _ < W.heap.size; omega)).trans hWb
  have hnb : ¬ And1 S v' w.heap.size := by
    rintro (q | q)
    · have := h.lt _ q
      omega
    · rcases hn1 _ q with q | q
      · have := h.lt _ q
        omega
      · have : W.heap.size ≤ w.heap.size := q
        omega
  have hs : Calls Try.prog 36 #[.pointer (some ⟨A, 0, none⟩), .string n, fileV v' (oldF F n).safe] w1 fun e w2 => e = .returned (.tuple #[]) ∧ (∃ mv', Dv w2 A (Gro (And1 S v') w1 w2) (N + 1) (appF F n d) left false mv' (upd loc n v')) ∧ Fr w1 w2 (And1 S v') ∧
      w2.heap[w.heap.size]? = some (.cells #[rowOf F loc n, .int .i64 (oldF F n).safe] 75 (0, 0)) := by
    refine (set_any hd1 hm1 hN).mono ?_
    rintro e w2 ⟨rfl, mv', hd2, hf2⟩
    exact ⟨rfl, ⟨mv', hd2⟩, hf2, (hf2.block _ (blk_lt hbox) hnb).trans hbox⟩
  obtain ⟨ad', ln', cap', hv'⟩ : ∃ ad ln cap, v' = .slice ad ln cap := by
    obtain ⟨ad, cap, e⟩ := hm1.row.shape
    exact ⟨ad, _, cap, e⟩
  obtain ⟨ad, ln, cap, hv0⟩ : ∃ ad ln cap, rowOf F loc n = .slice ad ln cap := by
    obtain ⟨ad, cap, e⟩ := (h.oldRow n).shape
    exact ⟨ad, _, cap, e⟩
  obtain ⟨s0, hs0⟩ : ∃ s0, (oldF F n).safe = s0 := ⟨_, rfl⟩
  have hlt := h.lt
  subst hv'
  have C0 : W.cell? ⟨w.heap.size, 0, none⟩ = some (rowOf F loc n) := by rw [cell_blk hWb]; rfl
  have C1 : W.cell? ⟨w.heap.size, 1, none⟩ = some (.int .i64 (oldF F n).safe) := by rw [cell_blk hWb]; rfl
  have D0 : w1.cell? ⟨w.heap.size, 0, none⟩ = some (rowOf F loc n) := by rw [cell_blk hbox]; rfl
  have D1 : w1.cell? ⟨w.heap.size, 1, none⟩ = some (.int .i64 (oldF F n).safe) := by rw [cell_blk hbox]; rfl
  rw [hv0, hs0] at hW hlk hs
  rw [hv0] at hrun C0 D0
  rw [hs0] at C1 D1
  have HW := Lib.hid hW
  clear hW hv0 hs0 hbox hWb hk1 hWs
  go_enter Try.func29, Try.ntmps29
  go_wp2_with fail
  refine hp.mono ?_
  rintro e w' ⟨rfl, rfl⟩
  rw [show pw false = 0 from rfl]
  go_wp2
  rw [← HW.out]
  go_region_held3 (fun X => X.cell? ⟨w'.heap.size, 0, none⟩ = some (.slice ad ln cap) ∧ X.cell? ⟨w'.heap.size, 1, none⟩ = some (.int .i64 s0)) (first | go_keep | exact ⟨D0, D1⟩ | exact ⟨by rw [cell_blk hb2]; rfl, by rw [cell_blk hb2]; rfl⟩) (first
    | ((refine step_run (.tmp 23) (.tmp 24) rfl rfl hrun ?_))
    | ((go_at_call 36; refine hs.mono ?_; rintro e w2 ⟨rfl, ⟨mv', hd2⟩, hf2, hb2⟩)))
  all_goals
    go_wp2_with fail
    refine (count_any hd2).mono ?_
    rintro e w3 ⟨rfl, hd3, hf3, hs3⟩
    go_wp2
    go_ret
    have hfr : Fr w' w3 S := (hf1.step hf2 (fun k hk => by
      rcases hk with q | q
      · exact .inl q
      · rcases hn1 k q with q | q
        · exact .inl q
        · exact .inr (Nat.le_trans hal.size q))).step hf3 (fun k hk => by
      rcases hk with (q | q) | q
      · exact .inl q
      · rcases hn1 k q with q | q
        · exact .inl q
        · exact .inr (Nat.le_trans hal.size q)
      · exact .inr (Nat.le_trans hf1.size q.1))
    refine ⟨rfl, ⟨_, _, hd3.wider (fun k hk => ?_) (fun k hk => ?_)⟩, hfr⟩
    · have hlt3 := hd3.lt k hk
      rcases hk with (q | q) | q
      · exact .inl q
      · rcases hn1 k q with q | q
        · exact .inl q
        · exact .inr ⟨Nat.le_trans hal.size q, hlt3⟩
      · exact .inr ⟨Nat.le_trans hf1.size q.1, hlt3⟩
    · rcases hk with q | q
      · exact Nat.lt_of_lt_of_le (hlt k q) hfr.size
      · exact q.2
end
end Go.Proofs.Ytoipmpaebngppaa
