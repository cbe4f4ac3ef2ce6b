/- Shards, plain: how far they grow; that no two locks meet; that what is locked stays. -/
import Derived.Test.YtcoaahlakkghhaaGp
import Derived.Test.YtcoaahlakkghhaaGe
namespace Go.Proofs.Ytcoaahlakkghhaa
theorem lockI_cases (L : List Lk) (t : Td) : (lockI L t < 0 ∧ ∀ l ∈ L, l.txn ≠ t) ∨ ∃ (i : Nat) (h : i < L.length), lockI L t = (i : Int) ∧ L[i].txn = t := by
  unfold lockI fidx
  cases e : L.findIdx? (fun l => decide (l.txn = t)) with
  | none =>
    refine .inl ⟨by decide, fun l hl q => ?_⟩
    have := List.findIdx?_eq_none_iff.1 e l hl
    rw [decide_eq_true q] at this
    cases this
  | some i =>
    obtain ⟨hi, hp, _⟩ := List.findIdx?_eq_some_iff_getElem.1 e
    exact .inr ⟨i, hi, rfl, of_decide_eq_true hp⟩
theorem unlock_cases (s : Sh) (t : Td) : (s.unlock t = (s, []) ∧ ∀ l ∈ s.locks, l.txn ≠ t) ∨ ∃ (i : Nat) (h : i < s.locks.length), s.locks[i].txn = t ∧ s.unlock t = (s.cut i, s.locks[i].writes) := by
  unfold Sh.unlock
  rcases lockI_cases s.locks t with ⟨h, h2⟩ | ⟨i, hi, h, h2⟩
  · rw [if_pos h]
    exact .inl ⟨rfl, h2⟩
  · refine .inr ⟨i, hi, h2, ?_⟩
    rw [if_neg (by omega), h, Int.toNat_natCast, List.getElem?_eq_getElem hi]
    rfl
/-! ### How far a shard grows -/
def lwS (L : List Lk) : Nat := (L.map fun l => l.writes.length).sum
theorem lwS_mem : ∀ {L : List Lk} {l : Lk}, l ∈ L → l.writes.length ≤ lwS L
  | x :: L, l, h => by
    have e : lwS (x :: L) = x.writes.length + lwS L := by simp [lwS]
    rw [e]
    rcases List.mem_cons.1 h with rfl | h
    · omega
    · have := lwS_mem h
      omega
theorem lwS_snoc (L : List Lk) (l : Lk) : lwS (L ++ [l]) = lwS L + l.writes.length := by simp [lwS]
theorem lwS_cut : ∀ (L : List Lk) (i : Nat) (h : i < L.length), lwS (L.eraseIdx i) + L[i].writes.length = lwS L
  | x :: L, 0, _ => by simp [lwS]; omega
  | x :: L, i + 1, h => by
    have := lwS_cut L i (by simpa using h)
    simp only [List.eraseIdx_cons_succ, List.getElem_cons_succ]
    have e : ∀ K : List Lk, lwS (x :: K) = x.writes.length + lwS K := fun K => by simp [lwS]
    rw [e, e]
    omega
structure Bd (s : Sh) (T n : Nat) : Prop where
  rw : s.rows.length + lwS s.locks ≤ T
  ls : ∀ r ∈ s.rows, r.list.length + lwS s.locks ≤ T
  lk : s.locks.length ≤ n
  rc : s.recs.length ≤ n
  ov : s.over.length ≤ n
  lw : lwS s.locks ≤ T
theorem Bd.nil : Bd Sh.nil 0 0 := ⟨Nat.le_refl _, fun r hr => (by cases hr), Nat.le_refl _, Nat.le_refl _, Nat.le_refl _, Nat.le_refl _⟩
theorem Bd.mono {s : Sh} {T T' n n' : Nat} (h : Bd s T n) (h1 : T ≤ T') (h2 : n ≤ n') : Bd s T' n' :=
  ⟨Nat.le_trans h.rw h1, fun r hr => Nat.le_trans (h.ls r hr) h1, Nat.le_trans h.lk h2, Nat.le_trans h.rc h2, Nat.le_trans h.ov h2, Nat.le_trans h.lw h1⟩
theorem Bd.room {s : Sh} {T n : Nat} (h : Bd s T n) {c : Cm} (hT : T < 800000) (hn : n < 800000) (hr : c.reads.length ≤ 800000) (hw : c.writes.length ≤ 800000) : Room s c (lwS s.locks) (T - lwS s.locks) where
  lk := by have := h.lk; omega
  rc := by have := h.rc; omega
  ov := by have := h.ov; omega
  cr := hr
  cw := hw
  lw := fun l hl => lwS_mem hl
  b1 := by have := h.rw; omega
  b2 := fun r hr => by have := h.ls r hr; omega
  b3 := by have := h.lw; omega
theorem puts_len : ∀ (L : List Wr) (R : List Rw) (ts : Int), (puts R L ts).length ≤ R.length + L.length
  | [], R, ts => Nat.le_refl _
  | x :: L, R, ts => by
    have h1 := puts_len L (putW R x ts) ts
    have h2 := put_len R x.key ⟨ts, x.val, x.dead⟩
    have e : puts R (x :: L) ts = puts (putW R x ts) L ts := rfl
    have e2 : (putW R x ts).length = (putR R x.key ⟨ts, x.val, x.dead⟩).length := rfl
    rw [e, List.length_cons]
    omega
theorem puts_each : ∀ (L : List Wr) (R : List Rw) (ts : Int) (n : Nat), (∀ r ∈ R, r.list.length ≤ n) → ∀ r ∈ puts R L ts, r.list.length ≤ n + L.length
  | [], R, ts, n, h => h
  | x :: L, R, ts, n, h => by
    have := puts_each L (putW R x ts) ts (n + 1) (put_less h _ _)
    intro r hr
    have := this r hr
    rw [List.length_cons]
    omega
theorem bd_prepare {s : Sh} {T n : Nat} (h : Bd s T n) (c : Cm) : Bd (s.prepare c).1 (T + c.writes.length) (n + 1) := by
  have hm : Bd s (T + c.writes.length) (n + 1) := h.mono (Nat.le_add_right _ _) (Nat.le_succ _)
  unfold Sh.prepare
  split
  · exact hm
  · split
    · exact hm
    · split
      · exact hm
      · have e : lwS (s.locks ++ [newL c]) = lwS s.locks + c.writes.length := lwS_snoc _ _
        have := h.rw
        have := h.lw
        have := h.lk
        exact ⟨by show s.rows.length + lwS (s.locks ++ [newL c]) ≤ _; rw [e]; omega, fun r hr => by
          have := h.ls r hr
          show r.list.length + lwS (s.locks ++ [newL c]) ≤ _
          rw [e]
          omega, by show (s.locks ++ [newL c]).length ≤ _; rw [List.length_append]; simp; omega, Nat.le_succ_of_le h.rc, Nat.le_succ_of_le h.ov, by show lwS (s.locks ++ [newL c]) ≤ _; rw [e]; omega⟩
theorem bd_enter {s : Sh} {T n : Nat} (h : Bd s T n) (r : Rc) : Bd (s.enter r) T (n + 1) :=
  ⟨h.rw, h.ls, Nat.le_succ_of_le h.lk, by have := h.rc; show (s.recs ++ [r]).length ≤ _; rw [List.length_append]; simp; omega, Nat.le_succ_of_le h.ov, h.lw⟩
theorem bd_resolve {s : Sh} {T n : Nat} (h : Bd s T n) (c : Cm) : Bd (s.resolve c).1 T (n + 1) := by
  have hm : Bd s T (n + 1) := h.mono (Nat.le_refl _) (Nat.le_succ _)
  unfold Sh.resolve
  split
  · exact hm
  · have he : Bd (s.ended c.txn) T (n + 1) := ⟨h.rw, h.ls, Nat.le_succ_of_le h.lk, Nat.le_succ_of_le h.rc, by have := h.ov; show (s.over ++ [c.txn]).length ≤ _; rw [List.length_append]; simp; omega, h.lw⟩
    have key : ∀ R, R.length + lwS ((s.ended c.txn).unlock c.txn).1.locks ≤ T → (∀ r ∈ R, r.list.length + lwS ((s.ended c.txn).unlock c.txn).1.locks ≤ T) → lwS ((s.ended c.txn).unlock c.txn).1.locks ≤ T → ∀ H, Bd ⟨R, ((s.ended c.txn).unlock c.txn).1.locks, ((s.ended c.txn).unlock c.txn).1.recs, ((s.ended c.txn).unlock c.txn).1.over, H⟩ T (n + 1) := by
      intro R h1 h2 h3 H
      refine ⟨h1, h2, ?_, ?_, ?_, h3⟩
      · rcases unlock_cases (s.ended c.txn) c.txn with ⟨e, _⟩ | ⟨i, hi, _, e⟩
        · rw [e]; exact he.lk
        · rw [e]
          show ((s.ended c.txn).locks.eraseIdx i).length ≤ n + 1
          have := he.lk
          rw [List.length_eraseIdx]
          split <;> omega
      · rcases unlock_cases (s.ended c.txn) c.txn with ⟨e, _⟩ | ⟨i, hi, _, e⟩ <;> (rw [e]; exact he.rc)
      · rcases unlock_cases (s.ended c.txn) c.txn with ⟨e, _⟩ | ⟨i, hi, _, e⟩ <;> (rw [e]; exact he.ov)
    have hr0 := unlock_rows (s.ended c.txn) c.txn
    have hlw : lwS ((s.ended c.txn).unlock c.txn).1.locks + ((s.ended c.txn).unlock c.txn).2.length ≤ lwS s.locks := by
      rcases unlock_cases (s.ended c.txn) c.txn with ⟨e, _⟩ | ⟨i, hi, _, e⟩
      · rw [e]; exact Nat.le_refl _
      · rw [e]
        exact Nat.le_of_eq (lwS_cut s.locks i hi)
    have h1 := h.rw
    have h3 := h.lw
    split
    · refine key (puts ((s.ended c.txn).unlock c.txn).1.rows ((s.ended c.txn).unlock c.txn).2 c.ts) ?_ ?_ (by omega) _
      · have := puts_len ((s.ended c.txn).unlock c.txn).2 ((s.ended c.txn).unlock c.txn).1.rows c.ts
        rw [hr0] at this ⊢
        have e : (s.ended c.txn).rows.length = s.rows.length := rfl
        omega
      · intro r hr
        rw [hr0] at hr
        have hT : ∀ r ∈ s.rows, r.list.length ≤ T - lwS s.locks := fun r hr => by have := h.ls r hr; omega
        have := puts_each _ _ _ _ hT r hr
        omega
    · have hh : ((s.ended c.txn).unlock c.txn).1 = ⟨((s.ended c.txn).unlock c.txn).1.rows, ((s.ended c.txn).unlock c.txn).1.locks, ((s.ended c.txn).unlock c.txn).1.recs, ((s.ended c.txn).unlock c.txn).1.over, ((s.ended c.txn).unlock c.txn).1.high⟩ := rfl
      show Bd ((s.ended c.txn).unlock c.txn).1 T (n + 1)
      rw [hh]
      refine key _ ?_ ?_ (by omega) _
      · rw [hr0]
        have e : (s.ended c.txn).rows.length = s.rows.length := rfl
        omega
      · rw [hr0]
        intro r hr
        have := h.ls r hr
        omega
theorem bd_act {s : Sh} {T n : Nat} (h : Bd s T n) (a : Int) (c : Cm) : Bd (s.act a c).1 (T + c.writes.length) (n + 1) := by
  have hm : Bd s (T + c.writes.length) (n + 1) := h.mono (Nat.le_add_right _ _) (Nat.le_succ _)
  unfold Sh.act
  split
  · exact bd_prepare h c
  · split
    · unfold Sh.commit
      split
      · exact hm
      · split
        · exact (bd_enter h _).mono (Nat.le_add_right _ _) (Nat.le_refl _)
        · exact (bd_enter h _).mono (Nat.le_add_right _ _) (Nat.le_refl _)
    · split
      · unfold Sh.abort
        split
        · exact hm
        · exact (bd_enter h _).mono (Nat.le_add_right _ _) (Nat.le_refl _)
      · split
        · exact (bd_resolve h c).mono (Nat.le_add_right _ _) (Nat.le_refl _)
        · exact hm
/-- A script. -/
def Sh.acts (s : Sh) (L : List Oq) : Sh := L.foldl (fun s q => (s.act q.1 q.2).1) s
theorem acts_next {s : Sh} {L : List Oq} {i : Nat} (h : i < L.length) : s.acts (L.take (i + 1)) = ((s.acts (L.take i)).act L[i].1 L[i].2).1 := by
  unfold Sh.acts
  rw [List.take_succ_eq_append_getElem h, List.foldl_append]
  rfl
theorem gsz_w (c : Cm) : c.writes.length + 1 ≤ gsz c := by unfold gsz; omega
theorem gsz_r (c : Cm) : c.reads.length ≤ gsz c := by unfold gsz; omega
theorem gsz_mem : ∀ {L : List Oq} {q : Oq}, q ∈ L → gsz q.2 ≤ tot L
  | x :: L, q, h => by
    have e : tot (x :: L) = gsz x.2 + tot L := by simp [tot]
    rw [e]
    rcases List.mem_cons.1 h with rfl | h
    · omega
    · have := gsz_mem h
      omega
theorem bd_acts {s : Sh} {T n : Nat} (h : Bd s T n) : ∀ L : List Oq, Bd (s.acts L) (T + tot L) (n + tot L) := by
  intro L
  induction L generalizing s T n with
  | nil => exact h
  | cons q L ih =>
    have e : tot (q :: L) = gsz q.2 + tot L := by simp [tot]
    have hg := gsz_w q.2
    have := ih (bd_act h q.1 q.2)
    exact this.mono (by rw [e]; omega) (by rw [e]; omega)
end Go.Proofs.Ytcoaahlakkghhaa
/- Shards, plain: that no two locks meet; that what is locked stays as it was seen. -/
namespace Go.Proofs.Ytcoaahlakkghhaa
theorem busyR_zero {p : Lk → Bool} {L : List Lk} (h : (busyR p L).err = 0) : ∀ l ∈ L, p l = false := by
  unfold busyR at h
  cases e : L.find? p with
  | none =>
    intro l hl
    have := List.find?_eq_none.1 e l hl
    simpa using this
  | some l =>
    rw [e] at h
    exact absurd h (by decide : ¬ (131 : Int) = 0)
theorem busyR_err (p : Lk → Bool) (L : List Lk) : (busyR p L).err = 0 ∨ (busyR p L).err = 131 := by
  unfold busyR
  cases L.find? p with
  | none => exact .inl rfl
  | some l => exact .inr rfl
theorem agRd_none {s : Sh} : ∀ {L : List Rn}, againstRd s L = none → ∀ r ∈ L, (∀ l ∈ s.locks, holdsInB l r.span = false) ∧ staleB s.rows r = false
  | [], _, r, hr => by cases hr
  | x :: L, h, r, hr => by
    unfold againstRd at h
    split at h
    · cases h
    · rename_i h1
      split at h
      · cases h
      · rename_i h2
        rcases List.mem_cons.1 hr with rfl | hr
        · have h1' : (busyRd s.locks r.span).err = 0 := by
            rcases busyR_err (fun l => holdsInB l r.span) s.locks with q | q
            · exact q
            · exact absurd (show (busyRd s.locks r.span).err ≠ 0 by rw [show (busyRd s.locks r.span).err = 131 from q]; decide) h1
          exact ⟨busyR_zero h1', by simpa using h2⟩
        · exact agRd_none h r hr
theorem agWr_none {s : Sh} : ∀ {L : List Wr}, againstWr s L = none → ∀ x ∈ L, ∀ l ∈ s.locks, holdsB l x.key = false ∧ coversB l x.key = false
  | [], _, r, hr => by cases hr
  | y :: L, h, x, hx => by
    unfold againstWr at h
    split at h
    · cases h
    · rename_i h1
      rcases List.mem_cons.1 hx with rfl | hx
      · have h1' : (busyWr s.locks x.key).err = 0 := by
          rcases busyR_err (fun l => holdsB l x.key || coversB l x.key) s.locks with q | q
          · exact q
          · exact absurd (show (busyWr s.locks x.key).err ≠ 0 by rw [show (busyWr s.locks x.key).err = 131 from q]; decide) h1
        intro l hl
        have := busyR_zero h1' l hl
        simpa using this
      · exact agWr_none h x hx
theorem agRd_err {s : Sh} : ∀ {L : List Rn} {r : Rz}, againstRd s L = some r → r.err ≠ 0
  | [], _, h => by cases h
  | x :: L, r, h => by
    unfold againstRd at h
    split at h
    · cases h
      assumption
    · split at h
      · cases h
        decide
      · exact agRd_err h
theorem agWr_err {s : Sh} : ∀ {L : List Wr} {r : Rz}, againstWr s L = some r → r.err ≠ 0
  | [], _, h => by cases h
  | x :: L, r, h => by
    unfold againstWr at h
    split at h
    · cases h
      assumption
    · exact agWr_err h
theorem against_zero {s : Sh} {c : Cm} (h : (against s c).err = 0) : againstRd s c.reads = none ∧ againstWr s c.writes = none := by
  cases e : againstRd s c.reads with
  | some r =>
    rw [against_rd e] at h
    exact absurd h (agRd_err e)
  | none =>
    refine ⟨rfl, ?_⟩
    cases e2 : againstWr s c.writes with
    | some r =>
      rw [against_wr e e2] at h
      exact absurd h (agWr_err e2)
    | none => rfl
/-- No lock writes what the other one writes or reads. -/
def Meets (a b : Lk) : Prop := ∃ x ∈ a.writes, holdsB b x.key = true ∨ coversB b x.key = true
def Clean (L : List Lk) : Prop := L.Pairwise fun a b => ¬ Meets a b ∧ ¬ Meets b a
theorem clean_prepare {s : Sh} (h : Clean s.locks) (c : Cm) : Clean (s.prepare c).1.locks := by
  unfold Sh.prepare
  split
  · exact h
  · split
    · exact h
    · split
      · exact h
      · rename_i h1 h2 h3
        obtain ⟨hr, hw⟩ := against_zero (s := s) (c := c) (by simpa using h3)
        show Clean (s.locks ++ [newL c])
        refine List.pairwise_append.2 ⟨h, List.pairwise_singleton _ _, fun a ha b hb => ?_⟩
        rw [List.mem_singleton.1 hb]
        constructor
        · rintro ⟨x, hx, q | q⟩
          · unfold holdsB at q
            obtain ⟨y, hy, e⟩ := List.any_eq_true.1 q
            have e' := of_decide_eq_true e
            have hy' : y ∈ c.writes := hy
            have := (agWr_none hw y hy' a ha).1
            rw [e'] at this
            have h2 : holdsB a x.key = true := List.any_eq_true.2 ⟨x, hx, decide_eq_true rfl⟩
            rw [this] at h2
            cases h2
          · unfold coversB at q
            obtain ⟨p, hp, e⟩ := List.any_eq_true.1 q
            obtain ⟨r, hr', e3⟩ := List.mem_map.1 (show p ∈ c.reads.map Rn.span from hp)
            have := (agRd_none hr r hr').1 a ha
            have h2 : holdsInB a r.span = true := List.any_eq_true.2 ⟨x, hx, by rw [e3]; exact e⟩
            rw [this] at h2
            cases h2
        · rintro ⟨x, hx, q | q⟩
          · have := (agWr_none hw x hx a ha).1
            rw [this] at q
            cases q
          · have := (agWr_none hw x hx a ha).2
            rw [this] at q
            cases q
theorem resolve_locks (s : Sh) (c : Cm) : (s.resolve c).1.locks = s.locks ∨ ∃ (i : Nat) (h : i < s.locks.length), s.locks[i].txn = c.txn ∧ (s.resolve c).1.locks = s.locks.eraseIdx i := by
  unfold Sh.resolve
  split
  · exact .inl rfl
  · have e0 : ∀ (x : Sh) (ys : List Wr) (t : Int), ((if 0 < t then (x.puts ys t).raise t else x) : Sh).locks = x.locks := fun x ys t => by split <;> rfl
    simp only [e0]
    rcases unlock_cases (s.ended c.txn) c.txn with ⟨e, _⟩ | ⟨i, hi, ht, e⟩
    · rw [e]
      exact .inl rfl
    · rw [e]
      exact .inr ⟨i, hi, ht, rfl⟩
theorem act_locks_other {s : Sh} {c : Cm} (a : Int) (h1 : ¬ c.kind = 1) (h4 : ¬ c.kind = 4) : (s.act a c).1.locks = s.locks ∧ (s.act a c).1.rows = s.rows := by
  unfold Sh.act
  rw [if_neg h1]
  split
  · unfold Sh.commit
    split
    · exact ⟨rfl, rfl⟩
    · split <;> exact ⟨rfl, rfl⟩
  · split
    · unfold Sh.abort
      split <;> exact ⟨rfl, rfl⟩
    · exact ⟨rfl, rfl⟩
theorem clean_act {s : Sh} (h : Clean s.locks) (a : Int) (c : Cm) : Clean (s.act a c).1.locks := by
  by_cases h1 : c.kind = 1
  · unfold Sh.act
    rw [if_pos h1]
    exact clean_prepare h c
  · by_cases h4 : c.kind = 4
    · have e : s.act a c = s.resolve c := by
        unfold Sh.act
        rw [if_neg h1, if_neg (by omega), if_neg (by omega), if_pos h4]
      rw [e]
      rcases resolve_locks s c with q | ⟨i, hi, _, q⟩
      · rw [q]; exact h
      · rw [q]
        exact List.Pairwise.sublist (List.eraseIdx_sublist _ _) h
    · rw [(act_locks_other a h1 h4).1]
      exact h
theorem clean_acts {s : Sh} (h : Clean s.locks) : ∀ L : List Oq, Clean (s.acts L).locks := by
  intro L
  induction L generalizing s with
  | nil => exact h
  | cons q L ih => exact ih (clean_act h q.1 q.2)
theorem clean_at {L : List Lk} (h : Clean L) {i k : Nat} (hi : i < L.length) (hk : k < L.length) (hik : i ≠ k) {x : Wr} (hx : x ∈ L[i].writes) : holdsB L[k] x.key = false ∧ coversB L[k] x.key = false := by
  have hn : ¬ Meets L[i] L[k] := by
    rcases Nat.lt_or_gt_of_ne hik with q | q
    · exact (List.pairwise_iff_getElem.1 h i k hi hk q).1
    · exact (List.pairwise_iff_getElem.1 h k i hk hi q).2
  constructor
  · cases e : holdsB L[k] x.key with
    | false => rfl
    | true => exact absurd ⟨x, hx, .inl e⟩ hn
  · cases e : coversB L[k] x.key with
    | false => rfl
    | true => exact absurd ⟨x, hx, .inr e⟩ hn
/-! ### What is locked stays -/
structure Hold (s : Sh) (t : Td) (p : Sn) : Prop where
  mine : ∃ l ∈ s.locks, l.txn = t ∧ p ∈ l.spans
  off : ∀ l ∈ s.locks, ∀ x ∈ l.writes, inSn p x.key = false
theorem span_out {R : List Rw} {k : ByteArray} {v : Ve} {t : Int} {x y : ByteArray} (h : inSpan x y k = false) : span (putR R k v) x y t = span R x y t := by
  have hin : ∀ i, span (inn R i ⟨k, [v]⟩) x y t = span R x y t := fun i => by
    rw [span_fm, span_fm]
    unfold inn
    rw [List.filterMap_append, List.filterMap_cons]
    simp only [h, Bool.false_eq_true, if_false]
    rw [← List.filterMap_append, List.take_append_drop]
  unfold putR
  split
  · rfl
  · split
    · rename_i r hr
      split
      · rename_i hk
        split
        · rfl
        · obtain ⟨hi, e⟩ := List.getElem?_eq_some_iff.1 hr
          rw [span_fm, span_fm, List.set_eq_take_append_cons_drop, if_pos hi]
          have e0 : R = R.take (place R k) ++ r :: R.drop (place R k + 1) := by
            rw [← e, List.getElem_cons_drop, List.take_append_drop]
          have hrk : inSpan x y r.key = false := by rw [hk]; exact h
          rw [List.filterMap_append, List.filterMap_cons]
          simp only [h, Bool.false_eq_true, if_false]
          have e5 : R.filterMap (fun r => if inSpan x y r.key then hit t r else none) = (R.take (place R k) ++ r :: R.drop (place R k + 1)).filterMap (fun r => if inSpan x y r.key then hit t r else none) := congrArg _ e0
          rw [e5, List.filterMap_append, List.filterMap_cons]
          simp only [hrk, Bool.false_eq_true, if_false]
      · exact hin _
    · exact hin _
theorem puts_out : ∀ (L : List Wr) (R : List Rw) (ts t : Int) (p : Sn), (∀ x ∈ L, inSn p x.key = false) → span (puts R L ts) p.lo p.hi t = span R p.lo p.hi t
  | [], R, ts, t, p, _ => rfl
  | x :: L, R, ts, t, p, h => by
    have e : puts R (x :: L) ts = puts (putW R x ts) L ts := rfl
    rw [e, puts_out L _ ts t p (fun y hy => h y (List.mem_cons_of_mem _ hy))]
    exact span_out (h x List.mem_cons_self)
theorem hold_act {s : Sh} {t : Td} {p : Sn} (h : Hold s t p) (a : Int) (c : Cm) (hc : ¬ (c.kind = 4 ∧ c.txn = t)) : Hold (s.act a c).1 t p ∧ span (s.act a c).1.rows p.lo p.hi ever = span s.rows p.lo p.hi ever := by
  by_cases h1 : c.kind = 1
  · unfold Sh.act
    rw [if_pos h1]
    unfold Sh.prepare
    split
    · exact ⟨h, rfl⟩
    · split
      · exact ⟨h, rfl⟩
      · split
        · exact ⟨h, rfl⟩
        · rename_i _ _ h3
          obtain ⟨hr, hw⟩ := against_zero (s := s) (c := c) (by simpa using h3)
          obtain ⟨l, hl, ht, hp⟩ := h.mine
          refine ⟨⟨⟨l, List.mem_append_left _ hl, ht, hp⟩, fun l' hl' x hx => ?_⟩, rfl⟩
          rcases List.mem_append.1 (show l' ∈ s.locks ++ [newL c] from hl') with q | q
          · exact h.off l' q x hx
          · rw [List.mem_singleton.1 q] at hx
            have := (agWr_none hw x hx l hl).2
            unfold coversB at this
            have := List.any_eq_false.1 this p hp
            simpa using this
  · by_cases h4 : c.kind = 4
    · have e : s.act a c = s.resolve c := by
        unfold Sh.act
        rw [if_neg h1, if_neg (by omega), if_neg (by omega), if_pos h4]
      rw [e]
      have hct : ¬ c.txn = t := fun q => hc ⟨h4, q⟩
      unfold Sh.resolve
      split
      · exact ⟨h, rfl⟩
      · rcases unlock_cases (s.ended c.txn) c.txn with ⟨e, _⟩ | ⟨i, hi, ht, e⟩
        · rw [e]
          split
          · exact ⟨⟨h.mine, h.off⟩, rfl⟩
          · exact ⟨⟨h.mine, h.off⟩, rfl⟩
        · rw [e]
          have hi' : i < s.locks.length := hi
          have hmine : ∃ l ∈ s.locks.eraseIdx i, l.txn = t ∧ p ∈ l.spans := by
            obtain ⟨l, hl, hlt, hp⟩ := h.mine
            obtain ⟨j, hj, rfl⟩ := List.getElem_of_mem hl
            have hji : j ≠ i := fun q => by
              subst q
              exact hct (ht.symm.trans hlt)
            exact ⟨s.locks[j], List.mem_eraseIdx_iff_getElem.2 ⟨j, hj, hji, rfl⟩, hlt, hp⟩
          have hoff : ∀ l ∈ s.locks.eraseIdx i, ∀ x ∈ l.writes, inSn p x.key = false := fun l hl => h.off l (List.mem_of_mem_eraseIdx hl)
          split
          · exact ⟨⟨hmine, hoff⟩, puts_out _ _ _ _ p (h.off _ (List.getElem_mem hi'))⟩
          · exact ⟨⟨hmine, hoff⟩, rfl⟩
    · obtain ⟨e1, e2⟩ := act_locks_other (s := s) a h1 h4
      exact ⟨⟨by rw [e1]; exact h.mine, by rw [e1]; exact h.off⟩, by rw [e2]⟩
/-- The first command of ShardHolds. -/
abbrev seeC (t : Td) (p : Sn) (S : List Sm) : Cm := ⟨1, t, 0, [⟨p, S⟩], [], 0, 0, 0⟩
theorem see_act {s : Sh} {t : Td} {p : Sn} (a : Int) : ((s.act a (seeC t p ((span s.rows p.lo p.hi ever).map stOf))).2.nw = false ∧ (s.act a (seeC t p ((span s.rows p.lo p.hi ever).map stOf))).2.err ≠ 130) ∨ ((s.act a (seeC t p ((span s.rows p.lo p.hi ever).map stOf))).2.nw = true ∧ Hold (s.act a (seeC t p ((span s.rows p.lo p.hi ever).map stOf))).1 t p ∧ (s.act a (seeC t p ((span s.rows p.lo p.hi ever).map stOf))).1.rows = s.rows) := by
  unfold Sh.act
  rw [if_pos rfl]
  have hst : staleB s.rows ⟨p, (span s.rows p.lo p.hi ever).map stOf⟩ = false := by unfold staleB; simp
  unfold Sh.prepare
  split
  · exact .inl ⟨rfl, by show (132 : Int) ≠ 130; decide⟩
  · split
    · exact .inl ⟨rfl, by show (0 : Int) ≠ 130; decide⟩
    · split
      · refine .inl ⟨?_, ?_⟩
        · unfold against againstRd
          split
          · rename_i r h
            split at h
            · cases h
              unfold busyRd busyR
              split <;> rfl
            · rw [hst] at h
              cases h
          · rfl
        · unfold against againstRd
          split
          · rename_i r h
            split at h
            · cases h
              rcases busyR_err (fun l => holdsInB l p) s.locks with q | q
              · rw [show (busyRd s.locks p).err = 0 from q]; decide
              · rw [show (busyRd s.locks p).err = 131 from q]; decide
            · rw [hst] at h
              cases h
          · show (0 : Int) ≠ 130
            decide
      · rename_i _ _ h3
        obtain ⟨hr, hw⟩ := against_zero (s := s) (c := seeC t p ((span s.rows p.lo p.hi ever).map stOf)) (by simpa using h3)
        have hb := (agRd_none hr ⟨p, (span s.rows p.lo p.hi ever).map stOf⟩ List.mem_cons_self).1
        refine .inr ⟨rfl, ⟨⟨newL _, List.mem_append_right _ List.mem_cons_self, rfl, List.mem_cons_self⟩, fun l hl x hx => ?_⟩, rfl⟩
        rcases List.mem_append.1 (show l ∈ s.locks ++ [newL _] from hl) with q | q
        · have := hb l q
          unfold holdsInB at this
          have := List.any_eq_false.1 this x hx
          simpa using this
        · rw [List.mem_singleton.1 q] at hx
          cases hx
end Go.Proofs.Ytcoaahlakkghhaa
/- A shard beside what a law keeps; a command of a list, laid in a box and done. -/
namespace Go.Proofs.Ytcoaahlakkghhaa
open Go.RowKit
/-- A shard that was made behind w, and blocks T that stay as they are in V0. -/
structure Sz (w V0 V : World) (A : Nat) (T S : Nat → Prop) (s : Sh) : Prop where
  sy : Sy V A S s
  lo : ∀ k, S k → w.heap.size ≤ k
  off : ∀ k, T k → ¬ S k
  bl : Below w.heap.size w V
  sz : V0.heap.size ≤ V.heap.size
  kp : ∀ k, T k → k < V0.heap.size ∧ V.heap[k]? = V0.heap[k]?
def St (w V0 V : World) (A : Nat) (T : Nat → Prop) (s : Sh) : Prop := ∃ S, Sz w V0 V A T S s
section
variable {w V0 V V' X : World} {A Y : Nat} {T T' S : Nat → Prop} {s s' : Sh}
theorem Sz.on (h : Sz w V0 V A T S s) (hb : Below V.heap.size V X) : Sz w V0 X A T S s :=
  ⟨h.sy.on hb, h.lo, h.off, h.bl.trans (hb.mono h.bl.size), Nat.le_trans h.sz hb.size, fun k hk => ⟨(h.kp k hk).1, (hb.block k (Nat.lt_of_lt_of_le (h.kp k hk).1 h.sz)).trans (h.kp k hk).2⟩⟩
theorem St.on (h : St w V0 V A T s) (hb : Below V.heap.size V X) : St w V0 X A T s := by
  obtain ⟨S, h⟩ := h
  exact ⟨S, h.on hb⟩
theorem Sz.step (h : Sz w V0 V A T S s) (st : Step V A S s' X) : St w V0 X A T s' := by
  obtain ⟨S', hy, hg, hf⟩ := st
  refine ⟨S', hy, fun k hk => ?_, fun k hk q => ?_, ?_, Nat.le_trans h.sz hf.size, fun k hk => ⟨(h.kp k hk).1, ?_⟩⟩
  · rcases hg k hk with q | q
    · exact h.lo k q
    · have := h.bl.size
      omega
  · have h1 := (h.kp k hk).1
    have h2 := h.sz
    rcases hg k q with q | q
    · exact h.off k hk q
    · omega
  · exact h.bl.trans (hf.toBelow (fun k hk q => by have := h.lo k q; omega) h.bl.size)
  · exact (hf.block k (Nat.lt_of_lt_of_le (h.kp k hk).1 h.sz) (h.off k hk)).trans (h.kp k hk).2
theorem St.anew (h : St w V0 V A T s) : St w V V A T s := by
  obtain ⟨S, h⟩ := h
  exact ⟨S, h.sy, h.lo, h.off, h.bl, Nat.le_refl _, fun k hk => ⟨Nat.lt_of_lt_of_le (h.kp k hk).1 h.sz, rfl⟩⟩
theorem St.more (h : St w V0 V A T s) (hb : Below V.heap.size V V') (hT : ∀ k, T' k → T k ∨ (V.heap.size ≤ k ∧ k < V'.heap.size)) : St w V' V' A T' s := by
  obtain ⟨S, h⟩ := h
  refine ⟨S, h.sy.on hb, h.lo, fun k hk q => ?_, h.bl.trans (hb.mono h.bl.size), Nat.le_refl _, fun k hk => ⟨?_, rfl⟩⟩
  · rcases hT k hk with z | z
    · exact h.off k z q
    · have := h.sy.lt k q
      omega
  · rcases hT k hk with z | z
    · exact Nat.lt_of_lt_of_le (h.kp k z).1 (Nat.le_trans h.sz hb.size)
    · exact z.2
theorem St.bl (h : St w V0 V A T s) : Below w.heap.size w V := by
  obtain ⟨S, h⟩ := h
  exact h.bl
theorem St.kp (h : St w V0 V A T s) {k : Nat} (hk : T k) : V.heap[k]? = V0.heap[k]? := by
  obtain ⟨S, h⟩ := h
  exact (h.kp k hk).2
/-- A new shard. -/
theorem St.new {e : Ending} (hb : Below w.heap.size w V) (hT : ∀ k, T k → k < V.heap.size) (h : ∃ A S, e = .returned (.pointer (some ⟨A, 0, none⟩)) ∧ Sy X A S Sh.nil ∧ (∀ k, S k → V.heap.size ≤ k ∧ k < X.heap.size) ∧ Below V.heap.size V X) : ∃ A, e = .returned (.pointer (some ⟨A, 0, none⟩)) ∧ St w V X A T Sh.nil := by
  obtain ⟨A, S, e, hy, hS, hbX⟩ := h
  exact ⟨A, e, S, hy, fun k hk => Nat.le_trans hb.size (hS k hk).1, fun k hk q => (by have := hT k hk; have := (hS k q).1; omega), hb.trans (hbX.mono hb.size), hbX.size, fun k hk => ⟨hT k hk, hbX.block k (hT k hk)⟩⟩
/-- A command whose lists are its own. -/
def OwnV (V X : World) (c : Cm) (cs : Array Value) : Prop := ∃ N ra rc wa wc K, V.heap.size ≤ N ∧ OwnC N X c cs ra rc wa wc K
theorem OwnV.on {c : Cm} {cs : Array Value} (h : OwnV V X c cs) {Z : World} (hb : Below X.heap.size X Z) : OwnV V Z c cs := by
  obtain ⟨N, ra, rc, wa, wc, K, h1, h2⟩ := h
  exact ⟨N, ra, rc, wa, wc, K, h1, h2.stays (Fr.ofBelow (fun _ => False) hb) (fun _ q => q.elim)⟩
/-- What is wanted to do a command that lies in a box. -/
structure Dq (w V0 V : World) (A Y : Nat) (T : Nat → Prop) (s : Sh) (q : Oq) (cs os : Array Value) : Prop where
  st : St w V0 V A T s
  jY : V.heap[Y]? = some (.cells os 49 (0, 0))
  yl : w.heap.size ≤ Y
  a0 : V.cell? ⟨Y, 0, none⟩ = some (.int .i64 q.1)
  at' : ∀ j, V.cell? ⟨Y, j + 1, none⟩ = cs[j]?
  ld : ∀ X, Below V.heap.size V X → (Instr.loadAt 47 (.pointer (some ⟨Y, 1, none⟩))).run Try.prog X = .ok (.agg cs) X
  ok : ∃ ra rc wa wc, CmOk V q.2 cs ra rc wa wc
  ow : ∀ X, Below V.heap.size V X → Calls Try.prog 12 #[.agg cs] X fun e w' => Below X.heap.size X w' ∧ ∃ cs', e = .returned (.agg cs') ∧ OwnV V w' q.2 cs'
  go : ∀ X cs', Below V.heap.size V X → OwnV V X q.2 cs' → Calls Try.prog 13 #[.pointer (some ⟨A, 0, none⟩), .int .i64 q.1, .agg cs'] X fun e w' => e = .returned (rzV (s.act q.1 q.2).2) ∧ St w V0 w' A T (s.act q.1 q.2).1 ∧ w'.heap[Y]? = some (.cells os 49 (0, 0))
theorem dq_of {q : Oq} {cs os : Array Value} {ra wa : Option Addr} {rc wc : Nat} (hS : Sz w V0 V A T S s) (jY : V.heap[Y]? = some (.cells os 49 (0, 0))) (yl : w.heap.size ≤ Y) (hy : ¬ S Y) (h0 : os[0]? = some (.int .i64 q.1)) (hos : ∀ j, os[j + 1]? = cs[j]?) (hok : CmOk V q.2 cs ra rc wa wc) (hz : CmSz q.2) {Tb n : Nat} (hbd : Bd s Tb n) (h1 : Tb < 800000) (h2 : n < 800000) (h3 : q.2.reads.length ≤ 800000) (h4 : q.2.writes.length ≤ 800000) : Dq w V0 V A Y T s q cs os := by
  refine ⟨⟨S, hS⟩, jY, yl, (cell_blk jY 0).trans h0, fun j => (cell_blk jY (j + 1)).trans (hos j), fun X hX => ?_, ⟨ra, rc, wa, wc, hok⟩, fun X hX => ?_, fun X cs' hX ho => ?_⟩
  · have jX := (hX.block Y (blk_lt jY)).trans jY
    have q := run_loadAt_mid (P := Try.prog) X Y 1 47 cs.toList _ (fun j v hv => by
      rw [Nat.add_comm 1 j, cell_blk jX (j + 1), hos j, ← hv]
      simp) Try.underlying47 rfl (by rw [Array.length_toList, hok.cc.sz]; exact size47)
    simpa using q
  · refine (own_any (hok.cc.on hX) hz.rs hz.ws hz.sn).mono ?_
    rintro e w' ⟨cs', ra', rc', wa', wc', K, rfl, ho, hb⟩
    exact ⟨hb, cs', rfl, _, ra', rc', wa', wc', K, hX.size, ho⟩
  · obtain ⟨N, ra', rc', wa', wc', K, hN, ho⟩ := ho
    have hlt := hS.sy.lt
    refine (do_any (hS.sy.on hX) (ho.apart (fun k hk => Nat.lt_of_lt_of_le (hlt k hk) hN)) hok.td hok.kd (hbd.room h1 h2 h3 h4) q.1).mono ?_
    rintro e w' ⟨rfl, hst⟩
    refine ⟨rfl, (hS.on hX).step hst, ?_⟩
    obtain ⟨_, _, _, hf⟩ := hst
    exact (hf.block Y (Nat.lt_of_lt_of_le (blk_lt jY) hX.size) hy).trans ((hX.block Y (blk_lt jY)).trans jY)
end
abbrev op0 : Array Value := #[.int .i64 0, .int .i64 0, .int .i64 0, .int .i64 0, .int .i64 0, .int .i64 0, .int .i64 0, .int .i64 0, .int .i64 0, .slice none 0 0, .slice none 0 0, .int .i64 0, .int .i64 0, .int .i64 0, .int .i64 0, .int .i64 0, .int .i64 0, .string ⟨#[]⟩, .string ⟨#[]⟩, .string ⟨#[]⟩, .string ⟨#[]⟩, .bool false, .int .i64 0, .int .i64 0, .int .i64 0, .string ⟨#[]⟩, .slice none 0 0, .int .i64 0, .int .i64 0, .string ⟨#[]⟩, .int .i64 0]
section
variable {w V0 V : World} {A : Nat} {T : Nat → Prop} {s : Sh} {L : List Oq} {v : Value} {ad : Option Addr} {n cap : Nat}
/-- A command of a list, laid in a box. -/
theorem op_box (hl : Lr opE 31 w L (.slice ad n cap)) (hz : ∀ q ∈ L, CmSz q.2) {i : Nat} (hi : i < L.length) (st : St w V0 V A T s) {Tb m : Nat} (hbd : Bd s Tb m) (h1 : Tb < 800000) (h2 : m < 800000) (h3 : tot L ≤ 800000) :
    ∃ b o os cs X, ad = some ⟨b, o, none⟩ ∧ (Instr.loadAt 49 (.pointer (some ⟨b, o + i * 31, none⟩))).run Try.prog V = .ok (.agg os) V ∧
      (Instr.storeAt 49 (.pointer (some ⟨V.heap.size, 0, none⟩)) (.agg os)).run Try.prog (V.alloc (.cells op0 49)) = .ok () X ∧ Dq w V0 X A V.heap.size T s L[i] cs os ∧ Below V.heap.size V X := by
  obtain ⟨ad', cap', e1, _, _, _, hcs⟩ := hl
  cases e1
  obtain ⟨b, o, cs, ha, _, hE, hcl, hcell⟩ := hcs i hi
  obtain ⟨_, q0, _, ra, rc, wa, wc, hok⟩ := hE
  have hbw := st.bl
  have hld : (Instr.loadAt 49 (.pointer (some ⟨b, o + i * 31, none⟩))).run Try.prog V = .ok (.agg cs.toArray) V := run_loadAt_mid (P := Try.prog) V b (o + i * 31) 49 cs _ (fun j u hu => cell_on hbw (hcell j u hu)) Try.underlying49 rfl (by rw [hcl]; exact size49)
  obtain ⟨W0, hW0⟩ : ∃ W0, W0 = V.alloc (.cells op0 49) := ⟨_, rfl⟩
  have b0 : Below V.heap.size V W0 := by rw [hW0]; exact (Below.refl _ V).alloc (Nat.le_refl _) _
  have jY : W0.heap[V.heap.size]? = some (.cells op0 49 (0, 0)) := by rw [hW0]; exact heap_alloc_new V _
  have hsz : cs.toArray.size = 31 := by simp [hcl]
  obtain ⟨X, hXe, jX, fX⟩ := sets_row jY cs.toArray (by rw [hsz]; rfl)
  have hone : cs.toArray.all (·.oneCell') = true := by
    have q := hok.cc.one
    rw [List.all_toArray, List.all_eq_true] at q ⊢
    intro u hu
    have e2 : cs = cs.take 1 ++ cs.drop 1 := (List.take_append_drop 1 cs).symm
    rw [e2, List.mem_append] at hu
    rcases hu with hu | hu
    · have h1 : cs.take 1 = [.int .i64 L[i].1] := by
        rcases cs with _ | ⟨x, cs⟩
        · cases q0
        · simp only [List.getElem?_cons_zero, Option.some.injEq] at q0
          rw [q0]
          rfl
      rw [h1] at hu
      rw [List.mem_singleton.1 hu]
      rfl
    · exact q u hu
  have hst0 : (Instr.storeAt 49 (.pointer (some ⟨V.heap.size, 0, none⟩)) (.agg cs.toArray)).run Try.prog W0 = .ok () X := by
    rw [hXe]
    exact store_row jY (by rw [hsz]; rfl) (by rw [hsz]; exact size49) hone
  have hVX : Below V.heap.size V X :=
    ⟨fX.os.trans b0.os, fX.tape.trans b0.tape, fX.output.trans b0.output, Nat.le_trans b0.size fX.size, fun k hk => (fX.block k (Nat.lt_of_lt_of_le hk b0.size) (fun e => by have e' : k = V.heap.size := e; omega)).trans (b0.block k hk)⟩
  have hg := gsz_mem (List.getElem_mem hi)
  have hgw := gsz_w L[i].2
  have hgr := gsz_r L[i].2
  have hbX := hbw.trans (hVX.mono hbw.size)
  obtain ⟨S, hS⟩ := st
  refine ⟨b, o, cs.toArray, (cs.drop 1).toArray, X, ha, hld, by rw [← hW0]; exact hst0, ?_, hVX⟩
  refine dq_of (hS.on hVX) jX hbw.size (fun q => ?_) (by simpa using q0) (fun j => by simp) ⟨hok.cc.on hbX, hok.kd, hok.td⟩ (hz _ (List.getElem_mem hi)) hbd h1 h2 (by omega) (by omega)
  have := hS.sy.lt _ q
  omega
end
end Go.Proofs.Ytcoaahlakkghhaa
/- The command that ShardHolds makes itself. -/
namespace Go.Proofs.Ytcoaahlakkghhaa
open Go.RowKit
section
variable {w V0 V X : World} {A N Z : Nat} {T S : Nat → Prop} {s : Sh}
theorem go_own {c : Cm} {cs : Array Value} {ra wa : Option Addr} {rc wc : Nat} {K : List Gr} (st : St w V0 V A T s) (hX : Below V.heap.size V X) (ho : OwnC N X c cs ra rc wa wc K) (hN : V.heap.size ≤ N) (htd : TdOk c.txn) (hkd : I64 c.kind) {Tb n : Nat} (hbd : Bd s Tb n) (h1 : Tb < 800000) (h2 : n < 800000) (h3 : c.reads.length ≤ 800000) (h4 : c.writes.length ≤ 800000) (a : Int) :
    Calls Try.prog 13 #[.pointer (some ⟨A, 0, none⟩), .int .i64 a, .agg cs] X fun e w' => e = .returned (rzV (s.act a c).2) ∧ St w V0 w' A T (s.act a c).1 := by
  obtain ⟨S, hS⟩ := st
  have hlt := hS.sy.lt
  refine (do_any (hS.sy.on hX) (ho.apart (fun k hk => Nat.lt_of_lt_of_le (hlt k hk) hN)) htd hkd (hbd.room h1 h2 h3 h4) a).mono ?_
  rintro e w' ⟨rfl, hst⟩
  exact ⟨rfl, (hS.on hX).step hst⟩
abbrev cmR (t : Td) (rv : Value) : Array Value := #[.int .i64 1, .int .i64 0, .int .i64 0, .int .i64 0, .int .i64 t.1, .int .i64 t.2.1, .int .i64 t.2.2, .int .i64 0, rv, .slice none 0 0, .int .i64 0, .int .i64 0, .int .i64 0, .int .i64 0, .int .i64 0, .int .i64 0, .string ⟨#[]⟩, .string ⟨#[]⟩, .string ⟨#[]⟩, .string ⟨#[]⟩, .bool false, .int .i64 0, .int .i64 0, .int .i64 0, .string ⟨#[]⟩, .slice none 0 0, .int .i64 0, .int .i64 0, .string ⟨#[]⟩, .int .i64 0]
theorem see_own {t : Td} {p : Sn} {Q : List Sm} {lv : Value} (h1 : X.ownsRow N 82 2 lv Q.length (Q.flatMap smL)) (hZ : X.heap[Z]? = some (.cells #[.string p.lo, .string p.hi, lv] 60 (0, 0))) (hN : N ≤ Z) : OwnC N X (seeC t p Q) (cmR t (.slice (some ⟨Z, 0, none⟩) 1 1)) (some ⟨Z, 0, none⟩) 1 none 0 [(⟨p, Q⟩, lv)] := by
  have hrs : X.ownsRow N 60 3 (.slice (some ⟨Z, 0, none⟩) 1 1) 1 ([(⟨p, Q⟩, lv)].flatMap grL) := ⟨rfl, .inr ⟨Z, 1, _, rfl, hN, hZ, Nat.le_refl _, by unfold maxLen; omega, rfl, rfl⟩⟩
  have hrl : Lr rnE 3 X [⟨p, Q⟩] (.slice (some ⟨Z, 0, none⟩) 1 1) := Lr.reads (K := [(⟨p, Q⟩, lv)]) rfl (Lr.own grL_len hrs) (fun g hg => by
    rw [List.mem_singleton.1 hg]
    exact Lr.own smL_len h1)
  refine ⟨⟨rfl, by simp [Value.oneCell'], rfl, rfl, rfl, rfl, rfl, rfl, rfl, rfl, rfl, rfl, hrl, wr_nil X⟩, rfl, hrs, World.ownsRow_nil _ _ _ _, fun g hg => ?_⟩
  rw [List.mem_singleton.1 hg]
  exact h1
/-- One stamp more. -/
theorem sms_snoc {B : Nat} {v : Value} {Q : List Sm} (h : X.ownsRow B 82 2 v Q.length (Q.flatMap smL)) (hB : B ≤ X.heap.size) {x : Sm} {Y : Nat} (hY : X.heap[Y]? = some (.cells #[.string x.1, .int .i64 x.2] 82 (0, 0))) (hf : Q.length < 900000) :
    ∃ ad cap w', (Builtin.append_ #[58, 58] 58 #[v, .slice (some ⟨Y, 0, none⟩) 1 1]).run Try.prog X = .ok (.slice ad (Q.length + 1) cap) w' ∧ w'.ownsRow B 82 2 (.slice ad (Q.length + 1) cap) (Q ++ [x]).length ((Q ++ [x]).flatMap smL) ∧ Fr X w' (fun k => v.ownBlock = some k) := by
  obtain ⟨ad, cap, w', hrun, ho, hg, hat⟩ := run_sm (m := 1) (c := 1) (news := [x].flatMap smL) h hB (.inr ⟨⟨Y, 0, none⟩, rfl, rfl, fun j u hu => by
    rw [add_at, Nat.zero_add, cell_blk hY]
    simpa using hu⟩) (sm_one _) (by omega)
  exact ⟨ad, cap, w', hrun, by rw [List.length_append, List.flatMap_append]; exact ho, Fr.grown (Fr.refl X _) hg (fun k hk => .inl hk)⟩
/-- Stamps of hits, in a row of its own. -/
def SJ (V wr : World) (H : List Hi) (lv iv : Value) : Prop := ∃ j : Nat, j ≤ H.length ∧ iv = .int .i64 (j : Int) ∧ wr.ownsRow V.heap.size 82 2 lv ((H.take j).map stOf).length (((H.take j).map stOf).flatMap smL) ∧ Below V.heap.size V wr
theorem sj_more {H : List Hi} {lv : Value} {j : Nat} {x : Hi} (ho : X.ownsRow V.heap.size 82 2 lv ((H.take j).map stOf).length (((H.take j).map stOf).flatMap smL)) (hb : Below V.heap.size V X) (hj : j < H.length) (hx : H[j] = x) (hl : H.length < 900000) :
    ∃ ad cap w', (Builtin.append_ #[58, 58] 58 #[lv, .slice (some ⟨X.heap.size + 1, 0, none⟩) 1 1]).run Try.prog ((X.alloc (.cells #[.string x.key, .int .i64 x.ts, .string x.val] 80)).alloc (.cells #[.string x.key, .int .i64 x.ts] 82)) = .ok (.slice ad (((H.take j).map stOf).length + 1) cap) w' ∧ SJ V w' H (.slice ad (((H.take j).map stOf).length + 1) cap) (.int .i64 ((j + 1 : Nat) : Int)) := by
  obtain ⟨W3, hW3⟩ : ∃ W3, W3 = (X.alloc (.cells #[.string x.key, .int .i64 x.ts, .string x.val] 80)).alloc (.cells #[.string x.key, .int .i64 x.ts] 82) := ⟨_, rfl⟩
  have hs1 : (X.alloc (.cells #[.string x.key, .int .i64 x.ts, .string x.val] 80)).heap.size = X.heap.size + 1 := by simp
  have j3 : W3.heap[X.heap.size + 1]? = some (.cells #[.string (stOf x).1, .int .i64 (stOf x).2] 82 (0, 0)) := by
    rw [hW3, ← hs1]
    exact heap_alloc_new _ _
  have b3 : Below X.heap.size X W3 := by
    rw [hW3]
    exact ((Below.refl _ X).alloc (Nat.le_refl _) _).alloc (by rw [hs1]; omega) _
  have hlen : ((H.take j).map stOf).length < 900000 := by simp; omega
  obtain ⟨ad, cap, w', hrun, ho', hf⟩ := sms_snoc (own_below ho b3) (Nat.le_trans hb.size b3.size) j3 hlen
  rw [← hW3]
  refine ⟨ad, cap, w', hrun, j + 1, hj, rfl, ?_, ?_⟩
  · have e : (H.take (j + 1)).map stOf = (H.take j).map stOf ++ [stOf x] := by
      rw [List.take_succ_eq_append_getElem hj, List.map_append, hx]
      rfl
    rw [e]
    have e2 : ((H.take j).map stOf ++ [stOf x]).length = ((H.take j).map stOf).length + 1 := by simp
    rw [e2] at ho' ⊢
    exact ho'
  · have b4 := hb.trans (b3.mono hb.size)
    refine b4.trans (hf.toBelow (fun k hk q => ?_) b4.size)
    have := (ho.lt k q).1
    omega
theorem eq37 (a b : Td) (X : World) : (binOp BinOp.eql 37 (tdV a) (tdV b)).run Try.prog X = .ok (.bool (decide (a = b))) X := by
  obtain ⟨a1, a2, a3⟩ := a
  obtain ⟨b1, b2, b3⟩ := b
  by_cases h1 : a1 = b1
  · by_cases h2 : a2 = b2
    · by_cases h3 : a3 = b3
      · subst h1 h2 h3
        rw [decide_eq_true rfl]
        go_simp
      · have e : ¬ ((a1, a2, a3) : Td) = (b1, b2, b3) := fun q => h3 (by cases q; rfl)
        rw [decide_eq_false e]
        subst h1 h2
        go_simp
    · have e : ¬ ((a1, a2, a3) : Td) = (b1, b2, b3) := fun q => h2 (by cases q; rfl)
      rw [decide_eq_false e]
      subst h1
      go_simp
  · have e : ¬ ((a1, a2, a3) : Td) = (b1, b2, b3) := fun q => h1 (by cases q; rfl)
    rw [decide_eq_false e]
    go_simp
end
end Go.Proofs.Ytcoaahlakkghhaa
