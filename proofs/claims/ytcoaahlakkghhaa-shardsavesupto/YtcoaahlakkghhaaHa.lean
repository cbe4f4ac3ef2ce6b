/- The walk of twice: whether two of a list are of one transaction. -/
import Derived.Test.YtcoaahlakkghhaaGv
namespace Go.Proofs.Ytcoaahlakkghhaa
open Go.RowKit Go.Maps
theorem wpl_mup {P : Program} {w w' : World} {ops : Array Oper} {rest : List Oper} {o : Oper} {a : Act} {Q : Exit → Act → World → Prop} {t ty : TypeId} {p k v : Value} {ds : Option Tmp} {ps : String} {af : Array Edge} (x y z : Operand)
    (ho : o = ⟨ds, .mapUpdate t x y z, ty, ps, af, none⟩) (hx : a.eval x = p) (hy : a.eval y = k) (hz : a.eval z = v) (hst : (Instr.mapUpdate t p k v).run P w = .ok () w')
    (h : wpList P ops Q rest (a.put ds undef) w') : wpList P ops Q (o :: rest) a w := by
  subst ho
  subst hx
  subst hy
  subst hz
  refine wpList_plain rfl fun K hK => ?_
  unfold Oper.wp execOp
  simp only [Sem.run_bind, Sem.run_pure, Result.andThen_ok, hst]
  exact hK _ _ h
theorem size37 : (Try.prog.info? 37).map (·.size) = some 3 := by kernel_rfl
theorem size101 : (Try.prog.info? 101).map (·.size) = some 4 := by kernel_rfl
/-! ### Plain -/
def addT (l : List Td) (t : Td) : List Td := if t ∈ l then l else l ++ [t]
def uniq (l : List Td) : List Td := l.foldl addT []
theorem uniq_snoc (l : List Td) (t : Td) : uniq (l ++ [t]) = addT (uniq l) t := by
  unfold uniq
  rw [List.foldl_append]
  rfl
theorem addT_mem {l : List Td} {t x : Td} : x ∈ addT l t ↔ x ∈ l ∨ x = t := by
  unfold addT
  split
  · rename_i h
    constructor
    · exact .inl
    · rintro (q | rfl)
      · exact q
      · exact h
  · simp
theorem fold_mem : ∀ (l acc : List Td) (x : Td), x ∈ l.foldl addT acc ↔ x ∈ acc ∨ x ∈ l
  | [], acc, x => by simp
  | t :: l, acc, x => by
    rw [List.foldl_cons, fold_mem l, addT_mem, List.mem_cons, or_assoc]
theorem uniq_mem {l : List Td} {x : Td} : x ∈ uniq l ↔ x ∈ l := by
  unfold uniq
  rw [fold_mem]
  simp
theorem fold_le : ∀ (l acc : List Td), (l.foldl addT acc).length ≤ acc.length + l.length
  | [], acc => by simp
  | t :: l, acc => by
    rw [List.foldl_cons]
    have h1 := fold_le l (addT acc t)
    have h2 : (addT acc t).length ≤ acc.length + 1 := by
      unfold addT
      split
      · omega
      · simp
    rw [List.length_cons]
    omega
theorem fold_len : ∀ (l acc : List Td), acc.Nodup → ((l.foldl addT acc).length = acc.length + l.length ↔ (acc ++ l).Nodup)
  | [], acc, h => by simp [h]
  | t :: l, acc, h => by
    rw [List.foldl_cons]
    by_cases ht : t ∈ acc
    · have e : addT acc t = acc := by unfold addT; rw [if_pos ht]
      rw [e]
      have h1 := fold_le l acc
      constructor
      · intro q
        rw [List.length_cons] at q
        omega
      · intro q
        rw [List.nodup_append] at q
        exact absurd rfl (q.2.2 t ht t List.mem_cons_self)
    · have e : addT acc t = acc ++ [t] := by unfold addT; rw [if_neg ht]
      have hn : (acc ++ [t]).Nodup := by
        rw [List.nodup_append]
        refine ⟨h, by simp, fun a ha b hb q => ?_⟩
        rw [List.mem_singleton.1 hb] at q
        rw [q] at ha
        exact ht ha
      have := fold_len l (acc ++ [t]) hn
      rw [e]
      rw [List.append_assoc, List.singleton_append] at this
      rw [← this, List.length_append, List.length_cons, List.length_cons, List.length_nil]
      constructor <;> intro q <;> omega
theorem uniq_less (l : List Td) : decide ((uniq l).length < l.length) = decide (¬ l.Nodup) := by
  have h1 := fold_le l []
  have h2 := fold_len l [] List.nodup_nil
  have e : (uniq l).length = (l.foldl addT []).length := rfl
  rw [List.nil_append] at h2
  rw [List.length_nil] at h1 h2
  by_cases q : l.Nodup
  · have := h2.2 q
    rw [decide_eq_false (by omega), decide_eq_false (fun z => z q)]
  · have : ¬ (l.foldl addT []).length = 0 + l.length := fun z => q (h2.1 z)
    rw [decide_eq_true (by omega), decide_eq_true q]
/-! ### In memory -/
def Mq (w : World) (B : Nat) (l : List Td) : Prop := ∃ D : DataW Value, w.ownsMap Try.prog 37 itself B l.length D ∧ (∀ t, TdOk t → has D (klit t) = decide (t ∈ l)) ∧ Maps.size D = (uniq l).length
theorem Mq.made (w : World) : Mq (w.alloc (.map #[] 0)) w.heap.size [] :=
  ⟨_, World.ownsMap_made w _ _ _, fun _ _ => rfl, rfl⟩
theorem Mq.lt {w : World} {B : Nat} {l : List Td} (h : Mq w B l) : B < w.heap.size := by
  obtain ⟨D, h1, _⟩ := h
  exact h1.lt
theorem Mq.on {w w' : World} {B : Nat} {l : List Td} (h : Mq w B l) (hb : Below w.heap.size w w') : Mq w' B l := by
  have hl := h.lt
  obtain ⟨D, ⟨es, clock, h1, h2⟩, h3⟩ := h
  exact ⟨D, ⟨es, clock, (hb.block B hl).trans h1, h2⟩, h3⟩
theorem Mq.put {w : World} {B : Nat} {l : List Td} (h : Mq w B l) (hn : l.length < maxLen) {t : Td} (hi : TdOk t) (x : Value) : ∃ w', (Instr.mapUpdate 90 (.map (some B)) (tdV t) x).run Try.prog w = .ok () w' ∧ Mq w' B (l ++ [t]) ∧ w.grownBy w' (some B) := by
  obtain ⟨D, h1, h2, h3⟩ := h
  obtain ⟨w', hr, h4, h5⟩ := h1.update key37 Try.underlying90 hn (val := x) (d := .held x) (ps := []) (key_of t hi) rfl
  have hl : (l ++ [t]).length = l.length + 1 := by simp
  refine ⟨w', hr, ⟨_, by rw [hl]; exact h4, fun j hj => ?_, ?_⟩, h5⟩
  · by_cases e : j = t
    · subst e
      rw [has_put_same h1.isMap (klit_key hj) _, decide_eq_true (List.mem_append_right _ List.mem_cons_self)]
    · have hne : klit j ≠ klit t := fun q => e (klit_inj hj hi q)
      rw [has_put_other hne, h2 j hj]
      have : (j ∈ l ++ [t]) = (j ∈ l) := by simp [e]
      simp only [this]
  · rw [size_put (h1.tidy key37), h2 t hi, uniq_snoc, h3]
    unfold addT
    by_cases q : t ∈ l
    · rw [if_pos (decide_eq_true q), if_pos (uniq_mem.2 q)]
    · rw [if_neg (by simpa using q), if_neg (fun z => q (uniq_mem.1 z))]
      simp
theorem Mq.len {w : World} {B : Nat} {l : List Td} (h : Mq w B l) (ty : TypeId) : (Builtin.len_ #[90] ty #[.map (some B)]).run Try.prog w = .ok (.int .i64 ((uniq l).length : Nat)) w := by
  obtain ⟨D, h1, _, h3⟩ := h
  rw [← h3]
  exact h1.len Try.underlying90 ty
section
variable {w : World}
set_option maxHeartbeats 1000000 in
set_option maxRecDepth 100000 in
theorem txL_any {x : Lk} {sa wa : Option Addr} {sc wc : Nat} : Calls Try.prog 74 #[lkV x sa sc wa wc] w fun e w' => e = .returned (tdV (x.txn)) ∧ Below w.heap.size w w' := by
  obtain ⟨W, hW⟩ : ∃ W, W = (w.alloc (.cells #[.int .i64 x.txn.1, .int .i64 x.txn.2.1, .int .i64 x.txn.2.2, .int .i64 x.home, .int .i64 x.til, .slice sa x.spans.length sc, .slice wa x.writes.length wc] 68)).alloc (.cells #[.int .i64 0, .int .i64 0, .int .i64 0] 37) := ⟨_, rfl⟩
  obtain ⟨Y, hY⟩ : ∃ Y, w.heap.size = Y := ⟨_, rfl⟩
  obtain ⟨Z, hZ⟩ : ∃ Z, Y + 1 = Z := ⟨_, rfl⟩
  have hb : Below w.heap.size w W := by rw [hW]; exact ((Below.refl _ w).alloc (Nat.le_refl _) _).alloc (by simp) _
  have jY : W.heap[Y]? = some (.cells #[.int .i64 x.txn.1, .int .i64 x.txn.2.1, .int .i64 x.txn.2.2, .int .i64 x.home, .int .i64 x.til, .slice sa x.spans.length sc, .slice wa x.writes.length wc] 68 (0, 0)) := by
    rw [hW, ← hY, Below.heap_alloc _ _ _ (by simp)]
    exact heap_alloc_new w _
  have jZ : W.heap[Z]? = some (.cells #[.int .i64 0, .int .i64 0, .int .i64 0] 37 (0, 0)) := by
    have := heap_alloc_new (w.alloc (.cells #[.int .i64 x.txn.1, .int .i64 x.txn.2.1, .int .i64 x.txn.2.2, .int .i64 x.home, .int .i64 x.til, .slice sa x.spans.length sc, .slice wa x.writes.length wc] 68)) (.cells #[.int .i64 0, .int .i64 0, .int .i64 0] 37)
    rw [hW, ← hZ, ← hY]
    simpa using this
  have c0 : W.cell? ⟨Y, 0, none⟩ = some (.int .i64 (x.txn).1) := cell_blk jY 0
  have c1 : W.cell? ⟨Y, 1, none⟩ = some (.int .i64 (x.txn).2.1) := cell_blk jY 1
  have c2 : W.cell? ⟨Y, 2, none⟩ = some (.int .i64 (x.txn).2.2) := cell_blk jY 2
  obtain ⟨X, hXe, jX, fX⟩ := sets_row jZ #[.int .i64 (x.txn).1, .int .i64 (x.txn).2.1, .int .i64 (x.txn).2.2] rfl
  have hst : (Instr.storeAt 37 (.pointer (some ⟨Z, 0, none⟩)) (tdV (x.txn))).run Try.prog W = .ok () X := by
    rw [hXe]
    exact store_row jZ rfl size37 (by simp [Value.oneCell'])
  have HBX := Lib.hid (hb.trans (fX.toBelow (fun k hk e => by have e' : k = Z := e; omega) hb.size))
  have HJX := Lib.hid jX
  have HW := Lib.hid hW
  have HY := Lib.hid hY
  have HZ := Lib.hid hZ
  clear hb jY jZ hXe jX fX hW hY hZ
  go_enter Try.func74, Try.ntmps74
  go_upto_region 1 with fail
  rw [← HW.out, HY.out, HZ.out]
  go_wp2_with (refine wpl_store _ _ rfl (by simp [Act.eval]) (by simp [Act.eval]) hst ?_)
  refine bodyPost_ret (v := tdV (x.txn)) (results_one Try.results74 rfl (load_var HJX.out Try.underlying37 rfl size37)) rfl ?_
  exact ⟨rfl, HBX.out⟩
set_option maxHeartbeats 2000000 in
set_option maxRecDepth 100000 in
theorem twL_any {L : List Lk} {v : Value} (hl : Lr lkE 7 w L v) (ht : ∀ x ∈ L, TdOk (x.txn)) : Calls Try.prog 73 #[v, .func (.func 74) #[] #[]] w fun e w' => e = .returned (.bool (decide (¬ (L.map (fun x : Lk => x.txn)).Nodup))) ∧ Below w.heap.size w w' := by
  have hmm := @run_makeMap Try.prog
  have HL := Lib.hid hl
  obtain ⟨ad, cap, rfl, _, hle, hcap, _⟩ := hl
  obtain ⟨n, hn⟩ : ∃ n, L.length = n := ⟨_, rfl⟩
  have hmx : (n : Int) ≤ 9223372036854775807 := by unfold maxLen at hcap; omega
  have HN := Lib.hid hn
  have HT := Lib.hid ht
  have HCP : Hid (n ≤ maxLen) := Lib.hid (by omega)
  rw [hn] at HL ⊢
  obtain ⟨B, hB⟩ : ∃ B, w.heap.size = B := ⟨_, rfl⟩
  obtain ⟨W, hW⟩ : ∃ W, W = w.alloc (.map #[] 0) := ⟨_, rfl⟩
  have hmq : Mq W B [] := by rw [hW, ← hB]; exact Mq.made w
  have hbW : Below w.heap.size w W := by rw [hW]; exact (Below.refl _ w).alloc (Nat.le_refl _) _
  have HMQ := Lib.hid hmq
  have HBW := Lib.hid hbW
  have HW := Lib.hid hW
  have HB := Lib.hid hB
  clear hn ht hcap hle hmq hbW hW hB
  go_enter Try.func73, Try.ntmps73
  go_upto_region 2 with fail
  rw [← HW.out, HB.out]
  go_wp2
  go_loopw [11] (fun iv wr => ∃ i : Nat, i ≤ n ∧ iv = .int .i64 (i : Int) ∧ Mq wr B ((L.map (fun x : Lk => x.txn)).take i) ∧ Below w.heap.size w wr) (fun iv _ => n - (intOf iv).toNat)
  case atStart => exact ⟨0, Nat.zero_le _, rfl, by rw [List.take_zero]; exact HMQ.out, HBW.out⟩
  case round =>
    clear HMQ HBW HW
    obtain ⟨i, hi, rfl, hq, hbw⟩ := hrel
    obtain ⟨V1, rfl⟩ : ∃ V1, V1 = wr := ⟨_, rfl⟩
    by_cases hlt : i < n
    · have hiL : i < L.length := by rw [HN.out]; exact hlt
      have k0 : (0 : Int) ≤ i := by omega
      have k1 : (i : Int) < n := by omega
      obtain ⟨ad', cap', e1, _, _, _, hcs⟩ := HL.out.on lkE_held hbw
      obtain ⟨rfl, rfl⟩ : ad' = ad ∧ cap' = cap := by simp only [Value.slice.injEq] at e1; exact ⟨e1.1.symm, e1.2.2.symm⟩
      clear e1
      obtain ⟨b, o, cs, ha, _, hE, hcl, hcell⟩ := hcs i hiL
      obtain ⟨x, hx⟩ : ∃ x, L[i] = x := ⟨_, rfl⟩
      have htx : TdOk (x.txn) := by rw [← hx]; exact HT.out _ (List.getElem_mem hiL)
      have hnx : (L.map (fun x : Lk => x.txn)).take (i + 1) = (L.map (fun x : Lk => x.txn)).take i ++ [x.txn] := by
        rw [List.take_succ_eq_append_getElem (by rw [List.length_map]; exact hiL), List.getElem_map, hx]
      rw [hx] at hE
      subst ha
      obtain ⟨sa, sc, wa, wc, rfl, _, _⟩ := hE
      have hld : (Instr.loadAt 68 (.pointer (some ⟨b, o + i * 7, none⟩))).run Try.prog V1 = .ok (lkV x sa sc wa wc) V1 := run_loadAt_mid (P := Try.prog) V1 b (o + i * 7) 68 ([.int .i64 x.txn.1, .int .i64 x.txn.2.1, .int .i64 x.txn.2.2, .int .i64 x.home, .int .i64 x.til, .slice sa x.spans.length sc, .slice wa x.writes.length wc]) _ (fun j u hu => hcell j u hu) Try.underlying68 rfl size68
      obtain ⟨W0, hW0⟩ : ∃ W0, W0 = V1.alloc (.cells #[.int .i64 0, .int .i64 0, .int .i64 0, .int .i64 0, .int .i64 0, .slice none 0 0, .slice none 0 0] 68) := ⟨_, rfl⟩
      obtain ⟨Y, hY⟩ : ∃ Y, V1.heap.size = Y := ⟨_, rfl⟩
      have b0 : Below V1.heap.size V1 W0 := by rw [hW0]; exact (Below.refl _ V1).alloc (Nat.le_refl _) _
      have jY : W0.heap[Y]? = some (.cells #[.int .i64 0, .int .i64 0, .int .i64 0, .int .i64 0, .int .i64 0, .slice none 0 0, .slice none 0 0] 68 (0, 0)) := by rw [hW0, ← hY]; exact heap_alloc_new V1 _
      obtain ⟨X, hXe, jX, fX⟩ := sets_row jY ([.int .i64 x.txn.1, .int .i64 x.txn.2.1, .int .i64 x.txn.2.2, .int .i64 x.home, .int .i64 x.til, .slice sa x.spans.length sc, .slice wa x.writes.length wc]).toArray rfl
      have hst : (Instr.storeAt 68 (.pointer (some ⟨Y, 0, none⟩)) (lkV x sa sc wa wc)).run Try.prog W0 = .ok () X := by
        rw [hXe]
        exact store_row jY rfl size68 (by simp [Value.oneCell'])
      have hVX : Below V1.heap.size V1 X := b0.trans (fX.toBelow (fun k hk e => by have e' : k = Y := e; omega) b0.size)
      have hld2 : (Instr.loadAt 68 (.pointer (some ⟨Y, 0, none⟩))).run Try.prog X = .ok (lkV x sa sc wa wc) X := load_row jX Try.underlying68 rfl size68
      have htc := txL_any (w := X) (x := x) (sa := sa) (wa := wa) (sc := sc) (wc := wc)
      have HQX := Lib.hid (hq.on hVX)
      have HBX := Lib.hid (hbw.trans (hVX.mono hbw.size))
      rw [hW0, ← hY] at hst
      rw [← hY] at hld2
      have HNX := Lib.hid hnx
      have HTX := Lib.hid htx
      clear hq hbw hcs hcell hcl b0 jY jX fX hVX hnx htx hx hXe hW0 hY
      go_upto_region 5 with (first | refine wpl_load _ rfl (by simp [Act.eval]) hld ?_ | refine wpl_store _ _ rfl (by simp [Act.eval, Act.put]) (by simp [Act.eval, Act.put]) hst ?_)
      go_wp2_with (first | refine wpl_load _ rfl (by simp [Act.eval]) hld2 ?_ | (go_at_call 74; refine htc.mono ?_; rintro e w2 ⟨rfl, hb2⟩; refine Hid.out ?_))
      refine Lib.hid ?_
      obtain ⟨w3, hup, hq3, hg3⟩ := (HQX.out.on hb2).put (by
        rw [List.length_take, List.length_map, HN.out]
        have := HCP.out
        omega) HTX.out (.agg #[])
      have HQ3 := Lib.hid hq3
      have HG3 := Lib.hid ((HBX.out.trans (hb2.mono HBX.out.size)).grown hg3 (Nat.le_trans HBX.out.size hb2.size) (fun k hk => by cases hk; exact Nat.le_of_eq HB.out))
      clear hq3 hg3 hld hst hld2 htc
      go_wp2_with (refine wpl_mup _ _ _ rfl (by simp [Act.eval]) (by simp [Act.eval]) (by simp [Act.eval]) hup ?_)
      go_roundw
      case rel => exact ⟨i + 1, hlt, by go_num, by rw [HNX.out]; exact HQ3.out, HG3.out⟩
      case measure => simp [intOf]; omega
    · have k1 : ¬ ((i : Int) < n) := by omega
      have hall : (L.map (fun x : Lk => x.txn)).take i = L.map (fun x : Lk => x.txn) := List.take_of_length_le (by rw [List.length_map, HN.out]; omega)
      rw [hall] at hq
      have hlen := hq.len
      have hul := uniq_less (L.map (fun x : Lk => x.txn))
      rw [List.length_map, HN.out] at hul
      obtain ⟨m, hm⟩ : ∃ m, (uniq (L.map (fun x : Lk => x.txn))).length = m := ⟨_, rfl⟩
      rw [hm] at hlen hul
      have HBX := Lib.hid hbw
      have HUL := Lib.hid hul
      clear hall hq hbw hm
      go_wp2
      go_ret
      exact ⟨rfl, HBX.out⟩
end
section
variable {w : World}
set_option maxHeartbeats 1000000 in
set_option maxRecDepth 100000 in
theorem txR_any {x : Rc} : Calls Try.prog 76 #[.agg #[.int .i64 x.1.1, .int .i64 x.1.2.1, .int .i64 x.1.2.2, .int .i64 x.2]] w fun e w' => e = .returned (tdV (x.1)) ∧ Below w.heap.size w w' := by
  obtain ⟨W, hW⟩ : ∃ W, W = (w.alloc (.cells #[.int .i64 x.1.1, .int .i64 x.1.2.1, .int .i64 x.1.2.2, .int .i64 x.2] 101)).alloc (.cells #[.int .i64 0, .int .i64 0, .int .i64 0] 37) := ⟨_, rfl⟩
  obtain ⟨Y, hY⟩ : ∃ Y, w.heap.size = Y := ⟨_, rfl⟩
  obtain ⟨Z, hZ⟩ : ∃ Z, Y + 1 = Z := ⟨_, rfl⟩
  have hb : Below w.heap.size w W := by rw [hW]; exact ((Below.refl _ w).alloc (Nat.le_refl _) _).alloc (by simp) _
  have jY : W.heap[Y]? = some (.cells #[.int .i64 x.1.1, .int .i64 x.1.2.1, .int .i64 x.1.2.2, .int .i64 x.2] 101 (0, 0)) := by
    rw [hW, ← hY, Below.heap_alloc _ _ _ (by simp)]
    exact heap_alloc_new w _
  have jZ : W.heap[Z]? = some (.cells #[.int .i64 0, .int .i64 0, .int .i64 0] 37 (0, 0)) := by
    have := heap_alloc_new (w.alloc (.cells #[.int .i64 x.1.1, .int .i64 x.1.2.1, .int .i64 x.1.2.2, .int .i64 x.2] 101)) (.cells #[.int .i64 0, .int .i64 0, .int .i64 0] 37)
    rw [hW, ← hZ, ← hY]
    simpa using this
  have c0 : W.cell? ⟨Y, 0, none⟩ = some (.int .i64 (x.1).1) := cell_blk jY 0
  have c1 : W.cell? ⟨Y, 1, none⟩ = some (.int .i64 (x.1).2.1) := cell_blk jY 1
  have c2 : W.cell? ⟨Y, 2, none⟩ = some (.int .i64 (x.1).2.2) := cell_blk jY 2
  obtain ⟨X, hXe, jX, fX⟩ := sets_row jZ #[.int .i64 (x.1).1, .int .i64 (x.1).2.1, .int .i64 (x.1).2.2] rfl
  have hst : (Instr.storeAt 37 (.pointer (some ⟨Z, 0, none⟩)) (tdV (x.1))).run Try.prog W = .ok () X := by
    rw [hXe]
    exact store_row jZ rfl size37 (by simp [Value.oneCell'])
  have HBX := Lib.hid (hb.trans (fX.toBelow (fun k hk e => by have e' : k = Z := e; omega) hb.size))
  have HJX := Lib.hid jX
  have HW := Lib.hid hW
  have HY := Lib.hid hY
  have HZ := Lib.hid hZ
  clear hb jY jZ hXe jX fX hW hY hZ
  go_enter Try.func76, Try.ntmps76
  go_upto_region 1 with fail
  rw [← HW.out, HY.out, HZ.out]
  go_wp2_with (refine wpl_store _ _ rfl (by simp [Act.eval]) (by simp [Act.eval]) hst ?_)
  refine bodyPost_ret (v := tdV (x.1)) (results_one Try.results76 rfl (load_var HJX.out Try.underlying37 rfl size37)) rfl ?_
  exact ⟨rfl, HBX.out⟩
set_option maxHeartbeats 2000000 in
set_option maxRecDepth 100000 in
theorem twR_any {L : List Rc} {v : Value} (hl : Lr rcE 4 w L v) (ht : ∀ x ∈ L, TdOk (x.1)) : Calls Try.prog 75 #[v, .func (.func 76) #[] #[]] w fun e w' => e = .returned (.bool (decide (¬ (L.map (fun x : Rc => x.1)).Nodup))) ∧ Below w.heap.size w w' := by
  have hmm := @run_makeMap Try.prog
  have HL := Lib.hid hl
  obtain ⟨ad, cap, rfl, _, hle, hcap, _⟩ := hl
  obtain ⟨n, hn⟩ : ∃ n, L.length = n := ⟨_, rfl⟩
  have hmx : (n : Int) ≤ 9223372036854775807 := by unfold maxLen at hcap; omega
  have HN := Lib.hid hn
  have HT := Lib.hid ht
  have HCP : Hid (n ≤ maxLen) := Lib.hid (by omega)
  rw [hn] at HL ⊢
  obtain ⟨B, hB⟩ : ∃ B, w.heap.size = B := ⟨_, rfl⟩
  obtain ⟨W, hW⟩ : ∃ W, W = w.alloc (.map #[] 0) := ⟨_, rfl⟩
  have hmq : Mq W B [] := by rw [hW, ← hB]; exact Mq.made w
  have hbW : Below w.heap.size w W := by rw [hW]; exact (Below.refl _ w).alloc (Nat.le_refl _) _
  have HMQ := Lib.hid hmq
  have HBW := Lib.hid hbW
  have HW := Lib.hid hW
  have HB := Lib.hid hB
  clear hn ht hcap hle hmq hbW hW hB
  go_enter Try.func75, Try.ntmps75
  go_upto_region 2 with fail
  rw [← HW.out, HB.out]
  go_wp2
  go_loopw [11] (fun iv wr => ∃ i : Nat, i ≤ n ∧ iv = .int .i64 (i : Int) ∧ Mq wr B ((L.map (fun x : Rc => x.1)).take i) ∧ Below w.heap.size w wr) (fun iv _ => n - (intOf iv).toNat)
  case atStart => exact ⟨0, Nat.zero_le _, rfl, by rw [List.take_zero]; exact HMQ.out, HBW.out⟩
  case round =>
    clear HMQ HBW HW
    obtain ⟨i, hi, rfl, hq, hbw⟩ := hrel
    obtain ⟨V1, rfl⟩ : ∃ V1, V1 = wr := ⟨_, rfl⟩
    by_cases hlt : i < n
    · have hiL : i < L.length := by rw [HN.out]; exact hlt
      have k0 : (0 : Int) ≤ i := by omega
      have k1 : (i : Int) < n := by omega
      obtain ⟨ad', cap', e1, _, _, _, hcs⟩ := HL.out.on rcE_held hbw
      obtain ⟨rfl, rfl⟩ : ad' = ad ∧ cap' = cap := by simp only [Value.slice.injEq] at e1; exact ⟨e1.1.symm, e1.2.2.symm⟩
      clear e1
      obtain ⟨b, o, cs, ha, _, hE, hcl, hcell⟩ := hcs i hiL
      obtain ⟨x, hx⟩ : ∃ x, L[i] = x := ⟨_, rfl⟩
      have htx : TdOk (x.1) := by rw [← hx]; exact HT.out _ (List.getElem_mem hiL)
      have hnx : (L.map (fun x : Rc => x.1)).take (i + 1) = (L.map (fun x : Rc => x.1)).take i ++ [x.1] := by
        rw [List.take_succ_eq_append_getElem (by rw [List.length_map]; exact hiL), List.getElem_map, hx]
      rw [hx] at hE
      subst ha
      have hE : cs = rcL x := hE
      subst hE
      have hld : (Instr.loadAt 101 (.pointer (some ⟨b, o + i * 4, none⟩))).run Try.prog V1 = .ok (.agg #[.int .i64 x.1.1, .int .i64 x.1.2.1, .int .i64 x.1.2.2, .int .i64 x.2]) V1 := run_loadAt_mid (P := Try.prog) V1 b (o + i * 4) 101 (rcL x) _ (fun j u hu => hcell j u hu) Try.underlying101 rfl size101
      obtain ⟨W0, hW0⟩ : ∃ W0, W0 = V1.alloc (.cells #[.int .i64 0, .int .i64 0, .int .i64 0, .int .i64 0] 101) := ⟨_, rfl⟩
      obtain ⟨Y, hY⟩ : ∃ Y, V1.heap.size = Y := ⟨_, rfl⟩
      have b0 : Below V1.heap.size V1 W0 := by rw [hW0]; exact (Below.refl _ V1).alloc (Nat.le_refl _) _
      have jY : W0.heap[Y]? = some (.cells #[.int .i64 0, .int .i64 0, .int .i64 0, .int .i64 0] 101 (0, 0)) := by rw [hW0, ← hY]; exact heap_alloc_new V1 _
      obtain ⟨X, hXe, jX, fX⟩ := sets_row jY (rcL x).toArray rfl
      have hst : (Instr.storeAt 101 (.pointer (some ⟨Y, 0, none⟩)) (.agg #[.int .i64 x.1.1, .int .i64 x.1.2.1, .int .i64 x.1.2.2, .int .i64 x.2])).run Try.prog W0 = .ok () X := by
        rw [hXe]
        exact store_row jY rfl size101 (by simp [Value.oneCell'])
      have hVX : Below V1.heap.size V1 X := b0.trans (fX.toBelow (fun k hk e => by have e' : k = Y := e; omega) b0.size)
      have hld2 : (Instr.loadAt 101 (.pointer (some ⟨Y, 0, none⟩))).run Try.prog X = .ok (.agg #[.int .i64 x.1.1, .int .i64 x.1.2.1, .int .i64 x.1.2.2, .int .i64 x.2]) X := load_row jX Try.underlying101 rfl size101
      have htc := txR_any (w := X) (x := x)
      have HQX := Lib.hid (hq.on hVX)
      have HBX := Lib.hid (hbw.trans (hVX.mono hbw.size))
      rw [hW0, ← hY] at hst
      rw [← hY] at hld2
      have HNX := Lib.hid hnx
      have HTX := Lib.hid htx
      clear hq hbw hcs hcell hcl b0 jY jX fX hVX hnx htx hx hXe hW0 hY
      go_upto_region 5 with (first | refine wpl_load _ rfl (by simp [Act.eval]) hld ?_ | refine wpl_store _ _ rfl (by simp [Act.eval, Act.put]) (by simp [Act.eval, Act.put]) hst ?_)
      go_wp2_with (first | refine wpl_load _ rfl (by simp [Act.eval]) hld2 ?_ | (go_at_call 76; refine htc.mono ?_; rintro e w2 ⟨rfl, hb2⟩; refine Hid.out ?_))
      refine Lib.hid ?_
      obtain ⟨w3, hup, hq3, hg3⟩ := (HQX.out.on hb2).put (by
        rw [List.length_take, List.length_map, HN.out]
        have := HCP.out
        omega) HTX.out (.agg #[])
      have HQ3 := Lib.hid hq3
      have HG3 := Lib.hid ((HBX.out.trans (hb2.mono HBX.out.size)).grown hg3 (Nat.le_trans HBX.out.size hb2.size) (fun k hk => by cases hk; exact Nat.le_of_eq HB.out))
      clear hq3 hg3 hld hst hld2 htc
      go_wp2_with (refine wpl_mup _ _ _ rfl (by simp [Act.eval]) (by simp [Act.eval]) (by simp [Act.eval]) hup ?_)
      go_roundw
      case rel => exact ⟨i + 1, hlt, by go_num, by rw [HNX.out]; exact HQ3.out, HG3.out⟩
      case measure => simp [intOf]; omega
    · have k1 : ¬ ((i : Int) < n) := by omega
      have hall : (L.map (fun x : Rc => x.1)).take i = L.map (fun x : Rc => x.1) := List.take_of_length_le (by rw [List.length_map, HN.out]; omega)
      rw [hall] at hq
      have hlen := hq.len
      have hul := uniq_less (L.map (fun x : Rc => x.1))
      rw [List.length_map, HN.out] at hul
      obtain ⟨m, hm⟩ : ∃ m, (uniq (L.map (fun x : Rc => x.1))).length = m := ⟨_, rfl⟩
      rw [hm] at hlen hul
      have HBX := Lib.hid hbw
      have HUL := Lib.hid hul
      clear hall hq hbw hm
      go_wp2
      go_ret
      exact ⟨rfl, HBX.out⟩
end
section
variable {w : World}
set_option maxHeartbeats 1000000 in
set_option maxRecDepth 100000 in
theorem txT_any {x : Td} : Calls Try.prog 78 #[tdV x] w fun e w' => e = .returned (tdV (x)) ∧ Below w.heap.size w w' := by
  obtain ⟨W, hW⟩ : ∃ W, W = (w.alloc (.cells #[.int .i64 x.1, .int .i64 x.2.1, .int .i64 x.2.2] 37)).alloc (.cells #[.int .i64 0, .int .i64 0, .int .i64 0] 37) := ⟨_, rfl⟩
  obtain ⟨Y, hY⟩ : ∃ Y, w.heap.size = Y := ⟨_, rfl⟩
  obtain ⟨Z, hZ⟩ : ∃ Z, Y + 1 = Z := ⟨_, rfl⟩
  have hb : Below w.heap.size w W := by rw [hW]; exact ((Below.refl _ w).alloc (Nat.le_refl _) _).alloc (by simp) _
  have jY : W.heap[Y]? = some (.cells #[.int .i64 x.1, .int .i64 x.2.1, .int .i64 x.2.2] 37 (0, 0)) := by
    rw [hW, ← hY, Below.heap_alloc _ _ _ (by simp)]
    exact heap_alloc_new w _
  have jZ : W.heap[Z]? = some (.cells #[.int .i64 0, .int .i64 0, .int .i64 0] 37 (0, 0)) := by
    have := heap_alloc_new (w.alloc (.cells #[.int .i64 x.1, .int .i64 x.2.1, .int .i64 x.2.2] 37)) (.cells #[.int .i64 0, .int .i64 0, .int .i64 0] 37)
    rw [hW, ← hZ, ← hY]
    simpa using this
  have c0 : W.cell? ⟨Y, 0, none⟩ = some (.int .i64 (x).1) := cell_blk jY 0
  have c1 : W.cell? ⟨Y, 1, none⟩ = some (.int .i64 (x).2.1) := cell_blk jY 1
  have c2 : W.cell? ⟨Y, 2, none⟩ = some (.int .i64 (x).2.2) := cell_blk jY 2
  obtain ⟨X, hXe, jX, fX⟩ := sets_row jZ #[.int .i64 (x).1, .int .i64 (x).2.1, .int .i64 (x).2.2] rfl
  have hst : (Instr.storeAt 37 (.pointer (some ⟨Z, 0, none⟩)) (tdV (x))).run Try.prog W = .ok () X := by
    rw [hXe]
    exact store_row jZ rfl size37 (by simp [Value.oneCell'])
  have HBX := Lib.hid (hb.trans (fX.toBelow (fun k hk e => by have e' : k = Z := e; omega) hb.size))
  have HJX := Lib.hid jX
  have HW := Lib.hid hW
  have HY := Lib.hid hY
  have HZ := Lib.hid hZ
  clear hb jY jZ hXe jX fX hW hY hZ
  go_enter Try.func78, Try.ntmps78
  go_upto_region 1 with fail
  rw [← HW.out, HY.out, HZ.out]
  go_wp2_with (refine wpl_store _ _ rfl (by simp [Act.eval]) (by simp [Act.eval]) hst ?_)
  refine bodyPost_ret (v := tdV (x)) (results_one Try.results78 rfl (load_var HJX.out Try.underlying37 rfl size37)) rfl ?_
  exact ⟨rfl, HBX.out⟩
set_option maxHeartbeats 2000000 in
set_option maxRecDepth 100000 in
theorem twT_any {L : List Td} {v : Value} (hl : Lr tdE 3 w L v) (ht : ∀ x ∈ L, TdOk (x)) : Calls Try.prog 77 #[v, .func (.func 78) #[] #[]] w fun e w' => e = .returned (.bool (decide (¬ (L.map (fun x : Td => x)).Nodup))) ∧ Below w.heap.size w w' := by
  have hmm := @run_makeMap Try.prog
  have HL := Lib.hid hl
  obtain ⟨ad, cap, rfl, _, hle, hcap, _⟩ := hl
  obtain ⟨n, hn⟩ : ∃ n, L.length = n := ⟨_, rfl⟩
  have hmx : (n : Int) ≤ 9223372036854775807 := by unfold maxLen at hcap; omega
  have HN := Lib.hid hn
  have HT := Lib.hid ht
  have HCP : Hid (n ≤ maxLen) := Lib.hid (by omega)
  rw [hn] at HL ⊢
  obtain ⟨B, hB⟩ : ∃ B, w.heap.size = B := ⟨_, rfl⟩
  obtain ⟨W, hW⟩ : ∃ W, W = w.alloc (.map #[] 0) := ⟨_, rfl⟩
  have hmq : Mq W B [] := by rw [hW, ← hB]; exact Mq.made w
  have hbW : Below w.heap.size w W := by rw [hW]; exact (Below.refl _ w).alloc (Nat.le_refl _) _
  have HMQ := Lib.hid hmq
  have HBW := Lib.hid hbW
  have HW := Lib.hid hW
  have HB := Lib.hid hB
  clear hn ht hcap hle hmq hbW hW hB
  go_enter Try.func77, Try.ntmps77
  go_upto_region 2 with fail
  rw [← HW.out, HB.out]
  go_wp2
  go_loopw [11] (fun iv wr => ∃ i : Nat, i ≤ n ∧ iv = .int .i64 (i : Int) ∧ Mq wr B ((L.map (fun x : Td => x)).take i) ∧ Below w.heap.size w wr) (fun iv _ => n - (intOf iv).toNat)
  case atStart => exact ⟨0, Nat.zero_le _, rfl, by rw [List.take_zero]; exact HMQ.out, HBW.out⟩
  case round =>
    clear HMQ HBW HW
    obtain ⟨i, hi, rfl, hq, hbw⟩ := hrel
    obtain ⟨V1, rfl⟩ : ∃ V1, V1 = wr := ⟨_, rfl⟩
    by_cases hlt : i < n
    · have hiL : i < L.length := by rw [HN.out]; exact hlt
      have k0 : (0 : Int) ≤ i := by omega
      have k1 : (i : Int) < n := by omega
      obtain ⟨ad', cap', e1, _, _, _, hcs⟩ := HL.out.on tdE_held hbw
      obtain ⟨rfl, rfl⟩ : ad' = ad ∧ cap' = cap := by simp only [Value.slice.injEq] at e1; exact ⟨e1.1.symm, e1.2.2.symm⟩
      clear e1
      obtain ⟨b, o, cs, ha, _, hE, hcl, hcell⟩ := hcs i hiL
      obtain ⟨x, hx⟩ : ∃ x, L[i] = x := ⟨_, rfl⟩
      have htx : TdOk (x) := by rw [← hx]; exact HT.out _ (List.getElem_mem hiL)
      have hnx : (L.map (fun x : Td => x)).take (i + 1) = (L.map (fun x : Td => x)).take i ++ [x] := by
        rw [List.take_succ_eq_append_getElem (by rw [List.length_map]; exact hiL), List.getElem_map, hx]
      rw [hx] at hE
      subst ha
      have hE : cs = tdL x := hE
      subst hE
      have hld : (Instr.loadAt 37 (.pointer (some ⟨b, o + i * 3, none⟩))).run Try.prog V1 = .ok (tdV x) V1 := run_loadAt_mid (P := Try.prog) V1 b (o + i * 3) 37 (tdL x) _ (fun j u hu => hcell j u hu) Try.underlying37 rfl size37
      obtain ⟨W0, hW0⟩ : ∃ W0, W0 = V1.alloc (.cells #[.int .i64 0, .int .i64 0, .int .i64 0] 37) := ⟨_, rfl⟩
      obtain ⟨Y, hY⟩ : ∃ Y, V1.heap.size = Y := ⟨_, rfl⟩
      have b0 : Below V1.heap.size V1 W0 := by rw [hW0]; exact (Below.refl _ V1).alloc (Nat.le_refl _) _
      have jY : W0.heap[Y]? = some (.cells #[.int .i64 0, .int .i64 0, .int .i64 0] 37 (0, 0)) := by rw [hW0, ← hY]; exact heap_alloc_new V1 _
      obtain ⟨X, hXe, jX, fX⟩ := sets_row jY (tdL x).toArray rfl
      have hst : (Instr.storeAt 37 (.pointer (some ⟨Y, 0, none⟩)) (tdV x)).run Try.prog W0 = .ok () X := by
        rw [hXe]
        exact store_row jY rfl size37 (by simp [Value.oneCell'])
      have hVX : Below V1.heap.size V1 X := b0.trans (fX.toBelow (fun k hk e => by have e' : k = Y := e; omega) b0.size)
      have hld2 : (Instr.loadAt 37 (.pointer (some ⟨Y, 0, none⟩))).run Try.prog X = .ok (tdV x) X := load_row jX Try.underlying37 rfl size37
      have htc := txT_any (w := X) (x := x)
      have HQX := Lib.hid (hq.on hVX)
      have HBX := Lib.hid (hbw.trans (hVX.mono hbw.size))
      rw [hW0, ← hY] at hst
      rw [← hY] at hld2
      have HNX := Lib.hid hnx
      have HTX := Lib.hid htx
      clear hq hbw hcs hcell hcl b0 jY jX fX hVX hnx htx hx hXe hW0 hY
      go_upto_region 5 with (first | refine wpl_load _ rfl (by simp [Act.eval]) hld ?_ | refine wpl_store _ _ rfl (by simp [Act.eval, Act.put]) (by simp [Act.eval, Act.put]) hst ?_)
      go_wp2_with (first | refine wpl_load _ rfl (by simp [Act.eval]) hld2 ?_ | (go_at_call 78; refine htc.mono ?_; rintro e w2 ⟨rfl, hb2⟩; refine Hid.out ?_))
      refine Lib.hid ?_
      obtain ⟨w3, hup, hq3, hg3⟩ := (HQX.out.on hb2).put (by
        rw [List.length_take, List.length_map, HN.out]
        have := HCP.out
        omega) HTX.out (.agg #[])
      have HQ3 := Lib.hid hq3
      have HG3 := Lib.hid ((HBX.out.trans (hb2.mono HBX.out.size)).grown hg3 (Nat.le_trans HBX.out.size hb2.size) (fun k hk => by cases hk; exact Nat.le_of_eq HB.out))
      clear hq3 hg3 hld hst hld2 htc
      go_wp2_with (refine wpl_mup _ _ _ rfl (by simp [Act.eval]) (by simp [Act.eval]) (by simp [Act.eval]) hup ?_)
      go_roundw
      case rel => exact ⟨i + 1, hlt, by go_num, by rw [HNX.out]; exact HQ3.out, HG3.out⟩
      case measure => simp [intOf]; omega
    · have k1 : ¬ ((i : Int) < n) := by omega
      have hall : (L.map (fun x : Td => x)).take i = L.map (fun x : Td => x) := List.take_of_length_le (by rw [List.length_map, HN.out]; omega)
      rw [hall] at hq
      have hlen := hq.len
      have hul := uniq_less (L.map (fun x : Td => x))
      rw [List.length_map, HN.out] at hul
      obtain ⟨m, hm⟩ : ∃ m, (uniq (L.map (fun x : Td => x))).length = m := ⟨_, rfl⟩
      rw [hm] at hlen hul
      have HBX := Lib.hid hbw
      have HUL := Lib.hid hul
      clear hall hq hbw hm
      go_wp2
      go_ret
      exact ⟨rfl, HBX.out⟩
end
end Go.Proofs.Ytcoaahlakkghhaa
/- The walk of mayBe: whether a state may be, but for its rows. -/
namespace Go.Proofs.Ytcoaahlakkghhaa
open Go.RowKit
section
variable {w : World}
set_option maxHeartbeats 1000000 in
set_option maxRecDepth 100000 in
theorem ngR_f (x : Rc) : Calls Try.prog 72 #[.agg #[.int .i64 x.1.1, .int .i64 x.1.2.1, .int .i64 x.1.2.2, .int .i64 x.2]] w fun e w' => e = .returned (.bool (decide (x.2 < 0))) ∧ Below w.heap.size w w' := by
  obtain ⟨W, hW⟩ : ∃ W, W = w.alloc (.cells #[.int .i64 x.1.1, .int .i64 x.1.2.1, .int .i64 x.1.2.2, .int .i64 x.2] 101) := ⟨_, rfl⟩
  have hb : Below w.heap.size w W := by rw [hW]; exact (Below.refl _ w).alloc (Nat.le_refl _) _
  obtain ⟨Y, hY⟩ : ∃ Y, w.heap.size = Y := ⟨_, rfl⟩
  have jY : W.heap[Y]? = some (.cells #[.int .i64 x.1.1, .int .i64 x.1.2.1, .int .i64 x.1.2.2, .int .i64 x.2] 101 (0, 0)) := by rw [hW, ← hY]; exact heap_alloc_new w _
  have b3 : W.cell? ⟨Y, 3, none⟩ = some (.int .i64 x.2) := cell_blk jY 3
  have HW := Lib.hid hW
  have HY := Lib.hid hY
  have HB := Lib.hid hb
  clear hW hY hb jY
  go_enter Try.func72, Try.ntmps72
  go_upto_region 1 with fail
  rw [← HW.out, HY.out]
  go_wp2
  go_ret
  exact ⟨rfl, HB.out⟩
set_option maxHeartbeats 2000000 in
set_option maxRecDepth 100000 in
theorem ixR_any {L : List Rc} {v : Value} (hL : Lr rcE 4 w L v) :
    Calls Try.prog 95 #[v, .func (.func 72) #[] #[]] w fun e w' => e = .returned (.int .i64 (fidx (fun r : Rc => decide (r.2 < 0)) L)) ∧ Below w.heap.size w w' := by
  obtain ⟨p, hp0⟩ : ∃ p : Rc → Bool, p = fun r : Rc => decide (r.2 < 0) := ⟨_, rfl⟩
  have hf : ∀ X, Below w.heap.size w X → ∀ i (h : i < L.length), Calls Try.prog 72 #[.agg #[.int .i64 L[i].1.1, .int .i64 L[i].1.2.1, .int .i64 L[i].1.2.2, .int .i64 L[i].2]] X fun e w' => e = .returned (.bool (p L[i])) ∧ Below X.heap.size X w' := fun X _ i h => by
    rw [hp0]
    exact ngR_f L[i]
  rw [← hp0]
  clear hp0
  obtain ⟨ad, cap, rfl, _, z1, z2, hX⟩ := hL
  have hmx : (L.length : Int) ≤ 9223372036854775807 := by unfold maxLen at z2; omega
  have HX := Lib.hid hX
  have HF := Lib.hid hf
  clear hX z1 z2 hf
  go_enter Try.func95, Try.ntmps95
  go_wp2
  go_loopw [8] (fun iv wr => ∃ i : Nat, i ≤ L.length ∧ iv = .int .i64 (i : Int) ∧ (∀ j (hj : j < L.length), j < i → p L[j] = false) ∧ Below w.heap.size w wr) (fun iv _ => L.length - (intOf iv).toNat)
  case atStart => exact ⟨0, Nat.zero_le _, rfl, fun j _ hj => by omega, Below.refl _ _⟩
  case round =>
    obtain ⟨i, hi, rfl, hno, hb⟩ := hrel
    obtain ⟨V, rfl⟩ : ∃ V, V = wr := ⟨_, rfl⟩
    have HN := Lib.hid hno
    have HB := Lib.hid hb
    by_cases hlt : i < L.length
    · obtain ⟨b, o, cs, rfl, _, hE, _, hcell⟩ := HX.out i hlt
      cases hE
      have c0 := cell_on hb (hcell 0 _ rfl)
      have c1 := cell_on hb (hcell 1 _ rfl)
      have c2 := cell_on hb (hcell 2 _ rfl)
      have c3 := cell_on hb (hcell 3 _ rfl)
      simp only [Nat.add_zero] at c0
      have hc := HF.out V hb i hlt
      have k0 : (0 : Int) ≤ i := by omega
      have k1 : (i : Int) < L.length := by omega
      have HAT := Lib.hid (fun hp => fidx_at hlt hp hno)
      clear hb hno hcell
      cases hp : p L[i] with
      | true =>
        rw [hp] at hc
        have HR := Lib.hid (HAT.out hp)
        clear hp
        go_wp2_with fail
        refine hc.mono ?_
        rintro e w1 ⟨rfl, b1⟩
        go_wp2
        go_ret
        exact ⟨by rw [HR.out]; rfl, HB.out.trans (b1.mono HB.out.size)⟩
      | false =>
        rw [hp] at hc
        have HNX : Hid (∀ j (hj : j < L.length), j < i + 1 → p L[j] = false) := fun j hj hji => by
          by_cases e : j = i
          · subst e
            exact hp
          · exact HN.out j hj (by omega)
        clear hp
        go_wp2_with fail
        refine hc.mono ?_
        rintro e w1 ⟨rfl, b1⟩
        have HB1 := Lib.hid (HB.out.trans (b1.mono HB.out.size))
        clear b1 hc
        go_wp2
        go_roundw
        case rel => exact ⟨i + 1, hlt, by go_num, HNX.out, HB1.out⟩
        case measure => simp [intOf]; omega
    · have k1 : ¬ ((i : Int) < L.length) := by omega
      have HR : Hid (fidx p L = -1) := Lib.hid (fidx_none (fun j hj => hno j hj (by omega)))
      clear hno hb
      go_wp2
      go_ret
      exact ⟨by rw [HR.out]; rfl, HB.out⟩
set_option maxHeartbeats 1000000 in
set_option maxRecDepth 100000 in
theorem coR_any {L : List Rc} {v : Value} (hL : Lr rcE 4 w L v) : Calls Try.prog 71 #[v, .func (.func 72) #[] #[]] w fun e w' => e = .returned (.bool (L.any fun r => decide (r.2 < 0))) ∧ Below w.heap.size w w' := by
  have hc := ixR_any hL
  have ha := fidx_any (fun r : Rc => decide (r.2 < 0)) L
  obtain ⟨n, hn⟩ : ∃ n, fidx (fun r : Rc => decide (r.2 < 0)) L = n := ⟨_, rfl⟩
  rw [hn] at hc ha
  obtain ⟨ad, cap, rfl, _⟩ := hL
  obtain ⟨q, hq⟩ : ∃ q, (L.any fun r => decide (r.2 < 0)) = q := ⟨_, rfl⟩
  rw [hq] at ha ⊢
  clear hn hq
  go_enter Try.func71, Try.ntmps71
  go_wp2_with fail
  refine hc.mono ?_
  rintro e w1 ⟨rfl, b1⟩
  have HB := Lib.hid b1
  clear b1 hc
  cases q with
  | true =>
    have hn := of_decide_eq_true ha
    go_wp2
    go_ret
    exact ⟨by simp, HB.out⟩
  | false =>
    have hn := of_decide_eq_false ha
    go_wp2
    go_ret
    exact ⟨by simp, HB.out⟩
/-- It may be, but for its rows. -/
def mayS (s : Sh) : Bool := !decide (s.high < 0) && !(s.recs.any fun r => decide (r.2 < 0)) && !decide (¬ (s.locks.map (fun x : Lk => x.txn)).Nodup) && !decide (¬ (s.recs.map (fun x : Rc => x.1)).Nodup) && !decide (¬ (s.over.map (fun x : Td => x)).Nodup)
set_option maxHeartbeats 2000000 in
set_option maxRecDepth 100000 in
theorem mayBeS_any {s : Sh} {rv lv cv ov : Value} (h : Rg w s rv lv cv ov) (hin : ShIn s) : Calls Try.prog 45 #[.agg #[rv, lv, cv, ov, .int .i64 s.high]] w fun e w' => e = .returned (.bool (mayS s)) ∧ Below w.heap.size w w' := by
  obtain ⟨W, hW⟩ : ∃ W, W = w.alloc (.cells #[rv, lv, cv, ov, .int .i64 s.high] 63) := ⟨_, rfl⟩
  obtain ⟨Y, hY⟩ : ∃ Y, w.heap.size = Y := ⟨_, rfl⟩
  have hb : Below w.heap.size w W := by rw [hW]; exact (Below.refl _ w).alloc (Nat.le_refl _) _
  have jY : W.heap[Y]? = some (.cells #[rv, lv, cv, ov, .int .i64 s.high] 63 (0, 0)) := by rw [hW, ← hY]; exact heap_alloc_new w _
  have hx := h.on hb
  have HCO := Lib.hid (coR_any hx.rc)
  have HTL := Lib.hid (fun X (hX : Below W.heap.size W X) => twL_any (hx.lk.on lkE_held hX) (fun x hx => (hin.lk x hx).td))
  have HTR := Lib.hid (fun X (hX : Below W.heap.size W X) => twR_any (hx.rc.on rcE_held hX) (fun x hx => (hin.rc x hx).1))
  have HTT := Lib.hid (fun X (hX : Below W.heap.size W X) => twT_any (hx.ov.on tdE_held hX) (fun x hx => hin.ov x hx))
  obtain ⟨ra, rc, rfl, _⟩ := hx.rw.shape
  obtain ⟨la, lc, rfl, _⟩ := hx.lk.shape
  obtain ⟨ca, cc, rfl, _⟩ := hx.rc.shape
  obtain ⟨oa, oc, rfl, _⟩ := hx.ov.shape
  have y1 : W.cell? ⟨Y, 1, none⟩ = some (.slice la s.locks.length lc) := cell_blk jY 1
  have y2 : W.cell? ⟨Y, 2, none⟩ = some (.slice ca s.recs.length cc) := cell_blk jY 2
  have y3 : W.cell? ⟨Y, 3, none⟩ = some (.slice oa s.over.length oc) := cell_blk jY 3
  have y4 : W.cell? ⟨Y, 4, none⟩ = some (.int .i64 s.high) := cell_blk jY 4
  have hmb : mayS s = (!decide (s.high < 0) && !(s.recs.any fun r => decide (r.2 < 0)) && !decide (¬ (s.locks.map (fun x : Lk => x.txn)).Nodup) && !decide (¬ (s.recs.map (fun x : Rc => x.1)).Nodup) && !decide (¬ (s.over.map (fun x : Td => x)).Nodup)) := rfl
  obtain ⟨b1, hb1⟩ : ∃ b1, (s.recs.any fun r => decide (r.2 < 0)) = b1 := ⟨_, rfl⟩
  obtain ⟨b2, hb2⟩ : ∃ b2, decide (¬ (s.locks.map (fun x : Lk => x.txn)).Nodup) = b2 := ⟨_, rfl⟩
  obtain ⟨b3, hb3⟩ : ∃ b3, decide (¬ (s.recs.map (fun x : Rc => x.1)).Nodup) = b3 := ⟨_, rfl⟩
  obtain ⟨b4, hb4⟩ : ∃ b4, decide (¬ (s.over.map (fun x : Td => x)).Nodup) = b4 := ⟨_, rfl⟩
  rw [hb1, hb2, hb3, hb4] at hmb
  rw [hb1] at HCO
  rw [hb2] at HTL
  rw [hb3] at HTR
  rw [hb4] at HTT
  rw [hmb]
  have HB := Lib.hid hb
  have HW := Lib.hid hW
  have HY := Lib.hid hY
  clear h hin hb jY hx hmb hb1 hb2 hb3 hb4 hW hY
  obtain ⟨hg, hhg⟩ : ∃ hg, s.high = hg := ⟨_, rfl⟩
  rw [hhg] at y4 HW ⊢
  clear hhg
  go_enter Try.func45, Try.ntmps45
  go_upto_region 1 with fail
  rw [← HW.out, HY.out]
  by_cases c0 : hg < 0
  · go_wp2
    go_ret
    exact ⟨by simp [c0], HB.out⟩
  · have hco := HCO.out
    go_wp2_with (go_at_call 71; refine hco.mono ?_; rintro e w1 ⟨rfl, hq1⟩; refine Hid.out ?_)
    refine Lib.hid ?_
    have HQ1 := Lib.hid hq1
    have z1 := cell_on hq1 y1
    have z2 := cell_on hq1 y2
    have z3 := cell_on hq1 y3
    clear hco HCO y1 y2 y3 y4 hq1
    cases b1 with
    | true =>
      go_wp2
      go_ret
      exact ⟨by simp, HB.out.trans (HQ1.out.mono HB.out.size)⟩
    | false =>
      have htl := HTL.out w1 HQ1.out
      go_wp2_with (go_at_call 73; refine htl.mono ?_; rintro e w2 ⟨rfl, hq2⟩; refine Hid.out ?_)
      refine Lib.hid ?_
      have HQ2 := Lib.hid (HQ1.out.trans (hq2.mono HQ1.out.size))
      have x2 := cell_on hq2 z2
      have x3 := cell_on hq2 z3
      clear htl HTL z1 z2 z3 hq2
      cases b2 with
      | true =>
        go_wp2
        go_ret
        exact ⟨by simp, HB.out.trans (HQ2.out.mono HB.out.size)⟩
      | false =>
        have htr := HTR.out w2 HQ2.out
        go_wp2_with (go_at_call 75; refine htr.mono ?_; rintro e w3 ⟨rfl, hq3⟩; refine Hid.out ?_)
        refine Lib.hid ?_
        have HQ3 := Lib.hid (HQ2.out.trans (hq3.mono HQ2.out.size))
        have u3 := cell_on hq3 x3
        clear htr HTR x2 x3 hq3
        cases b3 with
        | true =>
          go_wp2
          go_ret
          exact ⟨by simp, HB.out.trans (HQ3.out.mono HB.out.size)⟩
        | false =>
          have htt := HTT.out w3 HQ3.out
          go_wp2_with (go_at_call 77; refine htt.mono ?_; rintro e w4 ⟨rfl, hq4⟩; refine Hid.out ?_)
          refine Lib.hid ?_
          have HQ4 := Lib.hid (HQ3.out.trans (hq4.mono HQ3.out.size))
          clear htt HTT u3 hq4
          go_wp2
          go_ret
          exact ⟨by simp [c0], HB.out.trans (HQ4.out.mono HB.out.size)⟩
end
end Go.Proofs.Ytcoaahlakkghhaa
