/- Bounds and splits in memory; append at texts and parts; the document's Stands and Within; slices.Clone. -/
import Derived.Test.YtfokgalgdlajlaaVb
import Derived.Lib.SmallJoins
import Derived.Deep.DeepCutAuto
namespace Go.Proofs.Ytfokgalgdlajlaa
open Go.RowKit
theorem info_parts {e : TypeId} {z : Option Value} {s b : Nat} (h : (Try.prog.info? e).map (fun i => (i.zero, i.size, i.bytes)) = some (z, s, b)) : ∃ i, Try.prog.info? e = some i ∧ i.zero = z ∧ i.size = s ∧ i.bytes = b := by
  cases hq : Try.prog.info? e with
  | none => rw [hq] at h; cases h
  | some i =>
    rw [hq] at h
    simp only [Option.map_some, Option.some.injEq, Prod.mk.injEq] at h
    exact ⟨i, rfl, h.1, h.2.1, h.2.2⟩
theorem info_st : (Try.prog.info? 9).map (fun i => (i.zero, i.size, i.bytes)) = some (some (.string ⟨#[]⟩), 1, 16) := by kernel_rfl
theorem info_pt : (Try.prog.info? 93).map (fun i => (i.zero, i.size, i.bytes)) = some (some (.agg #[.int .i64 0, .string ⟨#[]⟩, .string ⟨#[]⟩]), 3, 40) := by kernel_rfl
section
variable {w w' V : World} {v : Value}
theorem run_st {base n m c : Nat} {xs news : List Value} {ad : Option Addr} (ho : w.ownsRow base 9 1 v n xs) (hb : base ≤ w.heap.size) (hs : (ad = none ∧ m = 0 ∧ c = 0 ∧ news = []) ∨ ∃ a, ad = some a ∧ news.length = m * 1 ∧ (∀ j u, news[j]? = some u → w.cell? (a.add j) = some u))
    (h1 : ∀ u ∈ news, u.oneCell' = true) (hnm : (n + m) * 16 ≤ 140737488355328) : ∃ ad' cap' w', (Builtin.append_ #[27, 27] 27 #[v, .slice ad m c]).run Try.prog w = .ok (.slice ad' (n + m) cap') w' ∧ w'.ownsRow base 9 1 (.slice ad' (n + m) cap') (n + m) (xs ++ news) ∧ w.grownBy w' v.ownBlock ∧ ((Value.slice ad' (n + m) cap').ownBlock = v.ownBlock ∨ (Value.slice ad' (n + m) cap').ownBlock = some w.heap.size) := by
  obtain ⟨i0, hi, hz0, hz1, hz2⟩ := info_parts info_st
  rcases hs with ⟨rfl, rfl, rfl, rfl⟩ | ⟨a, rfl, hl, hc⟩
  · obtain ⟨ad', cap', rfl⟩ := own_shape ho
    refine ⟨ad', cap', w, ?_, by simpa using ho, ⟨rfl, rfl, rfl, Nat.le_refl _, fun _ _ _ => rfl⟩, .inl rfl⟩
    exact run_append_owned_none (P := Try.prog) (w := w) base 27 27 9 i0 1 Try.underlying27 hi _ n xs ho
  · obtain ⟨v', w', hr, ho', hg, _, hat⟩ := run_append_own_at (P := Try.prog) (w := w) base 27 27 9 i0 _ 1 16 Try.underlying27 hi hz0 hz1 hz2 rfl (by decide) v n xs ho a m c news hl hc h1 (by unfold maxLen; omega) hnm hb
    obtain ⟨ad', cap', rfl⟩ := own_shape ho'
    exact ⟨ad', cap', w', hr, ho', hg, hat⟩
theorem run_pt {base n m c : Nat} {xs news : List Value} {ad : Option Addr} (ho : w.ownsRow base 93 3 v n xs) (hb : base ≤ w.heap.size) (hs : (ad = none ∧ m = 0 ∧ c = 0 ∧ news = []) ∨ ∃ a, ad = some a ∧ news.length = m * 3 ∧ (∀ j u, news[j]? = some u → w.cell? (a.add j) = some u))
    (h1 : ∀ u ∈ news, u.oneCell' = true) (hnm : (n + m) * 40 ≤ 140737488355328) : ∃ ad' cap' w', (Builtin.append_ #[90, 90] 90 #[v, .slice ad m c]).run Try.prog w = .ok (.slice ad' (n + m) cap') w' ∧ w'.ownsRow base 93 3 (.slice ad' (n + m) cap') (n + m) (xs ++ news) ∧ w.grownBy w' v.ownBlock ∧ ((Value.slice ad' (n + m) cap').ownBlock = v.ownBlock ∨ (Value.slice ad' (n + m) cap').ownBlock = some w.heap.size) := by
  obtain ⟨i0, hi, hz0, hz1, hz2⟩ := info_parts info_pt
  rcases hs with ⟨rfl, rfl, rfl, rfl⟩ | ⟨a, rfl, hl, hc⟩
  · obtain ⟨ad', cap', rfl⟩ := own_shape ho
    refine ⟨ad', cap', w, ?_, by simpa using ho, ⟨rfl, rfl, rfl, Nat.le_refl _, fun _ _ _ => rfl⟩, .inl rfl⟩
    exact run_append_owned_none (P := Try.prog) (w := w) base 90 90 93 i0 3 Try.underlying90 hi _ n xs ho
  · obtain ⟨v', w', hr, ho', hg, _, hat⟩ := run_append_own_at (P := Try.prog) (w := w) base 90 90 93 i0 _ 3 40 Try.underlying90 hi hz0 hz1 hz2 rfl (by decide) v n xs ho a m c news hl hc h1 (by unfold maxLen; omega) hnm hb
    obtain ⟨ad', cap', rfl⟩ := own_shape ho'
    exact ⟨ad', cap', w', hr, ho', hg, hat⟩
theorem cell_on {X : World} {a : Addr} {u : Value} (h : Below V.heap.size V X) (y : V.cell? a = some u) : X.cell? a = some u := by
  have hl : a.block < V.heap.size := by
    refine Classical.byContradiction fun q => ?_
    unfold World.cell? at y
    rw [Array.getElem?_eq_none (by omega)] at y
    simp at y
  unfold World.cell? at y ⊢
  rw [h.block _ hl]
  exact y
end
theorem wpl_run {P : Program} {w w' : World} {ops : Array Oper} {rest : List Oper} {o : Oper} {a : Act} {Q : Exit → Act → World → Prop} {t u ty : TypeId} {v' : Value} {ds : Option Tmp} {ps : String} {af : Array Edge} (s x : Operand)
    (ho : o = ⟨ds, .call { callee := .builtin .append, args := #[s, x], argTypes := #[t, u] }, ty, ps, af, none⟩) (hrun : (Builtin.append_ #[t, u] ty #[a.eval s, a.eval x]).run P w = .ok v' w')
    (h : wpList P ops Q rest (a.put ds v') w') : wpList P ops Q (o :: rest) a w := by
  subst ho
  refine wpList_plain rfl fun K hK => ?_
  unfold Oper.wp execOp
  simp only [resolve, invoke, builtin, Sem.run_bind, Sem.run_pure, Result.andThen_ok, List.map_toArray, List.map_cons, List.map_nil, hrun]
  exact hK _ _ h
theorem wpl_run2 {P : Program} {w w' : World} {ops : Array Oper} {rest : List Oper} {o : Oper} {a : Act} {Q : Exit → Act → World → Prop} {t u ty : TypeId} {v1 v2 v' : Value} {ds : Option Tmp} {ps : String} {af : Array Edge} (s x : Operand)
    (ho : o = ⟨ds, .call { callee := .builtin .append, args := #[s, x], argTypes := #[t, u] }, ty, ps, af, none⟩) (hs : a.eval s = v1) (hx : a.eval x = v2) (hrun : (Builtin.append_ #[t, u] ty #[v1, v2]).run P w = .ok v' w')
    (h : wpList P ops Q rest (a.put ds v') w') : wpList P ops Q (o :: rest) a w := by
  subst hs
  subst hx
  exact wpl_run s x ho hrun h

section
variable {w w' W V : World} {L : List ByteArray} {v : Value}
def stL (L : List ByteArray) : List Value := L.map Value.string
theorem stL_len (L : List ByteArray) : (stL L).length = L.length := by simp [stL]
theorem stL_get {L : List ByteArray} {i : Nat} (h : i < L.length) : (stL L)[i]? = some (.string L[i]) := by simp [stL, h]
theorem stL_one (L : List ByteArray) : ∀ u ∈ stL L, u.oneCell' = true := by
  intro u hu
  obtain ⟨x, _, rfl⟩ := List.mem_map.1 hu
  rfl
/-- Texts that v leads to. -/
def Ls (w : World) (L : List ByteArray) (v : Value) : Prop := ∃ ad cap, v = .slice ad L.length cap ∧ (ad = none → cap = 0) ∧ L.length ≤ cap ∧ cap ≤ maxLen ∧
  ∀ i (h : i < L.length), ∃ b o, ad = some ⟨b, o, none⟩ ∧ b < w.heap.size ∧ w.cell? ⟨b, o + i, none⟩ = some (.string L[i])
theorem Ls.on (h : Ls w L v) (hb : Below w.heap.size w w') : Ls w' L v := by
  obtain ⟨ad, cap, e, h0, h1, h2, h3⟩ := h
  refine ⟨ad, cap, e, h0, h1, h2, fun i hi => ?_⟩
  obtain ⟨b, o, ha, hl, c0⟩ := h3 i hi
  exact ⟨b, o, ha, Nat.lt_of_lt_of_le hl hb.size, cell_on hb c0⟩
theorem Ls.own {B : Nat} (h : w.ownsRow B 9 1 v L.length (stL L)) : Ls w L v := by
  have h' := h
  rcases h.2 with ⟨hv, h0⟩ | ⟨g, cap, cur, hv, hg, hc, h1, h2, hr⟩
  · exact ⟨none, 0, by rw [hv, h0], fun _ => rfl, by omega, Nat.zero_le _, fun i hi => by omega⟩
  · subst hv
    refine ⟨_, cap, rfl, fun q => (by cases q), h1, h2, fun i hi => ⟨g, 0, rfl, blk_lt hc, ?_⟩⟩
    have := h'.cells (g := g) rfl i (.string L[i]) (stL_get hi)
    rw [add_at] at this
    exact this
theorem Ls.src {ad : Option Addr} {cap : Nat} (h : Ls w L (.slice ad L.length cap)) : (ad = none ∧ L.length = 0 ∧ cap = 0 ∧ stL L = []) ∨ ∃ a, ad = some a ∧ (stL L).length = L.length * 1 ∧ (∀ j u, (stL L)[j]? = some u → w.cell? (a.add j) = some u) := by
  obtain ⟨ad', cap', e, h0, h1, h2, h3⟩ := h
  cases e
  cases had : ad with
  | none =>
    have hL : L = [] := by
      rcases L with _ | ⟨x, L⟩
      · rfl
      · obtain ⟨b, o, e, _⟩ := h3 0 (by simp)
        rw [had] at e
        cases e
    subst hL
    exact .inl ⟨rfl, rfl, h0 had, rfl⟩
  | some a =>
    refine .inr ⟨a, rfl, by rw [stL_len, Nat.mul_one], fun j u hu => ?_⟩
    have hj : j < L.length := by
      have := (List.getElem?_eq_some_iff.1 hu).1
      rwa [stL_len] at this
    obtain ⟨b, o, e, _, c0⟩ := h3 j hj
    rw [had] at e
    cases e
    rw [stL_get hj] at hu
    cases hu
    rw [add_at]
    exact c0
theorem own_empty (w : World) (t : TypeId) (c : Nat) : (w.alloc (.cells #[] t)).ownsRow w.heap.size t c (.slice (some ⟨w.heap.size, 0, none⟩) 0 0) 0 [] :=
  ⟨by simp, .inr ⟨w.heap.size, 0, #[], rfl, Nat.le_refl _, heap_alloc_new w _, Nat.le_refl _, Nat.zero_le _, by simp, by simp⟩⟩
/-- A copy of texts in a row of its own. -/
theorem copy_run (hl : Ls w L v) (hz : L.length * 16 ≤ 140737488355328) : ∃ ad cap w', (Builtin.append_ #[27, 27] 27 #[.slice (some ⟨w.heap.size, 0, none⟩) 0 0, v]).run Try.prog (w.alloc (.cells #[] 9)) = .ok (.slice ad L.length cap) w' ∧ w'.ownsRow w.heap.size 9 1 (.slice ad L.length cap) L.length (stL L) ∧ Below w.heap.size w w' := by
  have hl' := hl
  obtain ⟨ad, cap, rfl, h0, h1, h2, _⟩ := hl'
  have hal : Below w.heap.size w (w.alloc (.cells #[] 9)) := (Below.refl _ w).alloc (Nat.le_refl _) _
  obtain ⟨ad', cap', w', hrun, ho, hg, _⟩ := run_st (own_empty w 9 1) hal.size (hl.on hal).src (stL_one _) (by omega)
  rw [Nat.zero_add, List.nil_append] at ho
  rw [Nat.zero_add] at hrun
  have hb := hal.grown hg hal.size (fun k hk => ((own_empty w 9 1).lt k hk).1)
  exact ⟨ad', cap', w', hrun, ho, hb⟩
set_option maxHeartbeats 1000000 in
set_option maxRecDepth 100000 in
theorem clone_any (hl : Ls w L v) (hz : L.length ≤ 3) : Calls Try.prog 19 #[v] w fun e w' => ∃ ad cap, e = .returned (.slice ad L.length cap) ∧ w'.ownsRow w.heap.size 9 1 (.slice ad L.length cap) L.length (stL L) ∧ Below w.heap.size w w' := by
  obtain ⟨ad', cap', w', hrun, ho, hb⟩ := copy_run hl (by omega)
  have hl' := hl
  obtain ⟨ad, cap, rfl, h0, h1, h2, _⟩ := hl'
  have HO := Lib.hid ho
  have HB := Lib.hid hb
  clear ho hb
  cases ad with
  | none =>
    have e0 : L = [] := by
      rcases hl.src with ⟨_, q, _⟩ | ⟨a, q, _⟩
      · exact List.eq_nil_of_length_eq_zero q
      · cases q
    subst e0
    have hc0 := h0 rfl
    subst hc0
    clear h0 h1 h2 hl hrun HO HB
    have hq : ∀ w, (binOp BinOp.eql 27 (.slice none 0 0) (.slice none 0 0)).run Try.prog w = .ok (.bool true) w := fun _ => by kernel_rfl
    go_enter Try.func19, Try.ntmps19
    go_wp2
    refine bodyPost_ret (v := .slice none 0 0) (by simp [results, Try.results19, go_sem]) rfl ?_
    exact ⟨none, 0, rfl, World.ownsRow_nil _ _ _ _, Below.refl _ _⟩
  | some a =>
    clear h0 h1 h2 hl
    have hq : ∀ w, (binOp BinOp.eql 27 (.slice (some a) L.length cap) (.slice none 0 0)).run Try.prog w = .ok (.bool false) w := fun _ => by kernel_rfl
    go_enter Try.func19, Try.ntmps19
    go_wp2_with (at_builtin; refine wpl_run2 _ _ rfl (by simp [Act.eval]) (by simp [Act.eval]) hrun ?_)
    refine bodyPost_ret (v := .slice ad' L.length cap') (by simp [results, Try.results19, go_sem]) rfl ?_
    exact ⟨ad', cap', rfl, HO.out, HB.out⟩
/-- A split at B; all of it lies from lo on. -/
structure Sp (w : World) (lo B : Nat) (L : List ByteArray) : Prop where
  ob : ∃ v, w.heap[B]? = some (.cells #[v] 60 (0, 0)) ∧ w.ownsRow lo 9 1 v L.length (stL L)
  at' : lo ≤ B
  ok : okB L = true
theorem Sp.fr {lo B : Nat} {S : Nat → Prop} (h : Sp w lo B L) (hf : Fr w w' S) (hS : ∀ k, S k → k < lo) : Sp w' lo B L := by
  obtain ⟨⟨v, h1, h2⟩, h3, h4⟩ := h
  exact ⟨⟨v, (hf.block B (blk_lt h1) (fun q => by have := hS B q; omega)).trans h1, row_keep h2 hf (fun j hj q => by have := hS j q; have := (h2.lt j hj).1; omega)⟩, h3, h4⟩
theorem Sp.on {lo B : Nat} (h : Sp w lo B L) (hb : Below w.heap.size w w') : Sp w' lo B L := h.fr (Fr.ofBelow (fun _ => False) hb) (fun _ q => q.elim)
theorem Sp.few {lo B : Nat} (h : Sp w lo B L) : L.length < 4 := by
  have := h.ok
  unfold okB at this
  simp only [Bool.and_eq_true, decide_eq_true_eq] at this
  exact this.1
theorem Sp.rise {lo B : Nat} (h : Sp w lo B L) : L.Pairwise (fun a b => cb a b < 0) := by
  have := h.ok
  unfold okB at this
  simp only [Bool.and_eq_true, decide_eq_true_eq] at this
  exact (riseB_all L _ this.2).1
end
theorem cb_end1 (a b : List UInt8) (h : a = []) (h2 : b ≠ []) : Lib.compareBytes a b = -1 := by
  subst h
  cases b with
  | nil => exact absurd rfl h2
  | cons x y => rfl
theorem cb_end2 (a b : List UInt8) (h : b = []) (h2 : a ≠ []) : Lib.compareBytes a b = 1 := by
  subst h
  cases a with
  | nil => exact absurd rfl h2
  | cons x y => rfl
theorem drop_atS (s : ByteArray) (k : Nat) (h : k < s.size) : s.data.toList.drop k = s[k] :: s.data.toList.drop (k + 1) := by
  rw [List.drop_eq_getElem_cons (by simpa using h)]; rfl
theorem drop_nil (s : ByteArray) (k : Nat) (h : ¬ k < s.size) : s.data.toList.drop k = [] := List.drop_eq_nil_of_le (by simp; omega)
theorem drop_ne (s : ByteArray) (k : Nat) (h : k < s.size) : s.data.toList.drop k ≠ [] := by rw [drop_atS s k h]; exact List.cons_ne_nil _ _

set_option maxHeartbeats 1000000 in
set_option maxRecDepth 100000 in
theorem stands_any (a b : ByteArray) (w : World) (ha : a.size ≤ maxLen) (hb : b.size ≤ maxLen) :
    Calls Try.prog 46 #[.string a, .string b] w fun e w' => e = .returned (.int .i64 (cb a b)) ∧ Below w.heap.size w w' := by
  unfold cb
  unfold maxLen at ha hb
  go_enter Try.func46, Try.ntmps46
  go_wp2
  go_loopw [5] (fun i wr => ∃ k : Nat, k ≤ a.size ∧ k ≤ b.size ∧ i = .int .i64 k ∧ Hid (Lib.compareBytes (a.data.toList.drop k) (b.data.toList.drop k) = Lib.compareBytes a.data.toList b.data.toList) ∧ Below w.heap.size w wr) (fun i _ => a.size - (intOf i).toNat)
  case atStart => exact ⟨0, by omega, by omega, rfl, rfl, Below.refl _ _⟩
  case round =>
    obtain ⟨k, hka, hkb, rfl, H, hw⟩ := hrel
    by_cases h1 : k < a.size
    · by_cases h2 : k < b.size
      · have e1 := drop_atS a k h1
        have e2 := drop_atS b k h2
        by_cases c1 : (a[k].toNat : Int) < (b[k].toNat : Int)
        · have HR : Hid (Lib.compareBytes a.data.toList b.data.toList = -1) := by
            have h := H.out
            rw [e1, e2, Lib.compareBytes, if_pos (UInt8.lt_iff_toNat_lt.2 (by omega))] at h
            exact h.symm
          clear e1 e2 H
          go_wp2
          go_quiet (fail)
          go_wp2
          go_ret
          rw [HR.out]
          exact ⟨rfl, below_draw hw _⟩
        · by_cases c2 : (b[k].toNat : Int) < (a[k].toNat : Int)
          · have HR : Hid (Lib.compareBytes a.data.toList b.data.toList = 1) := by
              have h := H.out
              rw [e1, e2, Lib.compareBytes, if_neg (by rw [UInt8.lt_iff_toNat_lt]; omega), if_pos (UInt8.lt_iff_toNat_lt.2 (by omega))] at h
              exact h.symm
            clear e1 e2 H
            go_wp2
            go_quiet (fail)
            go_wp2
            go_quiet (fail)
            go_wp2
            go_ret
            rw [HR.out]
            exact ⟨rfl, below_draw (below_draw hw _) _⟩
          · have HR : Hid (Lib.compareBytes (a.data.toList.drop (k + 1)) (b.data.toList.drop (k + 1)) = Lib.compareBytes a.data.toList b.data.toList) := by
              have h := H.out
              rw [e1, e2, Lib.compareBytes, if_neg (by rw [UInt8.lt_iff_toNat_lt]; omega), if_neg (by rw [UInt8.lt_iff_toNat_lt]; omega)] at h
              exact h
            clear e1 e2 H
            go_wp2
            go_quiet (fail)
            go_wp2
            go_quiet (fail)
            go_wp2
            exact ⟨⟨k + 1, by omega, by omega, by go_num, HR, below_draw hw _⟩, by simp [intOf]; omega⟩
      · have HR : Hid (Lib.compareBytes a.data.toList b.data.toList = 1) := by
          have h := H.out
          rw [cb_end2 _ _ (drop_nil b k h2) (drop_ne a k h1)] at h
          exact h.symm
        clear H
        go_wp2
        go_ret
        rw [HR.out]
        exact ⟨rfl, hw⟩
    · by_cases h2 : k < b.size
      · have HR : Hid (Lib.compareBytes a.data.toList b.data.toList = -1) := by
          have h := H.out
          rw [cb_end1 _ _ (drop_nil a k h1) (drop_ne b k h2)] at h
          exact h.symm
        clear H
        go_wp2
        go_ret
        rw [HR.out]
        exact ⟨rfl, hw⟩
      · have HR : Hid (Lib.compareBytes a.data.toList b.data.toList = 0) := by
          have h := H.out
          rw [drop_nil a k h1, drop_nil b k h2] at h
          exact h.symm
        clear H
        go_wp2
        go_ret
        rw [HR.out]
        exact ⟨rfl, hw⟩


set_option maxHeartbeats 1000000 in
set_option maxRecDepth 100000 in
theorem within_any (w : World) (k x y : ByteArray) (hk : k.size ≤ maxLen) (hx : x.size ≤ maxLen) (hy : y.size ≤ maxLen) :
    Calls Try.prog 23 #[.string k, .agg #[.string x, .string y]] w fun e w' => e = .returned (.bool (inSpan x y k)) ∧ Below w.heap.size w w' := by
  obtain ⟨W, hW⟩ : ∃ W, W = w.alloc (.cells #[.string x, .string y] 62) := ⟨_, rfl⟩
  have hb : Below w.heap.size w W := by rw [hW]; exact (Below.refl _ w).alloc (Nat.le_refl _) _
  obtain ⟨Y, hY⟩ : ∃ Y, w.heap.size = Y := ⟨_, rfl⟩
  have jY : W.heap[Y]? = some (.cells #[.string x, .string y] 62 (0, 0)) := by rw [hW, ← hY]; exact heap_alloc_new w _
  have y0 : W.cell? ⟨Y, 0, none⟩ = some (.string x) := cell_blk jY 0
  have s1 := stands_any x k W hx hk
  have HW := Lib.hid hW
  have HYY := Lib.hid hY
  have HB := Lib.hid hb
  have HJ := Lib.hid jY
  clear hW hY hb jY
  go_enter Try.func23, Try.ntmps23
  go_upto_region 1 with fail
  rw [← HW.out, HYY.out]
  go_wp2_with fail
  refine s1.mono ?_
  rintro e w1 ⟨rfl, b1⟩
  have y1 : w1.cell? ⟨Y, 1, none⟩ = some (.string y) := cell_blk ((b1.block Y (blk_lt HJ.out)).trans HJ.out) 1
  have HB1 := Lib.hid (HB.out.trans (b1.mono HB.out.size))
  have s2 := stands_any k y w1 hk hy
  clear b1
  by_cases h1 : cb x k ≤ 0
  · go_wp2_with fail
    refine s2.mono ?_
    rintro e w2 ⟨rfl, b2⟩
    have HB2 := Lib.hid (HB1.out.trans (b2.mono HB1.out.size))
    clear b2 s1 s2
    go_wp2
    go_ret
    exact ⟨by unfold inSpan; simp [h1], HB2.out⟩
  · clear s1 s2
    go_wp2
    go_ret
    exact ⟨by have e : inSpan x y k = false := by unfold inSpan; rw [decide_eq_false (by omega), Bool.false_and]
              rw [e]; rfl, HB1.out⟩
end Go.Proofs.Ytfokgalgdlajlaa
