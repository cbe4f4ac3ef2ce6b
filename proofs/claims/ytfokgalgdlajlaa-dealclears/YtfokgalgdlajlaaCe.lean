/- slices.IndexFunc and slices.DeleteFunc of parts, over any function value. -/
import Derived.Test.YtfokgalgdlajlaaCa
namespace Go.Proofs.Ytfokgalgdlajlaa
open Go.RowKit
theorem fl_take {α : Type} {f : α → List Value} {c : Nat} (hc : ∀ x, (f x).length = c) (L : List α) (i : Nat) (hi : i ≤ L.length) : (L.flatMap f).take (i * c) = (L.take i).flatMap f := by
  have e : L.flatMap f = (L.take i).flatMap f ++ (L.drop i).flatMap f := by rw [← List.flatMap_append, List.take_append_drop]
  rw [e]
  have hl : ((L.take i).flatMap f).length = i * c := by rw [fl_len hc, List.length_take, Nat.min_eq_left hi]
  rw [← hl]
  exact List.take_left
theorem fl_drop {α : Type} {f : α → List Value} {c : Nat} (hc : ∀ x, (f x).length = c) (L : List α) (i : Nat) (hi : i ≤ L.length) (j : Nat) : ((L.drop i).flatMap f)[j]? = (L.flatMap f)[i * c + j]? := by
  have e : L.flatMap f = (L.take i).flatMap f ++ (L.drop i).flatMap f := by rw [← List.flatMap_append, List.take_append_drop]
  have hl : ((L.take i).flatMap f).length = i * c := by rw [fl_len hc, List.length_take, Nat.min_eq_left hi]
  rw [e, List.getElem?_append_right (by omega), hl, Nat.add_sub_cancel_left]
theorem wpl_clear {P : Program} {w w' : World} {ops : Array Oper} {rest : List Oper} {o : Oper} {a : Act} {Q : Exit → Act → World → Prop} {t ty : TypeId} {v' : Value} {ds : Option Tmp} {ps : String} {af : Array Edge} (s : Operand)
    (ho : o = ⟨ds, .call { callee := .builtin .clear, args := #[s], argTypes := #[t] }, ty, ps, af, none⟩) (hrun : (Builtin.clear_ #[t] ty #[a.eval s]).run P w = .ok v' w')
    (h : wpList P ops Q rest (a.put ds v') w') : wpList P ops Q (o :: rest) a w := by
  subst ho
  refine wpList_plain rfl fun K hK => ?_
  unfold Oper.wp execOp
  simp only [resolve, invoke, builtin, Sem.run_bind, Sem.run_pure, Result.andThen_ok, List.map_toArray, List.map_cons, List.map_nil, hrun]
  exact hK _ _ h
theorem wpl_slice_lo {P : Program} {w : World} {ops : Array Oper} {rest : List Oper} {o : Oper} {a : Act} {Q : Exit → Act → World → Prop} {t ty : TypeId} {v1 v2 v' : Value} {ds : Option Tmp} {ps : String} {af : Array Edge} (x y : Operand)
    (ho : o = ⟨ds, .slice t x (some y) none none, ty, ps, af, none⟩) (hx : a.eval x = v1) (hy : a.eval y = v2) (hrun : (Instr.sliceAt t v1 (some v2) none none).run P w = .ok v' w)
    (h : wpList P ops Q rest (a.put ds v') w) : wpList P ops Q (o :: rest) a w := by
  subst ho
  subst hx
  subst hy
  refine wpList_plain rfl fun K hK => ?_
  unfold Oper.wp execOp
  simp only [Option.map_some, Option.map_none, Sem.run_bind, Sem.run_pure, Result.andThen_ok, hrun]
  exact hK _ _ h
/-- Those that are kept. -/
def keepL (p : Gp → Bool) (L : List Gp) : List Gp := L.filter fun l => !p l
structure DelIn (p : Gp → Bool) (L : List Gp) (j k : Nat) (R : List Gp) : Prop where
  le : j ≤ L.length
  lt : k < j
  len : R.length = L.length
  kept : R.take k = keepL p (L.take j)
  rest : R.drop j = L.drop j
section
variable {p : Gp → Bool} {L R : List Gp} {i j k : Nat}
theorem keep_next (h : j < L.length) : keepL p (L.take (j + 1)) = keepL p (L.take j) ++ if p L[j] then [] else [L[j]] := by
  unfold keepL
  rw [List.take_add_one, List.getElem?_eq_getElem h, List.filter_append]
  cases hp : p L[j] <;> simp [hp]
theorem keep_all (h : L.findIdx? p = none) : keepL p L = L := by
  unfold keepL
  rw [List.filter_eq_self]
  intro x hx
  simp [List.findIdx?_eq_none_iff.1 h x hx]
theorem del_start (h : L.findIdx? p = some i) : DelIn p L (i + 1) i L := by
  obtain ⟨hlt, hp, hb⟩ := List.findIdx?_eq_some_iff_getElem.1 h
  refine ⟨hlt, Nat.lt_succ_self i, rfl, ?_, rfl⟩
  rw [keep_next hlt, if_pos hp, List.append_nil]
  unfold keepL
  rw [List.filter_eq_self.2]
  intro x hx
  obtain ⟨m, hm, e⟩ := List.getElem_of_mem hx
  rw [List.length_take] at hm
  rw [← e, List.getElem_take]
  have := hb m (by omega)
  simpa using this
theorem DelIn.at (h : DelIn p L j k R) (hj : j < L.length) : R[j]'(by rw [h.len]; exact hj) = L[j] := by
  have := congrArg (fun l => l[0]?) h.rest
  simp only [List.getElem?_drop, Nat.add_zero] at this
  rw [List.getElem?_eq_getElem (by rw [h.len]; exact hj), List.getElem?_eq_getElem hj] at this
  exact Option.some.inj this
theorem DelIn.skip (h : DelIn p L j k R) (hj : j < L.length) (hp : p L[j] = true) : DelIn p L (j + 1) k R := by
  refine ⟨hj, Nat.lt_succ_of_lt h.lt, h.len, ?_, ?_⟩
  · rw [keep_next hj, if_pos hp, List.append_nil]
    exact h.kept
  · rw [← List.drop_drop, h.rest, List.drop_drop]
theorem DelIn.keep (h : DelIn p L j k R) (hj : j < L.length) (hp : p L[j] = false) : DelIn p L (j + 1) (k + 1) (R.set k L[j]) := by
  have hk : k < R.length := by have := h.len; have := h.lt; omega
  refine ⟨hj, Nat.succ_lt_succ h.lt, by rw [List.length_set]; exact h.len, ?_, ?_⟩
  · rw [keep_next hj, if_neg (by rw [hp]; decide), ← h.kept, List.take_add_one, List.getElem?_set_self hk, List.take_set_of_le (Nat.le_refl k)]
    rfl
  · rw [List.drop_set_of_lt (by have := h.lt; omega), ← List.drop_drop, h.rest, List.drop_drop]
theorem DelIn.done (h : DelIn p L L.length k R) : R.take k = keepL p L := by
  have := h.kept
  rwa [List.take_of_length_le (Nat.le_refl _)] at this
theorem DelIn.num (h : DelIn p L L.length k R) : k = (keepL p L).length := by
  rw [← h.done, List.length_take, h.len]
  have := h.lt
  omega
end
section
variable {w : World} {g cap c i : Nat} {e : TypeId} {α : Type} {f : α → List Value}
theorem own_setRow (hc : ∀ x, (f x).length = c) {R : List α} (y : α) (h : w.ownsRow 0 e c (.slice (some ⟨g, 0, none⟩) R.length cap) R.length (R.flatMap f)) (hi : i < R.length) : (w.setCells g (i * c) (f y)).ownsRow 0 e c (.slice (some ⟨g, 0, none⟩) R.length cap) R.length ((R.set i y).flatMap f) ∧ Fr w (w.setCells g (i * c) (f y)) (fun k => k = g) := by
  obtain ⟨cur, hg, h1, h2, h3, h4⟩ := row_blk h
  have hle : i * c + c ≤ R.length * c := by
    have := Nat.mul_le_mul_right c hi
    rw [Nat.succ_mul] at this
    exact this
  have hcap : R.length * c ≤ cap * c := Nat.mul_le_mul_right c h1
  obtain ⟨⟨ds, d1, d2⟩, e1, e2, e3, e4, e5⟩ := setCells_gen (f y) (i * c) w cur hg (by rw [hc, h3]; omega)
  rw [hc] at d2
  refine ⟨⟨by rw [fl_len hc, List.length_set], .inr ⟨g, cap, ds, rfl, Nat.zero_le _, d1, h1, h2, ?_, ?_⟩⟩, ⟨e3, e4, e5, by omega, fun k _ hk => e1 k hk⟩⟩
  · have := congrArg List.length d2
    rw [Array.length_toList, List.length_append, List.length_append, List.length_take, List.length_drop, hc, Array.length_toList] at this
    omega
  · have t1 : cur.toList.take (i * c) = (R.take i).flatMap f := by
      rw [← fl_take hc R i (by omega), ← h4, List.take_take, Nat.min_eq_left (by omega)]
    have t2 : (cur.toList.drop (i * c + c)).take (R.length * c - (i * c + c)) = (R.drop (i + 1)).flatMap f := by
      rw [← List.drop_take, h4]
      refine List.ext_getElem? fun k => ?_
      rw [List.getElem?_drop, fl_drop hc R (i + 1) hi k, Nat.succ_mul]
    have s1 : R.set i y = R.take i ++ [y] ++ R.drop (i + 1) := by
      rw [List.set_eq_take_append_cons_drop, if_pos hi]
      simp
    rw [d2, s1, List.flatMap_append, List.flatMap_append, ← t1, ← t2, List.take_append, List.take_append]
    have l1 : (cur.toList.take (i * c)).length = i * c := by rw [List.length_take, Array.length_toList]; omega
    rw [l1, List.length_append, l1, hc, List.take_take, Nat.min_eq_right (show i * c ≤ R.length * c by omega), List.take_of_length_le (l := f y) (by rw [hc]; omega)]
    simp
end
/-- The cells of so many leases that are none. -/
def zLs (m : Nat) : List Value := (Builtin.zeroCells #[.int .i64 0, .slice none 0 0, .slice none 0 0] m).toList
theorem zLs_len (m : Nat) : (zLs m).length = m * 3 := by
  unfold zLs
  rw [Array.length_toList, size_zeroCells]
  rfl
theorem zLs_one (m : Nat) : ∀ v ∈ zLs m, v.oneCell' = true := by
  intro v hv
  unfold zLs Builtin.zeroCells at hv
  simp only [Array.toList_map, List.mem_map] at hv
  obtain ⟨i, _, rfl⟩ := hv
  have h3 : i % 3 < 3 := Nat.mod_lt _ (by decide)
  have : i % 3 = 0 ∨ i % 3 = 1 ∨ i % 3 = 2 := by omega
  show ((#[.int .i64 0, .slice none 0 0, .slice none 0 0] : Array Value)[i % 3]!).oneCell' = true
  rcases this with e | e | e <;> rw [e] <;> rfl
theorem clear_runL {w : World} {g o m cap : Nat} {cur : Array Value} (ty : TypeId) (hb : w.heap[g]? = some (.cells cur 84 (0, 0))) (hin : o + m * 3 ≤ cur.size) (hm : 0 < m) :
    (Builtin.clear_ #[79] ty #[.slice (some ⟨g, o, none⟩) m cap]).run Try.prog w = .ok (.tuple #[]) (w.setCells g o (zLs m)) := by
  obtain ⟨i0, hi, hz0, hz1, hz2⟩ := info_parts info84
  have hst := run_storeCells_cells (P := Try.prog) g o (zLs m) 0 w (fun j hj => by
    have hj' : j < m * 3 := by rw [← zLs_len]; exact hj
    rw [cell_blk hb, Array.getElem?_eq_getElem (by omega)]
    rfl) (fun j _ => frozen_blk hb _) (zLs_one m)
  simp only [Nat.add_zero] at hst
  have hzc : (Builtin.zeroCells (Value.agg #[.int .i64 0, .slice none 0 0, .slice none 0 0]).cells m).toList = zLs m := rfl
  rcases m with _ | m
  · omega
  simp [Builtin.clear_, run_underlying Try.underlying79, zeroValue, typeInfo, hi, hz0, hzc, hst]
/-- What is cleared behind a row leaves it. -/
theorem own_clearL {w : World} {g n k cap : Nat} {R : List Gp} (h : w.ownsRow 0 84 3 (.slice (some ⟨g, 0, none⟩) n cap) n (R.flatMap gpL)) (hR : R.length = n) (hk : k ≤ n) : (w.setCells g (k * 3) (zLs (n - k))).ownsRow 0 84 3 (.slice (some ⟨g, 0, none⟩) k cap) k ((R.take k).flatMap gpL) ∧ Fr w (w.setCells g (k * 3) (zLs (n - k))) (fun j => j = g) := by
  obtain ⟨cur, hg, h1, h2, h3, h4⟩ := row_blk h
  have hz := zLs_len (n - k)
  obtain ⟨⟨ds, d1, d2⟩, e1, e2, e3, e4, e5⟩ := setCells_gen (zLs (n - k)) (k * 3) w cur hg (by rw [hz, h3]; omega)
  refine ⟨⟨by rw [fl_len gpL_len, List.length_take, hR, Nat.min_eq_left hk], .inr ⟨g, cap, ds, rfl, Nat.zero_le _, d1, by omega, h2, ?_, ?_⟩⟩, ⟨e3, e4, e5, by omega, fun j _ hj => e1 j hj⟩⟩
  · have := congrArg List.length d2
    rw [Array.length_toList, List.length_append, List.length_append, List.length_take, List.length_drop, hz, Array.length_toList] at this
    omega
  · rw [d2, List.append_assoc, List.take_append_of_le_length (by rw [List.length_take, Array.length_toList]; omega), List.take_take, Nat.min_self, ← fl_take gpL_len R k (by omega), ← h4, List.take_take, Nat.min_eq_left (by omega)]
section
variable {w : World}
/-- A function value tells of leases whether p. -/
def AsksL (w : World) (L : List Gp) (f : FuncId) (cs : Array Value) (p : Gp → Bool) : Prop := ∀ X, Below w.heap.size w X → ∀ l ∈ L, Calls Try.prog f (#[.agg (gpA l)] ++ cs) X fun e w' => e = .returned (.bool (p l)) ∧ Below X.heap.size X w'
set_option maxHeartbeats 1000000 in
set_option maxRecDepth 100000 in
theorem idxL_any {L : List Gp} {v : Value} {f : FuncId} {cs : Array Value} {p : Gp → Bool} (hL : Lr gpE 3 w L v) (hcf : ∀ (X : World) (a : Array Value), Sem.run Try.prog (callFunc f a) X = .ok (.enter f a) X) (hf : AsksL w L f cs p) :
    Calls Try.prog 82 #[v, .func (.func f) #[] cs] w fun e w' => e = .returned (.int .i64 (fidx p L)) ∧ Below w.heap.size w w' := by
  obtain ⟨ad, cap, rfl, _, z1, z2, hX⟩ := hL
  have hmx : (L.length : Int) ≤ 9223372036854775807 := by unfold maxLen at z2; omega
  have HX := Lib.hid hX
  have HF := Lib.hid hf
  clear hX z1 z2 hf
  go_enter Try.func82, Try.ntmps82
  go_wp2
  go_loopw [8] (fun iv wr => ∃ i : Nat, i ≤ L.length ∧ iv = .int .i64 (i : Int) ∧ (∀ j (hj : j < L.length), j < i → p L[j] = false) ∧ Below w.heap.size w wr) (fun iv _ => L.length - (intOf iv).toNat)
  case atStart => exact ⟨0, Nat.zero_le _, rfl, fun j _ hj => by omega, Below.refl _ _⟩
  case round =>
    obtain ⟨i, hi, rfl, hno, hb⟩ := hrel
    obtain ⟨V, rfl⟩ : ∃ V, V = wr := ⟨_, rfl⟩
    have HN := Lib.hid hno
    have HB := Lib.hid hb
    by_cases hlt : i < L.length
    · obtain ⟨b, o, cs', rfl, hbl, hE, _, hcell⟩ := HX.out i hlt
      cases hE
      have hc := HF.out V hb L[i] (List.getElem_mem hlt)
      have hld : (Instr.loadAt 84 (.pointer (some ⟨b, o + i * 3, none⟩))).run Try.prog V = .ok (.agg (gpA L[i])) V := run_loadAt_mid V b (o + i * 3) 84 (gpL L[i]) _ (fun j u hu => cell_on hb (hcell j u hu)) Try.underlying84 rfl size84
      have k0 : (0 : Int) ≤ i := by omega
      have k1 : (i : Int) < L.length := by omega
      have HAT := Lib.hid (fun hp => fidx_at hlt hp hno)
      have HLD := Lib.hid hld
      clear hb hno hcell hld
      cases hp : p L[i] with
      | true =>
        rw [hp] at hc
        have HP := Lib.hid hp
        clear hp
        go_wp2_with (refine wpl_load _ rfl (by simp [Act.eval]) HLD.out ?_)
        refine hc.mono ?_
        rintro e w1 ⟨rfl, b1⟩
        have HB1 := Lib.hid b1
        clear b1 hc
        go_wp2
        go_ret
        exact ⟨by rw [HAT.out HP.out]; rfl, bgo HB.out HB1.out⟩
      | false =>
        rw [hp] at hc
        have HP := Lib.hid hp
        clear hp
        go_wp2_with (refine wpl_load _ rfl (by simp [Act.eval]) HLD.out ?_)
        refine hc.mono ?_
        rintro e w1 ⟨rfl, b1⟩
        have HB1 := Lib.hid b1
        clear b1 hc
        go_wp2
        go_roundw
        case rel =>
          refine ⟨i + 1, hlt, by go_num, fun j hj hji => ?_, bgo HB.out HB1.out⟩
          rcases Nat.lt_or_ge j i with q | q
          · exact HN.out j hj q
          · obtain rfl : j = i := by omega
            exact HP.out
        case measure => simp [intOf]; omega
    · have hge : ¬ (i : Int) < L.length := by omega
      have HE : Hid (fidx p L = -1) := fidx_none fun j hj => HN.out j hj (by omega)
      clear hno hb
      go_wp2
      go_ret
      exact ⟨by rw [HE.out]; rfl, HB.out⟩
end
theorem wpl_slice_hi {P : Program} {w : World} {ops : Array Oper} {rest : List Oper} {o : Oper} {a : Act} {Q : Exit → Act → World → Prop} {t ty : TypeId} {v1 v2 v' : Value} {ds : Option Tmp} {ps : String} {af : Array Edge} (x y : Operand)
    (ho : o = ⟨ds, .slice t x none (some y) none, ty, ps, af, none⟩) (hx : a.eval x = v1) (hy : a.eval y = v2) (hrun : (Instr.sliceAt t v1 none (some v2) none).run P w = .ok v' w)
    (h : wpList P ops Q rest (a.put ds v') w) : wpList P ops Q (o :: rest) a w := by
  subst ho
  subst hx
  subst hy
  refine wpList_plain rfl fun K hK => ?_
  unfold Oper.wp execOp
  simp only [Option.map_some, Option.map_none, Sem.run_bind, Sem.run_pure, Result.andThen_ok, hrun]
  exact hK _ _ h
section
variable {w : World}
/-- A function value tells of leases whether p, in every world that differs by the row's block alone. -/
def AsksG (w : World) (g : Nat) (L : List Gp) (f : FuncId) (cs : Array Value) (p : Gp → Bool) : Prop := ∀ X, Fr w X (fun k => k = g) → ∀ l ∈ L, Calls Try.prog f (#[.agg (gpA l)] ++ cs) X fun e w' => e = .returned (.bool (p l)) ∧ Below X.heap.size X w'
theorem row_at {X : World} {g cap j : Nat} {R : List Gp} (h : X.ownsRow 0 84 3 (.slice (some ⟨g, 0, none⟩) R.length cap) R.length (R.flatMap gpL)) (hj : j < R.length) : X.rangeAt g (j * 3) (gpL R[j]) := by
  obtain ⟨ad, cp, e, _, _, _, hX⟩ := Lr.own gpL_len h
  cases e
  obtain ⟨b, o, cs, e, _, hE, _, hc⟩ := hX j hj
  cases e
  intro k u hu
  have := hc k u (by rw [hE]; exact hu)
  rw [Nat.zero_add] at this
  exact this
theorem there_row {X : World} {g o : Nat} {l : Gp} {cur : Array Value} (hg : X.heap[g]? = some (.cells cur 84 (0, 0))) (h : X.rangeAt g o (gpL l)) : X.there g o 3 := fun k hk => by
  refine ⟨?_, frozen_blk hg _⟩
  rw [h k (gpL l)[k] (List.getElem?_eq_getElem (by rw [gpL_len]; exact hk))]
  rfl
set_option maxHeartbeats 4000000 in
set_option maxRecDepth 100000 in
theorem deleteL_any {L : List Gp} {g cap : Nat} {f : FuncId} {cs : Array Value} {p : Gp → Bool} (h : w.ownsRow 0 84 3 (.slice (some ⟨g, 0, none⟩) L.length cap) L.length (L.flatMap gpL)) (hcf : ∀ (X : World) (a : Array Value), Sem.run Try.prog (callFunc f a) X = .ok (.enter f a) X) (hf : AsksG w g L f cs p) :
    Calls Try.prog 75 #[.slice (some ⟨g, 0, none⟩) L.length cap, .func (.func f) #[] cs] w fun e w' => ∃ n, n = (keepL p L).length ∧ e = .returned (.slice (some ⟨g, 0, none⟩) n cap) ∧ w'.ownsRow 0 84 3 (.slice (some ⟨g, 0, none⟩) n cap) n ((keepL p L).flatMap gpL) ∧ Fr w w' (fun k => k = g) := by
  obtain ⟨cur, hg, hle, hcm, _, _⟩ := row_blk h
  have hgl := blk_lt hg
  have hmx : (cap : Int) ≤ 9223372036854775807 := by unfold maxLen at hcm; omega
  have hidx := idxL_any (p := p) (Lr.own gpL_len h) hcf (fun X hX l hl => hf X (Fr.ofBelow _ hX) l hl)
  obtain ⟨n, hn⟩ : ∃ n, L.length = n := ⟨_, rfl⟩
  have H := Lib.hid h
  have HF := Lib.hid hf
  have HN := Lib.hid hn
  rw [hn] at hidx hle ⊢
  have HGL := Lib.hid hgl
  have HCM := Lib.hid hcm
  have HLE := Lib.hid hle
  have hnm : (n : Int) ≤ 9223372036854775807 := by omega
  have hnc : (n : Int) ≤ (cap : Int) := by omega
  clear h hf hn hgl hcm hle hg
  cases hfi : L.findIdx? p with
  | none =>
    have hfx : fidx p L = -1 := by unfold fidx; rw [hfi]
    have HK := Lib.hid (keep_all hfi)
    rw [hfx] at hidx
    clear hfx hfi
    go_enter Try.func75, Try.ntmps75
    go_wp2_with (go_at_call 82; refine hidx.mono ?_; rintro e w1 ⟨rfl, b1⟩; have B1 := Lib.hid b1; clear b1 hidx)
    go_ret
    refine ⟨n, by rw [HK.out, HN.out], rfl, ?_, Fr.ofBelow _ B1.out⟩
    have := own_below H.out B1.out
    rw [HN.out] at this
    rw [HK.out]
    exact this
  | some i0 =>
    have hfx : fidx p L = (i0 : Int) := by unfold fidx; rw [hfi]
    have HI0 := Lib.hid (del_start hfi)
    have hi0 : i0 < n := by have := (List.findIdx?_eq_some_iff_getElem.1 hfi).1; have := HN.out; omega
    obtain ⟨z, hz⟩ : ∃ z : Int, (i0 : Int) = z := ⟨_, rfl⟩
    rw [hfx, hz] at hidx
    have q0 : ¬ z = -1 := by omega
    have q1 : z + 1 ≤ 9223372036854775807 := by omega
    have q2 : (0 : Int) ≤ z := by omega
    have HZ := Lib.hid hz
    clear hz
    have HI1 := Lib.hid hi0
    clear hfx hfi hi0 hmx hnc
    go_enter Try.func75, Try.ntmps75
    go_wp2_with (go_at_call 82; refine hidx.mono ?_; rintro e w1 ⟨rfl, b1⟩; have B1 := Lib.hid b1; clear b1 hidx)
    rw [show (z == (-1 : Int)) = false from by simpa using q0]
    clear q0 q1 q2
    go_loopw [5, 6] (fun iv jv wr => ∃ (j k : Nat) (R : List Gp), iv = .int .i64 (k : Int) ∧ jv = .int .i64 (j : Int) ∧ DelIn p L j k R ∧ wr.ownsRow 0 84 3 (.slice (some ⟨g, 0, none⟩) R.length cap) R.length (R.flatMap gpL) ∧ Fr w wr (fun k => k = g)) (fun _ jv _ => n - (intOf jv).toNat)
    case atStart => exact ⟨i0 + 1, i0, L, by rw [HZ.out], by rw [← HZ.out]; go_num, HI0.out, own_below H.out B1.out, Fr.ofBelow _ B1.out⟩
    case round =>
      obtain ⟨j, k, R, rfl, rfl, hI, ho, hfr⟩ := hrel
      obtain ⟨V, rfl⟩ : ∃ V, V = wr := ⟨_, rfl⟩
      have hRn : R.length = n := hI.len.trans HN.out
      have HI := Lib.hid hI
      have HO := Lib.hid ho
      have HFR := Lib.hid hfr
      have HRN := Lib.hid hRn
      have hkj := hI.lt
      by_cases hlt : j < n
      · have hjL : j < L.length := by have := HN.out; omega
        obtain ⟨l, hl⟩ : ∃ l, L[j] = l := ⟨_, rfl⟩
        have hmem : l ∈ L := hl ▸ List.getElem_mem hjL
        have hrow : V.rangeAt g (j * 3) (gpL l) := by
          have := row_at ho (j := j) (by rw [hRn]; exact hlt)
          rw [hI.at hjL, hl] at this
          exact this
        have hld : (Instr.loadAt 84 (.pointer (some ⟨g, j * 3, none⟩))).run Try.prog V = .ok (.agg (gpA l)) V := run_loadAt_mid V g (j * 3) 84 (gpL l) _ hrow Try.underlying84 rfl size84
        obtain ⟨V2, e2, k2, f2⟩ := st_row (heap_alloc_new V (.cells #[.int .i64 0, .slice none 0 0, .slice none 0 0] 84)) (us := gpA l) rfl size84 (by simp [Value.oneCell'])
        have hb2 : Below V.heap.size V V2 := (bnew V _).trans (f2.toBelow (fun k hk q => by omega) (bnew V _).size)
        have hld2 := load_row k2 Try.underlying84 rfl size84
        have hc := HF.out V2 (hfr.below hb2) l hmem
        have HLD := Lib.hid hld
        have HS2 := Lib.hid e2
        have HLD2 := Lib.hid hld2
        have HB2 := Lib.hid hb2
        have HK2 := Lib.hid k2
        have HL := Lib.hid (And.intro hjL hl)
        have HKJ := Lib.hid hkj
        have r0 : (0 : Int) ≤ (j : Int) := by omega
        have r1 : (j : Int) < (n : Int) := by omega
        clear hI ho hfr hRn hkj hmem hrow hld e2 k2 f2 hb2 hld2 hl
        have s0 : (0 : Int) ≤ (k : Int) := by omega
        have s1 : (k : Int) < (n : Int) := by have := HKJ.out; omega
        cases hp : p l with
        | true =>
          rw [hp] at hc
          have HP := Lib.hid hp
          clear hp
          go_wp2_with (first | (refine wpl_load _ rfl (by simp [Act.eval]) HLD.out ?_) | (refine wpl_store _ _ rfl (by simp [Act.eval]) (by simp [Act.eval]) HS2.out ?_) | (refine wpl_load _ rfl (by simp [Act.eval]) HLD2.out ?_))
          refine hc.mono ?_
          rintro e w1 ⟨rfl, b1⟩
          have B1 := Lib.hid b1
          clear b1 hc
          go_wp2
          go_roundw
          case rel =>
            refine ⟨j + 1, k, R, rfl, ?_, HI.out.skip HL.out.1 (by rw [HL.out.2]; exact HP.out), own_below HO.out (bgo HB2.out B1.out), (HFR.out.below HB2.out).below B1.out⟩
            go_num
          case measure => simp [intOf]; omega
        | false =>
          rw [hp] at hc
          have HP := Lib.hid hp
          clear hp
          go_wp2_with (first | (refine wpl_load _ rfl (by simp [Act.eval]) HLD.out ?_) | (refine wpl_store _ _ rfl (by simp [Act.eval]) (by simp [Act.eval]) HS2.out ?_) | (refine wpl_load _ rfl (by simp [Act.eval]) HLD2.out ?_))
          refine hc.mono ?_
          rintro e w1 ⟨rfl, b1⟩
          have B1 := Lib.hid b1
          clear b1 hc
          have hld3 := load_row ((B1.out.block _ (blk_lt HK2.out)).trans HK2.out) Try.underlying84 rfl size84
          have hO1 := own_below HO.out (bgo HB2.out B1.out)
          have hkR : k < R.length := by have := HRN.out; have := HKJ.out; omega
          obtain ⟨cu, hcu, _⟩ := row_blk hO1
          have hst3 : (Instr.storeAt 84 (.pointer (some ⟨g, k * 3, none⟩)) (.agg (gpA l))).run Try.prog w1 = .ok () (w1.setCells g (k * 3) (gpL l)) := run_storeAt_mid w1 g (k * 3) 84 (gpA l) (there_row hcu (row_at hO1 hkR)) size84 (by simp [Value.oneCell'])
          obtain ⟨o3, f3⟩ := own_setRow gpL_len l hO1 hkR
          obtain ⟨W3, hW3⟩ : ∃ W3, W3 = w1.setCells g (k * 3) (gpL l) := ⟨_, rfl⟩
          rw [← hW3] at hst3 o3 f3
          have HLD3 := Lib.hid hld3
          have HS3 := Lib.hid hst3
          have HO3 := Lib.hid o3
          have HF3 := Lib.hid f3
          clear hld3 hO1 hkR hcu hst3 o3 f3 hW3
          go_wp2_with (first | (refine wpl_load _ rfl (by simp [Act.eval]) HLD3.out ?_) | (refine wpl_store _ _ rfl (by simp [Act.eval]) (by simp [Act.eval]) HS3.out ?_))
          go_roundw
          case rel =>
            have hk2 := HI.out.keep HL.out.1 (by rw [HL.out.2]; exact HP.out)
            rw [HL.out.2] at hk2
            refine ⟨j + 1, k + 1, R.set k l, ?_, ?_, hk2, by rw [List.length_set]; exact HO3.out, ((HFR.out.below HB2.out).below B1.out).trans HF3.out⟩
            · go_num
            · go_num
          case measure => simp [intOf]; omega
      · have hjn : j = n := by have := hI.le; have := HN.out; omega
        subst hjn
        have hkn : k < j := hkj
        have hcmax := HCM.out
        have hle := HLE.out
        have s0 : (0 : Int) ≤ (k : Int) := by omega
        have s1 : (k : Int) ≤ (j : Int) := by omega
        have s2 : (j : Int) ≤ (cap : Int) := by omega
        have s3 : ¬ cap = k := by omega
        have s4 : ¬ cap < k := by omega
        have hsl1 : ∀ X : World, (Instr.sliceAt 79 (.slice (some ⟨g, 0, none⟩) j cap) (some (.int .i64 (k : Int))) none none).run Try.prog X = .ok (.slice (some ⟨g, k * 3, none⟩) (j - k) (cap - k)) X := fun X => by go_simp
        have hsl2 : ∀ X : World, (Instr.sliceAt 79 (.slice (some ⟨g, 0, none⟩) j cap) none (some (.int .i64 (k : Int))) none).run Try.prog X = .ok (.slice (some ⟨g, 0, none⟩) k cap) X := fun X => by go_simp
        have ho' := HO.out
        rw [HRN.out] at ho'
        obtain ⟨cu, hcu, _, _, hcz, _⟩ := row_blk ho'
        have hcl : ∀ ty, (Builtin.clear_ #[79] ty #[.slice (some ⟨g, k * 3, none⟩) (j - k) (cap - k)]).run Try.prog V = .ok (.tuple #[]) (V.setCells g (k * 3) (zLs (j - k))) := fun ty => clear_runL ty hcu (by rw [hcz]; omega) (by omega)
        obtain ⟨o4, f4⟩ := own_clearL ho' hRn (Nat.le_of_lt hkn)
        obtain ⟨W4, hW4⟩ : ∃ W4, W4 = V.setCells g (k * 3) (zLs (j - k)) := ⟨_, rfl⟩
        rw [← hW4] at o4 f4
        simp only [← hW4] at hcl
        have hdone : DelIn p L L.length k R := by rw [HN.out]; exact hI
        have HD := Lib.hid hdone
        have H1 := Lib.hid hsl1
        have H2 := Lib.hid hsl2
        have H3 := Lib.hid hcl
        have H4 := Lib.hid (And.intro o4 f4)
        have k1 : ¬ ((j : Int) < (j : Int)) := by omega
        clear hI ho hfr hRn hkj hkn hcmax hle s0 s1 s2 s3 s4 hsl1 hsl2 ho' hcu hcz hcl o4 f4 hW4 hdone hlt
        go_wp2_with (first | (refine wpl_slice_lo _ _ rfl (by simp [Act.eval]) (by simp [Act.eval]) (H1.out _) ?_) | (refine wpl_slice_hi _ _ rfl (by simp [Act.eval]) (by simp [Act.eval]) (H2.out _) ?_) | (refine wpl_clear _ rfl (H3.out _) ?_))
        go_ret
        have hnum := HD.out.num
        refine ⟨by rw [← hnum]; rfl, ?_, HFR.out.trans H4.out.2⟩
        rw [← hnum, ← HD.out.done]
        exact H4.out.1
end
section
variable {w : World}
def AsksV (w : World) (v : Value) (L : List Gp) (f : FuncId) (cs : Array Value) (p : Gp → Bool) : Prop := ∀ X, Fr w X (fun k => v.ownBlock = some k) → ∀ l ∈ L, Calls Try.prog f (#[.agg (gpA l)] ++ cs) X fun e w' => e = .returned (.bool (p l)) ∧ Below X.heap.size X w'
set_option maxHeartbeats 1000000 in
set_option maxRecDepth 100000 in
theorem delL_all {L : List Gp} {v : Value} {f : FuncId} {cs : Array Value} {p : Gp → Bool} (h : w.ownsRow 0 84 3 v L.length (L.flatMap gpL)) (hcf : ∀ (X : World) (a : Array Value), Sem.run Try.prog (callFunc f a) X = .ok (.enter f a) X) (hf : AsksV w v L f cs p) :
    Calls Try.prog 75 #[v, .func (.func f) #[] cs] w fun e w' => ∃ a cap, e = .returned (.slice a (keepL p L).length cap) ∧ w'.ownsRow 0 84 3 (.slice a (keepL p L).length cap) (keepL p L).length ((keepL p L).flatMap gpL) ∧ (Value.slice a (keepL p L).length cap).ownBlock = v.ownBlock ∧ Fr w w' (fun k => v.ownBlock = some k) := by
  rcases h.2 with ⟨rfl, h0⟩ | ⟨g, cap, cur, rfl, _⟩
  · have hn : L = [] := List.length_eq_zero_iff.1 h0
    subst hn
    have hidx := idxL_any (p := p) (f := f) (cs := cs) (Lr.own gpL_len h) hcf (fun X hX l hl => by cases hl)
    have hfx : fidx p ([] : List Gp) = -1 := rfl
    rw [hfx] at hidx
    clear hfx h hf h0
    go_enter Try.func75, Try.ntmps75
    go_wp2_with (go_at_call 82; refine hidx.mono ?_; rintro e w1 ⟨rfl, b1⟩; have B1 := Lib.hid b1; clear b1 hidx)
    go_ret
    exact ⟨_, _, rfl, World.ownsRow_nil _ _ _ _, rfl, Fr.ofBelow _ B1.out⟩
  · refine (deleteL_any h hcf (fun X hX l hl => hf X (hX.mono fun j q => by have q' : j = g := q; rw [q']; rfl) l hl)).mono ?_
    rintro e w' ⟨n, rfl, rfl, h1, h2⟩
    exact ⟨_, _, rfl, h1, rfl, h2.mono fun j q => by have q' : j = g := q; rw [q']; rfl⟩
end
end Go.Proofs.Ytfokgalgdlajlaa
