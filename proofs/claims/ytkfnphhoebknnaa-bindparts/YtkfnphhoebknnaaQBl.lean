import Derived.Test.YtkfnphhoebknnaaQBk
import Derived.StringKeys
import Derived.Maps.OwnSet
import Derived.Maps.Keyed
namespace Go.Proofs.Ytkfnphhoebknnaa
open Go.RowKit Go.Maps
theorem wpl_mup {P : Program} {w w' : World} {ops : Array Oper} {rest : List Oper} {o : Oper} {a : Act} {Q : Exit → Act → World → Prop} {t ty : TypeId} {p k v : Value} {ds : Option Tmp} {ps : String} {af : Array Edge} (x y z : Operand)
    (ho : o = ⟨ds, .mapUpdate t x y z, ty, ps, af, none⟩) (hx : a.eval x = p) (hy : a.eval y = k) (hz : a.eval z = v) (hst : (Instr.mapUpdate t p k v).run P w = .ok () w')
    (h : wpList P ops Q rest (a.put ds undef) w') : wpList P ops Q (o :: rest) a w := by
  subst ho
  subst hx
  subst hy
  subst hz
  refine wpList_plain rfl fun K hK => ?_
  unfold Oper.wp execOp
  simp only [Sem.run_bind, Sem.run_pure, Result.andThen_ok, hst]
  exact hK _ _ h
section
variable {α : Type} [DecidableEq α]
def memB (t : α) (l : List α) : Bool := decide (t ∈ l)
theorem memB_iff {t : α} {l : List α} : memB t l = true ↔ t ∈ l := by unfold memB; simp
theorem memB_snoc (t j : α) (l : List α) : memB j (l ++ [t]) = (memB j l || decide (j = t)) := by unfold memB; simp
def addT (l : List α) (t : α) : List α := if t ∈ l then l else l ++ [t]
def uniq (l : List α) : List α := l.foldl addT []
theorem uniq_snoc (l : List α) (t : α) : uniq (l ++ [t]) = addT (uniq l) t := by
  unfold uniq
  rw [List.foldl_append]
  rfl
theorem addT_mem {l : List α} {t x : α} : x ∈ addT l t ↔ x ∈ l ∨ x = t := by
  unfold addT
  split
  · rename_i h
    constructor
    · exact .inl
    · rintro (q | rfl)
      · exact q
      · exact h
  · simp
theorem fold_mem : ∀ (l acc : List α) (x : α), x ∈ l.foldl addT acc ↔ x ∈ acc ∨ x ∈ l
  | [], acc, x => by simp
  | t :: l, acc, x => by
    rw [List.foldl_cons, fold_mem l, addT_mem, List.mem_cons, or_assoc]
theorem uniq_mem {l : List α} {x : α} : x ∈ uniq l ↔ x ∈ l := by
  unfold uniq
  rw [fold_mem]
  simp
theorem fold_le : ∀ (l acc : List α), (l.foldl addT acc).length ≤ acc.length + l.length
  | [], acc => by simp
  | t :: l, acc => by
    rw [List.foldl_cons]
    have h1 := fold_le l (addT acc t)
    have h2 : (addT acc t).length ≤ acc.length + 1 := by
      unfold addT
      split
      · omega
      · simp
    rw [List.length_cons]
    omega
theorem fold_len : ∀ (l acc : List α), acc.Nodup → ((l.foldl addT acc).length = acc.length + l.length ↔ (acc ++ l).Nodup)
  | [], acc, h => by simp [h]
  | t :: l, acc, h => by
    rw [List.foldl_cons]
    by_cases ht : t ∈ acc
    · have e : addT acc t = acc := by unfold addT; rw [if_pos ht]
      rw [e]
      have h1 := fold_le l acc
      constructor
      · intro q
        rw [List.length_cons] at q
        omega
      · intro q
        rw [List.nodup_append] at q
        exact absurd rfl (q.2.2 t ht t List.mem_cons_self)
    · have e : addT acc t = acc ++ [t] := by unfold addT; rw [if_neg ht]
      have hn : (acc ++ [t]).Nodup := by
        rw [List.nodup_append]
        refine ⟨h, by simp, fun a ha b hb q => ?_⟩
        rw [List.mem_singleton.1 hb] at q
        rw [q] at ha
        exact ht ha
      have := fold_len l (acc ++ [t]) hn
      rw [e]
      rw [List.append_assoc, List.singleton_append] at this
      rw [← this, List.length_append, List.length_cons, List.length_cons, List.length_nil]
      constructor <;> intro q <;> omega
end
theorem uniq_same {α : Type} [DecidableEq α] (l : List α) : decide (((uniq l).length : Int) = (l.length : Int)) = decide l.Nodup := by
  have h1 := fold_le l []
  have h2 := fold_len l [] List.nodup_nil
  have e : (uniq l).length = (l.foldl addT []).length := rfl
  rw [List.nil_append] at h2
  rw [List.length_nil] at h1 h2
  by_cases q : l.Nodup
  · have := h2.2 q
    rw [decide_eq_true (by omega), decide_eq_true q]
  · have : ¬ (l.foldl addT []).length = 0 + l.length := fun z => q (h2.1 z)
    rw [decide_eq_false (by omega), decide_eq_false q]
def itself (v : Value) : Option (DataW Value × List MemPlace) := some (.held v, [])
def I64 (n : Int) : Prop := -9223372036854775808 ≤ n ∧ n ≤ 9223372036854775807
theorem keyedN : Keyed Try.prog 3 := int_keyed Try.underlying3
theorem keyedS : Keyed Try.prog 9 := string_keyed Try.underlying9
abbrev litN (i : Int) : Lit := .int .i64 i
abbrev litS (s : ByteArray) : Lit := .string s.data.toList
abbrev okN (i : Int) : Prop := I64 i
abbrev okS (s : ByteArray) : Prop := s.size ≤ maxLen
theorem isN (i : Int) : WideAt.IsKeyLit (litN i) := by simp [WideAt.IsKeyLit]
theorem isS (s : ByteArray) : WideAt.IsKeyLit (litS s) := by simp [WideAt.IsKeyLit]
theorem keyN {i : Int} (h : okN i) : keyOf Try.prog 3 (.int .i64 i) = some (litN i) := keyOf_int_mk Try.underlying3 (WalkArith.wf_i64 (by unfold okN I64 at h; omega))
theorem keyS {n : ByteArray} (h : okS n) : keyOf Try.prog 9 (.string n) = some (litS n) := WideMaps.keyOf_string_mk Try.underlying9 h
theorem injN {a b : Int} (e : litN a = litN b) : a = b := by injection e
theorem injS {a b : ByteArray} (e : litS a = litS b) : a = b := key_inj (by simpa [litS] using e)
def MN (w : World) (B : Nat) (l : List Int) : Prop := ∃ D : DataW Value, w.ownsMap Try.prog 3 itself B l.length D ∧ (∀ t, has D (litN t) = memB t l) ∧ Maps.size D = (uniq l).length
theorem MN.made (w : World) : MN (w.alloc (.map #[] 0)) w.heap.size [] :=
  ⟨_, World.ownsMap_made w _ _ _, fun _ => rfl, rfl⟩
theorem MN.lt {w : World} {B : Nat} {l : List Int} (h : MN w B l) : B < w.heap.size := by
  obtain ⟨D, h1, _⟩ := h
  exact h1.lt
theorem MN.on {w w' : World} {B : Nat} {l : List Int} (h : MN w B l) (hb : Below w.heap.size w w') : MN w' B l := by
  have hl := h.lt
  obtain ⟨D, ⟨es, clock, h1, h2⟩, h3⟩ := h
  exact ⟨D, ⟨es, clock, (hb.block B hl).trans h1, h2⟩, h3⟩
theorem MN.put {w : World} {B : Nat} {l : List Int} (h : MN w B l) (hn : l.length < maxLen) {t : Int} (hi : okN t) (x : Value) : ∃ w', (Instr.mapUpdate 118 (.map (some B)) (.int .i64 t) x).run Try.prog w = .ok () w' ∧ MN w' B (l ++ [t]) ∧ w.grownBy w' (some B) := by
  obtain ⟨D, h1, h2, h3⟩ := h
  obtain ⟨w', hr, h4, h5⟩ := h1.update keyedN Try.underlying118 hn (val := x) (d := .held x) (ps := []) (keyN hi) rfl
  have hl : (l ++ [t]).length = l.length + 1 := by simp
  refine ⟨w', hr, ⟨_, by rw [hl]; exact h4, fun j => ?_, ?_⟩, h5⟩
  · by_cases e : j = t
    · subst e
      rw [has_put_same h1.isMap (isN j) _, memB_snoc]
      simp
    · have hne : litN j ≠ litN t := fun q => e (injN q)
      rw [has_put_other hne, h2 j, memB_snoc]
      simp [e]
  · rw [size_put (h1.tidy keyedN), h2 t, uniq_snoc, h3]
    unfold addT
    by_cases q : t ∈ l
    · rw [if_pos (memB_iff.2 q), if_pos (uniq_mem.2 q)]
    · rw [if_neg (fun z => q (memB_iff.1 z)), if_neg (fun z => q (uniq_mem.1 z))]
      simp
theorem MN.len {w : World} {B : Nat} {l : List Int} (h : MN w B l) (ty : TypeId) : (Builtin.len_ #[118] ty #[.map (some B)]).run Try.prog w = .ok (.int .i64 ((uniq l).length : Nat)) w := by
  obtain ⟨D, h1, _, h3⟩ := h
  rw [← h3]
  exact h1.len Try.underlying118 ty
def MS (w : World) (B : Nat) (l : List ByteArray) : Prop := ∃ D : DataW Value, w.ownsMap Try.prog 9 itself B l.length D ∧ (∀ t, has D (litS t) = memB t l) ∧ Maps.size D = (uniq l).length
theorem MS.made (w : World) : MS (w.alloc (.map #[] 0)) w.heap.size [] :=
  ⟨_, World.ownsMap_made w _ _ _, fun _ => rfl, rfl⟩
theorem MS.lt {w : World} {B : Nat} {l : List ByteArray} (h : MS w B l) : B < w.heap.size := by
  obtain ⟨D, h1, _⟩ := h
  exact h1.lt
theorem MS.on {w w' : World} {B : Nat} {l : List ByteArray} (h : MS w B l) (hb : Below w.heap.size w w') : MS w' B l := by
  have hl := h.lt
  obtain ⟨D, ⟨es, clock, h1, h2⟩, h3⟩ := h
  exact ⟨D, ⟨es, clock, (hb.block B hl).trans h1, h2⟩, h3⟩
theorem MS.put {w : World} {B : Nat} {l : List ByteArray} (h : MS w B l) (hn : l.length < maxLen) {t : ByteArray} (hi : okS t) (x : Value) : ∃ w', (Instr.mapUpdate 120 (.map (some B)) (.string t) x).run Try.prog w = .ok () w' ∧ MS w' B (l ++ [t]) ∧ w.grownBy w' (some B) := by
  obtain ⟨D, h1, h2, h3⟩ := h
  obtain ⟨w', hr, h4, h5⟩ := h1.update keyedS Try.underlying120 hn (val := x) (d := .held x) (ps := []) (keyS hi) rfl
  have hl : (l ++ [t]).length = l.length + 1 := by simp
  refine ⟨w', hr, ⟨_, by rw [hl]; exact h4, fun j => ?_, ?_⟩, h5⟩
  · by_cases e : j = t
    · subst e
      rw [has_put_same h1.isMap (isS j) _, memB_snoc]
      simp
    · have hne : litS j ≠ litS t := fun q => e (injS q)
      rw [has_put_other hne, h2 j, memB_snoc]
      simp [e]
  · rw [size_put (h1.tidy keyedS), h2 t, uniq_snoc, h3]
    unfold addT
    by_cases q : t ∈ l
    · rw [if_pos (memB_iff.2 q), if_pos (uniq_mem.2 q)]
    · rw [if_neg (fun z => q (memB_iff.1 z)), if_neg (fun z => q (uniq_mem.1 z))]
      simp
theorem MS.len {w : World} {B : Nat} {l : List ByteArray} (h : MS w B l) (ty : TypeId) : (Builtin.len_ #[120] ty #[.map (some B)]).run Try.prog w = .ok (.int .i64 ((uniq l).length : Nat)) w := by
  obtain ⟨D, h1, _, h3⟩ := h
  rw [← h3]
  exact h1.len Try.underlying120 ty
section
variable {w : World}
set_option maxHeartbeats 2000000 in
set_option maxRecDepth 100000 in
theorem unlikeN_any {L : List Int} {v : Value} (hl : Lr inE 1 w L v) (ht : ∀ x ∈ L, okN x) : Calls Try.prog 50 #[v] w fun e w' => e = .returned (.bool (decide L.Nodup)) ∧ Below w.heap.size w w' := by
  have hmm := @run_makeMap Try.prog
  have HL := Lib.hid hl
  obtain ⟨ad, cap, rfl, _, hle, hcap, _⟩ := hl
  obtain ⟨n, hn⟩ : ∃ n, L.length = n := ⟨_, rfl⟩
  have hmx : (n : Int) ≤ 9223372036854775807 := by unfold maxLen at hcap; omega
  have HN := Lib.hid hn
  have HT := Lib.hid ht
  have HCP : Hid (n ≤ maxLen) := Lib.hid (by omega)
  rw [hn] at HL ⊢
  obtain ⟨B, hB⟩ : ∃ B, w.heap.size = B := ⟨_, rfl⟩
  obtain ⟨W, hW⟩ : ∃ W, W = w.alloc (.map #[] 0) := ⟨_, rfl⟩
  have hmq : MN W B [] := by rw [hW, ← hB]; exact MN.made w
  have hbW : Below w.heap.size w W := by rw [hW]; exact bnew _ _
  have HMQ := Lib.hid hmq
  have HBW := Lib.hid hbW
  have HW := Lib.hid hW
  have HB := Lib.hid hB
  clear hn ht hcap hle hmq hbW hW hB
  go_enter Try.func50, Try.ntmps50
  go_upto_region 2 with fail
  rw [← HW.out, HB.out]
  go_wp2
  go_loopw [9] (fun iv wr => ∃ i : Nat, i ≤ n ∧ iv = .int .i64 (i : Int) ∧ MN wr B (L.take i) ∧ Below w.heap.size w wr) (fun iv _ => n - (intOf iv).toNat)
  case atStart => exact ⟨0, Nat.zero_le _, rfl, by rw [List.take_zero]; exact HMQ.out, HBW.out⟩
  case round =>
    clear HMQ HBW HW
    obtain ⟨i, hi, rfl, hq, hbw⟩ := hrel
    obtain ⟨V1, rfl⟩ : ∃ V1, V1 = wr := ⟨_, rfl⟩
    by_cases hlt : i < n
    · have hiL : i < L.length := by rw [HN.out]; exact hlt
      have k0 : (0 : Int) ≤ i := by omega
      have k1 : (i : Int) < n := by omega
      obtain ⟨ad', cap', e1, _, _, _, hcs⟩ := HL.out.on inE_held hbw
      obtain ⟨rfl, rfl⟩ : ad' = ad ∧ cap' = cap := by simp only [Value.slice.injEq] at e1; exact ⟨e1.1.symm, e1.2.2.symm⟩
      clear e1
      obtain ⟨b, o, cs, ha, _, hE, hcl, hcell⟩ := hcs i hiL
      obtain ⟨x, hx⟩ : ∃ x, L[i] = x := ⟨_, rfl⟩
      have htx : okN x := by rw [← hx]; exact HT.out _ (List.getElem_mem hiL)
      have hnx : L.take (i + 1) = L.take i ++ [x] := by
        rw [List.take_succ_eq_append_getElem hiL, hx]
      rw [hx] at hE
      subst ha
      have hE : cs = [.int .i64 x] := hE
      subst hE
      have c0 : V1.cell? ⟨b, o + i, none⟩ = some (.int .i64 x) := by
        have := hcell 0 _ rfl
        rw [Nat.mul_one, Nat.add_zero] at this
        exact this
      obtain ⟨w3, hup, hq3, hg3⟩ := hq.put (by
        rw [List.length_take, HN.out]
        have := HCP.out
        omega) htx (.agg #[])
      have HQ3 := Lib.hid hq3
      have HG3 := Lib.hid (hbw.grown hg3 hbw.size (fun k hk => by cases hk; exact Nat.le_of_eq HB.out))
      have HNX := Lib.hid hnx
      clear hq hbw hcs hcell hcl hnx htx hx hq3 hg3
      go_wp2_with (refine wpl_mup _ _ _ rfl (by simp [Act.eval]) (by simp [Act.eval]) (by simp [Act.eval]) hup ?_)
      go_roundw
      case rel => exact ⟨i + 1, hlt, by go_num, by rw [HNX.out]; exact HQ3.out, HG3.out⟩
      case measure => simp [intOf]; omega
    · have k1 : ¬ ((i : Int) < n) := by omega
      have hall : L.take i = L := List.take_of_length_le (by rw [HN.out]; omega)
      rw [hall] at hq
      have hlen := hq.len
      have hul := uniq_same L
      rw [HN.out] at hul
      obtain ⟨m, hm⟩ : ∃ m, (uniq L).length = m := ⟨_, rfl⟩
      rw [hm] at hlen hul
      have HBX := Lib.hid hbw
      have HUL := Lib.hid hul
      clear hall hq hbw hm hul
      by_cases hq : (m : Int) = (n : Int)
      · obtain rfl : m = n := by omega
        clear hq
        go_wp2
        go_ret
        exact ⟨by rw [← HUL.out]; simp, HBX.out⟩
      · go_wp2
        go_ret
        exact ⟨by rw [← HUL.out]; simp [hq], HBX.out⟩
set_option maxHeartbeats 2000000 in
set_option maxRecDepth 100000 in
theorem unlikeS_any {L : List ByteArray} {v : Value} (hl : Lr stE 1 w L v) (ht : ∀ x ∈ L, okS x) : Calls Try.prog 51 #[v] w fun e w' => e = .returned (.bool (decide L.Nodup)) ∧ Below w.heap.size w w' := by
  have hmm := @run_makeMap Try.prog
  have HL := Lib.hid hl
  obtain ⟨ad, cap, rfl, _, hle, hcap, _⟩ := hl
  obtain ⟨n, hn⟩ : ∃ n, L.length = n := ⟨_, rfl⟩
  have hmx : (n : Int) ≤ 9223372036854775807 := by unfold maxLen at hcap; omega
  have HN := Lib.hid hn
  have HT := Lib.hid ht
  have HCP : Hid (n ≤ maxLen) := Lib.hid (by omega)
  rw [hn] at HL ⊢
  obtain ⟨B, hB⟩ : ∃ B, w.heap.size = B := ⟨_, rfl⟩
  obtain ⟨W, hW⟩ : ∃ W, W = w.alloc (.map #[] 0) := ⟨_, rfl⟩
  have hmq : MS W B [] := by rw [hW, ← hB]; exact MS.made w
  have hbW : Below w.heap.size w W := by rw [hW]; exact bnew _ _
  have HMQ := Lib.hid hmq
  have HBW := Lib.hid hbW
  have HW := Lib.hid hW
  have HB := Lib.hid hB
  clear hn ht hcap hle hmq hbW hW hB
  go_enter Try.func51, Try.ntmps51
  go_upto_region 2 with fail
  rw [← HW.out, HB.out]
  go_wp2
  go_loopw [9] (fun iv wr => ∃ i : Nat, i ≤ n ∧ iv = .int .i64 (i : Int) ∧ MS wr B (L.take i) ∧ Below w.heap.size w wr) (fun iv _ => n - (intOf iv).toNat)
  case atStart => exact ⟨0, Nat.zero_le _, rfl, by rw [List.take_zero]; exact HMQ.out, HBW.out⟩
  case round =>
    clear HMQ HBW HW
    obtain ⟨i, hi, rfl, hq, hbw⟩ := hrel
    obtain ⟨V1, rfl⟩ : ∃ V1, V1 = wr := ⟨_, rfl⟩
    by_cases hlt : i < n
    · have hiL : i < L.length := by rw [HN.out]; exact hlt
      have k0 : (0 : Int) ≤ i := by omega
      have k1 : (i : Int) < n := by omega
      obtain ⟨ad', cap', e1, _, _, _, hcs⟩ := HL.out.on stE_held hbw
      obtain ⟨rfl, rfl⟩ : ad' = ad ∧ cap' = cap := by simp only [Value.slice.injEq] at e1; exact ⟨e1.1.symm, e1.2.2.symm⟩
      clear e1
      obtain ⟨b, o, cs, ha, _, hE, hcl, hcell⟩ := hcs i hiL
      obtain ⟨x, hx⟩ : ∃ x, L[i] = x := ⟨_, rfl⟩
      have htx : okS x := by rw [← hx]; exact HT.out _ (List.getElem_mem hiL)
      have hnx : L.take (i + 1) = L.take i ++ [x] := by
        rw [List.take_succ_eq_append_getElem hiL, hx]
      rw [hx] at hE
      subst ha
      have hE : cs = [.string x] := hE
      subst hE
      have c0 : V1.cell? ⟨b, o + i, none⟩ = some (.string x) := by
        have := hcell 0 _ rfl
        rw [Nat.mul_one, Nat.add_zero] at this
        exact this
      obtain ⟨w3, hup, hq3, hg3⟩ := hq.put (by
        rw [List.length_take, HN.out]
        have := HCP.out
        omega) htx (.agg #[])
      have HQ3 := Lib.hid hq3
      have HG3 := Lib.hid (hbw.grown hg3 hbw.size (fun k hk => by cases hk; exact Nat.le_of_eq HB.out))
      have HNX := Lib.hid hnx
      clear hq hbw hcs hcell hcl hnx htx hx hq3 hg3
      go_wp2_with (refine wpl_mup _ _ _ rfl (by simp [Act.eval]) (by simp [Act.eval]) (by simp [Act.eval]) hup ?_)
      go_roundw
      case rel => exact ⟨i + 1, hlt, by go_num, by rw [HNX.out]; exact HQ3.out, HG3.out⟩
      case measure => simp [intOf]; omega
    · have k1 : ¬ ((i : Int) < n) := by omega
      have hall : L.take i = L := List.take_of_length_le (by rw [HN.out]; omega)
      rw [hall] at hq
      have hlen := hq.len
      have hul := uniq_same L
      rw [HN.out] at hul
      obtain ⟨m, hm⟩ : ∃ m, (uniq L).length = m := ⟨_, rfl⟩
      rw [hm] at hlen hul
      have HBX := Lib.hid hbw
      have HUL := Lib.hid hul
      clear hall hq hbw hm hul
      by_cases hq : (m : Int) = (n : Int)
      · obtain rfl : m = n := by omega
        clear hq
        go_wp2
        go_ret
        exact ⟨by rw [← HUL.out]; simp, HBX.out⟩
      · go_wp2
        go_ret
        exact ⟨by rw [← HUL.out]; simp [hq], HBX.out⟩
set_option maxHeartbeats 1000000 in
set_option maxRecDepth 100000 in
theorem counts_g {id : Int} {nm : ByteArray} {ca ia ka : Option Addr} {a b c cc ic kc : Nat} : Calls Try.prog 44 #[.agg #[.int .i64 id, .string nm, .slice ca a cc, .slice ia b ic, .slice ka c kc]] w fun e w' => e = .returned (.bool (decide (1 ≤ a ∧ a ≤ 8 ∧ b ≤ 8 ∧ c ≤ 8))) ∧ Below w.heap.size w w' := by
  obtain ⟨W, hW⟩ : ∃ W, W = w.alloc (.cells #[.int .i64 id, .string nm, .slice ca a cc, .slice ia b ic, .slice ka c kc] 54) := ⟨_, rfl⟩
  have hbW : Below w.heap.size w W := by rw [hW]; exact (Below.refl _ w).alloc (Nat.le_refl _) _
  obtain ⟨Y0, hY0⟩ : ∃ Y0, w.heap.size = Y0 := ⟨_, rfl⟩
  have jY0 : W.heap[Y0]? = some (.cells #[.int .i64 id, .string nm, .slice ca a cc, .slice ia b ic, .slice ka c kc] 54 (0, 0)) := by
    have := heap_alloc_new w (.cells #[.int .i64 id, .string nm, .slice ca a cc, .slice ia b ic, .slice ka c kc] 54)
    rw [hW, ← hY0]
    exact this
  have d2 : W.cell? ⟨Y0, 2, none⟩ = some (.slice ca a cc) := cell_blk jY0 2
  have d3 : W.cell? ⟨Y0, 3, none⟩ = some (.slice ia b ic) := cell_blk jY0 3
  have d4 : W.cell? ⟨Y0, 4, none⟩ = some (.slice ka c kc) := cell_blk jY0 4
  have HW := Lib.hid hW
  have HBW := Lib.hid hbW
  have HY0 := Lib.hid hY0
  clear hW hbW hY0
  clear jY0
  by_cases h1 : 1 ≤ a
  · have k1 : (1 : Int) ≤ a := by omega
    by_cases h2 : (b : Int) ≤ a
    · by_cases h3 : (c : Int) ≤ a
      · by_cases h4 : (a : Int) ≤ 8
        · go_enter Try.func44, Try.ntmps44
          go_upto_region 1 with fail
          rw [← HW.out, HY0.out]
          go_wp2
          go_ret
          exact ⟨by simp <;> omega, HBW.out⟩
        · go_enter Try.func44, Try.ntmps44
          go_upto_region 1 with fail
          rw [← HW.out, HY0.out]
          go_wp2
          go_ret
          exact ⟨by simp <;> omega, HBW.out⟩
      · by_cases h4 : (c : Int) ≤ 8
        · go_enter Try.func44, Try.ntmps44
          go_upto_region 1 with fail
          rw [← HW.out, HY0.out]
          go_wp2
          go_ret
          exact ⟨by simp <;> omega, HBW.out⟩
        · go_enter Try.func44, Try.ntmps44
          go_upto_region 1 with fail
          rw [← HW.out, HY0.out]
          go_wp2
          go_ret
          exact ⟨by simp <;> omega, HBW.out⟩
    · by_cases h3 : (c : Int) ≤ b
      · by_cases h4 : (b : Int) ≤ 8
        · go_enter Try.func44, Try.ntmps44
          go_upto_region 1 with fail
          rw [← HW.out, HY0.out]
          go_wp2
          go_ret
          exact ⟨by simp <;> omega, HBW.out⟩
        · go_enter Try.func44, Try.ntmps44
          go_upto_region 1 with fail
          rw [← HW.out, HY0.out]
          go_wp2
          go_ret
          exact ⟨by simp <;> omega, HBW.out⟩
      · by_cases h4 : (c : Int) ≤ 8
        · go_enter Try.func44, Try.ntmps44
          go_upto_region 1 with fail
          rw [← HW.out, HY0.out]
          go_wp2
          go_ret
          exact ⟨by simp <;> omega, HBW.out⟩
        · go_enter Try.func44, Try.ntmps44
          go_upto_region 1 with fail
          rw [← HW.out, HY0.out]
          go_wp2
          go_ret
          exact ⟨by simp <;> omega, HBW.out⟩
  · have k1 : ¬ (1 : Int) ≤ a := by omega
    go_enter Try.func44, Try.ntmps44
    go_upto_region 1 with fail
    rw [← HW.out, HY0.out]
    go_wp2
    go_ret
    exact ⟨by simp <;> omega, HBW.out⟩
theorem counts_any {t : Tb} {ca ia ka : Option Addr} {cc ic kc : Nat} : Calls Try.prog 44 #[tbV t (.slice ca t.cols.length cc) (.slice ia t.ixs.length ic) (.slice ka t.fks.length kc)] w fun e w' => e = .returned (.bool (cntB t)) ∧ Below w.heap.size w w' := by
  refine counts_g.mono ?_
  rintro e w' ⟨rfl, b⟩
  refine ⟨?_, b⟩
  unfold cntB
  simp only [Bool.decide_and, Bool.and_assoc]
end
end Go.Proofs.Ytkfnphhoebknnaa
