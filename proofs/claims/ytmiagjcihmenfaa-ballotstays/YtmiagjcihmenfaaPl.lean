/- The walk of the program's toOthers. -/
import Derived.Test.YtmiagjcihmenfaaPi
import Derived.Test.YtmiagjcihmenfaaPe
namespace Go.Proofs.Ytmiagjcihmenfaa
open Go.RowKit

/-- What goes to all others. -/
def oth (id : Nat) (F : Nat → Ms) : Nat → List Ms
  | 0 => []
  | n + 1 => if n = id then oth id F n else oth id F n ++ [F n]
theorem oth_len (id : Nat) (F : Nat → Ms) : ∀ n, (oth id F n).length ≤ n
  | 0 => Nat.le_refl _
  | n + 1 => by
    have ih := oth_len id F n
    unfold oth
    split
    · omega
    · simp; omega
/-- Messages in memory of their own. -/
structure Ou (w : World) (B : Nat) (O : List (Ms × Value)) (ov : Value) : Prop where
  own : w.ownsRow B 34 10 ov O.length (msC O)
  ls : ∀ p ∈ O, w.ownsRow B 49 4 p.2 p.1.list.length (enC p.1.list)
theorem Ou.nil (w : World) (B : Nat) : Ou w B [] (.slice none 0 0) := ⟨World.ownsRow_nil _ _ _ _, fun p hp => by cases hp⟩
theorem Ou.on {w w' : World} {B : Nat} {O : List (Ms × Value)} {ov : Value} (h : Ou w B O ov) (hb : Below w.heap.size w w') : Ou w' B O ov := ⟨own_below h.own hb, fun p hp => own_below (h.ls p hp) hb⟩
theorem Ou.mono {w : World} {B B' : Nat} {O : List (Ms × Value)} {ov : Value} (h : Ou w B O ov) (hb : B' ≤ B) : Ou w B' O ov := ⟨own_mono h.own hb, fun p hp => own_mono (h.ls p hp) hb⟩
theorem own_tag2 {w : World} {B : Nat} {e : TypeId} {c n : Nat} {v : Value} {xs : List Value} (h : w.ownsRow B e c v n xs) : ∀ k, v.ownBlock = some k → ∃ cs, w.heap[k]? = some (.cells cs e (0, 0)) := by
  intro k hk
  rcases h.2 with ⟨hv, _⟩ | ⟨g, cap, cur, hv, _, hg, _⟩
  · rw [hv] at hk; cases hk
  · rw [hv] at hk
    simp only [Value.ownBlock, Option.some.injEq] at hk
    subst hk
    exact ⟨cur, hg⟩
section
variable {w w' : World} {A : Nat} {S T : Nat → Prop} {b : Bs} {lv : Value} {pf : Int}
/-- One message more. -/
theorem Ou.snoc {B : Nat} {O : List (Ms × Value)} {ov lv : Value} {m : Ms} (h : Ou w B O ov) (hB : B ≤ w.heap.size) (hl : w.ownsRow B 49 4 lv m.list.length (enC m.list)) (hf : O.length < 900000) : ∃ ad cap w', (Builtin.append_ #[37, 37] 37 #[ov, .slice (some ⟨w.heap.size, 0, none⟩) 1 1]).run Try.prog (w.alloc (msO m lv)) = .ok (.slice ad (O.length + 1) cap) w' ∧ Ou w' B (O ++ [(m, lv)]) (.slice ad (O.length + 1) cap) ∧ Fr w w' (fun k => B ≤ k) := by
  have hal : Below w.heap.size w (w.alloc (msO m lv)) := (Below.refl _ w).alloc (Nat.le_refl _) _
  obtain ⟨lad, lcap, hlv⟩ := own_shape hl
  have hone : ∀ u ∈ msC [(m, lv)], u.oneCell' = true := by
    intro u hu
    rw [hlv] at hu
    simp [msC] at hu
    rcases hu with rfl | rfl | rfl | rfl | rfl | rfl | rfl | rfl | rfl | rfl <;> rfl
  obtain ⟨v', w', hrun, ho, hg, hat⟩ := msgs_run (w := w.alloc (msO m lv)) (a := ⟨w.heap.size, 0, none⟩) (m := 1) (c := 1) (news := msC [(m, lv)]) (own_below h.own hal) (Nat.le_trans hB hal.size) (by rw [msC_len]; rfl) (one_msg w m lv) hone (by omega)
  obtain ⟨ad, cap, rfl⟩ := own_shape ho
  have hobl : ∀ k, ov.ownBlock = some k → B ≤ k := fun k hk => (h.own.lt k hk).1
  have hfr : Fr w w' (fun k => B ≤ k) := Fr.grown (Fr.ofBelow (fun k => B ≤ k) hal) hg (fun k hk => .inl (hobl k hk))
  refine ⟨ad, cap, w', hrun, ⟨by rw [List.length_append, msC_append]; exact ho, fun p hp => ?_⟩, hfr⟩
  have keep : ∀ q : Value, ∀ n xs, w.ownsRow B 49 4 q n xs → w'.ownsRow B 49 4 q n xs := by
    intro q n xs hq
    have hq2 := own_below hq hal
    refine own_like hq2 (fun k hk => hg.block k (hq2.lt k hk).2 (fun e => ?_))
    obtain ⟨c1, t1⟩ := own_tag2 hq2 k hk
    obtain ⟨c2, t2⟩ := own_tag2 (own_below h.own hal) k e.symm
    exact tag_ne t1 t2 (by decide) rfl
  rcases List.mem_append.1 hp with hp | hp
  · exact keep _ _ _ (h.ls p hp)
  · rw [List.mem_singleton.1 hp]
    exact keep _ _ _ hl
def TO (b : Bs) (F : Nat → Ms) (w wr : World) (ov i : Value) : Prop := ∃ (j : Nat) (O : List (Ms × Value)), j ≤ b.size ∧ i = .int .i64 ((j : Nat) : Int) ∧ O.map Prod.fst = oth b.id F j ∧ Ou wr w.heap.size O ov ∧ Below w.heap.size w wr
set_option maxHeartbeats 1000000 in
set_option maxRecDepth 100000 in
theorem toOthers_46 (h : Pb w A S b) (F : Nat → Ms) (hF : ∀ k, k < b.size → k ≠ b.id → ∀ V, Pb V A S b → Calls Try.prog 46 #[.pointer (some ⟨A, 0, none⟩), .int .i64 k] V fun e w' => ∃ lv, e = .returned (msV (F k) lv) ∧ Below V.heap.size V w' ∧ w'.ownsRow V.heap.size 49 4 lv (F k).list.length (enC (F k).list)) :
    Calls Try.prog 45 #[.pointer (some ⟨A, 0, none⟩), .func (.func 46) #[.pointer (some ⟨A, 0, none⟩)] #[]] w fun e w' => ∃ ov, e = .returned ov ∧ ∃ O : List (Ms × Value), O.map Prod.fst = oth b.id F b.size ∧ Ou w' w.heap.size O ov ∧ Below w.heap.size w w' := by
  have HH := Lib.hid h
  obtain ⟨lv, pf, hv⟩ := h
  have c8 : w.cell? ⟨A, 8, none⟩ = some (.int .i64 b.size) := hv.cell 8
  have hsz := hv.sz
  have HF := Lib.hid hF
  clear hv hF
  go_enter Try.func45, Try.ntmps45
  go_wp2
  go_loopw [5, 11] (fun ov i wr => TO b F w wr ov i) (fun _ i _ => b.size - (intOf i).toNat)
  case atStart => exact ⟨0, [], Nat.zero_le _, rfl, rfl, Ou.nil _ _, Below.refl _ _⟩
  case round =>
    obtain ⟨j, O, hj, rfl, hO, hOu, hb⟩ := hrel
    have h1 := HH.out.on hb
    obtain ⟨lv, pf, hv⟩ := h1
    have c7 : wr.cell? ⟨A, 7, none⟩ = some (.int .i64 b.id) := hv.cell 7
    have hOl : O.length ≤ j := by rw [← List.length_map (f := Prod.fst), hO]; exact oth_len _ _ _
    by_cases hlt : j < b.size
    · have j0 : (0 : Int) ≤ j := by omega
      have j1 : (j : Int) < b.size := by omega
      by_cases hid : j = b.id
      · have hd2 : (j : Int) = b.id := by omega
        have eo : oth b.id F (j + 1) = oth b.id F j := if_pos hid
        have HR : Hid (TO b F w wr _ (.int .i64 ((j : Nat) : Int))) := ⟨j, O, hj, rfl, hO, hOu, hb⟩
        have HOO : Hid (O.map Prod.fst = oth b.id F (j + 1) ∧ Ou wr w.heap.size O _ ∧ Below w.heap.size w wr) := ⟨by rw [eo]; exact hO, hOu, hb⟩
        clear hv hO hOu hb eo
        go_wp2
        exact ⟨⟨j + 1, O, hlt, by go_num, HOO.out.1, HOO.out.2.1, HOO.out.2.2⟩, by simp [intOf]; omega⟩
      · have hd2 : ¬ (j : Int) = b.id := by omega
        have eo : oth b.id F (j + 1) = oth b.id F j ++ [F j] := if_neg hid
        have hcall := HF.out j hlt hid wr ⟨lv, pf, hv⟩
        obtain ⟨oad, ocap, rfl⟩ := own_shape hOu.own
        go_wp2_with fail
        refine hcall.mono ?_
        rintro e1 w2 ⟨lv1, rfl, b1, o1⟩
        have hb2 := hb.trans (b1.mono hb.size)
        obtain ⟨ad3, cap3, w3, hrun, hO3, hF3⟩ := (hOu.on b1).snoc (m := F j) hb2.size (own_mono o1 hb.size) (by omega)
        have hb3 : Below w.heap.size w w3 := hb2.trans (hF3.toBelow (fun k hk q => by omega) hb2.size)
        have HX : Hid ((O ++ [(F j, lv1)]).map Prod.fst = oth b.id F (j + 1) ∧ Ou w3 w.heap.size (O ++ [(F j, lv1)]) (.slice ad3 (O.length + 1) cap3) ∧ Below w.heap.size w w3) := ⟨by rw [List.map_append, hO, eo]; rfl, hO3, hb3⟩
        clear hcall hv hO hOu hb eo hb2 hO3 hF3 hb3 b1 o1
        go_wp2_with (at_builtin; refine wpl_run2 _ _ rfl (by simp [Act.eval]) (by simp [Act.eval]) hrun ?_)
        exact ⟨⟨j + 1, O ++ [(F j, lv1)], hlt, by go_num, HX.out.1, HX.out.2.1, HX.out.2.2⟩, by simp [intOf]; omega⟩
    · have j1 : ¬ (j : Int) < b.size := by omega
      have e : j = b.size := by omega
      subst e
      have HOO : Hid (O.map Prod.fst = oth b.id F b.size ∧ Ou wr w.heap.size O _ ∧ Below w.heap.size w wr) := ⟨hO, hOu, hb⟩
      clear hv hO hOu hb
      go_wp2
      go_ret
      exact ⟨_, rfl, O, HOO.out.1, HOO.out.2.1, HOO.out.2.2⟩
set_option maxHeartbeats 1000000 in
set_option maxRecDepth 100000 in
theorem toOthers_50 (h : Pb w A S b) (F : Nat → Ms) (hF : ∀ k, k < b.size → k ≠ b.id → ∀ V, Pb V A S b → Calls Try.prog 50 #[.pointer (some ⟨A, 0, none⟩), .int .i64 k] V fun e w' => ∃ lv, e = .returned (msV (F k) lv) ∧ Below V.heap.size V w' ∧ w'.ownsRow V.heap.size 49 4 lv (F k).list.length (enC (F k).list)) :
    Calls Try.prog 45 #[.pointer (some ⟨A, 0, none⟩), .func (.func 50) #[.pointer (some ⟨A, 0, none⟩)] #[]] w fun e w' => ∃ ov, e = .returned ov ∧ ∃ O : List (Ms × Value), O.map Prod.fst = oth b.id F b.size ∧ Ou w' w.heap.size O ov ∧ Below w.heap.size w w' := by
  have HH := Lib.hid h
  obtain ⟨lv, pf, hv⟩ := h
  have c8 : w.cell? ⟨A, 8, none⟩ = some (.int .i64 b.size) := hv.cell 8
  have hsz := hv.sz
  have HF := Lib.hid hF
  clear hv hF
  go_enter Try.func45, Try.ntmps45
  go_wp2
  go_loopw [5, 11] (fun ov i wr => TO b F w wr ov i) (fun _ i _ => b.size - (intOf i).toNat)
  case atStart => exact ⟨0, [], Nat.zero_le _, rfl, rfl, Ou.nil _ _, Below.refl _ _⟩
  case round =>
    obtain ⟨j, O, hj, rfl, hO, hOu, hb⟩ := hrel
    have h1 := HH.out.on hb
    obtain ⟨lv, pf, hv⟩ := h1
    have c7 : wr.cell? ⟨A, 7, none⟩ = some (.int .i64 b.id) := hv.cell 7
    have hOl : O.length ≤ j := by rw [← List.length_map (f := Prod.fst), hO]; exact oth_len _ _ _
    by_cases hlt : j < b.size
    · have j0 : (0 : Int) ≤ j := by omega
      have j1 : (j : Int) < b.size := by omega
      by_cases hid : j = b.id
      · have hd2 : (j : Int) = b.id := by omega
        have eo : oth b.id F (j + 1) = oth b.id F j := if_pos hid
        have HR : Hid (TO b F w wr _ (.int .i64 ((j : Nat) : Int))) := ⟨j, O, hj, rfl, hO, hOu, hb⟩
        have HOO : Hid (O.map Prod.fst = oth b.id F (j + 1) ∧ Ou wr w.heap.size O _ ∧ Below w.heap.size w wr) := ⟨by rw [eo]; exact hO, hOu, hb⟩
        clear hv hO hOu hb eo
        go_wp2
        exact ⟨⟨j + 1, O, hlt, by go_num, HOO.out.1, HOO.out.2.1, HOO.out.2.2⟩, by simp [intOf]; omega⟩
      · have hd2 : ¬ (j : Int) = b.id := by omega
        have eo : oth b.id F (j + 1) = oth b.id F j ++ [F j] := if_neg hid
        have hcall := HF.out j hlt hid wr ⟨lv, pf, hv⟩
        obtain ⟨oad, ocap, rfl⟩ := own_shape hOu.own
        go_wp2_with fail
        refine hcall.mono ?_
        rintro e1 w2 ⟨lv1, rfl, b1, o1⟩
        have hb2 := hb.trans (b1.mono hb.size)
        obtain ⟨ad3, cap3, w3, hrun, hO3, hF3⟩ := (hOu.on b1).snoc (m := F j) hb2.size (own_mono o1 hb.size) (by omega)
        have hb3 : Below w.heap.size w w3 := hb2.trans (hF3.toBelow (fun k hk q => by omega) hb2.size)
        have HX : Hid ((O ++ [(F j, lv1)]).map Prod.fst = oth b.id F (j + 1) ∧ Ou w3 w.heap.size (O ++ [(F j, lv1)]) (.slice ad3 (O.length + 1) cap3) ∧ Below w.heap.size w w3) := ⟨by rw [List.map_append, hO, eo]; rfl, hO3, hb3⟩
        clear hcall hv hO hOu hb eo hb2 hO3 hF3 hb3 b1 o1
        go_wp2_with (at_builtin; refine wpl_run2 _ _ rfl (by simp [Act.eval]) (by simp [Act.eval]) hrun ?_)
        exact ⟨⟨j + 1, O ++ [(F j, lv1)], hlt, by go_num, HX.out.1, HX.out.2.1, HX.out.2.2⟩, by simp [intOf]; omega⟩
    · have j1 : ¬ (j : Int) < b.size := by omega
      have e : j = b.size := by omega
      subst e
      have HOO : Hid (O.map Prod.fst = oth b.id F b.size ∧ Ou wr w.heap.size O _ ∧ Below w.heap.size w wr) := ⟨hO, hOu, hb⟩
      clear hv hO hOu hb
      go_wp2
      go_ret
      exact ⟨_, rfl, O, HOO.out.1, HOO.out.2.1, HOO.out.2.2⟩
end
end Go.Proofs.Ytmiagjcihmenfaa
