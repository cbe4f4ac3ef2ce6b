/- The walks of the program's ask and feed. -/
import Derived.Test.YtmiagjcihmenfaaXc
import Derived.Deep.DeepCutAuto
namespace Go.Proofs.Ytmiagjcihmenfaa
open Go.RowKit

/-- A message of a ballot's. -/
abbrev mk (b : Bs) (m : Ms) : Ms := { m with fr := b.id, term := b.term }
def askM (b : Bs) (k : Nat) : Ms := { ms0 with kind := 1, tgt := k, index := b.last, prev := b.termAt b.last }
abbrev Z34 : Obj := .cells #[.int .i64 0, .int .i64 0, .int .i64 0, .int .i64 0, .int .i64 0, .int .i64 0, .int .i64 0, .bool false, .slice none 0 0, .string ⟨#[]⟩] 34
/-- A message is written into a result's variable. -/
abbrev setMs (W : World) (R : Nat) (m : Ms) (lv : Value) : World := ((((((((((W.setCell ⟨R, 0, none⟩ (.int .i64 m.kind)).setCell ⟨R, 1, none⟩ (.int .i64 m.fr)).setCell ⟨R, 2, none⟩ (.int .i64 m.tgt)).setCell ⟨R, 3, none⟩ (.int .i64 m.term)).setCell ⟨R, 4, none⟩ (.int .i64 m.index)).setCell ⟨R, 5, none⟩ (.int .i64 m.prev)).setCell ⟨R, 6, none⟩ (.int .i64 m.commit)).setCell ⟨R, 7, none⟩ (.bool m.good)).setCell ⟨R, 8, none⟩ (lv)).setCell ⟨R, 9, none⟩ (.string m.snap))
theorem setMs_blk {W : World} {R : Nat} (m : Ms) (lv : Value) (h : W.heap[R]? = some Z34) : (setMs W R m lv).heap[R]? = some (msO m lv) ∧ Fr W (setMs W R m lv) (fun k => k = R) := by
  have e := set_blk (i := 9) (set_blk (i := 8) (set_blk (i := 7) (set_blk (i := 6) (set_blk (i := 5) (set_blk (i := 4) (set_blk (i := 3) (set_blk (i := 2) (set_blk (i := 1) (set_blk (i := 0) (h) (.int .i64 m.kind)) (.int .i64 m.fr)) (.int .i64 m.tgt)) (.int .i64 m.term)) (.int .i64 m.index)) (.int .i64 m.prev)) (.int .i64 m.commit)) (.bool m.good)) (lv)) (.string m.snap)
  exact ⟨e.trans (by simp), Fr.set (a := ⟨R, 9, none⟩) (Fr.set (a := ⟨R, 8, none⟩) (Fr.set (a := ⟨R, 7, none⟩) (Fr.set (a := ⟨R, 6, none⟩) (Fr.set (a := ⟨R, 5, none⟩) (Fr.set (a := ⟨R, 4, none⟩) (Fr.set (a := ⟨R, 3, none⟩) (Fr.set (a := ⟨R, 2, none⟩) (Fr.set (a := ⟨R, 1, none⟩) (Fr.set (a := ⟨R, 0, none⟩) (Fr.refl W (fun k => k = R)) (Or.inl rfl) _) (Or.inl rfl) _) (Or.inl rfl) _) (Or.inl rfl) _) (Or.inl rfl) _) (Or.inl rfl) _) (Or.inl rfl) _) (Or.inl rfl) _) (Or.inl rfl) _) (Or.inl rfl) _⟩
theorem info34 : (Try.prog.info? 34).map (·.size) = some 10 := by kernel_rfl
/-- The result is read. -/
theorem ret_ms {fn : Func} {p : Tmp} (h : fn.results = #[.cell p 34]) (tmps : Array Value) {W : World} {R : Nat} {m : Ms} {lv : Value} (hp : tmps.getD p undef = .pointer (some ⟨R, 0, none⟩)) (hg : W.heap[R]? = some (msO m lv)) : (results fn tmps).run Try.prog W = .ok (msV m lv) W :=
  results_cell_row h tmps W R 34 _ (0, 0) _ hp hg Try.underlying34 rfl info34
theorem new2 (w : World) (cs : Array Value) (t : TypeId) (n i j : Nat) (x y : Value) : Below w.heap.size w ((((w.alloc (.cells cs t)).drewN n).setCell ⟨w.heap.size, i, none⟩ x).setCell ⟨w.heap.size, j, none⟩ y) ∧ ((((w.alloc (.cells cs t)).drewN n).setCell ⟨w.heap.size, i, none⟩ x).setCell ⟨w.heap.size, j, none⟩ y).heap[w.heap.size]? = some (.cells ((cs.setIfInBounds i x).setIfInBounds j y) t (0, 0)) := by
  have h0 : ((w.alloc (.cells cs t)).drewN n).heap[w.heap.size]? = some (.cells cs t (0, 0)) := heap_alloc_new w _
  have hf : Fr w ((w.alloc (.cells cs t)).drewN n) (fun _ => False) := (((Fr.refl w (fun _ => False)).alloc _)).drewN n
  exact ⟨(Fr.set (a := ⟨w.heap.size, j, none⟩) (Fr.set (a := ⟨w.heap.size, i, none⟩) hf (Or.inr (Nat.le_refl _)) x) (Or.inr (Nat.le_refl _)) y).fresh (fun _ q => q.elim), set_blk (set_blk h0 x) y⟩
theorem new3 (w : World) (cs : Array Value) (t : TypeId) (n i j k : Nat) (x y z : Value) : Below w.heap.size w (((((w.alloc (.cells cs t)).drewN n).setCell ⟨w.heap.size, i, none⟩ x).setCell ⟨w.heap.size, j, none⟩ y).setCell ⟨w.heap.size, k, none⟩ z) ∧ (((((w.alloc (.cells cs t)).drewN n).setCell ⟨w.heap.size, i, none⟩ x).setCell ⟨w.heap.size, j, none⟩ y).setCell ⟨w.heap.size, k, none⟩ z).heap[w.heap.size]? = some (.cells (((cs.setIfInBounds i x).setIfInBounds j y).setIfInBounds k z) t (0, 0)) := by
  have h0 : ((w.alloc (.cells cs t)).drewN n).heap[w.heap.size]? = some (.cells cs t (0, 0)) := heap_alloc_new w _
  have hf : Fr w ((w.alloc (.cells cs t)).drewN n) (fun _ => False) := (((Fr.refl w (fun _ => False)).alloc _)).drewN n
  exact ⟨(Fr.set (a := ⟨w.heap.size, k, none⟩) (Fr.set (a := ⟨w.heap.size, j, none⟩) (Fr.set (a := ⟨w.heap.size, i, none⟩) hf (Or.inr (Nat.le_refl _)) x) (Or.inr (Nat.le_refl _)) y) (Or.inr (Nat.le_refl _)) z).fresh (fun _ q => q.elim), set_blk (set_blk (set_blk h0 x) y) z⟩
section
variable {w w' : World} {A : Nat} {S T : Nat → Prop} {b : Bs} {lv : Value} {pf : Int}
set_option maxHeartbeats 1000000 in
set_option maxRecDepth 100000 in
theorem ask_p (h : Pb w A S b) (k : Nat) (hbl : b.base ≤ b.last) : Calls Try.prog 46 #[.pointer (some ⟨A, 0, none⟩), .int .i64 k] w fun e w' => ∃ lv, e = .returned (msV (mk b (askM b k)) lv) ∧ Below w.heap.size w w' ∧ w'.ownsRow w.heap.size 49 4 lv (askM b k).list.length (enC (askM b k).list) := by
  have hb0 : Below w.heap.size w (w.alloc Z34) := (Below.refl _ w).alloc (Nat.le_refl _) _
  have h0 := h.on hb0
  have hm := message_any h0 1 k
  have hA := h.lt A (by obtain ⟨_, _, q⟩ := h; exact q.covA)
  have HH := Lib.hid h0
  have HB := Lib.hid hb0
  clear h h0 hb0
  go_enter Try.func46, Try.ntmps46
  go_wp2_with fail
  refine hm.mono ?_
  rintro e w1 ⟨rfl, hb1⟩
  clear hm
  have h1 := HH.out.on hb1
  have hb1' := HB.out.trans (hb1.mono HB.out.size)
  obtain ⟨lv, pf, h1v⟩ := h1
  have h2v := h1v.alloc (msO { ms0 with kind := 1, fr := b.id, tgt := k, term := b.term } (.slice none 0 0))
  have c5 : (w1.alloc (.cells #[.int .i64 1, .int .i64 b.id, .int .i64 k, .int .i64 b.term, .int .i64 0, .int .i64 0, .int .i64 0, .bool false, .slice none 0 0, .string noT] 34)).cell? ⟨A, 5, none⟩ = some (.int .i64 b.last) := h2v.cell 5
  have ht : ∀ V, Below w1.heap.size w1 V → Calls Try.prog 53 #[.pointer (some ⟨A, 0, none⟩), .int .i64 b.last] V fun e w' => e = .returned (.int .i64 (b.termAt b.last)) ∧ ∃ n, w' = V.drewN n := fun V hV => termOf_any (Pb.on ⟨lv, pf, h1v⟩ hV) b.last hbl (Int.le_refl _)
  have H2 := Lib.hid hb1'
  have r4 : w1.heap[w.heap.size]? = some Z34 := (hb1.block w.heap.size (by simp)).trans (heap_alloc_new w _)
  have HR := Lib.hid r4
  obtain ⟨tm, htm⟩ : ∃ tm, b.termAt b.last = tm := ⟨_, rfl⟩
  rw [htm] at ht
  have HT := Lib.hid htm
  clear hb1 hb1' h1v h2v r4 htm
  go_wp2
  go_cut [] (fun wx => Below w1.heap.size w1 wx ∧ wx.heap[w1.heap.size]? = some (msO { ms0 with kind := 1, fr := b.id, tgt := k, term := b.term, index := b.last, prev := tm } (.slice none 0 0)))
  case first =>
    go_region_with (go_at_call 53; refine (ht _ (by first | exact (Below.refl _ w1).alloc (Nat.le_refl _) _ | exact ((Below.refl _ w1).alloc (Nat.le_refl _) _).drew)).mono ?_; rintro e1 w2 ⟨rfl, n2, rfl⟩)
    all_goals
      go_wp2_with fail
      go_meet
      exact new2 w1 _ _ _ _ _ _ _
  case rest =>
    obtain ⟨hbc, hmc⟩ := hcut
    have hr := (hbc.block w.heap.size (blk_lt HR.out)).trans HR.out
    have hne : w.heap.size ≠ w1.heap.size := by have := blk_lt HR.out; omega
    have m0 : wc.cell? ⟨w1.heap.size, 0, none⟩ = some (.int .i64 1) := cell_blk hmc 0
    have m1 : wc.cell? ⟨w1.heap.size, 1, none⟩ = some (.int .i64 b.id) := cell_blk hmc 1
    have m2 : wc.cell? ⟨w1.heap.size, 2, none⟩ = some (.int .i64 k) := cell_blk hmc 2
    have m3 : wc.cell? ⟨w1.heap.size, 3, none⟩ = some (.int .i64 b.term) := cell_blk hmc 3
    have m4 : wc.cell? ⟨w1.heap.size, 4, none⟩ = some (.int .i64 b.last) := cell_blk hmc 4
    have m5 : wc.cell? ⟨w1.heap.size, 5, none⟩ = some (.int .i64 tm) := cell_blk hmc 5
    have m6 : wc.cell? ⟨w1.heap.size, 6, none⟩ = some (.int .i64 0) := cell_blk hmc 6
    have m7 : wc.cell? ⟨w1.heap.size, 7, none⟩ = some (.bool false) := cell_blk hmc 7
    have m8 : wc.cell? ⟨w1.heap.size, 8, none⟩ = some (.slice none 0 0) := cell_blk hmc 8
    have m9 : wc.cell? ⟨w1.heap.size, 9, none⟩ = some (.string ⟨#[]⟩) := cell_blk hmc 9
    have r0 : wc.cell? ⟨w.heap.size, 0, none⟩ = some (.int .i64 0) := cell_blk hr 0
    have q0 : wc.frozen? ⟨w.heap.size, 0, none⟩ = false := frozen_blk hr 0
    have r1 : wc.cell? ⟨w.heap.size, 1, none⟩ = some (.int .i64 0) := cell_blk hr 1
    have q1 : wc.frozen? ⟨w.heap.size, 1, none⟩ = false := frozen_blk hr 1
    have r2 : wc.cell? ⟨w.heap.size, 2, none⟩ = some (.int .i64 0) := cell_blk hr 2
    have q2 : wc.frozen? ⟨w.heap.size, 2, none⟩ = false := frozen_blk hr 2
    have r3 : wc.cell? ⟨w.heap.size, 3, none⟩ = some (.int .i64 0) := cell_blk hr 3
    have q3 : wc.frozen? ⟨w.heap.size, 3, none⟩ = false := frozen_blk hr 3
    have r4 : wc.cell? ⟨w.heap.size, 4, none⟩ = some (.int .i64 0) := cell_blk hr 4
    have q4 : wc.frozen? ⟨w.heap.size, 4, none⟩ = false := frozen_blk hr 4
    have r5 : wc.cell? ⟨w.heap.size, 5, none⟩ = some (.int .i64 0) := cell_blk hr 5
    have q5 : wc.frozen? ⟨w.heap.size, 5, none⟩ = false := frozen_blk hr 5
    have r6 : wc.cell? ⟨w.heap.size, 6, none⟩ = some (.int .i64 0) := cell_blk hr 6
    have q6 : wc.frozen? ⟨w.heap.size, 6, none⟩ = false := frozen_blk hr 6
    have r7 : wc.cell? ⟨w.heap.size, 7, none⟩ = some (.bool false) := cell_blk hr 7
    have q7 : wc.frozen? ⟨w.heap.size, 7, none⟩ = false := frozen_blk hr 7
    have r8 : wc.cell? ⟨w.heap.size, 8, none⟩ = some (.slice none 0 0) := cell_blk hr 8
    have q8 : wc.frozen? ⟨w.heap.size, 8, none⟩ = false := frozen_blk hr 8
    have r9 : wc.cell? ⟨w.heap.size, 9, none⟩ = some (.string ⟨#[]⟩) := cell_blk hr 9
    have q9 : wc.frozen? ⟨w.heap.size, 9, none⟩ = false := frozen_blk hr 9
    have HBC := Lib.hid hbc
    have HRR := Lib.hid hr
    clear hbc hmc hr
    go_wp2
    obtain ⟨e1, e2⟩ := setMs_blk { ms0 with kind := 1, fr := b.id, tgt := k, term := b.term, index := b.last, prev := tm } (.slice none 0 0) HRR.out
    refine bodyPost_ret (ret_ms rfl _ rfl e1) rfl ⟨.slice none 0 0, ?_, ?_, World.ownsRow_nil _ _ _ _⟩
    · unfold askM
      rw [HT.out]
    · exact (H2.out.trans (HBC.out.mono H2.out.size)).trans (e2.toBelow (fun j hj q => by have q' : j = w.heap.size := q; omega) (by have := blk_lt HRR.out; omega))
end
end Go.Proofs.Ytmiagjcihmenfaa
/- The walk of the program's toOthers. -/
namespace Go.Proofs.Ytmiagjcihmenfaa
open Go.RowKit

/-- What goes to all others. -/
def oth (id : Nat) (F : Nat → Ms) : Nat → List Ms
  | 0 => []
  | n + 1 => if n = id then oth id F n else oth id F n ++ [F n]
theorem oth_len (id : Nat) (F : Nat → Ms) : ∀ n, (oth id F n).length ≤ n
  | 0 => Nat.le_refl _
  | n + 1 => by
    have ih := oth_len id F n
    unfold oth
    split
    · omega
    · simp; omega
/-- Messages in memory of their own. -/
structure Ou (w : World) (B : Nat) (O : List (Ms × Value)) (ov : Value) : Prop where
  own : w.ownsRow B 34 10 ov O.length (msC O)
  ls : ∀ p ∈ O, w.ownsRow B 49 4 p.2 p.1.list.length (enC p.1.list)
theorem Ou.nil (w : World) (B : Nat) : Ou w B [] (.slice none 0 0) := ⟨World.ownsRow_nil _ _ _ _, fun p hp => by cases hp⟩
theorem Ou.on {w w' : World} {B : Nat} {O : List (Ms × Value)} {ov : Value} (h : Ou w B O ov) (hb : Below w.heap.size w w') : Ou w' B O ov := ⟨own_below h.own hb, fun p hp => own_below (h.ls p hp) hb⟩
theorem Ou.mono {w : World} {B B' : Nat} {O : List (Ms × Value)} {ov : Value} (h : Ou w B O ov) (hb : B' ≤ B) : Ou w B' O ov := ⟨own_mono h.own hb, fun p hp => own_mono (h.ls p hp) hb⟩
theorem own_tag2 {w : World} {B : Nat} {e : TypeId} {c n : Nat} {v : Value} {xs : List Value} (h : w.ownsRow B e c v n xs) : ∀ k, v.ownBlock = some k → ∃ cs, w.heap[k]? = some (.cells cs e (0, 0)) := by
  intro k hk
  rcases h.2 with ⟨hv, _⟩ | ⟨g, cap, cur, hv, _, hg, _⟩
  · rw [hv] at hk; cases hk
  · rw [hv] at hk
    simp only [Value.ownBlock, Option.some.injEq] at hk
    subst hk
    exact ⟨cur, hg⟩
section
variable {w w' : World} {A : Nat} {S T : Nat → Prop} {b : Bs} {lv : Value} {pf : Int}
/-- One message more. -/
theorem Ou.snoc {B : Nat} {O : List (Ms × Value)} {ov lv : Value} {m : Ms} (h : Ou w B O ov) (hB : B ≤ w.heap.size) (hl : w.ownsRow B 49 4 lv m.list.length (enC m.list)) (hf : O.length < 900000) : ∃ ad cap w', (Builtin.append_ #[37, 37] 37 #[ov, .slice (some ⟨w.heap.size, 0, none⟩) 1 1]).run Try.prog (w.alloc (msO m lv)) = .ok (.slice ad (O.length + 1) cap) w' ∧ Ou w' B (O ++ [(m, lv)]) (.slice ad (O.length + 1) cap) ∧ Fr w w' (fun k => B ≤ k) := by
  have hal : Below w.heap.size w (w.alloc (msO m lv)) := (Below.refl _ w).alloc (Nat.le_refl _) _
  obtain ⟨lad, lcap, hlv⟩ := own_shape hl
  have hone : ∀ u ∈ msC [(m, lv)], u.oneCell' = true := by
    intro u hu
    rw [hlv] at hu
    simp [msC] at hu
    rcases hu with rfl | rfl | rfl | rfl | rfl | rfl | rfl | rfl | rfl | rfl <;> rfl
  obtain ⟨v', w', hrun, ho, hg, hat⟩ := msgs_run (w := w.alloc (msO m lv)) (a := ⟨w.heap.size, 0, none⟩) (m := 1) (c := 1) (news := msC [(m, lv)]) (own_below h.own hal) (Nat.le_trans hB hal.size) (by rw [msC_len]; rfl) (one_msg w m lv) hone (by omega)
  obtain ⟨ad, cap, rfl⟩ := own_shape ho
  have hobl : ∀ k, ov.ownBlock = some k → B ≤ k := fun k hk => (h.own.lt k hk).1
  have hfr : Fr w w' (fun k => B ≤ k) := Fr.grown (Fr.ofBelow (fun k => B ≤ k) hal) hg (fun k hk => .inl (hobl k hk))
  refine ⟨ad, cap, w', hrun, ⟨by rw [List.length_append, msC_append]; exact ho, fun p hp => ?_⟩, hfr⟩
  have keep : ∀ q : Value, ∀ n xs, w.ownsRow B 49 4 q n xs → w'.ownsRow B 49 4 q n xs := by
    intro q n xs hq
    have hq2 := own_below hq hal
    refine own_like hq2 (fun k hk => hg.block k (hq2.lt k hk).2 (fun e => ?_))
    obtain ⟨c1, t1⟩ := own_tag2 hq2 k hk
    obtain ⟨c2, t2⟩ := own_tag2 (own_below h.own hal) k e.symm
    exact tag_ne t1 t2 (by decide) rfl
  rcases List.mem_append.1 hp with hp | hp
  · exact keep _ _ _ (h.ls p hp)
  · rw [List.mem_singleton.1 hp]
    exact keep _ _ _ hl
def TO (b : Bs) (F : Nat → Ms) (w wr : World) (ov i : Value) : Prop := ∃ (j : Nat) (O : List (Ms × Value)), j ≤ b.size ∧ i = .int .i64 ((j : Nat) : Int) ∧ O.map Prod.fst = oth b.id F j ∧ Ou wr w.heap.size O ov ∧ Below w.heap.size w wr
set_option maxHeartbeats 1000000 in
set_option maxRecDepth 100000 in
theorem toOthers_46 (h : Pb w A S b) (F : Nat → Ms) (hF : ∀ k, k < b.size → k ≠ b.id → ∀ V, Pb V A S b → Calls Try.prog 46 #[.pointer (some ⟨A, 0, none⟩), .int .i64 k] V fun e w' => ∃ lv, e = .returned (msV (F k) lv) ∧ Below V.heap.size V w' ∧ w'.ownsRow V.heap.size 49 4 lv (F k).list.length (enC (F k).list)) :
    Calls Try.prog 45 #[.pointer (some ⟨A, 0, none⟩), .func (.func 46) #[.pointer (some ⟨A, 0, none⟩)] #[]] w fun e w' => ∃ ov, e = .returned ov ∧ ∃ O : List (Ms × Value), O.map Prod.fst = oth b.id F b.size ∧ Ou w' w.heap.size O ov ∧ Below w.heap.size w w' := by
  have HH := Lib.hid h
  obtain ⟨lv, pf, hv⟩ := h
  have c8 : w.cell? ⟨A, 8, none⟩ = some (.int .i64 b.size) := hv.cell 8
  have hsz := hv.sz
  have HF := Lib.hid hF
  clear hv hF
  go_enter Try.func45, Try.ntmps45
  go_wp2
  go_loopw [5, 11] (fun ov i wr => TO b F w wr ov i) (fun _ i _ => b.size - (intOf i).toNat)
  case atStart => exact ⟨0, [], Nat.zero_le _, rfl, rfl, Ou.nil _ _, Below.refl _ _⟩
  case round =>
    obtain ⟨j, O, hj, rfl, hO, hOu, hb⟩ := hrel
    have h1 := HH.out.on hb
    obtain ⟨lv, pf, hv⟩ := h1
    have c7 : wr.cell? ⟨A, 7, none⟩ = some (.int .i64 b.id) := hv.cell 7
    have hOl : O.length ≤ j := by rw [← List.length_map (f := Prod.fst), hO]; exact oth_len _ _ _
    by_cases hlt : j < b.size
    · have j0 : (0 : Int) ≤ j := by omega
      have j1 : (j : Int) < b.size := by omega
      by_cases hid : j = b.id
      · have hd2 : (j : Int) = b.id := by omega
        have eo : oth b.id F (j + 1) = oth b.id F j := if_pos hid
        have HR : Hid (TO b F w wr _ (.int .i64 ((j : Nat) : Int))) := ⟨j, O, hj, rfl, hO, hOu, hb⟩
        have HOO : Hid (O.map Prod.fst = oth b.id F (j + 1) ∧ Ou wr w.heap.size O _ ∧ Below w.heap.size w wr) := ⟨by rw [eo]; exact hO, hOu, hb⟩
        clear hv hO hOu hb eo
        go_wp2
        exact ⟨⟨j + 1, O, hlt, by go_num, HOO.out.1, HOO.out.2.1, HOO.out.2.2⟩, by simp [intOf]; omega⟩
      · have hd2 : ¬ (j : Int) = b.id := by omega
        have eo : oth b.id F (j + 1) = oth b.id F j ++ [F j] := if_neg hid
        have hcall := HF.out j hlt hid wr ⟨lv, pf, hv⟩
        obtain ⟨oad, ocap, rfl⟩ := own_shape hOu.own
        go_wp2_with fail
        refine hcall.mono ?_
        rintro e1 w2 ⟨lv1, rfl, b1, o1⟩
        have hb2 := hb.trans (b1.mono hb.size)
        obtain ⟨ad3, cap3, w3, hrun, hO3, hF3⟩ := (hOu.on b1).snoc (m := F j) hb2.size (own_mono o1 hb.size) (by omega)
        have hb3 : Below w.heap.size w w3 := hb2.trans (hF3.toBelow (fun k hk q => by omega) hb2.size)
        have HX : Hid ((O ++ [(F j, lv1)]).map Prod.fst = oth b.id F (j + 1) ∧ Ou w3 w.heap.size (O ++ [(F j, lv1)]) (.slice ad3 (O.length + 1) cap3) ∧ Below w.heap.size w w3) := ⟨by rw [List.map_append, hO, eo]; rfl, hO3, hb3⟩
        clear hcall hv hO hOu hb eo hb2 hO3 hF3 hb3 b1 o1
        go_wp2_with (at_builtin; refine wpl_run2 _ _ rfl (by simp [Act.eval]) (by simp [Act.eval]) hrun ?_)
        exact ⟨⟨j + 1, O ++ [(F j, lv1)], hlt, by go_num, HX.out.1, HX.out.2.1, HX.out.2.2⟩, by simp [intOf]; omega⟩
    · have j1 : ¬ (j : Int) < b.size := by omega
      have e : j = b.size := by omega
      subst e
      have HOO : Hid (O.map Prod.fst = oth b.id F b.size ∧ Ou wr w.heap.size O _ ∧ Below w.heap.size w wr) := ⟨hO, hOu, hb⟩
      clear hv hO hOu hb
      go_wp2
      go_ret
      exact ⟨_, rfl, O, HOO.out.1, HOO.out.2.1, HOO.out.2.2⟩
set_option maxHeartbeats 1000000 in
set_option maxRecDepth 100000 in
theorem toOthers_50 (h : Pb w A S b) (F : Nat → Ms) (hF : ∀ k, k < b.size → k ≠ b.id → ∀ V, Pb V A S b → Calls Try.prog 50 #[.pointer (some ⟨A, 0, none⟩), .int .i64 k] V fun e w' => ∃ lv, e = .returned (msV (F k) lv) ∧ Below V.heap.size V w' ∧ w'.ownsRow V.heap.size 49 4 lv (F k).list.length (enC (F k).list)) :
    Calls Try.prog 45 #[.pointer (some ⟨A, 0, none⟩), .func (.func 50) #[.pointer (some ⟨A, 0, none⟩)] #[]] w fun e w' => ∃ ov, e = .returned ov ∧ ∃ O : List (Ms × Value), O.map Prod.fst = oth b.id F b.size ∧ Ou w' w.heap.size O ov ∧ Below w.heap.size w w' := by
  have HH := Lib.hid h
  obtain ⟨lv, pf, hv⟩ := h
  have c8 : w.cell? ⟨A, 8, none⟩ = some (.int .i64 b.size) := hv.cell 8
  have hsz := hv.sz
  have HF := Lib.hid hF
  clear hv hF
  go_enter Try.func45, Try.ntmps45
  go_wp2
  go_loopw [5, 11] (fun ov i wr => TO b F w wr ov i) (fun _ i _ => b.size - (intOf i).toNat)
  case atStart => exact ⟨0, [], Nat.zero_le _, rfl, rfl, Ou.nil _ _, Below.refl _ _⟩
  case round =>
    obtain ⟨j, O, hj, rfl, hO, hOu, hb⟩ := hrel
    have h1 := HH.out.on hb
    obtain ⟨lv, pf, hv⟩ := h1
    have c7 : wr.cell? ⟨A, 7, none⟩ = some (.int .i64 b.id) := hv.cell 7
    have hOl : O.length ≤ j := by rw [← List.length_map (f := Prod.fst), hO]; exact oth_len _ _ _
    by_cases hlt : j < b.size
    · have j0 : (0 : Int) ≤ j := by omega
      have j1 : (j : Int) < b.size := by omega
      by_cases hid : j = b.id
      · have hd2 : (j : Int) = b.id := by omega
        have eo : oth b.id F (j + 1) = oth b.id F j := if_pos hid
        have HR : Hid (TO b F w wr _ (.int .i64 ((j : Nat) : Int))) := ⟨j, O, hj, rfl, hO, hOu, hb⟩
        have HOO : Hid (O.map Prod.fst = oth b.id F (j + 1) ∧ Ou wr w.heap.size O _ ∧ Below w.heap.size w wr) := ⟨by rw [eo]; exact hO, hOu, hb⟩
        clear hv hO hOu hb eo
        go_wp2
        exact ⟨⟨j + 1, O, hlt, by go_num, HOO.out.1, HOO.out.2.1, HOO.out.2.2⟩, by simp [intOf]; omega⟩
      · have hd2 : ¬ (j : Int) = b.id := by omega
        have eo : oth b.id F (j + 1) = oth b.id F j ++ [F j] := if_neg hid
        have hcall := HF.out j hlt hid wr ⟨lv, pf, hv⟩
        obtain ⟨oad, ocap, rfl⟩ := own_shape hOu.own
        go_wp2_with fail
        refine hcall.mono ?_
        rintro e1 w2 ⟨lv1, rfl, b1, o1⟩
        have hb2 := hb.trans (b1.mono hb.size)
        obtain ⟨ad3, cap3, w3, hrun, hO3, hF3⟩ := (hOu.on b1).snoc (m := F j) hb2.size (own_mono o1 hb.size) (by omega)
        have hb3 : Below w.heap.size w w3 := hb2.trans (hF3.toBelow (fun k hk q => by omega) hb2.size)
        have HX : Hid ((O ++ [(F j, lv1)]).map Prod.fst = oth b.id F (j + 1) ∧ Ou w3 w.heap.size (O ++ [(F j, lv1)]) (.slice ad3 (O.length + 1) cap3) ∧ Below w.heap.size w w3) := ⟨by rw [List.map_append, hO, eo]; rfl, hO3, hb3⟩
        clear hcall hv hO hOu hb eo hb2 hO3 hF3 hb3 b1 o1
        go_wp2_with (at_builtin; refine wpl_run2 _ _ rfl (by simp [Act.eval]) (by simp [Act.eval]) hrun ?_)
        exact ⟨⟨j + 1, O ++ [(F j, lv1)], hlt, by go_num, HX.out.1, HX.out.2.1, HX.out.2.2⟩, by simp [intOf]; omega⟩
    · have j1 : ¬ (j : Int) < b.size := by omega
      have e : j = b.size := by omega
      subst e
      have HOO : Hid (O.map Prod.fst = oth b.id F b.size ∧ Ou wr w.heap.size O _ ∧ Below w.heap.size w wr) := ⟨hO, hOu, hb⟩
      clear hv hO hOu hb
      go_wp2
      go_ret
      exact ⟨_, rfl, O, HOO.out.1, HOO.out.2.1, HOO.out.2.2⟩
end
end Go.Proofs.Ytmiagjcihmenfaa
/- The walk of the program's feed. -/
namespace Go.Proofs.Ytmiagjcihmenfaa
open Go.RowKit

section
variable {w w' : World} {A : Nat} {S T : Nat → Prop} {b : Bs} {lv : Value} {pf : Int}
theorem over3 {w W : World} {cs : Array Value} {t : TypeId} (hb : Below w.heap.size w W) (h : W.heap[w.heap.size]? = some (.cells cs t (0, 0))) (i j k : Nat) (x y z : Value) : Below w.heap.size w (((W.setCell ⟨w.heap.size, i, none⟩ x).setCell ⟨w.heap.size, j, none⟩ y).setCell ⟨w.heap.size, k, none⟩ z).drew ∧ (((W.setCell ⟨w.heap.size, i, none⟩ x).setCell ⟨w.heap.size, j, none⟩ y).setCell ⟨w.heap.size, k, none⟩ z).drew.heap[w.heap.size]? = some (.cells (((cs.setIfInBounds i x).setIfInBounds j y).setIfInBounds k z) t (0, 0)) := by
  have hf : Fr w W (fun _ => False) := Fr.ofBelow _ hb
  exact ⟨((Fr.set (a := ⟨w.heap.size, k, none⟩) (Fr.set (a := ⟨w.heap.size, j, none⟩) (Fr.set (a := ⟨w.heap.size, i, none⟩) hf (Or.inr (Nat.le_refl _)) x) (Or.inr (Nat.le_refl _)) y) (Or.inr (Nat.le_refl _)) z).drewN 1).fresh (fun _ q => q.elim), set_blk (set_blk (set_blk h x) y) z⟩
set_option maxHeartbeats 1000000 in
set_option maxRecDepth 100000 in
theorem feed_p0 (h : Pb w A S b) {k : Nat} (hk : k < 5) (hn : b.next.getD k 0 ≤ b.base) : Calls Try.prog 50 #[.pointer (some ⟨A, 0, none⟩), .int .i64 k] w fun e w' => ∃ lv, e = .returned (msV (mk b (b.feedM k)) lv) ∧ Below w.heap.size w w' ∧ w'.ownsRow w.heap.size 49 4 lv (b.feedM k).list.length (enC (b.feedM k).list) := by
  have em : b.feedM k = { ms0 with kind := 5, tgt := k, index := b.base, prev := b.baseTerm, snap := b.snap } := by unfold Bs.feedM; rw [if_pos hn]
  rw [em]
  have hb0 : Below w.heap.size w (w.alloc Z34) := (Below.refl _ w).alloc (Nat.le_refl _) _
  have h0 := h.on hb0
  have hm := message_any h0 5 k
  have HH := Lib.hid h0
  have HB := Lib.hid hb0
  obtain ⟨lv0, pf0, h0v⟩ := h0
  have cn := h0v.nextc hk
  have c4 : (w.alloc Z34).cell? ⟨A, 4, none⟩ = some (.int .i64 b.base) := h0v.cell 4
  obtain ⟨x, hx⟩ : ∃ x, b.next.getD k 0 = x := ⟨_, rfl⟩
  rw [hx] at cn hn
  have k0 : (0 : Int) ≤ k := by omega
  have k5 : (k : Int) < 5 := by omega
  clear h hb0 h0v em hx
  go_enter Try.func50, Try.ntmps50
  go_wp2_with fail
  refine hm.mono ?_
  rintro e w1 ⟨rfl, hb1⟩
  clear hm
  have h1 := HH.out.on hb1
  have hb1' := HB.out.trans (hb1.mono HB.out.size)
  obtain ⟨lv, pf, h1v⟩ := h1
  have h2v := h1v.alloc (msO { ms0 with kind := 5, fr := b.id, tgt := k, term := b.term } (.slice none 0 0))
  have c4 : (w1.alloc (.cells #[.int .i64 5, .int .i64 b.id, .int .i64 k, .int .i64 b.term, .int .i64 0, .int .i64 0, .int .i64 0, .bool false, .slice none 0 0, .string noT] 34)).cell? ⟨A, 4, none⟩ = some (.int .i64 b.base) := h2v.cell 4
  have c9 : (w1.alloc (.cells #[.int .i64 5, .int .i64 b.id, .int .i64 k, .int .i64 b.term, .int .i64 0, .int .i64 0, .int .i64 0, .bool false, .slice none 0 0, .string noT] 34)).cell? ⟨A, 9, none⟩ = some (.int .i64 b.baseTerm) := h2v.cell 9
  have c10 : (w1.alloc (.cells #[.int .i64 5, .int .i64 b.id, .int .i64 k, .int .i64 b.term, .int .i64 0, .int .i64 0, .int .i64 0, .bool false, .slice none 0 0, .string noT] 34)).cell? ⟨A, 10, none⟩ = some (.string b.snap) := h2v.cell 10
  have H2 := Lib.hid hb1'
  have hr4 : w1.heap[w.heap.size]? = some Z34 := (hb1.block w.heap.size (by simp)).trans (heap_alloc_new w _)
  have HR := Lib.hid hr4
  have hnA : A ≠ w1.heap.size := Nat.ne_of_lt (h1v.lt A h1v.covA)
  go_wp2
  obtain ⟨W1, hW1⟩ : ∃ W1, W1 = w1.alloc (.cells #[.int .i64 5, .int .i64 b.id, .int .i64 k, .int .i64 b.term, .int .i64 0, .int .i64 0, .int .i64 0, .bool false, .slice none 0 0, .string noT] 34) := ⟨_, rfl⟩
  rw [← hW1]
  rw [← hW1] at c4 c9 c10
  have hbk : W1.heap[w1.heap.size]? = some (.cells #[.int .i64 5, .int .i64 b.id, .int .i64 k, .int .i64 b.term, .int .i64 0, .int .i64 0, .int .i64 0, .bool false, .slice none 0 0, .string noT] 34 (0, 0)) := by rw [hW1]; exact heap_alloc_new w1 _
  have hbw : Below w1.heap.size w1 W1 := by rw [hW1]; exact (Below.refl _ w1).alloc (Nat.le_refl _) _
  have n4 : W1.cell? ⟨w1.heap.size, 4, none⟩ = some (.int .i64 0) := cell_blk hbk 4
  have n5 : W1.cell? ⟨w1.heap.size, 5, none⟩ = some (.int .i64 0) := cell_blk hbk 5
  have n9 : W1.cell? ⟨w1.heap.size, 9, none⟩ = some (.string ⟨#[]⟩) := cell_blk hbk 9
  have f4 : W1.frozen? ⟨w1.heap.size, 4, none⟩ = false := frozen_blk hbk 4
  have f5 : W1.frozen? ⟨w1.heap.size, 5, none⟩ = false := frozen_blk hbk 5
  have f9 : W1.frozen? ⟨w1.heap.size, 9, none⟩ = false := frozen_blk hbk 9
  have HBK := Lib.hid hbk
  have HBW := Lib.hid hbw
  clear hb1 hb1' h1v h2v hr4 cn hbk hbw hW1
  go_cut [] (fun wx => Below w1.heap.size w1 wx ∧ wx.heap[w1.heap.size]? = some (msO { ms0 with kind := 5, fr := b.id, tgt := k, term := b.term, index := b.base, prev := b.baseTerm, snap := b.snap } (.slice none 0 0)))
  case first =>
    go_region
    all_goals
      go_wp2_with fail
      go_meet
      exact over3 HBW.out HBK.out _ _ _ _ _ _
  case rest =>
    obtain ⟨hbc, hmc⟩ := hcut
    have hr := (hbc.block w.heap.size (blk_lt HR.out)).trans HR.out
    have hne : w.heap.size ≠ w1.heap.size := by have := blk_lt HR.out; omega
    have m0 : wc.cell? ⟨w1.heap.size, 0, none⟩ = some (.int .i64 5) := cell_blk hmc 0
    have m1 : wc.cell? ⟨w1.heap.size, 1, none⟩ = some (.int .i64 b.id) := cell_blk hmc 1
    have m2 : wc.cell? ⟨w1.heap.size, 2, none⟩ = some (.int .i64 k) := cell_blk hmc 2
    have m3 : wc.cell? ⟨w1.heap.size, 3, none⟩ = some (.int .i64 b.term) := cell_blk hmc 3
    have m4 : wc.cell? ⟨w1.heap.size, 4, none⟩ = some (.int .i64 b.base) := cell_blk hmc 4
    have m5 : wc.cell? ⟨w1.heap.size, 5, none⟩ = some (.int .i64 b.baseTerm) := cell_blk hmc 5
    have m6 : wc.cell? ⟨w1.heap.size, 6, none⟩ = some (.int .i64 0) := cell_blk hmc 6
    have m7 : wc.cell? ⟨w1.heap.size, 7, none⟩ = some (.bool false) := cell_blk hmc 7
    have m8 : wc.cell? ⟨w1.heap.size, 8, none⟩ = some (.slice none 0 0) := cell_blk hmc 8
    have m9 : wc.cell? ⟨w1.heap.size, 9, none⟩ = some (.string b.snap) := cell_blk hmc 9
    have r0 : wc.cell? ⟨w.heap.size, 0, none⟩ = some (.int .i64 0) := cell_blk hr 0
    have q0 : wc.frozen? ⟨w.heap.size, 0, none⟩ = false := frozen_blk hr 0
    have r1 : wc.cell? ⟨w.heap.size, 1, none⟩ = some (.int .i64 0) := cell_blk hr 1
    have q1 : wc.frozen? ⟨w.heap.size, 1, none⟩ = false := frozen_blk hr 1
    have r2 : wc.cell? ⟨w.heap.size, 2, none⟩ = some (.int .i64 0) := cell_blk hr 2
    have q2 : wc.frozen? ⟨w.heap.size, 2, none⟩ = false := frozen_blk hr 2
    have r3 : wc.cell? ⟨w.heap.size, 3, none⟩ = some (.int .i64 0) := cell_blk hr 3
    have q3 : wc.frozen? ⟨w.heap.size, 3, none⟩ = false := frozen_blk hr 3
    have r4 : wc.cell? ⟨w.heap.size, 4, none⟩ = some (.int .i64 0) := cell_blk hr 4
    have q4 : wc.frozen? ⟨w.heap.size, 4, none⟩ = false := frozen_blk hr 4
    have r5 : wc.cell? ⟨w.heap.size, 5, none⟩ = some (.int .i64 0) := cell_blk hr 5
    have q5 : wc.frozen? ⟨w.heap.size, 5, none⟩ = false := frozen_blk hr 5
    have r6 : wc.cell? ⟨w.heap.size, 6, none⟩ = some (.int .i64 0) := cell_blk hr 6
    have q6 : wc.frozen? ⟨w.heap.size, 6, none⟩ = false := frozen_blk hr 6
    have r7 : wc.cell? ⟨w.heap.size, 7, none⟩ = some (.bool false) := cell_blk hr 7
    have q7 : wc.frozen? ⟨w.heap.size, 7, none⟩ = false := frozen_blk hr 7
    have r8 : wc.cell? ⟨w.heap.size, 8, none⟩ = some (.slice none 0 0) := cell_blk hr 8
    have q8 : wc.frozen? ⟨w.heap.size, 8, none⟩ = false := frozen_blk hr 8
    have r9 : wc.cell? ⟨w.heap.size, 9, none⟩ = some (.string ⟨#[]⟩) := cell_blk hr 9
    have q9 : wc.frozen? ⟨w.heap.size, 9, none⟩ = false := frozen_blk hr 9
    have HBC := Lib.hid hbc
    have HRR := Lib.hid hr
    clear hbc hmc hr c4 c9 c10
    go_wp2
    obtain ⟨e1, e2⟩ := setMs_blk { ms0 with kind := 5, fr := b.id, tgt := k, term := b.term, index := b.base, prev := b.baseTerm, snap := b.snap } (.slice none 0 0) HRR.out
    refine bodyPost_ret (ret_ms rfl _ rfl e1) rfl ⟨.slice none 0 0, rfl, ?_, World.ownsRow_nil _ _ _ _⟩
    exact (H2.out.trans (HBC.out.mono H2.out.size)).trans (e2.toBelow (fun j hj q => by have q' : j = w.heap.size := q; omega) (by have := blk_lt HRR.out; omega))
end
end Go.Proofs.Ytmiagjcihmenfaa
