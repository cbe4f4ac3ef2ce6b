/- The walk of Save; what is told of a state, written out. -/
import Derived.Test.YtcoaahlakkghhaaGu
import Derived.Test.YtcoaahlakkghhaaGs
import Derived.Test.YtcoaahlakkghhaaGr
namespace Go.Proofs.Ytcoaahlakkghhaa
open Go.RowKit
section
variable {ρ : Operand → Value} {X : World} {d : Option Tmp} {ty : TypeId} {ps : String} {af : Array Edge} {g : Option (Nat × Bool)}
theorem op_g92_0 {x : Operand} {B : Nat} (e : ρ x = .pointer (some ⟨B, 0, none⟩)) : (execOp ρ ⟨d, .fieldAddr 92 x 0, ty, ps, af, g⟩).run Try.prog X = .ok (.value (.pointer (some ⟨B, 0, none⟩))) X := by
  simp only [execOp, e]
  go_simp
theorem op_g92_1 {x : Operand} {B : Nat} (e : ρ x = .pointer (some ⟨B, 0, none⟩)) : (execOp ρ ⟨d, .fieldAddr 92 x 1, ty, ps, af, g⟩).run Try.prog X = .ok (.value (.pointer (some ⟨B, 1, none⟩))) X := by
  simp only [execOp, e]
  go_simp
theorem op_g92_2 {x : Operand} {B : Nat} (e : ρ x = .pointer (some ⟨B, 0, none⟩)) : (execOp ρ ⟨d, .fieldAddr 92 x 2, ty, ps, af, g⟩).run Try.prog X = .ok (.value (.pointer (some ⟨B, 2, none⟩))) X := by
  simp only [execOp, e]
  go_simp
theorem op_g92_4 {x : Operand} {B : Nat} (e : ρ x = .pointer (some ⟨B, 0, none⟩)) : (execOp ρ ⟨d, .fieldAddr 92 x 4, ty, ps, af, g⟩).run Try.prog X = .ok (.value (.pointer (some ⟨B, 4, none⟩))) X := by
  simp only [execOp, e]
  go_simp
theorem op_g92_6 {x : Operand} {B : Nat} (e : ρ x = .pointer (some ⟨B, 0, none⟩)) : (execOp ρ ⟨d, .fieldAddr 92 x 6, ty, ps, af, g⟩).run Try.prog X = .ok (.value (.pointer (some ⟨B, 6, none⟩))) X := by
  simp only [execOp, e]
  go_simp
theorem op_b63 {x0 x1 x2 x3 x4 : Operand} {a0 a1 a2 a3 : Option Addr} {n0 n1 n2 n3 m0 m1 m2 m3 : Nat} {h : Int} (e0 : ρ x0 = .slice a0 n0 m0) (e1 : ρ x1 = .slice a1 n1 m1) (e2 : ρ x2 = .slice a2 n2 m2) (e3 : ρ x3 = .slice a3 n3 m3) (e4 : ρ x4 = .int .i64 h) : (execOp ρ ⟨d, .build 63 #[(0, x0), (1, x1), (2, x2), (3, x3), (4, x4)], ty, ps, af, g⟩).run Try.prog X = .ok (.value (.agg #[.slice a0 n0 m0, .slice a1 n1 m1, .slice a2 n2 m2, .slice a3 n3 m3, .int .i64 h])) X := by
  simp only [execOp]
  simp [e0, e1, e2, e3, e4]
  go_simp
theorem calls35 {v0 : Value} : Sem.run Try.prog (callFunc 35 #[v0]) X = .ok (.enter 35 #[v0]) X := by go_simp
theorem calls36 {v0 : Value} : Sem.run Try.prog (callFunc 36 #[v0]) X = .ok (.enter 36 #[v0]) X := by go_simp
theorem calls37 {v0 : Value} : Sem.run Try.prog (callFunc 37 #[v0]) X = .ok (.enter 37 #[v0]) X := by go_simp
theorem calls38 {v0 : Value} : Sem.run Try.prog (callFunc 38 #[v0]) X = .ok (.enter 38 #[v0]) X := by go_simp
end
/-- A state as it is told, in memory of its own. -/
structure Sw (N : Nat) (X : World) (s : Sh) (P : List (Rw × Value)) (G : List Gl) (rv lv cv ov : Value) : Prop where
  pr : P.map Prod.fst = s.rows
  rm : Rm X N P rv
  gl : G.map Prod.fst = s.locks
  ol : OwnL N X G lv
  rc : X.ownsRow N 101 4 cv s.recs.length (s.recs.flatMap rcL)
  ov : X.ownsRow N 37 3 ov s.over.length (s.over.flatMap tdL)
section
variable {w w' X V : World} {N Z : Nat} {s : Sh} {P : List (Rw × Value)} {G : List Gl} {rv lv cv ov : Value}
theorem Sw.on (h : Sw N X s P G rv lv cv ov) (hb : Below X.heap.size X w') : Sw N w' s P G rv lv cv ov :=
  ⟨h.pr, h.rm.on hb, h.gl, h.ol.on hb, own_below h.rc hb, own_below h.ov hb⟩
theorem Sw.keep (h : Sw N X s P G rv lv cv ov) (hf : Fr X w' (fun k => k = Z)) (hZ : ∃ cs, X.heap[Z]? = some (.cells cs 63 (0, 0))) : Sw N w' s P G rv lv cv ov := by
  obtain ⟨cs, hZ⟩ := hZ
  have ht : ∀ t : TypeId, t ≠ 63 → ∀ k, k = Z → ∀ cs', X.heap[k]? ≠ some (.cells cs' t (0, 0)) := by
    rintro t q k rfl cs' hk
    rw [hZ] at hk
    simp only [Option.some.injEq, Obj.cells.injEq] at hk
    exact q hk.2.1.symm
  exact ⟨h.pr, ⟨keep_rowB h.rm.own hf (ht _ (by decide)), fun p hp => keep_rowB (h.rm.ls p hp) hf (ht _ (by decide))⟩, h.gl, ⟨keep_rowB h.ol.row hf (ht _ (by decide)), fun g hg => keep_rowB (h.ol.sp g hg) hf (ht _ (by decide)), fun g hg => keep_rowB (h.ol.wr g hg) hf (ht _ (by decide))⟩, keep_rowB h.rc hf (ht _ (by decide)), keep_rowB h.ov hf (ht _ (by decide))⟩
theorem ol_lr (h : OwnL N X G lv) : Lr lkE 7 X (G.map Prod.fst) lv := by
  obtain ⟨ad, cap, e, h0, h1, h2, h3⟩ := Lr.own (f := glL) glL_len h.row
  refine ⟨ad, cap, by rw [e, List.length_map], h0, by rw [List.length_map]; exact h1, h2, fun i hi => ?_⟩
  have hi' : i < G.length := by rw [List.length_map] at hi; exact hi
  obtain ⟨b, o, cs, a1, a2, a3, a4, a5⟩ := h3 i hi'
  have hE : cs = glL G[i] := a3
  obtain ⟨sa, sc, es⟩ := own_shape (h.sp _ (List.getElem_mem hi'))
  obtain ⟨wa, wc, ew⟩ := own_shape (h.wr _ (List.getElem_mem hi'))
  refine ⟨b, o, cs, a1, a2, ?_, a4, a5⟩
  rw [List.getElem_map]
  refine ⟨sa, sc, wa, wc, ?_, ?_, ?_⟩
  · rw [hE]
    unfold glL
    rw [es, ew]
  · rw [← es]
    exact Lr.own snL_len (h.sp _ (List.getElem_mem hi'))
  · rw [← ew]
    exact Lr.own wrL_len (h.wr _ (List.getElem_mem hi'))
theorem Sw.rg (h : Sw N X s P G rv lv cv ov) : Rg X s rv lv cv ov :=
  ⟨rm_lr h.rm h.pr, by rw [← h.gl]; exact ol_lr h.ol, Lr.own rcL_len h.rc, Lr.own tdL_len h.ov⟩
def SvAns (w : World) (s : Sh) (e : Ending) (w' : World) : Prop := ∃ P G rv lv cv ov, e = .returned (.agg #[rv, lv, cv, ov, .int .i64 s.high]) ∧ Sw w.heap.size w' s P G rv lv cv ov ∧ Below w.heap.size w w'
abbrev zR : Array Value := #[.slice none 0 0, .slice none 0 0, .slice none 0 0, .slice none 0 0, .int .i64 0]
variable {A : Nat} {S1 S2 : Nat → Prop} {Pp M N' : Nat} {G0 : List Gl} {lv0 rv0 ov0 : Value}
set_option maxHeartbeats 4000000 in
set_option maxRecDepth 100000 in
theorem save_any (h : Sx w A S1 S2 s Pp M N' G0 lv0 rv0 ov0) (hz : ∀ l ∈ s.locks, l.spans.length ≤ 800000 ∧ l.writes.length ≤ 800000) : Calls Try.prog 15 #[.pointer (some ⟨A, 0, none⟩)] w fun e w' => SvAns w s e w' := by
  obtain ⟨W, hW⟩ : ∃ W, W = w.alloc (.cells zR 63) := ⟨_, rfl⟩
  obtain ⟨Z, hZ⟩ : ∃ Z, w.heap.size = Z := ⟨_, rfl⟩
  have hb : Below w.heap.size w W := by rw [hW]; exact (Below.refl _ w).alloc (Nat.le_refl _) _
  have jZ : W.heap[Z]? = some (.cells zR 63 (0, 0)) := by rw [hW, ← hZ]; exact heap_alloc_new w _
  have hx := h.on hb
  have hlen : s.locks.length ≤ 800000 := by rw [← h.gl, List.length_map]; exact h.fl
  have HRW := Lib.hid (fun X (hX : Below W.heap.size W X) => rows_b (hx.st.on hX))
  have HLK := Lib.hid (fun X (hX : Below W.heap.size W X) => cloneLocks_any (hx.locks.on lkE_held hX) hlen hz)
  have HRC := Lib.hid (fun X (hX : Below W.heap.size W X) => cloneR_any (Lr.own rcL_len (own_below hx.rcs hX)) (by have := hx.fr; omega))
  have HOV := Lib.hid (fun X (hX : Below W.heap.size W X) => cloneT_any (Lr.own tdL_len (own_below hx.ovs hX)) (by have := hx.fo; omega))
  obtain ⟨lad, lcp, rfl⟩ := hx.shape
  obtain ⟨rad, rcp, rfl⟩ := own_shape hx.rcs
  obtain ⟨oad, ocp, rfl⟩ := own_shape hx.ovs
  have a0 : W.cell? ⟨A, 0, none⟩ = some (.pointer (some ⟨Pp, 0, none⟩)) := cell_blk hx.ob 0
  have a1 : W.cell? ⟨A, 1, none⟩ = some (.slice lad G0.length lcp) := cell_blk hx.ob 1
  have a2 : W.cell? ⟨A, 2, none⟩ = some (.slice rad s.recs.length rcp) := cell_blk hx.ob 2
  have a4 : W.cell? ⟨A, 4, none⟩ = some (.slice oad s.over.length ocp) := cell_blk hx.ob 4
  have a6 : W.cell? ⟨A, 6, none⟩ = some (.int .i64 s.high) := cell_blk hx.ob 6
  have hq : ∀ w, (binOp BinOp.eql 25 (.pointer (some ⟨A, 0, none⟩)) (.pointer none)).run Try.prog w = .ok (.bool false) w := fun _ => by kernel_rfl
  have HB := Lib.hid hb
  have HW := Lib.hid hW
  have HZ := Lib.hid hZ
  have HJ := Lib.hid jZ
  clear h hx hb hW hZ jZ hlen hz
  go_enter Try.func15, Try.ntmps15
  go_upto_region 1 with fail
  rw [← HW.out, HZ.out]
  go_upto_region 3 with fail
  refine wp_region_last (fun X9 => Below W.heap.size W X9) (fun X9 X' => Below X9.heap.size X9 X') [
    fun v9 _ => v9 = .pointer (some ⟨A, 0, none⟩),
    fun v9 _ => v9 = .pointer (some ⟨A, 0, none⟩),
    fun v9 _ => v9 = .pointer (some ⟨A, 0, none⟩),
    fun v9 _ => v9 = .pointer (some ⟨Pp, 0, none⟩),
    fun v9 X9 => ∃ P : List (Rw × Value), (∃ ad cap, v9 = .slice ad P.length cap) ∧ P.map Prod.fst = s.rows ∧ Rm X9 w.heap.size P v9,
    fun v9 _ => v9 = .pointer (some ⟨A, 0, none⟩),
    fun v9 _ => v9 = .pointer (some ⟨A, 0, none⟩),
    fun v9 _ => v9 = .pointer (some ⟨A, 1, none⟩),
    fun v9 _ => v9 = .slice lad G0.length lcp,
    fun v9 X9 => ∃ G : List Gl, (∃ ad cap, v9 = .slice ad G.length cap) ∧ G.map Prod.fst = s.locks ∧ OwnL w.heap.size X9 G v9,
    fun v9 _ => v9 = .pointer (some ⟨A, 0, none⟩),
    fun v9 _ => v9 = .pointer (some ⟨A, 0, none⟩),
    fun v9 _ => v9 = .pointer (some ⟨A, 2, none⟩),
    fun v9 _ => v9 = .slice rad s.recs.length rcp,
    fun v9 X9 => (∃ ad cap, v9 = .slice ad s.recs.length cap) ∧ X9.ownsRow w.heap.size 101 4 v9 s.recs.length (s.recs.flatMap rcL),
    fun v9 _ => v9 = .pointer (some ⟨A, 0, none⟩),
    fun v9 _ => v9 = .pointer (some ⟨A, 0, none⟩),
    fun v9 _ => v9 = .pointer (some ⟨A, 4, none⟩),
    fun v9 _ => v9 = .slice oad s.over.length ocp,
    fun v9 X9 => (∃ ad cap, v9 = .slice ad s.over.length cap) ∧ X9.ownsRow w.heap.size 37 3 v9 s.over.length (s.over.flatMap tdL),
    fun v9 _ => v9 = .pointer (some ⟨A, 0, none⟩),
    fun v9 _ => v9 = .pointer (some ⟨A, 0, none⟩),
    fun v9 _ => v9 = .pointer (some ⟨A, 6, none⟩),
    fun v9 _ => v9 = .int .i64 s.high,
    fun v9 X9 => ∃ (P : List (Rw × Value)) (G : List Gl) (rv lv cv ov : Value), v9 = .agg #[rv, lv, cv, ov, .int .i64 s.high] ∧ (#[rv, lv, cv, ov, .int .i64 s.high] : Array Value).all (·.oneCell') = true ∧ Sw w.heap.size X9 s P G rv lv cv ov]
    (fun _ X9 => ∃ P G rv lv cv ov, X9.heap[Z]? = some (.cells #[rv, lv, cv, ov, .int .i64 s.high] 63 (0, 0)) ∧ Sw w.heap.size X9 s P G rv lv cv ov ∧ Below w.heap.size w X9) rfl (by kernel_rfl) (by kernel_rfl) (by kernel_rfl) (by kernel_rfl) ?st ?g0 ?os ?la ?en
  case st => exact ⟨fun _ _ _ _ h => h, fun _ _ _ _ h => h, fun _ _ _ _ h => h, fun _ _ _ _ h => h, (fun _ _ _ hb h => by obtain ⟨P, e9, h9, r9⟩ := h; exact ⟨P, e9, h9, r9.on hb⟩), fun _ _ _ _ h => h, fun _ _ _ _ h => h, fun _ _ _ _ h => h, fun _ _ _ _ h => h, (fun _ _ _ hb h => by obtain ⟨G, e9, h9, r9⟩ := h; exact ⟨G, e9, h9, r9.on hb⟩), fun _ _ _ _ h => h, fun _ _ _ _ h => h, fun _ _ _ _ h => h, fun _ _ _ _ h => h, (fun _ _ _ hb h => ⟨h.1, own_below h.2 hb⟩), fun _ _ _ _ h => h, fun _ _ _ _ h => h, fun _ _ _ _ h => h, fun _ _ _ _ h => h, (fun _ _ _ hb h => ⟨h.1, own_below h.2 hb⟩), fun _ _ _ _ h => h, fun _ _ _ _ h => h, fun _ _ _ _ h => h, fun _ _ _ _ h => h, (fun _ _ _ hb h => by obtain ⟨P, G, rv, lv, cv, ov, e9, o9, h9⟩ := h; exact ⟨P, G, rv, lv, cv, ov, e9, o9, h9.on hb⟩), trivial⟩
  case g0 => exact ⟨rfl, rfl, rfl, Nat.le_refl _, fun _ _ => rfl⟩
  case os =>
    refine ⟨?_, ?_, ?_, ?_, ?_, ?_, ?_, ?_, ?_, ?_, ?_, ?_, ?_, ?_, ?_, ?_, ?_, ?_, ?_, ?_, ?_, ?_, ?_, ?_, ?_, trivial⟩
    · exact ⟨rfl, fun ρ X9 hg ho hc hf hr => Runs.val _ (op_move (show ρ (.tmp 0) = .pointer (some ⟨A, 0, none⟩) from ho 0 rfl)) ⟨hg, Below.refl _ _, rfl⟩⟩
    · exact ⟨rfl, fun ρ X9 hg ho hc hf hr => Runs.val _ (op_nil (show ρ (.tmp 6) = .pointer (some ⟨A, 0, none⟩) from hr 0 6 rfl rfl)) ⟨hg, Below.refl _ _, rfl⟩⟩
    · exact ⟨rfl, fun ρ X9 hg ho hc hf hr => Runs.val _ (op_g92_0 (show ρ (.tmp 7) = .pointer (some ⟨A, 0, none⟩) from hr 1 7 rfl rfl)) ⟨hg, Below.refl _ _, rfl⟩⟩
    · exact ⟨rfl, fun ρ X9 hg ho hc hf hr => Runs.val _ (op_load87 (show ρ (.tmp 8) = .pointer (some ⟨A, 0, none⟩) from hr 2 8 rfl rfl) (cell_on hg a0)) ⟨hg, Below.refl _ _, rfl⟩⟩
    · refine ⟨rfl, fun ρ X9 hg ho hc hf hr => ?_⟩
      refine Runs.goes 35 #[.pointer (some ⟨Pp, 0, none⟩)] (op_call1 hf calls35 (show ρ (.tmp 9) = .pointer (some ⟨Pp, 0, none⟩) from hr 3 9 rfl rfl)) ((HRW.out X9 hg).mono ?_)
      rintro e7 w7 ⟨ad7, cap7, P, rfl, hP, hm, b7⟩
      exact ⟨_, rfl, hg.trans (b7.mono hg.size), b7, P, ⟨_, _, rfl⟩, hP, own_mono hm.own (Nat.le_trans HB.out.size hg.size), fun p hp => own_mono (hm.ls p hp) (Nat.le_trans HB.out.size hg.size)⟩
    · exact ⟨rfl, fun ρ X9 hg ho hc hf hr => Runs.val _ (op_move (show ρ (.tmp 0) = .pointer (some ⟨A, 0, none⟩) from ho 0 rfl)) ⟨hg, Below.refl _ _, rfl⟩⟩
    · exact ⟨rfl, fun ρ X9 hg ho hc hf hr => Runs.val _ (op_nil (show ρ (.tmp 11) = .pointer (some ⟨A, 0, none⟩) from hr 5 11 rfl rfl)) ⟨hg, Below.refl _ _, rfl⟩⟩
    · exact ⟨rfl, fun ρ X9 hg ho hc hf hr => Runs.val _ (op_g92_1 (show ρ (.tmp 12) = .pointer (some ⟨A, 0, none⟩) from hr 6 12 rfl rfl)) ⟨hg, Below.refl _ _, rfl⟩⟩
    · exact ⟨rfl, fun ρ X9 hg ho hc hf hr => Runs.val _ (op_load31 (show ρ (.tmp 13) = .pointer (some ⟨A, 1, none⟩) from hr 7 13 rfl rfl) (cell_on hg a1)) ⟨hg, Below.refl _ _, rfl⟩⟩
    · refine ⟨rfl, fun ρ X9 hg ho hc hf hr => ?_⟩
      refine Runs.goes 36 #[.slice lad G0.length lcp] (op_call1 hf calls36 (show ρ (.tmp 14) = .slice lad G0.length lcp from hr 8 14 rfl rfl)) ((HLK.out X9 hg).mono ?_)
      rintro e7 w7 ⟨G, ad7, cap7, hG, rfl, ho7, b7⟩
      exact ⟨_, rfl, hg.trans (b7.mono hg.size), b7, G, ⟨_, _, rfl⟩, hG, own_mono ho7.row (Nat.le_trans HB.out.size hg.size), fun p hp => own_mono (ho7.sp p hp) (Nat.le_trans HB.out.size hg.size), fun p hp => own_mono (ho7.wr p hp) (Nat.le_trans HB.out.size hg.size)⟩
    · exact ⟨rfl, fun ρ X9 hg ho hc hf hr => Runs.val _ (op_move (show ρ (.tmp 0) = .pointer (some ⟨A, 0, none⟩) from ho 0 rfl)) ⟨hg, Below.refl _ _, rfl⟩⟩
    · exact ⟨rfl, fun ρ X9 hg ho hc hf hr => Runs.val _ (op_nil (show ρ (.tmp 16) = .pointer (some ⟨A, 0, none⟩) from hr 10 16 rfl rfl)) ⟨hg, Below.refl _ _, rfl⟩⟩
    · exact ⟨rfl, fun ρ X9 hg ho hc hf hr => Runs.val _ (op_g92_2 (show ρ (.tmp 17) = .pointer (some ⟨A, 0, none⟩) from hr 11 17 rfl rfl)) ⟨hg, Below.refl _ _, rfl⟩⟩
    · exact ⟨rfl, fun ρ X9 hg ho hc hf hr => Runs.val _ (op_load32 (show ρ (.tmp 18) = .pointer (some ⟨A, 2, none⟩) from hr 12 18 rfl rfl) (cell_on hg a2)) ⟨hg, Below.refl _ _, rfl⟩⟩
    · refine ⟨rfl, fun ρ X9 hg ho hc hf hr => ?_⟩
      refine Runs.goes 37 #[.slice rad s.recs.length rcp] (op_call1 hf calls37 (show ρ (.tmp 19) = .slice rad s.recs.length rcp from hr 13 19 rfl rfl)) ((HRC.out X9 hg).mono ?_)
      rintro e7 w7 ⟨ad7, cap7, rfl, ho7, b7⟩
      exact ⟨_, rfl, hg.trans (b7.mono hg.size), b7, ⟨_, _, rfl⟩, own_mono ho7 (Nat.le_trans HB.out.size hg.size)⟩
    · exact ⟨rfl, fun ρ X9 hg ho hc hf hr => Runs.val _ (op_move (show ρ (.tmp 0) = .pointer (some ⟨A, 0, none⟩) from ho 0 rfl)) ⟨hg, Below.refl _ _, rfl⟩⟩
    · exact ⟨rfl, fun ρ X9 hg ho hc hf hr => Runs.val _ (op_nil (show ρ (.tmp 21) = .pointer (some ⟨A, 0, none⟩) from hr 15 21 rfl rfl)) ⟨hg, Below.refl _ _, rfl⟩⟩
    · exact ⟨rfl, fun ρ X9 hg ho hc hf hr => Runs.val _ (op_g92_4 (show ρ (.tmp 22) = .pointer (some ⟨A, 0, none⟩) from hr 16 22 rfl rfl)) ⟨hg, Below.refl _ _, rfl⟩⟩
    · exact ⟨rfl, fun ρ X9 hg ho hc hf hr => Runs.val _ (op_load33 (show ρ (.tmp 23) = .pointer (some ⟨A, 4, none⟩) from hr 17 23 rfl rfl) (cell_on hg a4)) ⟨hg, Below.refl _ _, rfl⟩⟩
    · refine ⟨rfl, fun ρ X9 hg ho hc hf hr => ?_⟩
      refine Runs.goes 38 #[.slice oad s.over.length ocp] (op_call1 hf calls38 (show ρ (.tmp 24) = .slice oad s.over.length ocp from hr 18 24 rfl rfl)) ((HOV.out X9 hg).mono ?_)
      rintro e7 w7 ⟨ad7, cap7, rfl, ho7, b7⟩
      exact ⟨_, rfl, hg.trans (b7.mono hg.size), b7, ⟨_, _, rfl⟩, own_mono ho7 (Nat.le_trans HB.out.size hg.size)⟩
    · exact ⟨rfl, fun ρ X9 hg ho hc hf hr => Runs.val _ (op_move (show ρ (.tmp 0) = .pointer (some ⟨A, 0, none⟩) from ho 0 rfl)) ⟨hg, Below.refl _ _, rfl⟩⟩
    · exact ⟨rfl, fun ρ X9 hg ho hc hf hr => Runs.val _ (op_nil (show ρ (.tmp 26) = .pointer (some ⟨A, 0, none⟩) from hr 20 26 rfl rfl)) ⟨hg, Below.refl _ _, rfl⟩⟩
    · exact ⟨rfl, fun ρ X9 hg ho hc hf hr => Runs.val _ (op_g92_6 (show ρ (.tmp 27) = .pointer (some ⟨A, 0, none⟩) from hr 21 27 rfl rfl)) ⟨hg, Below.refl _ _, rfl⟩⟩
    · exact ⟨rfl, fun ρ X9 hg ho hc hf hr => Runs.val _ (op_loadI (show ρ (.tmp 28) = .pointer (some ⟨A, 6, none⟩) from hr 22 28 rfl rfl) (cell_on hg a6)) ⟨hg, Below.refl _ _, rfl⟩⟩
    · refine ⟨rfl, fun ρ X9 hg ho hc hf hr => ?_⟩
      obtain ⟨P, ⟨ad1, cp1, e1⟩, hP, hm⟩ : ∃ P : List (Rw × Value), (∃ ad cap, ρ (.tmp 10) = .slice ad P.length cap) ∧ P.map Prod.fst = s.rows ∧ Rm X9 w.heap.size P (ρ (.tmp 10)) := hr 4 10 rfl rfl
      obtain ⟨G, ⟨ad2, cp2, e2⟩, hG, hol⟩ : ∃ G : List Gl, (∃ ad cap, ρ (.tmp 15) = .slice ad G.length cap) ∧ G.map Prod.fst = s.locks ∧ OwnL w.heap.size X9 G (ρ (.tmp 15)) := hr 9 15 rfl rfl
      obtain ⟨⟨ad3, cp3, e3⟩, h3⟩ : (∃ ad cap, ρ (.tmp 20) = .slice ad s.recs.length cap) ∧ X9.ownsRow w.heap.size 101 4 (ρ (.tmp 20)) s.recs.length (s.recs.flatMap rcL) := hr 14 20 rfl rfl
      obtain ⟨⟨ad4, cp4, e4⟩, h4⟩ : (∃ ad cap, ρ (.tmp 25) = .slice ad s.over.length cap) ∧ X9.ownsRow w.heap.size 37 3 (ρ (.tmp 25)) s.over.length (s.over.flatMap tdL) := hr 19 25 rfl rfl
      refine Runs.val _ (op_b63 e1 e2 e3 e4 (show ρ (.tmp 29) = .int .i64 s.high from hr 23 29 rfl rfl)) ⟨hg, Below.refl _ _, P, G, _, _, _, _, rfl, by simp [Value.oneCell'], hP, ?_, hG, ?_, ?_, ?_⟩
      · rw [← e1]; exact hm
      · rw [← e2]; exact hol
      · rw [← e3]; exact h3
      · rw [← e4]; exact h4
  case la =>
    refine ⟨rfl, fun ρ X9 hg ho hc hf hr => ?_⟩
    obtain ⟨P, G, rv, lv, cv, ov, e9, o9, h9⟩ : ∃ (P : List (Rw × Value)) (G : List Gl) (rv lv cv ov : Value), ρ (.tmp 30) = .agg #[rv, lv, cv, ov, .int .i64 s.high] ∧ (#[rv, lv, cv, ov, .int .i64 s.high] : Array Value).all (·.oneCell') = true ∧ Sw w.heap.size X9 s P G rv lv cv ov := hr 24 30 (by decide) rfl
    have j9 := (hg.block Z (blk_lt HJ.out)).trans HJ.out
    obtain ⟨X, eX, jX, fX⟩ := sets_row j9 #[rv, lv, cv, ov, .int .i64 s.high] rfl
    have hst : (Instr.storeAt 63 (.pointer (some ⟨Z, 0, none⟩)) (.agg #[rv, lv, cv, ov, .int .i64 s.high])).run Try.prog X9 = .ok () X := by
      rw [eX]
      exact store_row j9 rfl size63 o9
    have hbw := HB.out.trans (hg.mono HB.out.size)
    exact Runs.skips (op_storeAt (show ρ (.tmp 2) = .pointer (some ⟨Z, 0, none⟩) from ho 2 rfl) e9 hst) ⟨P, G, rv, lv, cv, ov, jX, h9.keep fX ⟨_, j9⟩, hbw.trans (fX.toBelow (fun k hk e => by have e' : k = Z := e; have := HZ.out; omega) hbw.size)⟩
  case en =>
    intro a9 X9 Xb v9 hF hs9 hd9 ho9 hv9 hr9
    obtain ⟨x9, hx, hxt⟩ := act_put hs9 hd9 ho9
    change a9 = putAll _ x9 [6, 7, 8, 9, 10, 11, 12, 13, 14, 15, 16, 17, 18, 19, 20, 21, 22, 23, 24, 25, 26, 27, 28, 29, 30] at hx
    simp only [putAll, Act.put, List.setIfInBounds_toArray, List.set_cons_zero, List.set_cons_succ] at hx
    obtain ⟨P, G, rv, lv, cv, ov, jX, hsw, hbX⟩ := hF
    have HJX := Lib.hid jX
    have HSW := Lib.hid hsw
    have HBX := Lib.hid hbX
    clear hs9 hd9 ho9 hv9 hr9 hxt jX hsw hbX
    subst hx
    generalize x9 6 = z6, x9 7 = z7, x9 8 = z8, x9 9 = z9, x9 10 = z10, x9 11 = z11, x9 12 = z12, x9 13 = z13, x9 14 = z14, x9 15 = z15, x9 16 = z16, x9 17 = z17, x9 18 = z18, x9 19 = z19, x9 20 = z20, x9 21 = z21, x9 22 = z22, x9 23 = z23, x9 24 = z24, x9 25 = z25, x9 26 = z26, x9 27 = z27, x9 28 = z28, x9 29 = z29, x9 30 = z30
    go_wp2
    refine bodyPost_ret (v := .agg #[rv, lv, cv, ov, .int .i64 s.high]) (results_one Try.results15 rfl (load_var HJX.out Try.underlying63 rfl size63)) rfl ?_
    exact ⟨P, G, rv, lv, cv, ov, rfl, HSW.out, HBX.out⟩
end
end Go.Proofs.Ytcoaahlakkghhaa
/- Shards, plain: a command done once more; what stays; numbers that are the machine's. -/
namespace Go.Proofs.Ytcoaahlakkghhaa
open Go.RowKit
theorem busyR_nw (p : Lk → Bool) (L : List Lk) : (busyR p L).nw = false := by
  unfold busyR
  split <;> rfl
theorem agRd_said {s : Sh} : ∀ {L : List Rn} {r : Rz}, againstRd s L = some r → r.nw = false ∧ r.err ≠ 132
  | [], _, h => by cases h
  | x :: L, r, h => by
    unfold againstRd at h
    split at h
    · cases h
      refine ⟨busyR_nw _ _, ?_⟩
      rcases busyR_err (fun l => holdsInB l x.span) s.locks with q | q
      · rw [show (busyRd s.locks x.span).err = 0 from q]; decide
      · rw [show (busyRd s.locks x.span).err = 131 from q]; decide
    · split at h
      · cases h
        exact ⟨rfl, by show (130 : Int) ≠ 132; decide⟩
      · exact agRd_said h
theorem agWr_said {s : Sh} : ∀ {L : List Wr} {r : Rz}, againstWr s L = some r → r.nw = false ∧ r.err ≠ 132
  | [], _, h => by cases h
  | x :: L, r, h => by
    unfold againstWr at h
    split at h
    · cases h
      refine ⟨busyR_nw _ _, ?_⟩
      rcases busyR_err (fun l => holdsB l x.key || coversB l x.key) s.locks with q | q
      · rw [show (busyWr s.locks x.key).err = 0 from q]; decide
      · rw [show (busyWr s.locks x.key).err = 131 from q]; decide
    · exact agWr_said h
theorem against_said (s : Sh) (c : Cm) : (against s c).nw = false ∧ (against s c).err ≠ 132 := by
  unfold against
  cases e : againstRd s c.reads with
  | some r => exact agRd_said e
  | none =>
    cases e2 : againstWr s c.writes with
    | some r => exact agWr_said e2
    | none => exact ⟨rfl, by show (0 : Int) ≠ 132; decide⟩
theorem prepare_cases (s : Sh) (c : Cm) : (c.txn ∈ s.over ∧ s.prepare c = (s, over0)) ∨ (¬ c.txn ∈ s.over ∧ (s.prepare c).2.err ≠ 132 ∧ (((s.prepare c).1 = s ∧ (s.prepare c).2.nw = false) ∨ (s.prepare c).1 = s.lock (newL c))) := by
  by_cases h1 : c.txn ∈ s.over
  · exact .inl ⟨h1, by unfold Sh.prepare; rw [if_pos h1]⟩
  · refine .inr ⟨h1, ?_⟩
    unfold Sh.prepare
    rw [if_neg h1]
    split
    · exact ⟨by show (0 : Int) ≠ 132; decide, .inl ⟨rfl, rfl⟩⟩
    · split
      · exact ⟨(against_said s c).2, .inl ⟨rfl, (against_said s c).1⟩⟩
      · exact ⟨by show (0 : Int) ≠ 132; decide, .inr rfl⟩
theorem once_prepare (s : Sh) (c : Cm) : ((s.prepare c).1.prepare c).1 = (s.prepare c).1 ∧ ((s.prepare c).1.prepare c).2.nw = false := by
  rcases prepare_cases s c with ⟨_, e⟩ | ⟨h1, _, ⟨e, e2⟩ | e⟩
  · rw [e]
    show (s.prepare c).1 = s ∧ (s.prepare c).2.nw = false
    rw [e]
    exact ⟨rfl, rfl⟩
  · rw [e]
    exact ⟨e, e2⟩
  · have e2 : (s.lock (newL c)).prepare c = (s.lock (newL c), ⟨0, (s.lock (newL c)).high, td0, 0, false⟩) := by
      have h2 : 0 ≤ lockI (s.lock (newL c)).locks c.txn := by
        have := fidx_any (fun l : Lk => decide (l.txn = c.txn)) (s.locks ++ [newL c])
        exact of_decide_eq_true (this.trans (List.any_eq_true.2 ⟨newL c, List.mem_append_right _ List.mem_cons_self, decide_eq_true rfl⟩))
      unfold Sh.prepare
      rw [if_neg (show ¬ c.txn ∈ (s.lock (newL c)).over from h1), if_pos h2]
    rw [e, e2]
    exact ⟨rfl, rfl⟩
theorem recOf_app (R : List Rc) (r : Rc) {t : Td} {v : Int} (h : recOf R t = some v) : recOf (R ++ [r]) t = some v := by
  unfold recOf at h ⊢
  rw [List.find?_append]
  cases e : R.find? (fun r => decide (r.1 = t)) with
  | none =>
    rw [e] at h
    cases h
  | some x =>
    rw [e] at h
    exact h
theorem once_commit (s : Sh) (a : Int) (c : Cm) : ((s.commit a c).1.commit a c).1 = (s.commit a c).1 ∧ ((s.commit a c).1.commit a c).2.nw = false := by
  have key : ∀ (s : Sh) (v : Int), recOf s.recs c.txn = some v → (s.commit a c).1 = s ∧ (s.commit a c).2.nw = false := fun s v h => by
    unfold Sh.commit
    rw [h]
    refine ⟨rfl, ?_⟩
    show (if v = 0 then (⟨132, 0, td0, 0, false⟩ : Rz) else ⟨0, v, td0, 0, false⟩).nw = false
    split <;> rfl
  cases h : recOf s.recs c.txn with
  | some v =>
    have e := key s v h
    rw [e.1]
    exact e
  | none =>
    have e : ∃ v, (s.commit a c).1 = s.enter (c.txn, v) := by
      unfold Sh.commit
      rw [h]
      show ∃ v, (if c.til < mx3 c.mn a then (s.enter (c.txn, 0), (⟨133, 0, td0, 0, true⟩ : Rz)) else (s.enter (c.txn, mx3 c.mn a), ⟨0, mx3 c.mn a, td0, 0, true⟩)).1 = s.enter (c.txn, v)
      split
      · exact ⟨_, rfl⟩
      · exact ⟨_, rfl⟩
    obtain ⟨v, e⟩ := e
    rw [e]
    exact key _ v (by show recOf (s.recs ++ [(c.txn, v)]) c.txn = some v; rw [recOf_snoc _ _ _ h, if_pos rfl])
theorem once_abort (s : Sh) (c : Cm) : ((s.abort c).1.abort c).1 = (s.abort c).1 ∧ ((s.abort c).1.abort c).2.nw = false := by
  have key : ∀ (s : Sh) (v : Int), recOf s.recs c.txn = some v → (s.abort c).1 = s ∧ (s.abort c).2.nw = false := fun s v h => by
    unfold Sh.abort
    rw [h]
    refine ⟨rfl, ?_⟩
    show (if v = 0 then rz0 else (⟨132, v, td0, 0, false⟩ : Rz)).nw = false
    split <;> rfl
  cases h : recOf s.recs c.txn with
  | some v =>
    have e := key s v h
    rw [e.1]
    exact e
  | none =>
    have e : (s.abort c).1 = s.enter (c.txn, 0) := by
      unfold Sh.abort
      rw [h]
    rw [e]
    exact key _ 0 (by show recOf (s.recs ++ [(c.txn, 0)]) c.txn = some 0; rw [recOf_snoc _ _ _ h, if_pos rfl])
theorem resolve_over (s : Sh) (c : Cm) (h : c.txn ∈ s.over) : s.resolve c = (s, rz0) := by
  unfold Sh.resolve
  rw [if_pos h]
theorem resolve_parts (s : Sh) (c : Cm) (h : ¬ c.txn ∈ s.over) : (s.resolve c).1.recs = s.recs ∧ (s.resolve c).1.over = s.over ++ [c.txn] ∧ (∀ l ∈ (s.resolve c).1.locks, l ∈ s.locks) ∧ ((s.resolve c).1.rows = s.rows ∨ ∃ L, (s.resolve c).1.rows = puts s.rows L c.ts) ∧ ((s.resolve c).1.high = s.high ∨ (s.resolve c).1.high = c.ts) := by
  unfold Sh.resolve
  rw [if_neg h]
  have key : ∀ (u : Sh) (L : List Wr), u.recs = s.recs → u.over = s.over ++ [c.txn] → (∀ l ∈ u.locks, l ∈ s.locks) → u.rows = s.rows → u.high = s.high → ∀ x : Sh, x = (if 0 < c.ts then (u.puts L c.ts).raise c.ts else u) → x.recs = s.recs ∧ x.over = s.over ++ [c.txn] ∧ (∀ l ∈ x.locks, l ∈ s.locks) ∧ (x.rows = s.rows ∨ ∃ L, x.rows = puts s.rows L c.ts) ∧ (x.high = s.high ∨ x.high = c.ts) := by
    intro u L h1 h2 h3 h4 h5 x hx
    split at hx
    · rw [hx]
      refine ⟨h1, h2, h3, .inr ⟨L, by rw [← h4]; rfl⟩, ?_⟩
      show (if u.high < c.ts then c.ts else u.high) = _ ∨ (if u.high < c.ts then c.ts else u.high) = _
      split
      · exact .inr rfl
      · exact .inl h5
    · rw [hx]
      exact ⟨h1, h2, h3, .inl h4, .inl h5⟩
  rcases unlock_cases (s.ended c.txn) c.txn with ⟨e, _⟩ | ⟨i, hi, _, e⟩
  · rw [e]
    exact key (s.ended c.txn) [] rfl rfl (fun l hl => hl) rfl rfl _ rfl
  · rw [e]
    exact key ((s.ended c.txn).cut i) _ rfl rfl (fun l hl => List.mem_of_mem_eraseIdx (show l ∈ s.locks.eraseIdx i from hl)) rfl rfl _ rfl
theorem once_resolve (s : Sh) (c : Cm) : ((s.resolve c).1.resolve c).1 = (s.resolve c).1 ∧ ((s.resolve c).1.resolve c).2.nw = false := by
  by_cases h : c.txn ∈ s.over
  · rw [resolve_over s c h]
    show (s.resolve c).1 = s ∧ (s.resolve c).2.nw = false
    rw [resolve_over s c h]
    exact ⟨rfl, rfl⟩
  · have h2 : c.txn ∈ (s.resolve c).1.over := by
      rw [(resolve_parts s c h).2.1]
      exact List.mem_append_right _ List.mem_cons_self
    rw [resolve_over _ c h2]
    exact ⟨rfl, rfl⟩
theorem act_kind (a : Int) (c : Cm) : (c.kind = 1 ∧ ∀ s : Sh, s.act a c = s.prepare c) ∨ (c.kind = 2 ∧ ∀ s : Sh, s.act a c = s.commit a c) ∨ (c.kind = 3 ∧ ∀ s : Sh, s.act a c = s.abort c) ∨ (c.kind = 4 ∧ ∀ s : Sh, s.act a c = s.resolve c) ∨ ∀ s : Sh, s.act a c = (s, ⟨1, 0, td0, 0, false⟩) := by
  by_cases h1 : c.kind = 1
  · exact .inl ⟨h1, fun s => by unfold Sh.act; rw [if_pos h1]⟩
  · by_cases h2 : c.kind = 2
    · exact .inr (.inl ⟨h2, fun s => by unfold Sh.act; rw [if_neg h1, if_pos h2]⟩)
    · by_cases h3 : c.kind = 3
      · exact .inr (.inr (.inl ⟨h3, fun s => by unfold Sh.act; rw [if_neg h1, if_neg h2, if_pos h3]⟩))
      · by_cases h4 : c.kind = 4
        · exact .inr (.inr (.inr (.inl ⟨h4, fun s => by unfold Sh.act; rw [if_neg h1, if_neg h2, if_neg h3, if_pos h4]⟩)))
        · exact .inr (.inr (.inr (.inr fun s => by unfold Sh.act; rw [if_neg h1, if_neg h2, if_neg h3, if_neg h4])))
theorem once_act (s : Sh) (a : Int) (c : Cm) : ((s.act a c).1.act a c).1 = (s.act a c).1 ∧ ((s.act a c).1.act a c).2.nw = false := by
  rcases act_kind a c with ⟨_, e⟩ | ⟨_, e⟩ | ⟨_, e⟩ | ⟨_, e⟩ | e
  · rw [e s, e]; exact once_prepare s c
  · rw [e s, e]; exact once_commit s a c
  · rw [e s, e]; exact once_abort s c
  · rw [e s, e]; exact once_resolve s c
  · rw [e s, e]; exact ⟨rfl, rfl⟩
theorem act_rec {s : Sh} {t : Td} {v : Int} (h : recOf s.recs t = some v) (a : Int) (c : Cm) : recOf (s.act a c).1.recs t = some v := by
  rcases act_kind a c with ⟨_, e⟩ | ⟨_, e⟩ | ⟨_, e⟩ | ⟨_, e⟩ | e
  · rw [e]
    rcases prepare_cases s c with ⟨_, e2⟩ | ⟨_, _, ⟨e2, _⟩ | e2⟩ <;> (rw [e2]; exact h)
  · rw [e]
    unfold Sh.commit
    split
    · exact h
    · split <;> exact recOf_app _ _ h
  · rw [e]
    unfold Sh.abort
    split
    · exact h
    · exact recOf_app _ _ h
  · rw [e]
    by_cases h2 : c.txn ∈ s.over
    · rw [resolve_over s c h2]
      exact h
    · rw [(resolve_parts s c h2).1]
      exact h
  · rw [e]
    exact h
theorem act_over {s : Sh} {t : Td} (h : t ∈ s.over) (a : Int) (c : Cm) : t ∈ (s.act a c).1.over := by
  rcases act_kind a c with ⟨_, e⟩ | ⟨_, e⟩ | ⟨_, e⟩ | ⟨_, e⟩ | e
  · rw [e]
    rcases prepare_cases s c with ⟨_, e2⟩ | ⟨_, _, ⟨e2, _⟩ | e2⟩ <;> (rw [e2]; exact h)
  · rw [e]
    unfold Sh.commit
    split
    · exact h
    · split <;> exact h
  · rw [e]
    unfold Sh.abort
    split <;> exact h
  · rw [e]
    by_cases h2 : c.txn ∈ s.over
    · rw [resolve_over s c h2]
      exact h
    · rw [(resolve_parts s c h2).2.1]
      exact List.mem_append_left _ h
  · rw [e]
    exact h
theorem over_act {s : Sh} {c : Cm} (hk : c.kind = 1) (h : c.txn ∈ s.over) (a : Int) : s.act a c = (s, over0) := by
  unfold Sh.act
  rw [if_pos hk]
  unfold Sh.prepare
  rw [if_pos h]
theorem err_over {s : Sh} {c : Cm} (hk : c.kind = 1) (a : Int) (h : (s.act a c).2.err = 132) : c.txn ∈ s.over := by
  unfold Sh.act at h
  rw [if_pos hk] at h
  rcases prepare_cases s c with ⟨h1, _⟩ | ⟨_, h2, _⟩
  · exact h1
  · exact absurd h h2
/-! ### Its numbers stay the machine's -/
theorem put_ts {R : List Rw} {p : Ve → Prop} (h : ∀ r ∈ R, ∀ x ∈ r.list, p x) (k : ByteArray) {v : Ve} (hv : p v) : ∀ r ∈ putR R k v, ∀ x ∈ r.list, p x := by
  have hinn : ∀ i, ∀ r ∈ inn R i ⟨k, [v]⟩, ∀ x ∈ r.list, p x := fun i r hr => by
    rcases inn_mem hr with rfl | hr
    · intro x hx
      rw [List.mem_singleton.1 hx]
      exact hv
    · exact h r hr
  unfold putR
  split
  · exact h
  · split
    · rename_i r0 hr0
      split
      · split
        · exact h
        · intro r hr
          obtain ⟨hi, e⟩ := List.getElem?_eq_some_iff.1 hr0
          rcases List.mem_or_eq_of_mem_set hr with q | q
          · exact h r q
          · rw [q]
            intro x hx
            rcases List.mem_append.1 hx with z | z
            · exact h r0 (by rw [← e]; exact List.getElem_mem hi) x z
            · rw [List.mem_singleton.1 z]
              exact hv
      · exact hinn _
    · exact hinn _
theorem puts_ts : ∀ (L : List Wr) {R : List Rw} {ts : Int}, (∀ r ∈ R, ∀ x ∈ r.list, I64 x.ts) → I64 ts → ∀ r ∈ puts R L ts, ∀ x ∈ r.list, I64 x.ts
  | [], _, _, h, _ => h
  | y :: L, R, ts, h, ht => puts_ts L (R := putW R y ts) (put_ts (p := fun x => I64 x.ts) h y.key (v := ⟨ts, y.val, y.dead⟩) ht) ht
theorem in_nil : ShIn Sh.nil := ⟨fun _ h => (by cases h), fun _ h => (by cases h), fun _ h => (by cases h), fun _ h => (by cases h), by unfold I64; exact ⟨by decide, by decide⟩⟩
theorem i64_0 : I64 0 := ⟨by decide, by decide⟩
theorem i64_mx3 {m a : Int} (hm : I64 m) (ha : I64 a) : I64 (mx3 m a) := by
  unfold I64 at *
  unfold mx3
  by_cases h : m < a
  · rw [if_pos h]
    split <;> omega
  · rw [if_neg h]
    split <;> omega
theorem in_enter {s : Sh} (h : ShIn s) {r : Rc} (h1 : TdOk r.1) (h2 : I64 r.2) : ShIn (s.enter r) :=
  ⟨h.rw, h.lk, fun x hx => by
    rcases List.mem_append.1 (show x ∈ s.recs ++ [r] from hx) with q | q
    · exact h.rc x q
    · rw [List.mem_singleton.1 q]
      exact ⟨h1, h2⟩, h.ov, h.hi⟩
theorem in_act {s : Sh} (h : ShIn s) {a : Int} (ha : I64 a) {c : Cm} (hc : CmIn c) (ht : TdOk c.txn) : ShIn (s.act a c).1 := by
  rcases act_kind a c with ⟨_, e⟩ | ⟨_, e⟩ | ⟨_, e⟩ | ⟨_, e⟩ | e
  · rw [e]
    rcases prepare_cases s c with ⟨_, e2⟩ | ⟨_, _, ⟨e2, _⟩ | e2⟩
    · rw [e2]
      exact h
    · rw [e2]
      exact h
    · rw [e2]
      refine ⟨h.rw, fun l hl => ?_, h.rc, h.ov, h.hi⟩
      rcases List.mem_append.1 (show l ∈ s.locks ++ [newL c] from hl) with q | q
      · exact h.lk l q
      · rw [List.mem_singleton.1 q]
        exact ⟨ht, hc.hm, hc.til⟩
  · rw [e]
    unfold Sh.commit
    split
    · exact h
    · split
      · exact in_enter h ht i64_0
      · exact in_enter h ht (i64_mx3 hc.mn ha)
  · rw [e]
    unfold Sh.abort
    split
    · exact h
    · exact in_enter h ht i64_0
  · rw [e]
    by_cases h2 : c.txn ∈ s.over
    · rw [resolve_over s c h2]
      exact h
    · obtain ⟨p1, p2, p3, p4, p5⟩ := resolve_parts s c h2
      refine ⟨?_, fun l hl => h.lk l (p3 l hl), by rw [p1]; exact h.rc, ?_, ?_⟩
      · rcases p4 with q | ⟨L, q⟩
        · rw [q]
          exact h.rw
        · rw [q]
          exact puts_ts L h.rw hc.ts
      · rw [p2]
        intro x hx
        rcases List.mem_append.1 hx with q | q
        · exact h.ov x q
        · rw [List.mem_singleton.1 q]
          exact ht
      · rcases p5 with q | q
        · rw [q]
          exact h.hi
        · rw [q]
          exact hc.ts
  · rw [e]
    exact h
theorem in_acts {s : Sh} (h : ShIn s) : ∀ L : List Oq, (∀ q ∈ L, I64 q.1 ∧ CmIn q.2 ∧ TdOk q.2.txn) → ShIn (s.acts L) := by
  intro L
  induction L generalizing s with
  | nil => exact fun _ => h
  | cons q L ih =>
    intro hL
    have hq := hL q List.mem_cons_self
    exact ih (in_act h hq.1 hq.2.1 hq.2.2) (fun x hx => hL x (List.mem_cons_of_mem _ hx))
theorem ops_ok {w : World} {L : List Oq} {v : Value} (h : Lr opE 31 w L v) : ∀ q ∈ L, I64 q.1 ∧ TdOk q.2.txn := by
  obtain ⟨ad, cap, _, _, _, _, hc⟩ := h
  intro q hq
  obtain ⟨i, hi, rfl⟩ := List.getElem_of_mem hq
  obtain ⟨_, _, _, _, _, hE, _, _⟩ := hc i hi
  obtain ⟨_, _, h3, _, _, _, _, hok⟩ := hE
  exact ⟨h3, hok.td⟩
end Go.Proofs.Ytcoaahlakkghhaa
/- A drawn region: one operation writes what was told of the memory, and the last one says what it leaves by the slots that it reads. -/
namespace Go.Proofs.Ytcoaahlakkghhaa
section
variable {P : Program} {ops : Array Oper} {Q : Exit → Act → World → Prop}
theorem wp_region_lo {id : Nat} {a0 : Act} {w0 : World} (m : Nat) (G : Bool → World → Prop) (S Sm : World → World → Prop) (R : List (Value → World → Prop)) (F : (Operand → Value) → Value → World → Prop) {ol : Oper} (hol : ops[ops.size - 1]? = some ol)
    (hm : P.follows .mixedOrders = true) (hd : dstsOk ops a0.tmps.size = true) (haf : afterOk ops = true) (hla : lastOk ops = true) (hst : Stable S R) (hstm : Stable Sm (R.set m (fun _ _ => True))) (hg : G false w0.drew) (hml : m < ops.size - 1)
    (hops : AllOps (OpOn P ops a0 m G S Sm R) 0 (ops.toList.take (ops.size - 1)))
    (hlast : plainOp ol ∧ ∀ ρ w, G true w → (∀ t, outer ops.pop t = true → ρ (.tmp t) = a0.eval (.tmp t)) → (∀ x, ρ (.const x) = x) → (∀ f, ρ (.func f) = .func (.func f) #[] #[]) → (∀ j t, j < ops.size - 1 → dstOf ops j = some t → R.getD j (fun _ _ => True) (ρ (.tmp t)) w) → Runs P ol ρ w (F ρ))
    (he : ∀ (a : Act) (ρ : Operand → Value) (w wb : World) (v : Value), F ρ v w → (∀ t, ol.dst ≠ some t → a.tmps.getD t undef = ρ (.tmp t)) → a.tmps.size = a0.tmps.size → a.defers = a0.defers → (∀ t, outer ops t = true → a.tmps.getD t undef = a0.tmps.getD t undef) → (∀ t, ol.dst = some t → a.tmps.getD t undef = v) →
      (∀ j t, j < ops.size - 1 → dstOf ops j = some t → R.getD j (fun _ _ => True) (a.tmps.getD t undef) wb) → Q .normal a w) :
    (Code.region id ops true).wp P Q a0 w0 := by
  have hmlt : ops.size - 1 < ops.size := (Array.getElem?_eq_some_iff.1 hol).1
  have hd2 := hd
  unfold dstsOk at hd2
  simp only [Bool.and_eq_true, decide_eq_true_eq, List.all_eq_true] at hd2
  refine wp_region_any hm (wpAny_kept (fun l a w => (l.getD (ops.size - 1) false = false ∧ G (l.getD m false) w ∧ KeptIn ops a0 (fun _ => True) R l a w) ∨ ((∀ j, j < ops.size → l.getD j true = true) ∧ Q .normal a w)) ?_ ?_ _ _ _ _ (left_replicate _) ?_)
  · intro l a w i hk hi
    obtain ⟨hl, o, ho, hall⟩ := mem_ready.1 hi
    have hil : i < ops.size := (Array.getElem?_eq_some_iff.1 ho).1
    rcases hk with ⟨hnl, hgd0, hk⟩ | ⟨hk, _⟩
    · by_cases him : i = ops.size - 1
      · subst him
        rw [ho] at hol
        cases hol
        obtain ⟨hgd, hok⟩ := hlast
        have hah := all_ahead hla hk.dn ho hall
        have hmd : l.getD m false = true := hah _ m rfl (by omega)
        rw [hmd] at hgd0
        have hrun := hok a.eval w hgd0 (fun t ht => by
          rw [eval_tmp, eval_tmp]
          exact early hk hnl ht) (fun _ => rfl) (fun _ => rfl) (fun j t hj hdj => by
          obtain ⟨oj, hoj, hdj⟩ := dstOf_some hdj
          rw [eval_tmp]
          exact hk.is _ oj t hoj (hah _ j rfl hj) hdj)
        have hfin : ∀ v w', F a.eval v w' → (∀ j, j < ops.size → (l.setIfInBounds (ops.size - 1) true).getD j true = true) ∧ Q .normal (a.put ol.dst v) w' := by
          intro v w' hF
          refine ⟨fun j hj => ?_, he _ a.eval w' w v hF (fun t ht => put_other ht) (put_size.trans hk.size) (put_defers'.trans hk.defers) (fun t ht => ?_) (fun t ht => ?_) (fun j t hj hdj => ?_)⟩
          · by_cases e : j = ops.size - 1
            · subst e
              rw [Array.getD_eq_getD_getElem?, Array.getElem?_setIfInBounds_self_of_lt (by rw [hk.sz]; exact hmlt)]
              rfl
            · have := hah _ j rfl (by omega)
              have hjl : j < l.size := by rw [hk.sz]; exact hj
              rw [Array.getD_eq_getD_getElem?, Array.getElem?_setIfInBounds_ne (fun q => e q.symm), Array.getElem?_eq_getElem hjl]
              rw [Array.getD_eq_getD_getElem?, Array.getElem?_eq_getElem hjl] at this
              simpa using this
          · rw [put_other (outer_not ht ho)]
            exact hk.out t fun j oj hj _ q => outer_not ht hj q
          · rw [ht, put_self]
            rw [hk.size]
            exact hd2.2 t (List.mem_filterMap.2 ⟨ol, List.mem_of_getElem? (by rw [Array.getElem?_toList]; exact ho), ht⟩)
          · obtain ⟨oj, hoj, hdj⟩ := dstOf_some hdj
            rw [put_other]
            · exact hk.is _ oj t hoj (hah _ j rfl hj) hdj
            · intro q
              have := nodup_filterMap hd2.1 (by rw [Array.getElem?_toList]; exact hoj) (by rw [Array.getElem?_toList]; exact ho) hdj q
              omega
        unfold wpOp
        simp only [ho]
        rw [if_pos (wanted_none hgd _)]
        refine .inl ?_
        unfold Oper.wp
        rcases hrun with ⟨v, w', hv, hF⟩ | ⟨w', hv, hF⟩ | ⟨f, args, w1, hv, hc⟩
        · rw [hv]
          exact .inr (hfin v w' hF)
        · rw [hv]
          exact .inr (hfin undef w' hF)
        · rw [hv]
          refine hc.mono ?_
          rintro e w' ⟨v, rfl, hF⟩
          exact .inr (hfin v w' hF)
      · have hok : OpOn P ops a0 m G S Sm R i o := by
          have := hops.get (k := i) (o := o) (by rw [List.getElem?_take_of_lt (by omega), Array.getElem?_toList]; exact ho)
          rwa [Nat.zero_add] at this
        obtain ⟨hgd, hok⟩ := hok
        have hun := unlisted hk.sz ho hl
        have hil2 : i < l.size := by rw [hk.sz]; exact hil
        have hflag : (l.setIfInBounds i true).getD m false = (l.getD m false || decide (i = m)) := by
          by_cases e : i = m
          · subst e
            rw [Array.getD_eq_getD_getElem?, Array.getElem?_setIfInBounds_self_of_lt hil2]
            simp
          · rw [Array.getD_eq_getD_getElem?, Array.getElem?_setIfInBounds_ne e, ← Array.getD_eq_getD_getElem?]
            simp [e]
        have hrun : Runs P o a.eval w fun v w' => G ((l.setIfInBounds i true).getD m false) w' ∧ (if i = m then Sm w w' else S w w') ∧ R.getD i (fun _ _ => True) v w' := by
          rw [hflag]
          by_cases e : i = m
          · rw [decide_eq_true e, Bool.or_true]
            simp only [if_pos e]
            have hg0 : G false w := by rw [← hun, e]; exact hgd0
            exact hok.2 e a.eval w hg0 (fun t ht => by
              rw [eval_tmp, eval_tmp]
              exact early hk hnl ht) (fun _ => rfl) (fun _ => rfl) (fun j t hj hdj => by
              obtain ⟨e, he, rfl, hb⟩ := depOn_some hj
              obtain ⟨oj, hoj, hdj⟩ := dstOf_some hdj
              rw [eval_tmp]
              exact hk.is _ oj t hoj (hall e he hb) hdj)
          · rw [decide_eq_false e, Bool.or_false]
            simp only [if_neg e]
            exact hok.1 e a.eval w _ hgd0 (fun t ht => by
              rw [eval_tmp, eval_tmp]
              exact early hk hnl ht) (fun _ => rfl) (fun _ => rfl) (fun j t hj hdj => by
              obtain ⟨e, he, rfl, hb⟩ := depOn_some hj
              obtain ⟨oj, hoj, hdj⟩ := dstOf_some hdj
              rw [eval_tmp]
              exact hk.is _ oj t hoj (hall e he hb) hdj)
        have hnext : ∀ v w', (if i = m then Sm w w' else S w w') → R.getD i (fun _ _ => True) v w' → KeptIn ops a0 (fun _ => True) R (l.setIfInBounds i true) (a.put o.dst v) w' := by
          intro v w' h2 h3
          by_cases e : i = m
          · rw [if_pos e] at h2
            subst e
            exact hk.once hd hstm ho hall hun h2 h3
          · rw [if_neg e] at h2
            exact hk.next hd hst ho hall trivial h2 h3
        have hnx : (l.setIfInBounds i true).getD (ops.size - 1) false = false := by
          rw [Array.getD_eq_getD_getElem?, Array.getElem?_setIfInBounds_ne him, ← Array.getD_eq_getD_getElem?]
          exact hnl
        unfold wpOp
        simp only [ho]
        rw [if_pos (wanted_none hgd _)]
        refine .inl ?_
        unfold Oper.wp
        rcases hrun with ⟨v, w', hv, h1, h2, h3⟩ | ⟨w', hv, h1, h2, h3⟩ | ⟨f, args, w1, hv, hc⟩
        · rw [hv]
          exact .inl ⟨hnx, h1, hnext _ _ h2 h3⟩
        · rw [hv]
          exact .inl ⟨hnx, h1, hnext _ _ h2 h3⟩
        · rw [hv]
          refine hc.mono ?_
          rintro e w' ⟨v, rfl, h1, h2, h3⟩
          exact .inl ⟨hnx, h1, hnext _ _ h2 h3⟩
    · rw [hk i hil] at hl
      cases hl
  · intro l a w hk hr
    rcases hk with ⟨hnl, _, hk⟩ | ⟨_, hq⟩
    · have := all_listed haf l hk.sz hr _ hmlt
      rw [hnl] at this
      cases this
    · exact hq
  · refine .inl ⟨?_, ?_, ⟨trivial, fun j _ _ hl => absurd hl (none_listed _ j), by simp, rfl, rfl, fun _ _ => rfl, fun j o t hj hl _ => absurd hl (none_listed _ j)⟩⟩
    · cases hc : (Array.replicate ops.size false).getD (ops.size - 1) false with
      | false => rfl
      | true => exact absurd hc (none_listed _ _)
    · have hz : (Array.replicate ops.size false).getD m false = false := by
        cases hc : (Array.replicate ops.size false).getD m false with
        | false => rfl
        | true => exact absurd hc (none_listed _ _)
      rw [hz]
      exact hg
end
end Go.Proofs.Ytcoaahlakkghhaa
/- What ShardOnce wants: a command done in a region that stores its answer; commands that it makes itself. -/
namespace Go.Proofs.Ytcoaahlakkghhaa
open Go.RowKit
theorem sum_ge2 {α : Type} {f : α → Nat} (h : ∀ x, 2 ≤ f x) : ∀ l : List α, 2 * l.length ≤ (l.map f).sum
  | [] => Nat.le_refl _
  | x :: l => by
    have h1 := sum_ge2 h l
    have h2 := h x
    simp only [List.length_cons, List.map_cons, List.sum_cons]
    omega
abbrev z52 : Array Value := #[.int .i64 0, .int .i64 0, .int .i64 0, .int .i64 0, .int .i64 0, .int .i64 0, .int .i64 0, .int .i64 0, .bool false]
section
variable {ρ : Operand → Value} {X : World} {d : Option Tmp} {ty : TypeId} {ps : String} {af : Array Edge} {g : Option (Nat × Bool)}
theorem op_alloc52 : (execOp ρ ⟨d, .alloc 52, ty, ps, af, g⟩).run Try.prog X = .ok (.value (.pointer (some ⟨X.heap.size, 0, none⟩))) (X.alloc (.cells z52 52)) := by
  go_simp
end
theorem fld52 (e a b1 b2 b3 c d f : Int) (k : Bool) (X : World) : (Instr.field 52 (.agg #[.int .i64 e, .int .i64 a, .int .i64 b1, .int .i64 b2, .int .i64 b3, .int .i64 c, .int .i64 d, .int .i64 f, .bool k]) 0).run Try.prog X = .ok (.int .i64 e) X := by kernel_rfl
/-- Only blocks of the shard's change. -/
def Sm' (V X X' : World) : Prop := ∃ S : Nat → Prop, (∀ k, S k → k < V.heap.size) ∧ Fr X X' S
section
variable {w V0 V X : World} {A Y Z : Nat} {T S : Nat → Prop} {s : Sh}
theorem gf_of {q : Oq} {cs os : Array Value} {ra wa : Option Addr} {rc wc : Nat} (hS : Sz w V0 V A T S s) (jY : V.heap[Y]? = some (.cells os 49 (0, 0))) (hy : ¬ S Y) (hok : CmOk V q.2 cs ra rc wa wc) {Tb n : Nat} (hbd : Bd s Tb n) (h1 : Tb < 800000) (h2 : n < 800000) (h3 : q.2.reads.length ≤ 800000) (h4 : q.2.writes.length ≤ 800000) :
    ∀ X cs', Below V.heap.size V X → OwnV V X q.2 cs' → Calls Try.prog 13 #[.pointer (some ⟨A, 0, none⟩), .int .i64 q.1, .agg cs'] X fun e w' => e = .returned (rzV (s.act q.1 q.2).2) ∧ (St w V0 w' A T (s.act q.1 q.2).1 ∧ w'.heap[Y]? = some (.cells os 49 (0, 0)) ∧ V.heap.size ≤ w'.heap.size) ∧ Sm' V X w' := by
  intro X cs' hX ho
  obtain ⟨N, ra', rc', wa', wc', K, hN, ho⟩ := ho
  have hlt := hS.sy.lt
  refine (do_any (hS.sy.on hX) (ho.apart (fun k hk => Nat.lt_of_lt_of_le (hlt k hk) hN)) hok.td hok.kd (hbd.room h1 h2 h3 h4) q.1).mono ?_
  rintro e w' ⟨rfl, hst⟩
  refine ⟨rfl, ⟨(hS.on hX).step hst, ?_, ?_⟩, ?_⟩
  · obtain ⟨_, _, _, hf⟩ := hst
    exact (hf.block Y (Nat.lt_of_lt_of_le (blk_lt jY) hX.size) hy).trans ((hX.block Y (blk_lt jY)).trans jY)
  · obtain ⟨_, _, _, hf⟩ := hst
    exact Nat.le_trans hX.size hf.size
  · obtain ⟨_, _, _, hf⟩ := hst
    exact ⟨S, hlt, hf⟩
theorem Sx.keepT {w w' : World} {A : Nat} {S1 S2 : Nat → Prop} {s : Sh} {P M N : Nat} {G : List Gl} {lv rv ov : Value} {cs : Array Value} (h : Sx w A S1 S2 s P M N G lv rv ov) (hf : Fr w w' (fun k => k = Z)) (hZ : w.heap[Z]? = some (.cells cs 52 (0, 0))) : Sx w' A S1 S2 s P M N G lv rv ov := by
  have ht : ∀ t : TypeId, t ≠ 52 → ∀ k, k = Z → ∀ cs', w.heap[k]? ≠ some (.cells cs' t (0, 0)) := by
    rintro t q k rfl cs' hk
    rw [hZ] at hk
    simp only [Option.some.injEq, Obj.cells.injEq] at hk
    exact q hk.2.1.symm
  have hA : A ≠ Z := fun e => ht 92 (by decide) A e _ h.ob
  have hmap : ∀ (B n : Nat) (f : Td → Option Value), Mt w B n f → B ≠ Z := by
    rintro B n f ⟨D, ⟨es, clock, h1, _⟩, _⟩ rfl
    rw [hZ] at h1
    cases h1
  obtain ⟨G1, rv1, hv, he⟩ := h.st
  have hv' : Sv w' P S1 G1 rv1 :=
    ⟨(hf.block P (hv.lt P hv.covA) (fun e => ht 116 (by decide) P e _ hv.ob)).trans hv.ob, keep_rowB hv.rows hf (ht _ (by decide)), fun g hg => (hf.block _ (hv.lt _ (hv.covp g hg)) (fun e => ht 129 (by decide) _ e _ (hv.at' g hg))).trans (hv.at' g hg),
     fun g hg => keep_rowB (hv.ls g hg) hf (ht _ (by decide)), hv.apart, hv.covA, hv.cov, hv.covp, hv.covl, fun k hk => Nat.lt_of_lt_of_le (hv.lt k hk) hf.size, hv.few, hv.less, hv.ok⟩
  exact {
    ob := (hf.block A (h.lt A h.cA) hA).trans h.ob
    st := ⟨G1, rv1, hv', he⟩
    lks := keep_rowB h.lks hf (ht _ (by decide))
    gl := h.gl
    sp := fun g hg => keep_rowB (h.sp g hg) hf (ht _ (by decide))
    wr := fun g hg => keep_rowB (h.wr g hg) hf (ht _ (by decide))
    rcs := keep_rowB h.rcs hf (ht _ (by decide))
    ovs := keep_rowB h.ovs hf (ht _ (by decide))
    tm := h.tm.like (hf.block M (h.lt M h.cM) (hmap _ _ _ h.tm))
    en := h.en.like (hf.block N (h.lt N h.cN) (hmap _ _ _ h.en))
    mn := h.mn
    cA := h.cA
    cM := h.cM
    cN := h.cN
    cl := h.cl
    cr := h.cr
    co := h.co
    cs := h.cs
    cw := h.cw
    lt := fun k hk => Nat.lt_of_lt_of_le (h.lt k hk) hf.size
    off := h.off
    fl := h.fl
    fr := h.fr
    fo := h.fo }
theorem St.keepT {cs : Array Value} (h : St w V0 V A T s) (hf : Fr V X (fun k => k = Z)) (hZ : V.heap[Z]? = some (.cells cs 52 (0, 0))) (hT : ¬ T Z) (hl : w.heap.size ≤ Z) : St w V0 X A T s := by
  obtain ⟨S, h⟩ := h
  obtain ⟨S1, S2, P, M, N, G, lv, rv, ov, hx, hS⟩ := h.sy
  refine ⟨S, ⟨S1, S2, P, M, N, G, lv, rv, ov, hx.keepT hf hZ, hS⟩, h.lo, h.off, h.bl.trans (hf.toBelow (fun k hk e => by have e' : k = Z := e; omega) h.bl.size), Nat.le_trans h.sz hf.size, fun k hk => ⟨(h.kp k hk).1, ?_⟩⟩
  exact (hf.block k (Nat.lt_of_lt_of_le (h.kp k hk).1 h.sz) (fun e => hT (by have e' : k = Z := e; rw [← e']; exact hk))).trans (h.kp k hk).2
/-- Ahead of the command, and behind it. -/
def GO (w V0 V : World) (A : Nat) (T : Nat → Prop) (s : Sh) (Y : Nat) (os : Array Value) (d : Bool) (X : World) : Prop :=
  match d with
  | false => Below V.heap.size V X
  | true => St w V0 X A T s ∧ X.heap[Y]? = some (.cells os 49 (0, 0)) ∧ V.heap.size ≤ X.heap.size
theorem GO.next {os : Array Value} {d : Bool} {X' : World} (h : GO w V0 V A T s Y os d X) (hb : Below X.heap.size X X') : GO w V0 V A T s Y os d X' := by
  cases d with
  | false => exact Below.trans h (hb.mono (Below.size h))
  | true => exact ⟨h.1.on hb, (hb.block Y (blk_lt h.2.1)).trans h.2.1, Nat.le_trans h.2.2 hb.size⟩
theorem GO.k {os : Array Value} {d : Bool} (h : GO w V0 V A T s Y os d X) (hbV : Below w.heap.size w V) (jY : V.heap[Y]? = some (.cells os 49 (0, 0))) : Below w.heap.size w X ∧ X.heap[Y]? = some (.cells os 49 (0, 0)) ∧ V.heap.size ≤ X.heap.size := by
  cases d with
  | false =>
    have h' : Below V.heap.size V X := h
    exact ⟨hbV.trans (h'.mono hbV.size), (h'.block Y (blk_lt jY)).trans jY, h'.size⟩
  | true => exact ⟨h.1.bl, h.2.1, h.2.2⟩
theorem ld47 {cs os : Array Value} {c : Cm} {W : World} {ra wa : Option Addr} {rc wc : Nat} (jX : X.heap[Y]? = some (.cells os 49 (0, 0))) (hos : ∀ j, os[j + 1]? = cs[j]?) (hok : CmOk W c cs ra rc wa wc) : (Instr.loadAt 47 (.pointer (some ⟨Y, 1, none⟩))).run Try.prog X = .ok (.agg cs) X := by
  have q := run_loadAt_mid (P := Try.prog) X Y 1 47 cs.toList _ (fun j v hv => by
    rw [Nat.add_comm 1 j, cell_blk jX (j + 1), hos j, ← hv]
    simp) Try.underlying47 rfl (by rw [Array.length_toList, hok.cc.sz]; exact size47)
  simpa using q
theorem ow12 {V : World} {cs : Array Value} {c : Cm} {ra wa : Option Addr} {rc wc : Nat} (hok : CmOk X c cs ra rc wa wc) (hz : CmSz c) (hV : V.heap.size ≤ X.heap.size) : Calls Try.prog 12 #[.agg cs] X fun e w' => Below X.heap.size X w' ∧ ∃ cs', e = .returned (.agg cs') ∧ OwnV V w' c cs' := by
  refine (own_any hok.cc hz.rs hz.ws hz.sn).mono ?_
  rintro e w' ⟨cs', ra', rc', wa', wc', K, rfl, ho, hb⟩
  exact ⟨hb, cs', rfl, _, ra', rc', wa', wc', K, hV, ho⟩
theorem CmOk.on {c : Cm} {cs : Array Value} {ra wa : Option Addr} {rc wc : Nat} (h : CmOk V c cs ra rc wa wc) (hb : Below V.heap.size V X) : CmOk X c cs ra rc wa wc := ⟨h.cc.on hb, h.kd, h.td⟩
abbrev noC (t : Td) : Cm := ⟨1, t, 0, [], [], 0, 0, 0⟩
theorem no_own {t : Td} {N : Nat} : OwnC N X (noC t) (cmR t (.slice none 0 0)) none 0 none 0 [] :=
  ⟨⟨rfl, by simp [Value.oneCell'], rfl, rfl, rfl, rfl, rfl, rfl, rfl, rfl, rfl, rfl, ⟨none, 0, rfl, fun _ => rfl, Nat.le_refl _, Nat.zero_le _, fun i hi => absurd hi (Nat.not_lt_zero i)⟩, wr_nil X⟩, rfl, World.ownsRow_nil _ _ _ _, World.ownsRow_nil _ _ _ _, fun g hg => (by cases hg)⟩
theorem one_row {N : Nat} {x : Sm} (hZ : X.heap[Z]? = some (.cells #[.string x.1, .int .i64 x.2] 82 (0, 0))) (hN : N ≤ Z) : X.ownsRow N 82 2 (.slice (some ⟨Z, 0, none⟩) 1 1) [x].length ([x].flatMap smL) :=
  ⟨rfl, .inr ⟨Z, 1, _, rfl, hN, hZ, Nat.le_refl _, by unfold maxLen; omega, rfl, rfl⟩⟩
abbrev nsk : ByteArray := ⟨#[110, 111, 32, 115, 117, 99, 104, 32, 107, 101, 121]⟩
abbrev allS : Sn := ⟨⟨#[]⟩, ⟨#[255]⟩⟩
theorem all_own {t : Td} : OwnC X.heap.size ((X.alloc (.cells #[.string nsk, .int .i64 (-1)] 82)).alloc (.cells #[.string allS.lo, .string allS.hi, .slice (some ⟨X.heap.size, 0, none⟩) 1 1] 60)) (seeC t allS [(nsk, -1)]) (cmR t (.slice (some ⟨X.heap.size + 1, 0, none⟩) 1 1)) (some ⟨X.heap.size + 1, 0, none⟩) 1 none 0 [(⟨allS, [(nsk, -1)]⟩, .slice (some ⟨X.heap.size, 0, none⟩) 1 1)] := by
  refine see_own (one_row (x := (nsk, -1)) ?_ (Nat.le_refl _)) ?_ (Nat.le_succ _)
  · rw [Below.heap_alloc _ _ _ (by simp)]
    exact heap_alloc_new X _
  · have := heap_alloc_new (X.alloc (.cells #[.string nsk, .int .i64 (-1)] 82)) (.cells #[.string allS.lo, .string allS.hi, .slice (some ⟨X.heap.size, 0, none⟩) 1 1] 60)
    simpa using this
theorem St.save (h : St w V0 V A T s) {Tb n B : Nat} (hbd : Bd s Tb n) (h1 : Tb < 800000) (hf : Few s B) (hB : B ≤ 800000) : Calls Try.prog 15 #[.pointer (some ⟨A, 0, none⟩)] V fun e w' => SvAns V s e w' := by
  obtain ⟨S, h⟩ := h
  obtain ⟨S1, S2, P, M, N, G, lv, rv, ov, hx, _⟩ := h.sy
  exact save_any hx (fun l hl => ⟨Nat.le_trans (hf l hl) hB, by have := lwS_mem hl; have := hbd.lw; omega⟩)
theorem St.rec (h : St w V0 V A T s) {t : Td} (ht : TdOk t) : Calls Try.prog 18 #[.pointer (some ⟨A, 0, none⟩), tdV t] V fun e w' => e = .returned (.tuple #[.int .i64 ((recOf s.recs t).getD 0), .bool (recOf s.recs t).isSome]) ∧ Below V.heap.size V w' := by
  obtain ⟨S, h⟩ := h
  obtain ⟨S1, S2, P, M, N, G, lv, rv, ov, hx, _⟩ := h.sy
  exact record_any hx ht
end
end Go.Proofs.Ytcoaahlakkghhaa
