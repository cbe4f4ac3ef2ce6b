/- The walk of resolve. -/
import Derived.Test.YtcoaahlakkghhaaTa
import Derived.Test.YtcoaahlakkghhaaSr
namespace Go.Proofs.Ytcoaahlakkghhaa
open Go.RowKit
section
variable {ρ : Operand → Value} {X : World} {d : Option Tmp} {ty : TypeId} {ps : String} {af : Array Edge} {g : Option (Nat × Bool)}
theorem op_f47_8 {x : Operand} {B o : Nat} (e : ρ x = .pointer (some ⟨B, o, none⟩)) : (execOp ρ ⟨d, .fieldAddr 47 x 8, ty, ps, af, g⟩).run Try.prog X = .ok (.value (.pointer (some ⟨B, o + 12, none⟩))) X := by
  simp only [execOp, e]
  go_simp
theorem op_f92_6 {x : Operand} {B o : Nat} (e : ρ x = .pointer (some ⟨B, o, none⟩)) : (execOp ρ ⟨d, .fieldAddr 92 x 6, ty, ps, af, g⟩).run Try.prog X = .ok (.value (.pointer (some ⟨B, o + 6, none⟩))) X := by
  simp only [execOp, e]
  go_simp
theorem op_max3 {x y : Operand} {a b : Int} (e : ρ x = .int .i64 a) (e2 : ρ y = .int .i64 b) : (execOp ρ ⟨d, .call { callee := .builtin .max, args := #[x, y], argTypes := #[3, 3] }, ty, ps, af, g⟩).run Try.prog X = .ok (.value (.int .i64 (if a < b then b else a))) X := by
  simp only [execOp]
  simp [resolve, invoke, builtin, e, e2]
  go_simp
theorem op_storeN {x y : Operand} {B i : Nat} {n : Int} {u : Value} (e : ρ x = .pointer (some ⟨B, i, none⟩)) (e2 : ρ y = .int .i64 n) (c : X.cell? ⟨B, i, none⟩ = some u) (z : X.frozen? ⟨B, i, none⟩ = false) : (execOp ρ ⟨d, .store 3 x y, ty, ps, af, g⟩).run Try.prog X = .ok .skip (X.setCell ⟨B, i, none⟩ (.int .i64 n)) := by
  simp only [execOp, e, e2]
  go_simp
end
/-! ### Plain -/
def Sh.unlock (s : Sh) (t : Td) : Sh × List Wr := if lockI s.locks t < 0 then (s, []) else (s.cut (lockI s.locks t).toNat, ((s.locks[(lockI s.locks t).toNat]?).map Lk.writes).getD [])
def Sh.ended (s : Sh) (t : Td) : Sh := { s with over := s.over ++ [t] }
def Sh.raise (s : Sh) (n : Int) : Sh := { s with high := if s.high < n then n else s.high }
def Sh.resolve (s : Sh) (c : Cm) : Sh × Rz := if c.txn ∈ s.over then (s, rz0) else
  (if 0 < c.ts then (((s.ended c.txn).unlock c.txn).1.puts ((s.ended c.txn).unlock c.txn).2 c.ts).raise c.ts else ((s.ended c.txn).unlock c.txn).1, ⟨0, 0, td0, 0, true⟩)
theorem fidx_lt {α : Type} {p : α → Bool} {L : List α} {i : Nat} (h : fidx p L = (i : Int)) : i < L.length := by
  unfold fidx at h
  cases e : L.findIdx? p with
  | none =>
    rw [e] at h
    simp only at h
    omega
  | some j =>
    rw [e] at h
    simp only at h
    obtain ⟨hj, _⟩ := List.findIdx?_eq_some_iff_getElem.1 e
    omega
theorem unlock_rows (s : Sh) (t : Td) : (s.unlock t).1.rows = s.rows := by
  unfold Sh.unlock
  split <;> rfl
theorem unlock_len {s : Sh} {t : Td} {b : Nat} (h : ∀ l ∈ s.locks, l.writes.length ≤ b) : (s.unlock t).2.length ≤ b := by
  unfold Sh.unlock
  split
  · exact Nat.zero_le _
  · cases e : s.locks[(lockI s.locks t).toNat]? with
    | none => exact Nat.zero_le _
    | some l => exact h l (List.mem_of_getElem? e)
section
variable {w w1 w' X : World} {A : Nat} {S S' S1 S2 S1' : Nat → Prop} {s s' : Sh} {P M N : Nat} {G : List Gl} {lv rv ov lv' : Value}
theorem Sx.high (h : Sx w A S1 S2 s P M N G lv rv ov) (n : Int) (hw : w' = w.setCell ⟨A, 6, none⟩ (.int .i64 n)) : Sx w' A S1 S2 { s with high := n } P M N G lv rv ov ∧ Fr w w' (fun k => k = A) := by
  have hf : Fr w w' (fun k => k = A) := by rw [hw]; exact Fr.set (a := ⟨A, 6, none⟩) (Fr.refl w (fun j => j = A)) (Or.inl rfl) _
  obtain ⟨es, cl, hM⟩ := h.tm.isMap
  obtain ⟨es2, cl2, hN⟩ := h.en.isMap
  have tag : ∀ {e : TypeId}, e ≠ 92 → ∀ k, k = A → ∀ cs, w.heap[k]? ≠ some (.cells cs e (0, 0)) := by
    rintro e q1 k rfl cs hk
    rw [h.ob] at hk
    simp only [Option.some.injEq, Obj.cells.injEq] at hk
    exact q1 hk.2.1.symm
  have mapK : ∀ B es cl, w.heap[B]? = some (.map es cl) → ¬ B = A := by
    rintro B es cl hB q
    rw [q, h.ob] at hB
    cases hB
  refine ⟨{
    ob := by rw [hw]; exact set_blk (i := 6) h.ob _
    st := h.st.stays hf (fun k hk q => h.off k hk (by have q' : k = A := q; rw [q']; exact h.cA))
    lks := keep_row h.lks hf (tag (by decide))
    gl := h.gl
    sp := fun g hg => keep_row (h.sp g hg) hf (tag (by decide))
    wr := fun g hg => keep_row (h.wr g hg) hf (tag (by decide))
    rcs := keep_row h.rcs hf (tag (by decide))
    ovs := keep_row h.ovs hf (tag (by decide))
    tm := h.tm.like (hf.block M (h.lt M h.cM) (mapK M es cl hM))
    en := h.en.like (hf.block N (h.lt N h.cN) (mapK N es2 cl2 hN))
    mn := h.mn
    cA := h.cA
    cM := h.cM
    cN := h.cN
    cl := h.cl
    cr := h.cr
    co := h.co
    cs := h.cs
    cw := h.cw
    lt := fun k hk => Nat.lt_of_lt_of_le (h.lt k hk) hf.size
    off := h.off
    fl := h.fl
    fr := h.fr
    fo := h.fo }, hf⟩
theorem Step.next (hg : ∀ j, S' j → Gro S w w1 j) (hf : Fr w w1 S) (st : Step w1 A S' s' w') : Step w A S s' w' := by
  obtain ⟨S2, y, g, f⟩ := st
  refine ⟨S2, y, fun j q => ?_, hf.step f fun j q => ?_⟩
  · have z1 := hf.size
    have z2 := f.size
    rcases g j q with z | z
    · rcases hg j z with u | u
      · exact .inl u
      · exact .inr ⟨u.1, by omega⟩
    · exact .inr ⟨by omega, z.2⟩
  · rcases hg j q with u | u
    · exact .inl u
    · exact .inr u.1
theorem Step.own (h : Sx w' A S1 S2 s' P M N G lv rv ov) (hS : ∀ k, S k ↔ S1 k ∨ S2 k) (hf : Fr w w' S2) : Step w A S s' w' :=
  ⟨S, ⟨S1, S2, P, M, N, G, lv, rv, ov, h, hS⟩, fun _ q => .inl q, hf.mono fun k q => (hS k).2 (.inr q)⟩
theorem Step.grow (h : Sx w' A S1' S2 s' P M N G lv rv ov) (hS : ∀ k, S k ↔ S1 k ∨ S2 k) (hg : ∀ k, S1' k → Gro S1 w w' k) (hf : Fr w w' S1) : Step w A S s' w' :=
  ⟨fun k => S1' k ∨ S2 k, ⟨S1', S2, P, M, N, G, lv, rv, ov, h, fun _ => Iff.rfl⟩, fun k q => by
    rcases q with q | q
    · rcases hg k q with z | z
      · exact .inl ((hS k).2 (.inl z))
      · exact .inr z
    · exact .inl ((hS k).2 (.inr q)), hf.mono fun k q => (hS k).2 (.inl q)⟩
theorem unlock_any (h : Sx w A S1 S2 s P M N G lv rv ov) {t : Td} : Calls Try.prog 54 #[.pointer (some ⟨A, 0, none⟩), tdV t] w fun e w' => ∃ wa wc G' lv', e = .returned (.slice wa (s.unlock t).2.length wc) ∧ Sx w' A S1 S2 (s.unlock t).1 P M N G' lv' rv ov ∧ w'.ownsRow 0 55 3 (.slice wa (s.unlock t).2.length wc) (s.unlock t).2.length ((s.unlock t).2.flatMap wrL) ∧ (∀ k, (Value.slice wa (s.unlock t).2.length wc).ownBlock = some k → S2 k) ∧ Fr w w' S2 := by
  by_cases hneg : lockI s.locks t < 0
  · have e : s.unlock t = (s, []) := if_pos hneg
    rw [e]
    refine (unlock_no h hneg).mono ?_
    rintro e w' ⟨rfl, b⟩
    exact ⟨none, 0, G, lv, rfl, h.on b, World.ownsRow_nil _ _ _ _, (fun k hk => by cases hk), Fr.ofBelow S2 b⟩
  · obtain ⟨i, hi⟩ : ∃ i : Nat, lockI s.locks t = (i : Int) := ⟨_, (Int.toNat_of_nonneg (by omega)).symm⟩
    have hlt : i < s.locks.length := fidx_lt hi
    have hG : s.locks.length = G.length := by rw [← h.gl]; simp
    have hiG : i < G.length := by omega
    have hlk : s.locks[i]? = some G[i].1 := by rw [← h.gl, List.getElem?_map, List.getElem?_eq_getElem hiG]; rfl
    have e : s.unlock t = (s.cut i, G[i].1.writes) := by
      unfold Sh.unlock
      rw [if_neg hneg, hi, Int.toNat_natCast, hlk]
      rfl
    rw [e]
    obtain ⟨wa, wc, ewv⟩ := own_shape (h.wr _ (List.getElem_mem hiG))
    refine (unlock_yes h hiG hi).mono ?_
    rintro e w' ⟨rfl, lv', k1, k2, k3⟩
    rw [ewv] at k3
    refine ⟨wa, wc, _, lv', by rw [ewv], k1, k3, fun k hk => ?_, k2⟩
    rw [← ewv] at hk
    exact h.cw _ (List.getElem_mem hiG) k hk
end
section
variable {w w' : World} {A : Nat} {S : Nat → Prop} {s : Sh} {c : Cm} {cs : Array Value} {ra wa : Option Addr} {rc wc : Nat}
set_option maxHeartbeats 4000000 in
set_option maxRecDepth 100000 in
theorem resolve_any (hy : Sy w A S s) (hc : Cc w c cs ra rc wa wc) (ht : TdOk c.txn) (hfew : s.over.length < 800000) {bw bd : Nat} (hlw : ∀ l ∈ s.locks, l.writes.length ≤ bw) (hb1 : s.rows.length + bw < 800000) (hb2 : ∀ r ∈ s.rows, r.list.length ≤ bd) (hb3 : bd + bw < 800000) (a0 : Int) : Calls Try.prog 30 #[.pointer (some ⟨A, 0, none⟩), .int .i64 a0, .agg cs] w fun e w' => e = .returned (rzV (s.resolve c).2) ∧ Step w A S (s.resolve c).1 w' := by
  obtain ⟨W, hW⟩ : ∃ W, W = (w.alloc (.cells cs 47)).alloc (.cells #[.int .i64 0, .int .i64 0, .int .i64 0, .int .i64 0, .int .i64 0, .int .i64 0, .int .i64 0, .int .i64 0, .bool false] 52) := ⟨_, rfl⟩
  obtain ⟨hb, jY, jZ, hZW⟩ := box47 hW
  obtain ⟨Y, hY⟩ : ∃ Y, w.heap.size = Y := ⟨_, rfl⟩
  obtain ⟨Z, hZ⟩ : ∃ Z, Y + 1 = Z := ⟨_, rfl⟩
  rw [hY] at jY jZ hZW
  rw [hZ] at jZ hZW
  have b4 : W.cell? ⟨Y, 4, none⟩ = some (.int .i64 c.txn.1) := (cell_blk jY 4).trans hc.t0
  have b5 : W.cell? ⟨Y, 5, none⟩ = some (.int .i64 c.txn.2.1) := (cell_blk jY 5).trans hc.t1
  have b6 : W.cell? ⟨Y, 6, none⟩ = some (.int .i64 c.txn.2.2) := (cell_blk jY 6).trans hc.t2
  have hZw : w.heap.size ≤ Z := by omega
  have hyl := hy.lt
  have HSY := Lib.hid hy
  have HYW := Lib.hid (hy.on hb)
  have HSL := Lib.hid hyl
  obtain ⟨S1, S2, P, M, N, G, lv, rv, ov, hx, hS⟩ := hy.on hb
  have HW := Lib.hid hW
  have HY := Lib.hid hY
  have HZ := Lib.hid hZ
  have HB := Lib.hid hb
  have HJZ := Lib.hid jZ
  have HJY := Lib.hid jY
  have HX := Lib.hid hx
  have HSS := Lib.hid hS
  have hov := isOver_any hx ht
  obtain ⟨q, hq⟩ : ∃ q, decide (c.txn ∈ s.over) = q := ⟨_, rfl⟩
  rw [hq] at hov
  have HQ := Lib.hid hq
  have HTS : Hid (cs[12]? = some (.int .i64 c.ts)) := hc.ts
  clear hW hY hZ hb jY jZ hx hS hq hy hc hyl
  go_enter Try.func30, Try.ntmps30
  go_upto_region 1 with fail
  rw [← HW.out, HY.out, HZ.out]
  go_wp2_with fail
  refine hov.mono ?_
  rintro e w1 ⟨rfl, b1⟩
  have jZ1 := (b1.block Z (blk_lt HJZ.out)).trans HJZ.out
  have jY1 := (b1.block Y (blk_lt HJY.out)).trans HJY.out
  have HB1 := Lib.hid (HB.out.trans (b1.mono HB.out.size))
  have HX1 := Lib.hid (HX.out.on b1)
  have hZ1 : Z < w1.heap.size := blk_lt jZ1
  have hY1 : Y < w1.heap.size := blk_lt jY1
  have HJ1 := Lib.hid jZ1
  have HJY1 := Lib.hid jY1
  cases q with
  | true =>
    obtain ⟨X, hst, jX, fX⟩ := put_rz jZ1 rfl rz0
    have HR : Hid (s.resolve c = (s, rz0)) := by show _ = _; unfold Sh.resolve; rw [if_pos (of_decide_eq_true HQ.out)]
    have HA : Hid (Step w A S s X) := Step.close HB1.out (Step.same (HYW.out.on b1) (Below.refl _ _)) HSL.out fX hZw hZ1
    have HJX := Lib.hid jX
    clear jX fX b1 hov jZ1 jY1
    go_wp2_with (refine wpl_store _ _ rfl (by simp [Act.eval]) (by simp [Act.eval, rz0]) hst ?_)
    refine bodyPost_ret (ret_rz HJX.out Try.results30 rfl) rfl ?_
    rw [HR.out]
    exact ⟨rfl, HA.out⟩
  | false =>
    have c4 := cell_on b1 b4
    have c5 := cell_on b1 b5
    have c6 := cell_on b1 b6
    have hen := end_any HX1.out HSS.out ht hfew
    clear b1 hov jZ1 jY1 b4 b5 b6
    go_wp2_with fail
    refine hen.mono ?_
    rintro e w2 ⟨rfl, S', hy2, hg2, hf2⟩
    have hN : ∀ k, w.heap.size ≤ k → k < w1.heap.size → ¬ S' k := fun k z1 z2 z3 => by
      rcases hg2 k z3 with u | u
      · have := HSL.out k u
        omega
      · omega
    have hNS : ∀ k, w.heap.size ≤ k → ¬ S k := fun k z1 z3 => by
      have := HSL.out k z3
      omega
    have hYw : w.heap.size ≤ Y := by have := HY.out; omega
    have jY2 := (hf2.block Y hY1 (hNS Y hYw)).trans HJY1.out
    have jZ2 := (hf2.block Z hZ1 (hNS Z hZw)).trans HJ1.out
    obtain ⟨T1, T2, P2, M2, N2, G2, lv2, rv2, ov2, hx2, hT⟩ := hy2
    have hun := unlock_any hx2 (t := c.txn)
    obtain ⟨u, hu⟩ : ∃ u, (s.ended c.txn).unlock c.txn = u := ⟨_, rfl⟩
    have hur : u.1.rows = s.rows := by rw [← hu]; exact unlock_rows _ _
    have hul : u.2.length ≤ bw := by rw [← hu]; exact unlock_len (s := s.ended c.txn) hlw
    change Calls _ _ _ _ (fun e w' => ∃ wa wc G' lv', e = .returned (.slice wa ((s.ended c.txn).unlock c.txn).2.length wc) ∧ Sx w' A T1 T2 ((s.ended c.txn).unlock c.txn).1 P2 M2 N2 G' lv' rv2 ov2 ∧ w'.ownsRow 0 55 3 (.slice wa ((s.ended c.txn).unlock c.txn).2.length wc) ((s.ended c.txn).unlock c.txn).2.length (((s.ended c.txn).unlock c.txn).2.flatMap wrL) ∧ (∀ k, (Value.slice wa ((s.ended c.txn).unlock c.txn).2.length wc).ownBlock = some k → T2 k) ∧ Fr w2 w' T2) at hun
    rw [hu] at hun
    have HU := Lib.hid hu
    have HG2 := Lib.hid hg2
    have HF2 := Lib.hid hf2
    have HTT := Lib.hid hT
    have HN := Lib.hid hN
    have nY : ¬ T1 Y ∧ ¬ T2 Y := ⟨fun z => hN Y hYw hY1 ((hT Y).2 (.inl z)), fun z => hN Y hYw hY1 ((hT Y).2 (.inr z))⟩
    have nZ : ¬ T1 Z ∧ ¬ T2 Z := ⟨fun z => hN Z hZw hZ1 ((hT Z).2 (.inl z)), fun z => hN Z hZw hZ1 ((hT Z).2 (.inr z))⟩
    have hY2 : Y < w2.heap.size := blk_lt jY2
    have hZ2 : Z < w2.heap.size := blk_lt jZ2
    have d4 : w2.cell? ⟨Y, 4, none⟩ = some (.int .i64 c.txn.1) := by rw [← c4]; exact (cell_blk jY2 4).trans (cell_blk HJY1.out 4).symm
    have d5 : w2.cell? ⟨Y, 5, none⟩ = some (.int .i64 c.txn.2.1) := by rw [← c5]; exact (cell_blk jY2 5).trans (cell_blk HJY1.out 5).symm
    have d6 : w2.cell? ⟨Y, 6, none⟩ = some (.int .i64 c.txn.2.2) := by rw [← c6]; exact (cell_blk jY2 6).trans (cell_blk HJY1.out 6).symm
    have HJY2 := Lib.hid jY2
    have HJZ2 := Lib.hid jZ2
    clear c4 c5 c6 hen jY2 jZ2 hN hNS hT hf2 hg2 hu
    go_wp2_with fail
    refine hun.mono ?_
    rintro e w3 ⟨wa3, wc3, G3, lv3, rfl, hx3, hr3, hcv3, hf3⟩
    have jY3 := (hf3.block Y hY2 nY.2).trans HJY2.out
    have jZ3 := (hf3.block Z hZ2 nZ.2).trans HJZ2.out
    have hY3 : Y < w3.heap.size := blk_lt jY3
    have hZ3 : Z < w3.heap.size := blk_lt jZ3
    have c12 : w3.cell? ⟨Y, 12, none⟩ = some (.int .i64 c.ts) := (cell_blk jY3 12).trans HTS.out
    have HST3 : Hid (Step w1 A S u.1 w3) := Step.next HG2.out HF2.out (Step.own hx3 HTT.out hf3)
    have HX3 := Lib.hid hx3
    have HJY3 := Lib.hid jY3
    have HJZ3 := Lib.hid jZ3
    have HF3 := Lib.hid hf3
    by_cases hts : 0 < c.ts
    · have hwr := write_any hx3 hr3 hcv3 c.ts (bd := bd) (by rw [hur]; omega) (by rw [hur]; exact hb2) (by omega)
      have HR : Hid (s.resolve c = ((u.1.puts u.2 c.ts).raise c.ts, ⟨0, 0, td0, 0, true⟩)) := by show _ = _; unfold Sh.resolve; rw [if_neg (of_decide_eq_false HQ.out), if_pos hts, HU.out]
      obtain ⟨n3, hn3⟩ : ∃ n3, u.2.length = n3 := ⟨_, rfl⟩
      rw [hn3] at hwr
      clear d4 d5 d6 hun hx3 hr3 hcv3 hf3 jY3 jZ3 hur hul
      rw [hn3]
      clear hn3
      go_wp2_with fail
      refine hwr.mono ?_
      rintro e w4 ⟨rfl, T3, hx4, hg4, hf4⟩
      have jY4 := (hf4.block Y hY3 nY.1).trans HJY3.out
      have jZ4 := (hf4.block Z hZ3 nZ.1).trans HJZ3.out
      have e12 : w4.cell? ⟨Y, 12, none⟩ = some (.int .i64 c.ts) := (cell_blk jY4 12).trans HTS.out
      have a6 : w4.cell? ⟨A, 6, none⟩ = some (.int .i64 (u.1.puts u.2 c.ts).high) := cell_blk hx4.ob 6
      have HX4 := Lib.hid hx4
      have HG4 := Lib.hid hg4
      have HF4 := Lib.hid hf4
      have HJZ4 := Lib.hid jZ4
      obtain ⟨hh, hhh⟩ : ∃ hh, (u.1.puts u.2 c.ts).high = hh := ⟨_, rfl⟩
      rw [hhh] at a6
      have HHH := Lib.hid hhh
      clear hwr hx4 hg4 hf4 jY4 jZ4 c12 hhh
      go_upto_region 7 with fail
      refine wp_region_last (fun X9 => Below w4.heap.size w4 X9) (fun _ _ => True) [
        fun v9 _ => v9 = .pointer (some ⟨A, 0, none⟩),
        fun v9 _ => v9 = .pointer (some ⟨A, 0, none⟩),
        fun v9 _ => v9 = .pointer (some ⟨A, 0, none⟩),
        fun v9 _ => v9 = .pointer (some ⟨A, 6, none⟩),
        fun v9 _ => v9 = .int .i64 hh,
        fun v9 _ => v9 = .pointer (some ⟨Y, 12, none⟩),
        fun v9 _ => v9 = .int .i64 c.ts,
        fun v9 _ => v9 = .int .i64 (if hh < c.ts then c.ts else hh),
        fun v9 _ => v9 = .pointer (some ⟨A, 0, none⟩),
        fun v9 _ => v9 = .pointer (some ⟨A, 6, none⟩)]
        (fun _ X8 => ∃ X9, X8 = X9.setCell ⟨A, 6, none⟩ (.int .i64 (if hh < c.ts then c.ts else hh)) ∧ Below w4.heap.size w4 X9) rfl (by kernel_rfl) (by kernel_rfl) (by kernel_rfl) (by kernel_rfl) ?st ?g0 ?os ?la ?en
      case st => exact ⟨fun _ _ _ _ h => h, fun _ _ _ _ h => h, fun _ _ _ _ h => h, fun _ _ _ _ h => h, fun _ _ _ _ h => h, fun _ _ _ _ h => h, fun _ _ _ _ h => h, fun _ _ _ _ h => h, fun _ _ _ _ h => h, fun _ _ _ _ h => h, trivial⟩
      case g0 => exact ⟨rfl, rfl, rfl, Nat.le_refl _, fun _ _ => rfl⟩
      case os =>
        refine ⟨?_, ?_, ?_, ?_, ?_, ?_, ?_, ?_, ?_, ?_, trivial⟩
        · exact ⟨rfl, fun ρ X9 hg ho hc hf hr => Runs.val _ (op_move (show ρ (.tmp 0) = .pointer (some ⟨A, 0, none⟩) from ho 0 rfl)) ⟨hg, trivial, rfl⟩⟩
        · exact ⟨rfl, fun ρ X9 hg ho hc hf hr => Runs.val _ (op_move (show ρ (.tmp 0) = .pointer (some ⟨A, 0, none⟩) from ho 0 rfl)) ⟨hg, trivial, rfl⟩⟩
        · exact ⟨rfl, fun ρ X9 hg ho hc hf hr => Runs.val _ (op_nil (show ρ (.tmp 30) = .pointer (some ⟨A, 0, none⟩) from hr 1 30 rfl rfl)) ⟨hg, trivial, rfl⟩⟩
        · exact ⟨rfl, fun ρ X9 hg ho hc hf hr => Runs.val _ (op_f92_6 (show ρ (.tmp 31) = .pointer (some ⟨A, 0, none⟩) from hr 2 31 rfl rfl)) ⟨hg, trivial, rfl⟩⟩
        · exact ⟨rfl, fun ρ X9 hg ho hc hf hr => Runs.val _ (op_load3 (show ρ (.tmp 32) = .pointer (some ⟨A, 6, none⟩) from hr 3 32 rfl rfl) (cell_on hg a6)) ⟨hg, trivial, rfl⟩⟩
        · exact ⟨rfl, fun ρ X9 hg ho hc hf hr => Runs.val _ (op_f47_8 (show ρ (.tmp 5) = .pointer (some ⟨Y, 0, none⟩) from ho 5 rfl)) ⟨hg, trivial, rfl⟩⟩
        · exact ⟨rfl, fun ρ X9 hg ho hc hf hr => Runs.val _ (op_load3 (show ρ (.tmp 34) = .pointer (some ⟨Y, 12, none⟩) from hr 5 34 rfl rfl) (cell_on hg e12)) ⟨hg, trivial, rfl⟩⟩
        · exact ⟨rfl, fun ρ X9 hg ho hc hf hr => Runs.val _ (op_max3 (show ρ (.tmp 33) = .int .i64 hh from hr 4 33 rfl rfl) (show ρ (.tmp 35) = .int .i64 c.ts from hr 6 35 rfl rfl)) ⟨hg, trivial, rfl⟩⟩
        · exact ⟨rfl, fun ρ X9 hg ho hc hf hr => Runs.val _ (op_nil (show ρ (.tmp 29) = .pointer (some ⟨A, 0, none⟩) from hr 0 29 rfl rfl)) ⟨hg, trivial, rfl⟩⟩
        · exact ⟨rfl, fun ρ X9 hg ho hc hf hr => Runs.val _ (op_f92_6 (show ρ (.tmp 37) = .pointer (some ⟨A, 0, none⟩) from hr 8 37 rfl rfl)) ⟨hg, trivial, rfl⟩⟩
      case la =>
        refine ⟨rfl, fun ρ X9 hg ho hc hf hr => ?_⟩
        have hx9 := HX4.out.on hg
        exact Runs.skips (op_storeN (show ρ (.tmp 38) = .pointer (some ⟨A, 6, none⟩) from hr 9 38 (by decide) rfl) (show ρ (.tmp 36) = .int .i64 (if hh < c.ts then c.ts else hh) from hr 7 36 (by decide) rfl) (cell_blk hx9.ob 6) (frozen_blk hx9.ob 6)) ⟨X9, rfl, hg⟩
      case en =>
        intro a X9 Xb v9 hF hs hd ho hv9 hr
        obtain ⟨x9, hx, hxt⟩ := act_put hs hd ho
        change a = putAll _ x9 [29, 30, 31, 32, 33, 34, 35, 36, 37, 38] at hx
        simp only [putAll, Act.put, List.setIfInBounds_toArray, List.set_cons_zero, List.set_cons_succ] at hx
        obtain ⟨X8, rfl, b8⟩ := hF
        obtain ⟨V, hV⟩ : ∃ V, V = X8.setCell ⟨A, 6, none⟩ (.int .i64 (if hh < c.ts then c.ts else hh)) := ⟨_, rfl⟩
        obtain ⟨hxV, fV⟩ := (HX4.out.on b8).high _ hV
        have gV : ∀ k, T3 k → Gro T1 w3 V k := fun k q => by
          have z1 := b8.size
          have z2 := fV.size
          rcases HG4.out k q with z | z
          · exact .inl z
          · exact .inr ⟨z.1, by omega⟩
        have f4 : Fr w3 X8 T1 := HF4.out.below b8
        have cA3 := HX3.out.cA
        have nA : Z ≠ A := fun e => nZ.2 (by rw [e]; exact cA3)
        have jZV := (fV.block Z (Nat.lt_of_lt_of_le (blk_lt HJZ4.out) b8.size) nA).trans ((b8.block Z (blk_lt HJZ4.out)).trans HJZ4.out)
        have HSV : Hid (Step w1 A S ((u.1.puts u.2 c.ts).raise c.ts) V) := by
          have e1 : (u.1.puts u.2 c.ts).raise c.ts = { (u.1.puts u.2 c.ts) with high := if hh < c.ts then c.ts else hh } := by rw [← HHH.out]; rfl
          rw [e1]
          refine Step.next HG2.out (HF2.out) ?_
          refine Step.next (S' := S') (w1 := w3) (fun _ q => .inl q) (HF3.out.mono fun k q => (HTT.out k).2 (.inr q)) ?_
          exact ⟨fun k => T3 k ∨ T2 k, ⟨T3, T2, _, _, _, _, _, _, _, hxV, fun _ => Iff.rfl⟩, fun k q => (by
            rcases q with q | q
            · rcases gV k q with z | z
              · exact .inl ((HTT.out k).2 (.inl z))
              · exact .inr z
            · exact .inl ((HTT.out k).2 (.inr q))), (f4.mono fun k q => (HTT.out k).2 (.inl q)).trans (fV.mono fun k q => (by
            have q' : k = A := q
            rw [q']
            exact (HTT.out A).2 (.inr cA3)))⟩
        obtain ⟨X, hst, jX, fX⟩ := put_rz jZV rfl ⟨0, 0, td0, 0, true⟩
        have HA : Hid (Step w A S ((u.1.puts u.2 c.ts).raise c.ts) X) := Step.close HB1.out HSV.out HSL.out fX hZw hZ1
        have HJX := Lib.hid jX
        have HV := Lib.hid hV
        clear hs hd ho hr hxt hv9 hxV fV gV f4 jZV jX fX b8 hV
        subst hx
        rw [← HV.out]
        go_wp2_with (refine wpl_store _ _ rfl (by simp [Act.eval]) (by simp [Act.eval]) hst ?_)
        refine bodyPost_ret (ret_rz HJX.out Try.results30 rfl) rfl ?_
        rw [HR.out]
        exact ⟨rfl, HA.out⟩
    · have HR : Hid (s.resolve c = (u.1, ⟨0, 0, td0, 0, true⟩)) := by show _ = _; unfold Sh.resolve; rw [if_neg (of_decide_eq_false HQ.out), if_neg hts, HU.out]
      obtain ⟨X, hst, jX, fX⟩ := put_rz jZ3 rfl ⟨0, 0, td0, 0, true⟩
      have HA : Hid (Step w A S u.1 X) := Step.close HB1.out HST3.out HSL.out fX hZw hZ1
      have HJX := Lib.hid jX
      clear jX fX d4 d5 d6 hun hx3 hr3 hcv3 hf3 jY3 jZ3 hur hul
      go_wp2_with (refine wpl_store _ _ rfl (by simp [Act.eval]) (by simp [Act.eval]) hst ?_)
      refine bodyPost_ret (ret_rz HJX.out Try.results30 rfl) rfl ?_
      rw [HR.out]
      exact ⟨rfl, HA.out⟩
end
end Go.Proofs.Ytcoaahlakkghhaa
