/- The walk of prepare. -/
import Derived.Test.YtcoaahlakkghhaaGk
namespace Go.Proofs.Ytcoaahlakkghhaa
open Go.RowKit
def Sh.lock (s : Sh) (l : Lk) : Sh := { s with locks := s.locks ++ [l] }
def over0 : Rz := ⟨132, 0, td0, 0, false⟩
def Sh.prepare (s : Sh) (c : Cm) : Sh × Rz := if c.txn ∈ s.over then (s, over0) else if 0 ≤ lockI s.locks c.txn then (s, ⟨0, s.high, td0, 0, false⟩) else if (against s c).err ≠ 0 then (s, against s c) else (s.lock (newL c), ⟨0, s.high, td0, 0, true⟩)
section
variable {w w' X : World} {A : Nat} {S1 S2 : Nat → Prop} {s : Sh} {P M N : Nat} {G : List Gl} {lv rv ov lv' sv wv : Value}
theorem Sx.addLock (h : Sx w A S1 S2 s P M N G lv rv ov) {l : Lk} (hf : Fr w w' (fun k => k = A ∨ lv.ownBlock = some k))
    (hob : w'.heap[A]? = some (.cells #[.pointer (some ⟨P, 0, none⟩), lv', rv, .map (some M), ov, .map (some N), .int .i64 s.high] 92 (0, 0)))
    (ho : w'.ownsRow 0 68 7 lv' (G.length + 1) ((G ++ [(l, sv, wv)]).flatMap glL)) (hb : ∀ j, lv'.ownBlock = some j → lv.ownBlock = some j ∨ w.heap.size ≤ j)
    (h1 : w'.ownsRow w.heap.size 57 2 sv l.spans.length (l.spans.flatMap snL)) (h2 : w'.ownsRow w.heap.size 55 3 wv l.writes.length (l.writes.flatMap wrL)) (hfew : G.length < 800000) :
    Sx w' A S1 (Gro S2 w w') (s.lock l) P M N (G ++ [(l, sv, wv)]) lv' rv ov ∧ Fr w w' S2 := by
  obtain ⟨es, cl, hM⟩ := h.tm.isMap
  obtain ⟨es2, cl2, hN⟩ := h.en.isMap
  have tag : ∀ {e : TypeId}, e ≠ 92 → e ≠ 68 → ∀ k, (k = A ∨ lv.ownBlock = some k) → ∀ cs, w.heap[k]? ≠ some (.cells cs e (0, 0)) := by
    rintro e q1 q2 k (rfl | q) cs hk
    · rw [h.ob] at hk
      simp only [Option.some.injEq, Obj.cells.injEq] at hk
      exact q1 hk.2.1.symm
    · obtain ⟨cs', t⟩ := own_tag h.lks k q
      rw [t] at hk
      simp only [Option.some.injEq, Obj.cells.injEq] at hk
      exact q2 hk.2.1.symm
  have mapK : ∀ B es cl, w.heap[B]? = some (.map es cl) → ¬ (B = A ∨ lv.ownBlock = some B) := by
    rintro B es cl hB (q | q)
    · rw [q, h.ob] at hB
      cases hB
    · obtain ⟨cs, t⟩ := own_tag h.lks B q
      rw [hB] at t
      cases t
  have hT : ∀ k, (k = A ∨ lv.ownBlock = some k) → S2 k := by
    rintro k (rfl | q)
    · exact h.cA
    · exact h.cl k q
  have hmem : ∀ {g : Gl}, g ∈ G ++ [(l, sv, wv)] → g ∈ G ∨ g = (l, sv, wv) := fun hg => by
    rcases List.mem_append.1 hg with q | q
    · exact .inl q
    · exact .inr (List.mem_singleton.1 q)
  refine ⟨{ ob := hob, st := h.st.stays hf (fun k hk q => h.off k hk (hT k q)), lks := ?_, gl := ?_,
            sp := fun g hg => ?_, wr := fun g hg => ?_,
            rcs := keep_row h.rcs hf (tag (by decide) (by decide)), ovs := keep_row h.ovs hf (tag (by decide) (by decide)), tm := h.tm.like (hf.block M (h.lt M h.cM) (mapK M es cl hM)), en := h.en.like (hf.block N (h.lt N h.cN) (mapK N es2 cl2 hN)), mn := h.mn,
            cA := .inl h.cA, cM := .inl h.cM, cN := .inl h.cN, cl := fun k hk => ?_, cr := fun k hk => .inl (h.cr k hk), co := fun k hk => .inl (h.co k hk),
            cs := fun g hg k hk => ?_, cw := fun g hg k hk => ?_, lt := fun k hk => ?_, off := fun k h1 h2 => ?_, fl := ?_, fr := h.fr, fo := h.fo }, hf.mono hT⟩
  · rw [List.length_append]
    exact ho
  · rw [List.map_append, h.gl]
    rfl
  · rcases hmem hg with q | rfl
    · exact keep_row (h.sp g q) hf (tag (by decide) (by decide))
    · exact own_mono h1 (Nat.zero_le _)
  · rcases hmem hg with q | rfl
    · exact keep_row (h.wr g q) hf (tag (by decide) (by decide))
    · exact own_mono h2 (Nat.zero_le _)
  · rcases hb k hk with q | q
    · exact .inl (h.cl k q)
    · exact .inr ⟨q, (ho.lt k hk).2⟩
  · rcases hmem hg with q | rfl
    · exact .inl (h.cs g q k hk)
    · exact .inr (h1.lt k hk)
  · rcases hmem hg with q | rfl
    · exact .inl (h.cw g q k hk)
    · exact .inr (h2.lt k hk)
  · rcases hk with q | q
    · exact Nat.lt_of_lt_of_le (h.lt k q) hf.size
    · exact q.2
  · rcases h2 with q | q
    · exact h.off k h1 q
    · have := h.st.lt k h1
      omega
  · rw [List.length_append]
    show G.length + 1 ≤ 800000
    omega
end
section
variable {ρ : Operand → Value} {X : World} {d : Option Tmp} {ty : TypeId} {ps : String} {af : Array Edge} {g : Option (Nat × Bool)}
theorem op_s31 {x : Operand} {l : Lk} {sa wa : Option Addr} {sc wc : Nat} (e : ρ x = lkV l sa sc wa wc) : (execOp ρ ⟨d, .buildSlice 31 1 #[(0, x)], ty, ps, af, g⟩).run Try.prog X = .ok (.value (.slice (some ⟨X.heap.size, 0, none⟩) 1 1)) (X.alloc (lkO l sa sc wa wc)) := by
  simp only [execOp]
  simp [e]
  go_simp
theorem call53 {v : Value} : Sem.run Try.prog (callFunc 53 #[v]) X = .ok (.enter 53 #[v]) X := by go_simp
end
section
variable {w w' : World} {A : Nat} {S : Nat → Prop} {s : Sh} {c : Cm} {cs : Array Value} {ra wa : Option Addr} {rc wc : Nat}
set_option maxHeartbeats 4000000 in
set_option maxRecDepth 100000 in
theorem prepare_any (hy : Sy w A S s) (hc : Cc w c cs ra rc wa wc) (ht : TdOk c.txn) (hfew : s.locks.length < 800000) (hz : c.reads.length ≤ 800000) (hz2 : c.writes.length ≤ 800000) (hap : ∀ X, Fr w X S → Cc X c cs ra rc wa wc) (a0 : Int) : Calls Try.prog 27 #[.pointer (some ⟨A, 0, none⟩), .int .i64 a0, .agg cs] w fun e w' => e = .returned (rzV (s.prepare c).2) ∧ Step w A S (s.prepare c).1 w' := by
  obtain ⟨W, hW⟩ : ∃ W, W = (w.alloc (.cells cs 47)).alloc (.cells #[.int .i64 0, .int .i64 0, .int .i64 0, .int .i64 0, .int .i64 0, .int .i64 0, .int .i64 0, .int .i64 0, .bool false] 52) := ⟨_, rfl⟩
  obtain ⟨hb, jY, jZ, hZW⟩ := box47 hW
  obtain ⟨Y, hY⟩ : ∃ Y, w.heap.size = Y := ⟨_, rfl⟩
  obtain ⟨Z, hZ⟩ : ∃ Z, Y + 1 = Z := ⟨_, rfl⟩
  rw [hY] at jY jZ hZW
  rw [hZ] at jZ hZW
  have b4 : W.cell? ⟨Y, 4, none⟩ = some (.int .i64 c.txn.1) := (cell_blk jY 4).trans hc.t0
  have b5 : W.cell? ⟨Y, 5, none⟩ = some (.int .i64 c.txn.2.1) := (cell_blk jY 5).trans hc.t1
  have b6 : W.cell? ⟨Y, 6, none⟩ = some (.int .i64 c.txn.2.2) := (cell_blk jY 6).trans hc.t2
  have hZw : w.heap.size ≤ Z := by omega
  have hyl := hy.lt
  have HSY := Lib.hid hy
  have HYW := Lib.hid (hy.on hb)
  have HSL := Lib.hid hyl
  obtain ⟨S1, S2, P, M, N, G, lv, rv, ov, hx, hS⟩ := hy.on hb
  have HW := Lib.hid hW
  have HY := Lib.hid hY
  have HZ := Lib.hid hZ
  have HB := Lib.hid hb
  have HJZ := Lib.hid jZ
  have HJY := Lib.hid jY
  have HX := Lib.hid hx
  have HSS := Lib.hid hS
  have hov := isOver_any hx ht
  obtain ⟨qo, hqo⟩ : ∃ qo, decide (c.txn ∈ s.over) = qo := ⟨_, rfl⟩
  rw [hqo] at hov
  have HQO := Lib.hid hqo
  have HC := Lib.hid (hc.on hb)
  have HAP := Lib.hid hap
  clear hW hY hZ hb jY jZ hx hS hqo hy hc hyl hap
  go_enter Try.func27, Try.ntmps27
  go_upto_region 1 with fail
  rw [← HW.out, HY.out, HZ.out]
  go_wp2_with fail
  refine hov.mono ?_
  rintro e w1 ⟨rfl, b1⟩
  have jZ1 := (b1.block Z (blk_lt HJZ.out)).trans HJZ.out
  have HJY1 := Lib.hid ((b1.block Y (blk_lt HJY.out)).trans HJY.out)
  have HB1 := Lib.hid (HB.out.trans (b1.mono HB.out.size))
  have HX1 := Lib.hid (HX.out.on b1)
  have HY1 := Lib.hid (HYW.out.on b1)
  have HC1 := Lib.hid (HC.out.on b1)
  have hZ1 : Z < w1.heap.size := blk_lt jZ1
  have HJ1 := Lib.hid jZ1
  cases qo with
  | true =>
    obtain ⟨X, hst, jX, fX⟩ := put_rz jZ1 rfl over0
    have HR : Hid (s.prepare c = (s, over0)) := by show _ = _; unfold Sh.prepare; rw [if_pos (of_decide_eq_true HQO.out)]
    have HA : Hid (Step w A S s X) := Step.close HB1.out (Step.same HY1.out (Below.refl _ _)) HSL.out fX hZw hZ1
    have HJX := Lib.hid jX
    clear jX fX b1 hov jZ1
    go_wp2_with (refine wpl_store _ _ rfl (by simp [Act.eval]) (by simp [Act.eval, over0]) hst ?_)
    refine bodyPost_ret (ret_rz HJX.out Try.results27 rfl) rfl ?_
    rw [HR.out]
    exact ⟨rfl, HA.out⟩
  | false =>
    have c4 := cell_on b1 b4
    have c5 := cell_on b1 b5
    have c6 := cell_on b1 b6
    have hlo := lockOf_any HX1.out (t := c.txn)
    obtain ⟨n, hn⟩ : ∃ n, lockI s.locks c.txn = n := ⟨_, rfl⟩
    rw [hn] at hlo
    have HN := Lib.hid hn
    clear b1 hov jZ1 hn b4 b5 b6
    go_wp2_with fail
    refine hlo.mono ?_
    rintro e w2 ⟨rfl, b2⟩
    have jZ2 := (b2.block Z (blk_lt HJ1.out)).trans HJ1.out
    have jY2 := (b2.block Y (blk_lt HJY1.out)).trans HJY1.out
    have HB2 := Lib.hid (HB1.out.trans (b2.mono HB1.out.size))
    have hx2 := HX1.out.on b2
    have HX2 := Lib.hid hx2
    have HY2 := Lib.hid (HY1.out.on b2)
    have HC2 := Lib.hid (HC1.out.on b2)
    have hZ2 : Z < w2.heap.size := blk_lt jZ2
    have HJ2 := Lib.hid jZ2
    have HJY2 := Lib.hid jY2
    have a6 : w2.cell? ⟨A, 6, none⟩ = some (.int .i64 s.high) := cell_blk hx2.ob 6
    by_cases hpos : 0 ≤ n
    · obtain ⟨X, hst, jX, fX⟩ := put_rz jZ2 rfl ⟨0, s.high, td0, 0, false⟩
      have HR : Hid (s.prepare c = (s, ⟨0, s.high, td0, 0, false⟩)) := by show _ = _; unfold Sh.prepare; rw [if_neg (of_decide_eq_false HQO.out), HN.out, if_pos hpos]
      have HA : Hid (Step w A S s X) := Step.close HB2.out (Step.same HY2.out (Below.refl _ _)) HSL.out fX hZw hZ2
      have HJX := Lib.hid jX
      clear jX fX b2 hlo jZ2 jY2 hx2
      go_wp2_with (refine wpl_store _ _ rfl (by simp [Act.eval]) (by simp [Act.eval]) hst ?_)
      refine bodyPost_ret (ret_rz HJX.out Try.results27 rfl) rfl ?_
      rw [HR.out]
      exact ⟨rfl, HA.out⟩
    · have hag := against_any HX2.out HC2.out
      obtain ⟨r, hr⟩ : ∃ r, against s c = r := ⟨_, rfl⟩
      rw [hr] at hag
      have HRR := Lib.hid hr
      have ldY : (Instr.loadAt 47 (.pointer (some ⟨Y, 0, none⟩))).run Try.prog w2 = .ok (.agg cs) w2 := load_row jY2 Try.underlying47 rfl (by rw [HC2.out.sz]; exact size47)
      clear b2 hlo jZ2 jY2 hx2 hr a6
      go_wp2_with (refine wpl_load _ rfl (by simp [Act.eval]) ldY ?_)
      refine hag.mono ?_
      rintro e w3 ⟨rfl, b3⟩
      obtain ⟨V, hV⟩ : ∃ V, V = w3.alloc (.cells (rzA r) 52) := ⟨_, rfl⟩
      obtain ⟨Z7, hZ7⟩ : ∃ Z7, w3.heap.size = Z7 := ⟨_, rfl⟩
      have bb : Below w3.heap.size w3 V := by rw [hV]; exact (Below.refl _ w3).alloc (Nat.le_refl _) _
      have jZ7 : V.heap[Z7]? = some (.cells (rzA r) 52 (0, 0)) := by rw [hV, ← hZ7]; exact heap_alloc_new w3 _
      have b23 : Below w2.heap.size w2 V := b3.trans (bb.mono b3.size)
      have n0 : V.cell? ⟨Z7, 0, none⟩ = some (.int .i64 r.err) := cell_blk jZ7 0
      have ld7 : (Instr.loadAt 52 (.pointer (some ⟨Z7, 0, none⟩))).run Try.prog V = .ok (rzV r) V := load_row jZ7 Try.underlying52 rfl size52
      have jZV := (b23.block Z (blk_lt HJ2.out)).trans HJ2.out
      have jYV := (b23.block Y (blk_lt HJY2.out)).trans HJY2.out
      have HBV := Lib.hid (HB2.out.trans (b23.mono HB2.out.size))
      have hxV := HX2.out.on b23
      have HXV := Lib.hid hxV
      have HYV := Lib.hid (HY2.out.on b23)
      have HCV := Lib.hid (HC2.out.on b23)
      have hZV : Z < V.heap.size := blk_lt jZV
      have HJV := Lib.hid jZV
      have HJYV := Lib.hid jYV
      have HV := Lib.hid hV
      have HZ7 := Lib.hid hZ7
      clear hV hZ7 bb jZ7 b23 b3 hag ldY
      go_upto_region 6 with fail
      rw [← HV.out, HZ7.out]
      by_cases hre : r.err = 0
      · obtain ⟨lad, lcap, hlv⟩ := hxV.shape
        have a1 : V.cell? ⟨A, 1, none⟩ = some (.slice lad G.length lcap) := by rw [← hlv]; exact cell_blk hxV.ob 1
        have hnA : ¬ (Value.slice lad G.length lcap).ownBlock = some A := fun e => by
          rw [← hlv] at e
          obtain ⟨cs, t⟩ := own_tag hxV.lks A e
          exact tag_ne t hxV.ob (by decide) rfl
        have hrl : ∀ j, (Value.slice lad G.length lcap).ownBlock = some j → j < w.heap.size := fun j e => by
          rw [← hlv] at e
          exact HSL.out j ((HSS.out j).2 (.inr (hxV.cl j e)))
        have hwV := HBV.out.size
        have hnY : ¬ (Value.slice lad G.length lcap).ownBlock = some Y := fun e => by have q1 := hrl Y e; have q2 := HY.out; omega
        have hGl : G.length = s.locks.length := by rw [← hxV.gl, List.length_map]
        have HRW : Hid (V.ownsRow 0 68 7 (.slice lad G.length lcap) G.length (G.flatMap glL)) := by rw [← hlv]; exact hxV.lks
        have HCL : Hid (∀ k, (Value.slice lad G.length lcap).ownBlock = some k → S k) := fun k e => by
          rw [← hlv] at e
          exact (HSS.out k).2 (.inr (hxV.cl k e))
        have HLV := Lib.hid hlv
        have HRL := Lib.hid hrl
        have HR : Hid (s.prepare c = (s.lock (newL c), ⟨0, s.high, td0, 0, true⟩)) := by show _ = _; unfold Sh.prepare; rw [if_neg (of_decide_eq_false HQO.out), HN.out, if_neg (by omega : ¬ (0 : Int) ≤ n), HRR.out, if_neg (by simp [hre])]
        clear jZV jYV hxV hlv hrl ld7
        go_upto_region 8 with fail
        refine wp_region_once 8 (fun d X9 => Fr V X9 (fun j => (Value.slice lad G.length lcap).ownBlock = some j) ∧ (d = false → Below V.heap.size V X9)) (fun X9 X' => Below X9.heap.size X9 X') (fun X9 X' => Fr X9 X' (fun j => (Value.slice lad G.length lcap).ownBlock = some j)) [
          fun v9 _ => v9 = .pointer (some ⟨A, 0, none⟩),
          fun v9 _ => v9 = .pointer (some ⟨A, 0, none⟩),
          fun v9 _ => v9 = .pointer (some ⟨A, 0, none⟩),
          fun v9 _ => v9 = .pointer (some ⟨A, 1, none⟩),
          fun v9 _ => v9 = (.slice lad G.length lcap),
          fun v9 _ => v9 = .agg cs,
          fun v9 X9 => ∃ sa9 sc9 wa9 wc9, v9 = lkV (newL c) sa9 sc9 wa9 wc9 ∧ X9.ownsRow V.heap.size 57 2 (.slice sa9 (newL c).spans.length sc9) (newL c).spans.length ((newL c).spans.flatMap snL) ∧ X9.ownsRow V.heap.size 55 3 (.slice wa9 (newL c).writes.length wc9) (newL c).writes.length ((newL c).writes.flatMap wrL),
          fun v9 X9 => ∃ Z1 sa9 sc9 wa9 wc9, v9 = lv1 Z1 ∧ V.heap.size ≤ Z1 ∧ X9.heap[Z1]? = some (lkO (newL c) sa9 sc9 wa9 wc9) ∧ X9.ownsRow V.heap.size 57 2 (.slice sa9 (newL c).spans.length sc9) (newL c).spans.length ((newL c).spans.flatMap snL) ∧ X9.ownsRow V.heap.size 55 3 (.slice wa9 (newL c).writes.length wc9) (newL c).writes.length ((newL c).writes.flatMap wrL),
          fun v9 X9 => ∃ ad9 cap9 sa9 sc9 wa9 wc9, v9 = .slice ad9 (G.length + 1) cap9 ∧ X9.ownsRow 0 68 7 v9 (G.length + 1) ((G ++ [(newL c, Value.slice sa9 (newL c).spans.length sc9, Value.slice wa9 (newL c).writes.length wc9)]).flatMap glL) ∧ (∀ j, (v9).ownBlock = some j → (Value.slice lad G.length lcap).ownBlock = some j ∨ V.heap.size ≤ j) ∧ Fr V X9 (fun j => (Value.slice lad G.length lcap).ownBlock = some j) ∧ X9.ownsRow V.heap.size 57 2 (.slice sa9 (newL c).spans.length sc9) (newL c).spans.length ((newL c).spans.flatMap snL) ∧ X9.ownsRow V.heap.size 55 3 (.slice wa9 (newL c).writes.length wc9) (newL c).writes.length ((newL c).writes.flatMap wrL),
          fun v9 _ => v9 = .pointer (some ⟨A, 0, none⟩),
          fun v9 _ => v9 = .pointer (some ⟨A, 1, none⟩)]
          (fun _ X8 => ∃ ad9 cap9 sa9 sc9 wa9 wc9 X9, X8 = X9.setCell ⟨A, 1, none⟩ (.slice ad9 (G.length + 1) cap9) ∧ X9.ownsRow 0 68 7 (.slice ad9 (G.length + 1) cap9) (G.length + 1) ((G ++ [(newL c, Value.slice sa9 (newL c).spans.length sc9, Value.slice wa9 (newL c).writes.length wc9)]).flatMap glL) ∧ (∀ j, (Value.slice ad9 (G.length + 1) cap9).ownBlock = some j → (Value.slice lad G.length lcap).ownBlock = some j ∨ V.heap.size ≤ j) ∧ Fr V X9 (fun j => (Value.slice lad G.length lcap).ownBlock = some j) ∧ X9.ownsRow V.heap.size 57 2 (.slice sa9 (newL c).spans.length sc9) (newL c).spans.length ((newL c).spans.flatMap snL) ∧ X9.ownsRow V.heap.size 55 3 (.slice wa9 (newL c).writes.length wc9) (newL c).writes.length ((newL c).writes.flatMap wrL)) rfl (by kernel_rfl) (by kernel_rfl) (by kernel_rfl) (by kernel_rfl) ?st ?stm ?g0 (by decide) ?os ?la ?en
        case st => exact ⟨fun _ _ _ _ h => h, fun _ _ _ _ h => h, fun _ _ _ _ h => h, fun _ _ _ _ h => h, fun _ _ _ _ h => h, fun _ _ _ _ h => h, fun _ _ _ hs ⟨x, y, z, u, e, o1, o2⟩ => ⟨x, y, z, u, e, own_below o1 hs, own_below o2 hs⟩, fun _ _ _ hs ⟨Z1, x, y, z, u, e, z1, z2, o1, o2⟩ => ⟨Z1, x, y, z, u, e, z1, (hs.block _ (blk_lt z2)).trans z2, own_below o1 hs, own_below o2 hs⟩, fun _ _ _ hs ⟨x1, x2, x, y, z, u, e, p1, p2, p3, o1, o2⟩ => ⟨x1, x2, x, y, z, u, e, own_below p1 hs, p2, p3.below hs, own_below o1 hs, own_below o2 hs⟩, fun _ _ _ _ h => h, fun _ _ _ _ h => h, trivial⟩
        case stm => exact ⟨fun _ _ _ _ h => h, fun _ _ _ _ h => h, fun _ _ _ _ h => h, fun _ _ _ _ h => h, fun _ _ _ _ h => h, fun _ _ _ _ h => h, fun _ _ _ hs ⟨x, y, z, u, e, o1, o2⟩ => ⟨x, y, z, u, e, row_keep o1 hs (fun k hk e => by have z8 := (o1.lt k hk).1; have z9 := HRL.out k e; omega), row_keep o2 hs (fun k hk e => by have z8 := (o2.lt k hk).1; have z9 := HRL.out k e; omega)⟩, fun _ _ _ hs ⟨Z1, x, y, z, u, e, z1, z2, o1, o2⟩ => ⟨Z1, x, y, z, u, e, z1, (hs.block _ (blk_lt z2) (fun e => by have z9 := HRL.out _ e; omega)).trans z2, row_keep o1 hs (fun k hk e => by have z8 := (o1.lt k hk).1; have z9 := HRL.out k e; omega), row_keep o2 hs (fun k hk e => by have z8 := (o2.lt k hk).1; have z9 := HRL.out k e; omega)⟩, fun _ _ _ _ h => h, fun _ _ _ _ h => h, fun _ _ _ _ h => h, trivial⟩
        case g0 => exact ⟨⟨rfl, rfl, rfl, Nat.le_refl _, fun _ _ _ => rfl⟩, fun _ => ⟨rfl, rfl, rfl, Nat.le_refl _, fun _ _ => rfl⟩⟩
        case os =>
          refine ⟨?_, ?_, ?_, ?_, ?_, ?_, ?_, ?_, ?_, ?_, ?_, trivial⟩
          · exact ⟨rfl, fun _ ρ X9 d hg ho hc hf hr => Runs.val _ (op_move (show ρ (.tmp 0) = .pointer (some ⟨A, 0, none⟩) from ho 0 rfl)) ⟨hg, Below.refl _ _, rfl⟩, fun e => absurd e (by decide)⟩
          · exact ⟨rfl, fun _ ρ X9 d hg ho hc hf hr => Runs.val _ (op_move (show ρ (.tmp 0) = .pointer (some ⟨A, 0, none⟩) from ho 0 rfl)) ⟨hg, Below.refl _ _, rfl⟩, fun e => absurd e (by decide)⟩
          · exact ⟨rfl, fun _ ρ X9 d hg ho hc hf hr => Runs.val _ (op_nil (show ρ (.tmp 31) = .pointer (some ⟨A, 0, none⟩) from hr 1 31 rfl rfl)) ⟨hg, Below.refl _ _, rfl⟩, fun e => absurd e (by decide)⟩
          · exact ⟨rfl, fun _ ρ X9 d hg ho hc hf hr => Runs.val _ (op_f92_1 (show ρ (.tmp 32) = .pointer (some ⟨A, 0, none⟩) from hr 2 32 rfl rfl)) ⟨hg, Below.refl _ _, rfl⟩, fun e => absurd e (by decide)⟩
          · exact ⟨rfl, fun _ ρ X9 d hg ho hc hf hr => Runs.val _ (op_load31 (show ρ (.tmp 33) = .pointer (some ⟨A, 1, none⟩) from hr 3 33 rfl rfl) (cell_fr hg.1 hnA a1)) ⟨hg, Below.refl _ _, rfl⟩, fun e => absurd e (by decide)⟩
          · refine ⟨rfl, fun _ ρ X9 d hg ho hc hf hr => ?_, fun e => absurd e (by decide)⟩
            have jY9 := (hg.1.block Y (blk_lt HJYV.out) hnY).trans HJYV.out
            exact Runs.val _ (op_loadAt (show ρ (.tmp 5) = .pointer (some ⟨Y, 0, none⟩) from ho 5 rfl) (load_row jY9 Try.underlying47 rfl (by rw [HCV.out.sz]; exact size47))) ⟨hg, Below.refl _ _, rfl⟩
          · refine ⟨rfl, fun _ ρ X9 d hg ho hc hf hr => ?_, fun e => absurd e (by decide)⟩
            have hcX : Cc X9 c cs ra rc wa wc := HAP.out X9 ((Fr.ofBelow S HBV.out).trans (hg.1.mono fun k e => HCL.out k e))
            refine Runs.goes 53 #[.agg cs] (op_call1 hf call53 (show ρ (.tmp 35) = .agg cs from hr 5 35 rfl rfl)) ((newLock_any hcX hz hz2).mono ?_)
            rintro e7 w7 ⟨sa9, sc9, wa9, wc9, rfl, o1, o2, b7⟩
            exact ⟨_, rfl, ⟨hg.1.below b7, fun z => (hg.2 z).trans (b7.mono (hg.2 z).size)⟩, b7, sa9, sc9, wa9, wc9, rfl, own_mono o1 hg.1.size, own_mono o2 hg.1.size⟩
          · refine ⟨rfl, fun _ ρ X9 d hg ho hc hf hr => ?_, fun e => absurd e (by decide)⟩
            obtain ⟨sa9, sc9, wa9, wc9, e, o1, o2⟩ : ∃ sa9 sc9 wa9 wc9, (ρ (.tmp 36)) = lkV (newL c) sa9 sc9 wa9 wc9 ∧ X9.ownsRow V.heap.size 57 2 (.slice sa9 (newL c).spans.length sc9) (newL c).spans.length ((newL c).spans.flatMap snL) ∧ X9.ownsRow V.heap.size 55 3 (.slice wa9 (newL c).writes.length wc9) (newL c).writes.length ((newL c).writes.flatMap wrL) := hr 6 36 rfl rfl
            have hb7 : Below X9.heap.size X9 (X9.alloc (lkO (newL c) sa9 sc9 wa9 wc9)) := (Below.refl _ X9).alloc (Nat.le_refl _) _
            exact Runs.val _ (op_s31 e) ⟨⟨hg.1.below hb7, fun z => (hg.2 z).trans (hb7.mono (hg.2 z).size)⟩, hb7, X9.heap.size, sa9, sc9, wa9, wc9, rfl, hg.1.size, heap_alloc_new X9 _, own_below o1 hb7, own_below o2 hb7⟩
          · refine ⟨rfl, fun e => absurd rfl e, fun _ ρ X9 hg ho hc hf hr => ?_⟩
            obtain ⟨Z1, sa9, sc9, wa9, wc9, e, z1, z2, o1, o2⟩ : ∃ Z1 sa9 sc9 wa9 wc9, (ρ (.tmp 37)) = lv1 Z1 ∧ V.heap.size ≤ Z1 ∧ X9.heap[Z1]? = some (lkO (newL c) sa9 sc9 wa9 wc9) ∧ X9.ownsRow V.heap.size 57 2 (.slice sa9 (newL c).spans.length sc9) (newL c).spans.length ((newL c).spans.flatMap snL) ∧ X9.ownsRow V.heap.size 55 3 (.slice wa9 (newL c).writes.length wc9) (newL c).writes.length ((newL c).writes.flatMap wrL) := hr 7 37 rfl rfl
            have hbX := hg.2 rfl
            obtain ⟨ad9, cap9, w9, hrun, o9, g9, t9⟩ := run_lk (m := 1) (c := 1) (news := glL (newL c, Value.slice sa9 (newL c).spans.length sc9, Value.slice wa9 (newL c).writes.length wc9)) (own_below HRW.out hbX) (Nat.zero_le _) (.inr ⟨⟨Z1, 0, none⟩, rfl, rfl, fun j u hu => by
              rw [add_at, Nat.zero_add, cell_blk z2]
              simpa [glL] using hu⟩) (fun u hu => by simp [glL] at hu; rcases hu with rfl | rfl | rfl | rfl | rfl | rfl | rfl <;> rfl) (by omega)
            have f9 : Fr X9 w9 (fun j => (Value.slice lad G.length lcap).ownBlock = some j) := Fr.grown (Fr.refl X9 _) g9 (fun j hj => .inl hj)
            exact Runs.val _ (op_appendT (show ρ (.tmp 34) = (.slice lad G.length lcap) from hr 4 34 rfl rfl) e hrun) ⟨⟨hg.1.trans f9, fun z => by cases z⟩, f9, ad9, cap9, sa9, sc9, wa9, wc9, rfl, by rw [List.flatMap_append, List.flatMap_singleton]; exact o9, fun j e => (by
              rcases t9 with t9 | t9
              · rw [t9] at e; exact .inl e
              · rw [t9] at e; cases e; exact .inr hbX.size), hg.1.trans f9, row_keep o1 f9 (fun k hk e => by have z8 := (o1.lt k hk).1; have z9 := HRL.out k e; omega), row_keep o2 f9 (fun k hk e => by have z8 := (o2.lt k hk).1; have z9 := HRL.out k e; omega)⟩
          · exact ⟨rfl, fun _ ρ X9 d hg ho hc hf hr => Runs.val _ (op_nil (show ρ (.tmp 30) = .pointer (some ⟨A, 0, none⟩) from hr 0 30 rfl rfl)) ⟨hg, Below.refl _ _, rfl⟩, fun e => absurd e (by decide)⟩
          · exact ⟨rfl, fun _ ρ X9 d hg ho hc hf hr => Runs.val _ (op_f92_1 (show ρ (.tmp 39) = .pointer (some ⟨A, 0, none⟩) from hr 9 39 rfl rfl)) ⟨hg, Below.refl _ _, rfl⟩, fun e => absurd e (by decide)⟩
        case la =>
          refine ⟨rfl, fun ρ X9 hg ho hc hf hr => ?_⟩
          obtain ⟨ad9, cap9, sa9, sc9, wa9, wc9, e, p1, p2, p3, o1, o2⟩ : ∃ ad9 cap9 sa9 sc9 wa9 wc9, (ρ (.tmp 38)) = .slice ad9 (G.length + 1) cap9 ∧ X9.ownsRow 0 68 7 (ρ (.tmp 38)) (G.length + 1) ((G ++ [(newL c, Value.slice sa9 (newL c).spans.length sc9, Value.slice wa9 (newL c).writes.length wc9)]).flatMap glL) ∧ (∀ j, ((ρ (.tmp 38))).ownBlock = some j → (Value.slice lad G.length lcap).ownBlock = some j ∨ V.heap.size ≤ j) ∧ Fr V X9 (fun j => (Value.slice lad G.length lcap).ownBlock = some j) ∧ X9.ownsRow V.heap.size 57 2 (.slice sa9 (newL c).spans.length sc9) (newL c).spans.length ((newL c).spans.flatMap snL) ∧ X9.ownsRow V.heap.size 55 3 (.slice wa9 (newL c).writes.length wc9) (newL c).writes.length ((newL c).writes.flatMap wrL) := hr 8 38 (by decide) rfl
          rw [e] at p1 p2
          have hA9 := (p3.block A (blk_lt HXV.out.ob) hnA).trans HXV.out.ob
          exact Runs.skips (op_store31 (show ρ (.tmp 40) = .pointer (some ⟨A, 1, none⟩) from hr 10 40 (by decide) rfl) e (cell_blk hA9 1) (frozen_blk hA9 1)) ⟨ad9, cap9, sa9, sc9, wa9, wc9, X9, rfl, p1, p2, p3, o1, o2⟩
        case en =>
          intro a X9 Xb v9 hF hs hd ho hv9 hr
          obtain ⟨x, hx, hxt⟩ := act_put hs hd ho
          change a = putAll _ x [30, 31, 32, 33, 34, 35, 36, 37, 38, 39, 40] at hx
          simp only [putAll, Act.put, List.setIfInBounds_toArray, List.set_cons_zero, List.set_cons_succ] at hx
          obtain ⟨ad9, cap9, sa9, sc9, wa9, wc9, X8, rfl, p1, p2, p3, o1, o2⟩ := hF
          have hA8 := (p3.block A (blk_lt HXV.out.ob) hnA).trans HXV.out.ob
          obtain ⟨U, hU⟩ : ∃ U, U = X8.setCell ⟨A, 1, none⟩ (.slice ad9 (G.length + 1) cap9) := ⟨_, rfl⟩
          have fA : Fr X8 U (fun j => j = A) := by rw [hU]; exact Fr.set (a := ⟨A, 1, none⟩) (Fr.refl X8 (fun j => j = A)) (Or.inl rfl) _
          have obU : U.heap[A]? = some (.cells #[.pointer (some ⟨P, 0, none⟩), .slice ad9 (G.length + 1) cap9, rv, .map (some M), ov, .map (some N), .int .i64 s.high] 92 (0, 0)) := by rw [hU]; exact set_blk (i := 1) hA8 _
          have keepA : ∀ {e : TypeId} {c n B : Nat} {v : Value} {xs : List Value}, e ≠ 92 → X8.ownsRow B e c v n xs → U.ownsRow B e c v n xs := fun he h => row_keep h fA (fun j hj q => by
            have q' : j = A := q
            subst q'
            obtain ⟨c1, t1⟩ := own_tag h j hj
            exact tag_ne t1 hA8 he rfl)
          have fU : Fr V U (fun k => k = A ∨ lv.ownBlock = some k) := by
            rw [HLV.out]
            exact (p3.mono fun j q => .inr q).trans (fA.mono fun j q => .inl q)
          obtain ⟨k1, k2⟩ := HXV.out.addLock (l := newL c) fU obU (keepA (by decide) p1) (fun j hj => by rw [HLV.out]; exact p2 j hj) (keepA (by decide) o1) (keepA (by decide) o2) (by omega)
          have hstp : Step V A S (s.lock (newL c)) U := Step.mk HSS.out k1 k2
          have jZU : U.heap[Z]? = some (.cells #[.int .i64 0, .int .i64 0, .int .i64 0, .int .i64 0, .int .i64 0, .int .i64 0, .int .i64 0, .int .i64 0, .bool false] 52 (0, 0)) := by
            obtain ⟨_, _, _, hf⟩ := hstp
            exact (hf.block Z hZV (fun q => by have := HSL.out Z q; omega)).trans HJV.out
          have a6 : U.cell? ⟨A, 6, none⟩ = some (.int .i64 s.high) := cell_blk obU 6
          obtain ⟨X7, hst, jX, fX⟩ := put_rz jZU rfl ⟨0, s.high, td0, 0, true⟩
          have HA : Hid (Step w A S (s.lock (newL c)) X7) := Step.close HBV.out hstp HSL.out fX hZw hZV
          have HJX := Lib.hid jX
          have HU := Lib.hid hU
          clear hs hd ho hr hv9 hxt p1 p2 p3 o1 o2 hA8 fA obU keepA fU k1 k2 hstp jZU jX fX hU
          subst hx
          rw [← HU.out]
          go_wp2_with (refine wpl_store _ _ rfl (by simp [Act.eval]) (by simp [Act.eval]) hst ?_)
          refine bodyPost_ret (ret_rz HJX.out Try.results27 rfl) rfl ?_
          rw [HR.out]
          exact ⟨rfl, HA.out⟩
      · obtain ⟨X, hst, jX, fX⟩ := put_rz jZV rfl r
        have HR : Hid (s.prepare c = (s, r)) := by show _ = _; unfold Sh.prepare; rw [if_neg (of_decide_eq_false HQO.out), HN.out, if_neg (by omega : ¬ (0 : Int) ≤ n), HRR.out, if_pos (by simpa using hre)]
        have HA : Hid (Step w A S s X) := Step.close HBV.out (Step.same HYV.out (Below.refl _ _)) HSL.out fX hZw hZV
        have HJX := Lib.hid jX
        clear jX fX jZV jYV hxV
        go_wp2_with (first | (refine wpl_load _ rfl (by simp [Act.eval]) ld7 ?_) | (refine wpl_store _ _ rfl (by simp [Act.eval, Act.put]) (by simp [Act.eval, Act.put]) hst ?_))
        refine bodyPost_ret (ret_rz HJX.out Try.results27 rfl) rfl ?_
        rw [HR.out]
        exact ⟨rfl, HA.out⟩
end
end Go.Proofs.Ytcoaahlakkghhaa
/- The walk of slices.Delete at locks, for one lock. -/
namespace Go.Proofs.Ytcoaahlakkghhaa
open Go.RowKit
theorem append_none31 (w : World) (ad ad2 : Option Addr) (n cap cap2 : Nat) (hle : n ≤ cap) : (Builtin.append_ #[31, 31] 31 #[.slice ad n cap, .slice ad2 0 cap2]).run Try.prog w = .ok (.slice ad n cap) w := by
  obtain ⟨i0, hi, hz0, hz1, hz2⟩ := info_parts info_lk
  cases ad2 with
  | none => cases ad <;> simp [Builtin.append_, run_underlying Try.underlying31, sizeOf, typeInfo, hi, Builtin.lenOf, hle, Builtin.firstCells, storeCells]
  | some a =>
    have hfc := run_firstCells_some (P := Try.prog) w i0.size 0 a 0 cap2 [] (by simp) (fun j u hu => by simp at hu)
    cases ad <;> simp [Builtin.append_, run_underlying Try.underlying31, sizeOf, typeInfo, hi, Builtin.lenOf, hle, hfc, storeCells]
theorem wpl_clear {P : Program} {w w' : World} {ops : Array Oper} {rest : List Oper} {o : Oper} {a : Act} {Q : Exit → Act → World → Prop} {t ty : TypeId} {v' : Value} {ds : Option Tmp} {ps : String} {af : Array Edge} (s : Operand)
    (ho : o = ⟨ds, .call { callee := .builtin .clear, args := #[s], argTypes := #[t] }, ty, ps, af, none⟩) (hrun : (Builtin.clear_ #[t] ty #[a.eval s]).run P w = .ok v' w')
    (h : wpList P ops Q rest (a.put ds v') w') : wpList P ops Q (o :: rest) a w := by
  subst ho
  refine wpList_plain rfl fun K hK => ?_
  unfold Oper.wp execOp
  simp only [resolve, invoke, builtin, Sem.run_bind, Sem.run_pure, Result.andThen_ok, List.map_toArray, List.map_cons, List.map_nil, hrun]
  exact hK _ _ h
/-- An empty lock's cells. -/
def zL : List Value := (Builtin.zeroCells #[.int .i64 0, .int .i64 0, .int .i64 0, .int .i64 0, .int .i64 0, .slice none 0 0, .slice none 0 0] 1).toList
theorem zL_len : zL.length = 7 := by
  unfold zL
  rw [Array.length_toList, size_zeroCells]
  rfl
theorem zL_one : ∀ v ∈ zL, v.oneCell' = true := by
  intro v hv
  unfold zL Builtin.zeroCells at hv
  simp only [Array.toList_map, List.mem_map] at hv
  obtain ⟨i, _, rfl⟩ := hv
  have h4 : i % 7 < 7 := Nat.mod_lt _ (by decide)
  have : i % 7 = 0 ∨ i % 7 = 1 ∨ i % 7 = 2 ∨ i % 7 = 3 ∨ i % 7 = 4 ∨ i % 7 = 5 ∨ i % 7 = 6 := by omega
  show ((#[.int .i64 0, .int .i64 0, .int .i64 0, .int .i64 0, .int .i64 0, .slice none 0 0, .slice none 0 0] : Array Value)[i % 7]!).oneCell' = true
  rcases this with e | e | e | e | e | e | e <;> rw [e] <;> rfl
theorem clear_run31 {w : World} {g o cap : Nat} {cur : Array Value} (ty : TypeId) (hb : w.heap[g]? = some (.cells cur 68 (0, 0))) (hin : o + 7 ≤ cur.size) :
    (Builtin.clear_ #[31] ty #[.slice (some ⟨g, o, none⟩) 1 cap]).run Try.prog w = .ok (.tuple #[]) (w.setCells g o zL) := by
  obtain ⟨i0, hi, hz0, hz1, hz2⟩ := info_parts info_lk
  have hst := run_storeCells_cells (P := Try.prog) g o zL 0 w (fun j hj => by
    have hj' : j < 7 := by rw [← zL_len]; exact hj
    rw [cell_blk hb, Array.getElem?_eq_getElem (by omega)]
    rfl) (fun j _ => frozen_blk hb _) zL_one
  simp only [Nat.add_zero] at hst
  have hzc : (Builtin.zeroCells (Value.agg #[.int .i64 0, .int .i64 0, .int .i64 0, .int .i64 0, .int .i64 0, .slice none 0 0, .slice none 0 0]).cells 1).toList = zL := rfl
  simp [Builtin.clear_, run_underlying Try.underlying31, zeroValue, typeInfo, hi, hz0, hzc, hst]
section
variable {w w' : World} {G : List Gl} {g n cap i : Nat}
theorem own_take {e : TypeId} {c n i : Nat} {xs : List Value} (h : w.ownsRow 0 e c (.slice (some ⟨g, 0, none⟩) n cap) n xs) (hi : i ≤ n) : w.ownsRow 0 e c (.slice (some ⟨g, 0, none⟩) i cap) i (xs.take (i * c)) := by
  rcases h.2 with ⟨hv, _⟩ | ⟨g', cap', cur, hv, h0, hg, h1, h2, h3, h4⟩
  · cases hv
  · cases hv
    have hle : i * c ≤ n * c := Nat.mul_le_mul_right c hi
    refine ⟨by rw [List.length_take, h.1]; omega, .inr ⟨g, cap, cur, rfl, h0, hg, by omega, h2, h3, ?_⟩⟩
    rw [← h4, List.take_take, Nat.min_eq_left hle]
theorem fl_take {α : Type} {f : α → List Value} {c : Nat} (hc : ∀ x, (f x).length = c) (L : List α) (i : Nat) (hi : i ≤ L.length) : (L.flatMap f).take (i * c) = (L.take i).flatMap f := by
  have e : L.flatMap f = (L.take i).flatMap f ++ (L.drop i).flatMap f := by rw [← List.flatMap_append, List.take_append_drop]
  rw [e]
  have hl : ((L.take i).flatMap f).length = i * c := by rw [fl_len hc, List.length_take, Nat.min_eq_left hi]
  rw [← hl]
  exact List.take_left
theorem fl_drop {α : Type} {f : α → List Value} {c : Nat} (hc : ∀ x, (f x).length = c) (L : List α) (i : Nat) (hi : i ≤ L.length) (j : Nat) : ((L.drop i).flatMap f)[j]? = (L.flatMap f)[i * c + j]? := by
  have e : L.flatMap f = (L.take i).flatMap f ++ (L.drop i).flatMap f := by rw [← List.flatMap_append, List.take_append_drop]
  have hl : ((L.take i).flatMap f).length = i * c := by rw [fl_len hc, List.length_take, Nat.min_eq_left hi]
  rw [e, List.getElem?_append_right (by omega), hl, Nat.add_sub_cancel_left]
/-- The locks but the i-th, one behind the other. -/
theorem del_run (h : w.ownsRow 0 68 7 (.slice (some ⟨g, 0, none⟩) G.length cap) G.length (G.flatMap glL)) (hi : i < G.length) (h1 : ∀ u ∈ G.flatMap glL, u.oneCell' = true) :
    ∃ w', (∀ c2, (Builtin.append_ #[31, 31] 31 #[.slice (some ⟨g, 0, none⟩) i cap, .slice (some ⟨g, (i + 1) * 7, none⟩) (G.length - (i + 1)) c2]).run Try.prog w = .ok (.slice (some ⟨g, 0, none⟩) (G.length - 1) cap) w') ∧
      w'.ownsRow 0 68 7 (.slice (some ⟨g, 0, none⟩) (G.length - 1) cap) (G.length - 1) ((G.eraseIdx i).flatMap glL) ∧ Fr w w' (fun k => k = g) ∧ (i + 1 = G.length → w' = w) := by
  have hp := own_take h (Nat.le_of_lt hi)
  rw [fl_take glL_len G i (Nat.le_of_lt hi)] at hp
  have hlc : G.length ≤ cap := by
    rcases h.2 with ⟨hv, _⟩ | ⟨g', cap', cur, hv, _, _, q, _⟩
    · cases hv
    · cases hv
      exact q
  obtain ⟨i0, hif, hz0, hz1, hz2⟩ := info_parts info_lk
  have he : (G.eraseIdx i).flatMap glL = (G.take i).flatMap glL ++ (G.drop (i + 1)).flatMap glL := by rw [List.eraseIdx_eq_take_drop_succ, List.flatMap_append]
  by_cases hz : i + 1 = G.length
  · have hn : G.length - (i + 1) = 0 := by omega
    have hn1 : G.length - 1 = i := by omega
    refine ⟨w, fun c2 => ?_, ?_, Fr.refl _ _, fun _ => rfl⟩
    · rw [hn, hn1]
      exact append_none31 w _ _ i cap c2 (by omega)
    · rw [he, hn1, List.drop_of_length_le (by omega)]
      simpa using hp
  · have hx : ∀ c2, ∃ w', (Builtin.append_ #[31, 31] 31 #[.slice (some ⟨g, 0, none⟩) i cap, .slice (some ⟨g, (i + 1) * 7, none⟩) (G.length - (i + 1)) c2]).run Try.prog w = .ok (.slice (some ⟨g, 0, none⟩) (i + (G.length - (i + 1))) cap) w' ∧ w'.ownsRow 0 68 7 (.slice (some ⟨g, 0, none⟩) (i + (G.length - (i + 1))) cap) (i + (G.length - (i + 1))) ((G.take i).flatMap glL ++ (G.drop (i + 1)).flatMap glL) ∧ w.grownBy w' (some g) := fun c2 =>
      run_append_fits (P := Try.prog) w 0 31 31 68 i0 7 Try.underlying31 hif hz1 g i cap _ hp ⟨g, (i + 1) * 7, none⟩ (G.length - (i + 1)) c2 ((G.drop (i + 1)).flatMap glL) (by rw [fl_len glL_len, List.length_drop]) (fun j u hu => by
        have hj : j < (G.length - (i + 1)) * 7 := by
          have := (List.getElem?_eq_some_iff.1 hu).1
          rwa [fl_len glL_len, List.length_drop] at this
        rw [fl_drop glL_len G (i + 1) hi] at hu
        rw [add_at, h.cellAt _ (by omega)]
        exact hu) (fun u hu => h1 u (by
        have e : G.flatMap glL = (G.take (i + 1)).flatMap glL ++ (G.drop (i + 1)).flatMap glL := by rw [← List.flatMap_append, List.take_append_drop]
        rw [e]
        exact List.mem_append_right _ hu)) (by omega)
    obtain ⟨w', hr, ho, hg⟩ := hx 0
    have hn1 : i + (G.length - (i + 1)) = G.length - 1 := by omega
    rw [hn1] at hr ho
    refine ⟨w', fun c2 => ?_, by rw [he]; exact ho, Fr.grown (Fr.refl w _) hg (fun k hk => .inl (by cases hk; rfl)), fun q => absurd q hz⟩
    obtain ⟨w2, hr2, _, _⟩ := hx c2
    rw [hn1] at hr2
    have hsame : (Builtin.append_ #[31, 31] 31 #[.slice (some ⟨g, 0, none⟩) i cap, .slice (some ⟨g, (i + 1) * 7, none⟩) (G.length - (i + 1)) c2]) = (Builtin.append_ #[31, 31] 31 #[.slice (some ⟨g, 0, none⟩) i cap, .slice (some ⟨g, (i + 1) * 7, none⟩) (G.length - (i + 1)) 0]) := rfl
    rw [hsame]
    exact hr
end
end Go.Proofs.Ytcoaahlakkghhaa
/- The walks of slices.Delete and unlock. -/
namespace Go.Proofs.Ytcoaahlakkghhaa
open Go.RowKit
section
variable {ρ : Operand → Value} {X : World} {d : Option Tmp} {ty : TypeId} {ps : String} {af : Array Edge} {g : Option (Nat × Bool)}
theorem op_slice31lo {x y : Operand} {v1 v2 v' : Value} (hx : ρ x = v1) (hy : ρ y = v2) (hrun : ∀ X : World, (Instr.sliceAt 31 v1 (some v2) none none).run Try.prog X = .ok v' X) : (execOp ρ ⟨d, .slice 31 x (some y) none none, ty, ps, af, g⟩).run Try.prog X = .ok (.value v') X := by
  simp only [execOp, Option.map_some, Option.map_none, hx, hy, Sem.run_bind, hrun, Result.andThen_ok, Sem.run_pure]
theorem op_slice31hi {x y : Operand} {v1 v2 v' : Value} (hx : ρ x = v1) (hy : ρ y = v2) (hrun : ∀ X : World, (Instr.sliceAt 31 v1 none (some v2) none).run Try.prog X = .ok v' X) : (execOp ρ ⟨d, .slice 31 x none (some y) none, ty, ps, af, g⟩).run Try.prog X = .ok (.value v') X := by
  simp only [execOp, Option.map_some, Option.map_none, hx, hy, Sem.run_bind, hrun, Result.andThen_ok, Sem.run_pure]
end
section
variable {w w' : World} {G : List Gl} {g n cap i : Nat}
theorem row_blk {e : TypeId} {c n : Nat} {xs : List Value} (h : w.ownsRow 0 e c (.slice (some ⟨g, 0, none⟩) n cap) n xs) : ∃ cur, w.heap[g]? = some (.cells cur e (0, 0)) ∧ n ≤ cap ∧ cap ≤ maxLen ∧ cur.size = cap * c ∧ cur.toList.take (n * c) = xs := by
  rcases h.2 with ⟨hv, _⟩ | ⟨g', cap', cur, hv, h0, hg, h1, h2, h3, h4⟩
  · cases hv
  · cases hv
    exact ⟨cur, hg, h1, h2, h3, h4⟩
/-- What is cleared behind a row leaves it. -/
theorem own_clear {n : Nat} {xs : List Value} (h : w.ownsRow 0 68 7 (.slice (some ⟨g, 0, none⟩) n cap) n xs) (hc : n + 1 ≤ cap) : (w.setCells g (n * 7) zL).ownsRow 0 68 7 (.slice (some ⟨g, 0, none⟩) n cap) n xs ∧ Fr w (w.setCells g (n * 7) zL) (fun k => k = g) := by
  obtain ⟨cur, hg, h1, h2, h3, h4⟩ := row_blk h
  obtain ⟨⟨ds, d1, d2⟩, e1, e2, e3, e4, e5⟩ := setCells_gen zL (n * 7) w cur hg (by rw [zL_len, h3]; omega)
  refine ⟨⟨h.1, .inr ⟨g, cap, ds, rfl, Nat.zero_le _, d1, h1, h2, ?_, ?_⟩⟩, ⟨e3, e4, e5, by omega, fun k _ hk => e1 k hk⟩⟩
  · have := congrArg List.length d2
    rw [Array.length_toList, List.length_append, List.length_append, List.length_take, List.length_drop, zL_len, Array.length_toList] at this
    omega
  · rw [d2, List.append_assoc, List.take_append_of_le_length (by rw [List.length_take, Array.length_toList]; omega), List.take_take, Nat.min_self]
    exact h4
theorem gl_one (h : ∀ x ∈ G, (∃ a n m, x.2.1 = Value.slice a n m) ∧ ∃ a n m, x.2.2 = Value.slice a n m) : ∀ u ∈ G.flatMap glL, u.oneCell' = true := by
  intro u hu
  obtain ⟨x, hx, hu⟩ := List.mem_flatMap.1 hu
  obtain ⟨⟨a, n, m, e1⟩, b, p, q, e2⟩ := h x hx
  unfold glL at hu
  rw [e1, e2] at hu
  simp at hu
  rcases hu with rfl | rfl | rfl | rfl | rfl | rfl | rfl <;> rfl
/-- The rest of the row, and what is made of it. -/
theorem del_src (hlc : G.length ≤ cap) (hcm : cap ≤ maxLen) (hi : i < G.length) (h1 : ∀ u ∈ G.flatMap glL, u.oneCell' = true) :
    ∃ sa sc, (∀ X : World, (Instr.sliceAt 31 (.slice (some ⟨g, 0, none⟩) G.length cap) (some (.int .i64 ((i : Int) + 1))) none none).run Try.prog X = .ok (.slice sa (G.length - (i + 1)) sc) X) ∧
      ∀ X : World, X.ownsRow 0 68 7 (.slice (some ⟨g, 0, none⟩) G.length cap) G.length (G.flatMap glL) → ∃ w', (Builtin.append_ #[31, 31] 31 #[.slice (some ⟨g, 0, none⟩) i cap, .slice sa (G.length - (i + 1)) sc]).run Try.prog X = .ok (.slice (some ⟨g, 0, none⟩) (G.length - 1) cap) w' ∧
        w'.ownsRow 0 68 7 (.slice (some ⟨g, 0, none⟩) (G.length - 1) cap) (G.length - 1) ((G.eraseIdx i).flatMap glL) ∧ Fr X w' (fun k => k = g) := by
  have hm : (cap : Int) ≤ 9223372036854775807 := by unfold maxLen at hcm; omega
  have q0 : (0 : Int) ≤ (i : Int) + 1 := by omega
  have q1 : (i : Int) + 1 ≤ (G.length : Int) := by omega
  have q2 : ((i : Int) + 1).toNat = i + 1 := by omega
  have q3 : (G.length : Int) ≤ (cap : Int) := by omega
  by_cases hc : cap = i + 1
  · have hn : G.length = i + 1 := by omega
    refine ⟨some ⟨g, 0, none⟩, 0, fun X => ?_, fun X hX => ?_⟩
    · have z : G.length - (i + 1) = 0 := by omega
      have z3 : G.length = cap := by omega
      rw [z]
      rw [z3, hc] at *
      go_simp
    · obtain ⟨w', _, ho, hf, he⟩ := del_run hX hi h1
      have := he hn.symm
      subst this
      refine ⟨w', ?_, ho, hf⟩
      have z : G.length - (i + 1) = 0 := by omega
      have z2 : G.length - 1 = i := by omega
      rw [z, z2]
      exact append_none31 w' _ _ i cap 0 (by omega)
  · refine ⟨some ⟨g, (i + 1) * 7, none⟩, cap - (i + 1), fun X => ?_, fun X hX => ?_⟩
    · have z2 : ¬ cap = i + 1 := hc
      go_simp
    · obtain ⟨w', hr, ho, hf, _⟩ := del_run hX hi h1
      exact ⟨w', hr _, ho, hf⟩
set_option maxHeartbeats 4000000 in
set_option maxRecDepth 100000 in
theorem delete_any (h : w.ownsRow 0 68 7 (.slice (some ⟨g, 0, none⟩) G.length cap) G.length (G.flatMap glL)) (hi : i < G.length) (h1 : ∀ u ∈ G.flatMap glL, u.oneCell' = true) :
    Calls Try.prog 91 #[.slice (some ⟨g, 0, none⟩) G.length cap, .int .i64 (i : Int), .int .i64 ((i : Int) + 1)] w fun e w' => e = .returned (.slice (some ⟨g, 0, none⟩) (G.length - 1) cap) ∧ w'.ownsRow 0 68 7 (.slice (some ⟨g, 0, none⟩) (G.length - 1) cap) (G.length - 1) ((G.eraseIdx i).flatMap glL) ∧ Fr w w' (fun k => k = g) := by
  obtain ⟨cur, hg, hlc, hcm, _, _⟩ := row_blk h
  obtain ⟨sa, sc, hs1, hs2⟩ := del_src (g := g) hlc hcm hi h1
  have hm : (cap : Int) ≤ 9223372036854775807 := by unfold maxLen at hcm; omega
  have hm2 : (G.length : Int) ≤ 9223372036854775807 := by omega
  have q0 : (0 : Int) ≤ (i : Int) := by omega
  have q00 : (0 : Int) ≤ (i : Int) + 1 := by omega
  have q1 : (i : Int) ≤ (i : Int) + 1 := by omega
  have q2 : (i : Int) + 1 ≤ (G.length : Int) := by omega
  have q3 : (G.length : Int) ≤ (cap : Int) := by omega
  have q4 : ¬ (i : Int) = (i : Int) + 1 := by omega
  have hsl : ∀ X : World, (Instr.sliceAt 31 (.slice (some ⟨g, 0, none⟩) G.length cap) none (some (.int .i64 (i : Int))) none).run Try.prog X = .ok (.slice (some ⟨g, 0, none⟩) i cap) X := fun X => by
    have z : (i : Int) ≤ (cap : Int) := by omega
    have z2 : ¬ cap = 0 := by omega
    go_simp
  obtain ⟨m, hmm⟩ : ∃ m, G.length - 1 = m := ⟨_, rfl⟩
  have hgm : (G.length : Int) = (m : Int) + 1 := by omega
  have hgn : G.length = m + 1 := by omega
  have hsl2 : ∀ X : World, (Instr.sliceAt 31 (.slice (some ⟨g, 0, none⟩) m cap) (some (.int .i64 (m : Int))) (some (.int .i64 (G.length : Int))) none).run Try.prog X = .ok (.slice (some ⟨g, m * 7, none⟩) 1 (cap - m)) X := fun X => by
    have z0 : (0 : Int) ≤ (m : Int) := by omega
    have z1 : (m : Int) ≤ (G.length : Int) := by omega
    have z2 : ¬ cap = m := by omega
    have z4 : G.length - m = 1 := by omega
    clear hgm hgn hmm
    go_simp
  rw [hmm] at hs2 ⊢
  have HS1 := Lib.hid hs1
  have HS2 := Lib.hid hs2
  have HSL := Lib.hid hsl
  have HO := Lib.hid h
  have HLC := Lib.hid hlc
  have HGN := Lib.hid hgn
  clear hs1 hs2 hsl hg h hcm h1 hmm hgm hgn hlc
  go_enter Try.func91, Try.ntmps91
  go_upto_region 5 with fail
  refine wp_region_once 6 (fun d X9 => Fr w X9 (fun k => k = g) ∧ (d = false → Below w.heap.size w X9)) (fun X9 X' => Below X9.heap.size X9 X') (fun X9 X' => Fr X9 X' (fun k => k = g)) [
    fun v9 _ => v9 = (.slice (some ⟨g, 0, none⟩) G.length cap),
    fun v9 _ => v9 = .int .i64 (i : Int),
    fun v9 _ => v9 = .slice (some ⟨g, 0, none⟩) i cap,
    fun v9 _ => v9 = (.slice (some ⟨g, 0, none⟩) G.length cap),
    fun v9 _ => v9 = .int .i64 ((i : Int) + 1),
    fun v9 _ => v9 = .slice sa (G.length - (i + 1)) sc,
    fun v9 X9 => v9 = .slice (some ⟨g, 0, none⟩) m cap ∧ X9.ownsRow 0 68 7 (.slice (some ⟨g, 0, none⟩) m cap) m ((G.eraseIdx i).flatMap glL) ∧ Fr w X9 (fun k => k = g)]
    (fun v9 X9 => v9 = .slice (some ⟨g, 0, none⟩) m cap ∧ X9.ownsRow 0 68 7 (.slice (some ⟨g, 0, none⟩) m cap) m ((G.eraseIdx i).flatMap glL) ∧ Fr w X9 (fun k => k = g)) rfl (by kernel_rfl) (by kernel_rfl) (by kernel_rfl) (by kernel_rfl) ?st ?stm ?g0 (by decide) ?os ?la ?en
  case st => exact ⟨fun _ _ _ _ h => h, fun _ _ _ _ h => h, fun _ _ _ _ h => h, fun _ _ _ _ h => h, fun _ _ _ _ h => h, fun _ _ _ _ h => h, fun _ _ _ hs ⟨e, o1, o2⟩ => ⟨e, own_below o1 hs, o2.below hs⟩, trivial⟩
  case stm => exact ⟨fun _ _ _ _ h => h, fun _ _ _ _ h => h, fun _ _ _ _ h => h, fun _ _ _ _ h => h, fun _ _ _ _ h => h, fun _ _ _ _ h => h, fun _ _ _ _ h => h, trivial⟩
  case g0 => exact ⟨⟨rfl, rfl, rfl, Nat.le_refl _, fun _ _ _ => rfl⟩, fun _ => ⟨rfl, rfl, rfl, Nat.le_refl _, fun _ _ => rfl⟩⟩
  case os =>
    refine ⟨?_, ?_, ?_, ?_, ?_, ?_, ?_, trivial⟩
    · exact ⟨rfl, fun _ ρ X9 d hg ho hc hf hr => Runs.val _ (op_move (show ρ (.tmp 0) = (.slice (some ⟨g, 0, none⟩) G.length cap) from ho 0 rfl)) ⟨hg, Below.refl _ _, rfl⟩, fun e => absurd e (by decide)⟩
    · exact ⟨rfl, fun _ ρ X9 d hg ho hc hf hr => Runs.val _ (op_move (show ρ (.tmp 1) = .int .i64 (i : Int) from ho 1 rfl)) ⟨hg, Below.refl _ _, rfl⟩, fun e => absurd e (by decide)⟩
    · exact ⟨rfl, fun _ ρ X9 d hg ho hc hf hr => Runs.val _ (op_slice31hi (show ρ (.tmp 20) = (.slice (some ⟨g, 0, none⟩) G.length cap) from hr 0 20 rfl rfl) (show ρ (.tmp 21) = .int .i64 (i : Int) from hr 1 21 rfl rfl) HSL.out) ⟨hg, Below.refl _ _, rfl⟩, fun e => absurd e (by decide)⟩
    · exact ⟨rfl, fun _ ρ X9 d hg ho hc hf hr => Runs.val _ (op_move (show ρ (.tmp 0) = (.slice (some ⟨g, 0, none⟩) G.length cap) from ho 0 rfl)) ⟨hg, Below.refl _ _, rfl⟩, fun e => absurd e (by decide)⟩
    · exact ⟨rfl, fun _ ρ X9 d hg ho hc hf hr => Runs.val _ (op_move (show ρ (.tmp 2) = .int .i64 ((i : Int) + 1) from ho 2 rfl)) ⟨hg, Below.refl _ _, rfl⟩, fun e => absurd e (by decide)⟩
    · exact ⟨rfl, fun _ ρ X9 d hg ho hc hf hr => Runs.val _ (op_slice31lo (show ρ (.tmp 23) = (.slice (some ⟨g, 0, none⟩) G.length cap) from hr 3 23 rfl rfl) (show ρ (.tmp 24) = .int .i64 ((i : Int) + 1) from hr 4 24 rfl rfl) HS1.out) ⟨hg, Below.refl _ _, rfl⟩, fun e => absurd e (by decide)⟩
    · refine ⟨rfl, fun e => absurd rfl e, fun _ ρ X9 hg ho hc hf hr => ?_⟩
      obtain ⟨w9, hrun, o9, f9⟩ := HS2.out X9 (own_below HO.out (hg.2 rfl))
      exact Runs.val _ (op_appendT (show ρ (.tmp 22) = .slice (some ⟨g, 0, none⟩) i cap from hr 2 22 rfl rfl) (show ρ (.tmp 25) = .slice sa (G.length - (i + 1)) sc from hr 5 25 rfl rfl) hrun) ⟨⟨hg.1.trans f9, fun z => by cases z⟩, f9, rfl, o9, hg.1.trans f9⟩
  case la =>
    refine ⟨rfl, fun ρ X9 hg ho hc hf hr => ?_⟩
    obtain ⟨e, o1, o2⟩ : (ρ (.tmp 26)) = .slice (some ⟨g, 0, none⟩) m cap ∧ X9.ownsRow 0 68 7 (.slice (some ⟨g, 0, none⟩) m cap) m ((G.eraseIdx i).flatMap glL) ∧ Fr w X9 (fun k => k = g) := hr 6 26 (by decide) rfl
    exact Runs.val _ (op_assign e) ⟨rfl, o1, o2⟩
  case en =>
    intro a X9 Xb v9 hF hs hd ho hv9 hr
    obtain ⟨x, hx, hxt⟩ := act_put hs hd ho
    obtain ⟨e9, o9, f9⟩ := hF
    have x0 : x 0 = .slice (some ⟨g, 0, none⟩) m cap := ((hxt 0).symm.trans (hv9 0 rfl)).trans e9
    change a = putAll _ x [20, 21, 22, 23, 24, 25, 26, 0] at hx
    simp only [putAll, Act.put, List.setIfInBounds_toArray, List.set_cons_zero, List.set_cons_succ, x0] at hx
    obtain ⟨cur, jg, _, _, hsz, _⟩ := row_blk o9
    have hcl := fun ty => clear_run31 (w := X9) (g := g) (o := m * 7) (cap := cap - m) ty jg (by have z1 := HLC.out; have z2 := HGN.out; omega)
    obtain ⟨k1, k2⟩ := own_clear o9 (by have z1 := HLC.out; have z2 := HGN.out; omega)
    have HA : Hid ((X9.setCells g (m * 7) zL).ownsRow 0 68 7 (.slice (some ⟨g, 0, none⟩) m cap) m ((G.eraseIdx i).flatMap glL) ∧ Fr w (X9.setCells g (m * 7) zL) (fun k => k = g)) := ⟨k1, f9.trans k2⟩
    clear hs hd ho hr hv9 hxt x0 e9 o9 f9 jg hsz k1 k2
    subst hx
    go_wp2_with (at_builtin; refine wpl_clear _ rfl (hcl _) ?_)
    refine bodyPost_ret (v := .slice (some ⟨g, 0, none⟩) m cap) (by simp [results, Try.results91, go_sem]) rfl ?_
    exact ⟨rfl, HA.out⟩
end
section
variable {w w' X : World} {A : Nat} {S1 S2 : Nat → Prop} {s : Sh} {P M N : Nat} {G : List Gl} {lv rv ov lv' : Value}
def Sh.cut (s : Sh) (i : Nat) : Sh := { s with locks := s.locks.eraseIdx i }
theorem erase_map {α β : Type} (f : α → β) : ∀ (l : List α) (i : Nat), (l.eraseIdx i).map f = (l.map f).eraseIdx i
  | [], _ => rfl
  | _ :: _, 0 => rfl
  | x :: l, i + 1 => by
    simp only [List.eraseIdx_cons_succ, List.map_cons]
    rw [erase_map f l i]
theorem Sx.cutLock (h : Sx w A S1 S2 s P M N G lv rv ov) {i : Nat} (hi : i < G.length) (hf : Fr w w' (fun k => k = A ∨ lv.ownBlock = some k))
    (hob : w'.heap[A]? = some (.cells #[.pointer (some ⟨P, 0, none⟩), lv', rv, .map (some M), ov, .map (some N), .int .i64 s.high] 92 (0, 0)))
    (ho : w'.ownsRow 0 68 7 lv' (G.length - 1) ((G.eraseIdx i).flatMap glL)) (hb : ∀ j, lv'.ownBlock = some j → lv.ownBlock = some j) :
    Sx w' A S1 S2 (s.cut i) P M N (G.eraseIdx i) lv' rv ov ∧ Fr w w' S2 := by
  obtain ⟨es, cl, hM⟩ := h.tm.isMap
  obtain ⟨es2, cl2, hN⟩ := h.en.isMap
  have tag : ∀ {e : TypeId}, e ≠ 92 → e ≠ 68 → ∀ k, (k = A ∨ lv.ownBlock = some k) → ∀ cs, w.heap[k]? ≠ some (.cells cs e (0, 0)) := by
    rintro e q1 q2 k (rfl | q) cs hk
    · rw [h.ob] at hk
      simp only [Option.some.injEq, Obj.cells.injEq] at hk
      exact q1 hk.2.1.symm
    · obtain ⟨cs', t⟩ := own_tag h.lks k q
      rw [t] at hk
      simp only [Option.some.injEq, Obj.cells.injEq] at hk
      exact q2 hk.2.1.symm
  have mapK : ∀ B es cl, w.heap[B]? = some (.map es cl) → ¬ (B = A ∨ lv.ownBlock = some B) := by
    rintro B es cl hB (q | q)
    · rw [q, h.ob] at hB
      cases hB
    · obtain ⟨cs, t⟩ := own_tag h.lks B q
      rw [hB] at t
      cases t
  have hT : ∀ k, (k = A ∨ lv.ownBlock = some k) → S2 k := by
    rintro k (rfl | q)
    · exact h.cA
    · exact h.cl k q
  have hmem : ∀ {g : Gl}, g ∈ G.eraseIdx i → g ∈ G := fun hg => List.mem_of_mem_eraseIdx hg
  have hl : (G.eraseIdx i).length = G.length - 1 := by rw [List.length_eraseIdx, if_pos hi]
  refine ⟨{ ob := hob, st := h.st.stays hf (fun k hk q => h.off k hk (hT k q)), lks := by rw [hl]; exact ho, gl := by rw [erase_map, h.gl]; rfl,
            sp := fun g hg => keep_row (h.sp g (hmem hg)) hf (tag (by decide) (by decide)), wr := fun g hg => keep_row (h.wr g (hmem hg)) hf (tag (by decide) (by decide)),
            rcs := keep_row h.rcs hf (tag (by decide) (by decide)), ovs := keep_row h.ovs hf (tag (by decide) (by decide)), tm := h.tm.like (hf.block M (h.lt M h.cM) (mapK M es cl hM)), en := h.en.like (hf.block N (h.lt N h.cN) (mapK N es2 cl2 hN)), mn := h.mn,
            cA := h.cA, cM := h.cM, cN := h.cN, cl := fun k hk => h.cl k (hb k hk), cr := h.cr, co := h.co,
            cs := fun g hg k hk => h.cs g (hmem hg) k hk, cw := fun g hg k hk => h.cw g (hmem hg) k hk, lt := fun k hk => Nat.lt_of_lt_of_le (h.lt k hk) hf.size, off := h.off, fl := by rw [hl]; have := h.fl; omega, fr := h.fr, fo := h.fo }, hf.mono hT⟩
end
end Go.Proofs.Ytcoaahlakkghhaa
