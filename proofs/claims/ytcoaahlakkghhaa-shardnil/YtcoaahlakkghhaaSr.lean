/- The walk of prepare. -/
import Derived.Test.YtcoaahlakkghhaaSq
namespace Go.Proofs.Ytcoaahlakkghhaa
open Go.RowKit
def Sh.lock (s : Sh) (l : Lk) : Sh := { s with locks := s.locks ++ [l] }
def over0 : Rz := ⟨132, 0, td0, 0, false⟩
def Sh.prepare (s : Sh) (c : Cm) : Sh × Rz := if c.txn ∈ s.over then (s, over0) else if 0 ≤ lockI s.locks c.txn then (s, ⟨0, s.high, td0, 0, false⟩) else if (against s c).err ≠ 0 then (s, against s c) else (s.lock (newL c), ⟨0, s.high, td0, 0, true⟩)
section
variable {w w' X : World} {A : Nat} {S1 S2 : Nat → Prop} {s : Sh} {P M N : Nat} {G : List Gl} {lv rv ov lv' sv wv : Value}
theorem Sx.addLock (h : Sx w A S1 S2 s P M N G lv rv ov) {l : Lk} (hf : Fr w w' (fun k => k = A ∨ lv.ownBlock = some k))
    (hob : w'.heap[A]? = some (.cells #[.pointer (some ⟨P, 0, none⟩), lv', rv, .map (some M), ov, .map (some N), .int .i64 s.high] 92 (0, 0)))
    (ho : w'.ownsRow 0 68 7 lv' (G.length + 1) ((G ++ [(l, sv, wv)]).flatMap glL)) (hb : ∀ j, lv'.ownBlock = some j → lv.ownBlock = some j ∨ w.heap.size ≤ j)
    (h1 : w'.ownsRow w.heap.size 57 2 sv l.spans.length (l.spans.flatMap snL)) (h2 : w'.ownsRow w.heap.size 55 3 wv l.writes.length (l.writes.flatMap wrL)) (hfew : G.length < 800000) :
    Sx w' A S1 (Gro S2 w w') (s.lock l) P M N (G ++ [(l, sv, wv)]) lv' rv ov ∧ Fr w w' S2 := by
  obtain ⟨es, cl, hM⟩ := h.tm.isMap
  obtain ⟨es2, cl2, hN⟩ := h.en.isMap
  have tag : ∀ {e : TypeId}, e ≠ 92 → e ≠ 68 → ∀ k, (k = A ∨ lv.ownBlock = some k) → ∀ cs, w.heap[k]? ≠ some (.cells cs e (0, 0)) := by
    rintro e q1 q2 k (rfl | q) cs hk
    · rw [h.ob] at hk
      simp only [Option.some.injEq, Obj.cells.injEq] at hk
      exact q1 hk.2.1.symm
    · obtain ⟨cs', t⟩ := own_tag h.lks k q
      rw [t] at hk
      simp only [Option.some.injEq, Obj.cells.injEq] at hk
      exact q2 hk.2.1.symm
  have mapK : ∀ B es cl, w.heap[B]? = some (.map es cl) → ¬ (B = A ∨ lv.ownBlock = some B) := by
    rintro B es cl hB (q | q)
    · rw [q, h.ob] at hB
      cases hB
    · obtain ⟨cs, t⟩ := own_tag h.lks B q
      rw [hB] at t
      cases t
  have hT : ∀ k, (k = A ∨ lv.ownBlock = some k) → S2 k := by
    rintro k (rfl | q)
    · exact h.cA
    · exact h.cl k q
  have hmem : ∀ {g : Gl}, g ∈ G ++ [(l, sv, wv)] → g ∈ G ∨ g = (l, sv, wv) := fun hg => by
    rcases List.mem_append.1 hg with q | q
    · exact .inl q
    · exact .inr (List.mem_singleton.1 q)
  refine ⟨{ ob := hob, st := h.st.stays hf (fun k hk q => h.off k hk (hT k q)), lks := ?_, gl := ?_,
            sp := fun g hg => ?_, wr := fun g hg => ?_,
            rcs := keep_row h.rcs hf (tag (by decide) (by decide)), ovs := keep_row h.ovs hf (tag (by decide) (by decide)), tm := h.tm.like (hf.block M (h.lt M h.cM) (mapK M es cl hM)), en := h.en.like (hf.block N (h.lt N h.cN) (mapK N es2 cl2 hN)), mn := h.mn,
            cA := .inl h.cA, cM := .inl h.cM, cN := .inl h.cN, cl := fun k hk => ?_, cr := fun k hk => .inl (h.cr k hk), co := fun k hk => .inl (h.co k hk),
            cs := fun g hg k hk => ?_, cw := fun g hg k hk => ?_, lt := fun k hk => ?_, off := fun k h1 h2 => ?_, fl := ?_, fr := h.fr, fo := h.fo }, hf.mono hT⟩
  · rw [List.length_append]
    exact ho
  · rw [List.map_append, h.gl]
    rfl
  · rcases hmem hg with q | rfl
    · exact keep_row (h.sp g q) hf (tag (by decide) (by decide))
    · exact own_mono h1 (Nat.zero_le _)
  · rcases hmem hg with q | rfl
    · exact keep_row (h.wr g q) hf (tag (by decide) (by decide))
    · exact own_mono h2 (Nat.zero_le _)
  · rcases hb k hk with q | q
    · exact .inl (h.cl k q)
    · exact .inr ⟨q, (ho.lt k hk).2⟩
  · rcases hmem hg with q | rfl
    · exact .inl (h.cs g q k hk)
    · exact .inr (h1.lt k hk)
  · rcases hmem hg with q | rfl
    · exact .inl (h.cw g q k hk)
    · exact .inr (h2.lt k hk)
  · rcases hk with q | q
    · exact Nat.lt_of_lt_of_le (h.lt k q) hf.size
    · exact q.2
  · rcases h2 with q | q
    · exact h.off k h1 q
    · have := h.st.lt k h1
      omega
  · rw [List.length_append]
    show G.length + 1 ≤ 800000
    omega
end
section
variable {ρ : Operand → Value} {X : World} {d : Option Tmp} {ty : TypeId} {ps : String} {af : Array Edge} {g : Option (Nat × Bool)}
theorem op_s31 {x : Operand} {l : Lk} {sa wa : Option Addr} {sc wc : Nat} (e : ρ x = lkV l sa sc wa wc) : (execOp ρ ⟨d, .buildSlice 31 1 #[(0, x)], ty, ps, af, g⟩).run Try.prog X = .ok (.value (.slice (some ⟨X.heap.size, 0, none⟩) 1 1)) (X.alloc (lkO l sa sc wa wc)) := by
  simp only [execOp]
  simp [e]
  go_simp
theorem call53 {v : Value} : Sem.run Try.prog (callFunc 53 #[v]) X = .ok (.enter 53 #[v]) X := by go_simp
end
section
variable {w w' : World} {A : Nat} {S : Nat → Prop} {s : Sh} {c : Cm} {cs : Array Value} {ra wa : Option Addr} {rc wc : Nat}
set_option maxHeartbeats 4000000 in
set_option maxRecDepth 100000 in
theorem prepare_any (hy : Sy w A S s) (hc : Cc w c cs ra rc wa wc) (ht : TdOk c.txn) (hfew : s.locks.length < 800000) (hz : c.reads.length ≤ 800000) (hz2 : c.writes.length ≤ 800000) (hap : ∀ X, Fr w X S → Cc X c cs ra rc wa wc) (a0 : Int) : Calls Try.prog 27 #[.pointer (some ⟨A, 0, none⟩), .int .i64 a0, .agg cs] w fun e w' => e = .returned (rzV (s.prepare c).2) ∧ Step w A S (s.prepare c).1 w' := by
  obtain ⟨W, hW⟩ : ∃ W, W = (w.alloc (.cells cs 47)).alloc (.cells #[.int .i64 0, .int .i64 0, .int .i64 0, .int .i64 0, .int .i64 0, .int .i64 0, .int .i64 0, .int .i64 0, .bool false] 52) := ⟨_, rfl⟩
  obtain ⟨hb, jY, jZ, hZW⟩ := box47 hW
  obtain ⟨Y, hY⟩ : ∃ Y, w.heap.size = Y := ⟨_, rfl⟩
  obtain ⟨Z, hZ⟩ : ∃ Z, Y + 1 = Z := ⟨_, rfl⟩
  rw [hY] at jY jZ hZW
  rw [hZ] at jZ hZW
  have b4 : W.cell? ⟨Y, 4, none⟩ = some (.int .i64 c.txn.1) := (cell_blk jY 4).trans hc.t0
  have b5 : W.cell? ⟨Y, 5, none⟩ = some (.int .i64 c.txn.2.1) := (cell_blk jY 5).trans hc.t1
  have b6 : W.cell? ⟨Y, 6, none⟩ = some (.int .i64 c.txn.2.2) := (cell_blk jY 6).trans hc.t2
  have hZw : w.heap.size ≤ Z := by omega
  have hyl := hy.lt
  have HSY := Lib.hid hy
  have HYW := Lib.hid (hy.on hb)
  have HSL := Lib.hid hyl
  obtain ⟨S1, S2, P, M, N, G, lv, rv, ov, hx, hS⟩ := hy.on hb
  have HW := Lib.hid hW
  have HY := Lib.hid hY
  have HZ := Lib.hid hZ
  have HB := Lib.hid hb
  have HJZ := Lib.hid jZ
  have HJY := Lib.hid jY
  have HX := Lib.hid hx
  have HSS := Lib.hid hS
  have hov := isOver_any hx ht
  obtain ⟨qo, hqo⟩ : ∃ qo, decide (c.txn ∈ s.over) = qo := ⟨_, rfl⟩
  rw [hqo] at hov
  have HQO := Lib.hid hqo
  have HC := Lib.hid (hc.on hb)
  have HAP := Lib.hid hap
  clear hW hY hZ hb jY jZ hx hS hqo hy hc hyl hap
  go_enter Try.func27, Try.ntmps27
  go_upto_region 1 with fail
  rw [← HW.out, HY.out, HZ.out]
  go_wp2_with fail
  refine hov.mono ?_
  rintro e w1 ⟨rfl, b1⟩
  have jZ1 := (b1.block Z (blk_lt HJZ.out)).trans HJZ.out
  have HJY1 := Lib.hid ((b1.block Y (blk_lt HJY.out)).trans HJY.out)
  have HB1 := Lib.hid (HB.out.trans (b1.mono HB.out.size))
  have HX1 := Lib.hid (HX.out.on b1)
  have HY1 := Lib.hid (HYW.out.on b1)
  have HC1 := Lib.hid (HC.out.on b1)
  have hZ1 : Z < w1.heap.size := blk_lt jZ1
  have HJ1 := Lib.hid jZ1
  cases qo with
  | true =>
    obtain ⟨X, hst, jX, fX⟩ := put_rz jZ1 rfl over0
    have HR : Hid (s.prepare c = (s, over0)) := by show _ = _; unfold Sh.prepare; rw [if_pos (of_decide_eq_true HQO.out)]
    have HA : Hid (Step w A S s X) := Step.close HB1.out (Step.same HY1.out (Below.refl _ _)) HSL.out fX hZw hZ1
    have HJX := Lib.hid jX
    clear jX fX b1 hov jZ1
    go_wp2_with (refine wpl_store _ _ rfl (by simp [Act.eval]) (by simp [Act.eval, over0]) hst ?_)
    refine bodyPost_ret (ret_rz HJX.out Try.results27 rfl) rfl ?_
    rw [HR.out]
    exact ⟨rfl, HA.out⟩
  | false =>
    have c4 := cell_on b1 b4
    have c5 := cell_on b1 b5
    have c6 := cell_on b1 b6
    have hlo := lockOf_any HX1.out (t := c.txn)
    obtain ⟨n, hn⟩ : ∃ n, lockI s.locks c.txn = n := ⟨_, rfl⟩
    rw [hn] at hlo
    have HN := Lib.hid hn
    clear b1 hov jZ1 hn b4 b5 b6
    go_wp2_with fail
    refine hlo.mono ?_
    rintro e w2 ⟨rfl, b2⟩
    have jZ2 := (b2.block Z (blk_lt HJ1.out)).trans HJ1.out
    have jY2 := (b2.block Y (blk_lt HJY1.out)).trans HJY1.out
    have HB2 := Lib.hid (HB1.out.trans (b2.mono HB1.out.size))
    have hx2 := HX1.out.on b2
    have HX2 := Lib.hid hx2
    have HY2 := Lib.hid (HY1.out.on b2)
    have HC2 := Lib.hid (HC1.out.on b2)
    have hZ2 : Z < w2.heap.size := blk_lt jZ2
    have HJ2 := Lib.hid jZ2
    have HJY2 := Lib.hid jY2
    have a6 : w2.cell? ⟨A, 6, none⟩ = some (.int .i64 s.high) := cell_blk hx2.ob 6
    by_cases hpos : 0 ≤ n
    · obtain ⟨X, hst, jX, fX⟩ := put_rz jZ2 rfl ⟨0, s.high, td0, 0, false⟩
      have HR : Hid (s.prepare c = (s, ⟨0, s.high, td0, 0, false⟩)) := by show _ = _; unfold Sh.prepare; rw [if_neg (of_decide_eq_false HQO.out), HN.out, if_pos hpos]
      have HA : Hid (Step w A S s X) := Step.close HB2.out (Step.same HY2.out (Below.refl _ _)) HSL.out fX hZw hZ2
      have HJX := Lib.hid jX
      clear jX fX b2 hlo jZ2 jY2 hx2
      go_wp2_with (refine wpl_store _ _ rfl (by simp [Act.eval]) (by simp [Act.eval]) hst ?_)
      refine bodyPost_ret (ret_rz HJX.out Try.results27 rfl) rfl ?_
      rw [HR.out]
      exact ⟨rfl, HA.out⟩
    · have hag := against_any HX2.out HC2.out
      obtain ⟨r, hr⟩ : ∃ r, against s c = r := ⟨_, rfl⟩
      rw [hr] at hag
      have HRR := Lib.hid hr
      have ldY : (Instr.loadAt 47 (.pointer (some ⟨Y, 0, none⟩))).run Try.prog w2 = .ok (.agg cs) w2 := load_row jY2 Try.underlying47 rfl (by rw [HC2.out.sz]; exact size47)
      clear b2 hlo jZ2 jY2 hx2 hr a6
      go_wp2_with (refine wpl_load _ rfl (by simp [Act.eval]) ldY ?_)
      refine hag.mono ?_
      rintro e w3 ⟨rfl, b3⟩
      obtain ⟨V, hV⟩ : ∃ V, V = w3.alloc (.cells (rzA r) 52) := ⟨_, rfl⟩
      obtain ⟨Z7, hZ7⟩ : ∃ Z7, w3.heap.size = Z7 := ⟨_, rfl⟩
      have bb : Below w3.heap.size w3 V := by rw [hV]; exact (Below.refl _ w3).alloc (Nat.le_refl _) _
      have jZ7 : V.heap[Z7]? = some (.cells (rzA r) 52 (0, 0)) := by rw [hV, ← hZ7]; exact heap_alloc_new w3 _
      have b23 : Below w2.heap.size w2 V := b3.trans (bb.mono b3.size)
      have n0 : V.cell? ⟨Z7, 0, none⟩ = some (.int .i64 r.err) := cell_blk jZ7 0
      have ld7 : (Instr.loadAt 52 (.pointer (some ⟨Z7, 0, none⟩))).run Try.prog V = .ok (rzV r) V := load_row jZ7 Try.underlying52 rfl size52
      have jZV := (b23.block Z (blk_lt HJ2.out)).trans HJ2.out
      have jYV := (b23.block Y (blk_lt HJY2.out)).trans HJY2.out
      have HBV := Lib.hid (HB2.out.trans (b23.mono HB2.out.size))
      have hxV := HX2.out.on b23
      have HXV := Lib.hid hxV
      have HYV := Lib.hid (HY2.out.on b23)
      have HCV := Lib.hid (HC2.out.on b23)
      have hZV : Z < V.heap.size := blk_lt jZV
      have HJV := Lib.hid jZV
      have HJYV := Lib.hid jYV
      have HV := Lib.hid hV
      have HZ7 := Lib.hid hZ7
      clear hV hZ7 bb jZ7 b23 b3 hag ldY
      go_upto_region 6 with fail
      rw [← HV.out, HZ7.out]
      by_cases hre : r.err = 0
      · obtain ⟨lad, lcap, hlv⟩ := hxV.shape
        have a1 : V.cell? ⟨A, 1, none⟩ = some (.slice lad G.length lcap) := by rw [← hlv]; exact cell_blk hxV.ob 1
        have hnA : ¬ (Value.slice lad G.length lcap).ownBlock = some A := fun e => by
          rw [← hlv] at e
          obtain ⟨cs, t⟩ := own_tag hxV.lks A e
          exact tag_ne t hxV.ob (by decide) rfl
        have hrl : ∀ j, (Value.slice lad G.length lcap).ownBlock = some j → j < w.heap.size := fun j e => by
          rw [← hlv] at e
          exact HSL.out j ((HSS.out j).2 (.inr (hxV.cl j e)))
        have hwV := HBV.out.size
        have hnY : ¬ (Value.slice lad G.length lcap).ownBlock = some Y := fun e => by have q1 := hrl Y e; have q2 := HY.out; omega
        have hGl : G.length = s.locks.length := by rw [← hxV.gl, List.length_map]
        have HRW : Hid (V.ownsRow 0 68 7 (.slice lad G.length lcap) G.length (G.flatMap glL)) := by rw [← hlv]; exact hxV.lks
        have HCL : Hid (∀ k, (Value.slice lad G.length lcap).ownBlock = some k → S k) := fun k e => by
          rw [← hlv] at e
          exact (HSS.out k).2 (.inr (hxV.cl k e))
        have HLV := Lib.hid hlv
        have HRL := Lib.hid hrl
        have HR : Hid (s.prepare c = (s.lock (newL c), ⟨0, s.high, td0, 0, true⟩)) := by show _ = _; unfold Sh.prepare; rw [if_neg (of_decide_eq_false HQO.out), HN.out, if_neg (by omega : ¬ (0 : Int) ≤ n), HRR.out, if_neg (by simp [hre])]
        clear jZV jYV hxV hlv hrl ld7
        go_upto_region 8 with fail
        refine wp_region_once 8 (fun d X9 => Fr V X9 (fun j => (Value.slice lad G.length lcap).ownBlock = some j) ∧ (d = false → Below V.heap.size V X9)) (fun X9 X' => Below X9.heap.size X9 X') (fun X9 X' => Fr X9 X' (fun j => (Value.slice lad G.length lcap).ownBlock = some j)) [
          fun v9 _ => v9 = .pointer (some ⟨A, 0, none⟩),
          fun v9 _ => v9 = .pointer (some ⟨A, 0, none⟩),
          fun v9 _ => v9 = .pointer (some ⟨A, 0, none⟩),
          fun v9 _ => v9 = .pointer (some ⟨A, 1, none⟩),
          fun v9 _ => v9 = (.slice lad G.length lcap),
          fun v9 _ => v9 = .agg cs,
          fun v9 X9 => ∃ sa9 sc9 wa9 wc9, v9 = lkV (newL c) sa9 sc9 wa9 wc9 ∧ X9.ownsRow V.heap.size 57 2 (.slice sa9 (newL c).spans.length sc9) (newL c).spans.length ((newL c).spans.flatMap snL) ∧ X9.ownsRow V.heap.size 55 3 (.slice wa9 (newL c).writes.length wc9) (newL c).writes.length ((newL c).writes.flatMap wrL),
          fun v9 X9 => ∃ Z1 sa9 sc9 wa9 wc9, v9 = lv1 Z1 ∧ V.heap.size ≤ Z1 ∧ X9.heap[Z1]? = some (lkO (newL c) sa9 sc9 wa9 wc9) ∧ X9.ownsRow V.heap.size 57 2 (.slice sa9 (newL c).spans.length sc9) (newL c).spans.length ((newL c).spans.flatMap snL) ∧ X9.ownsRow V.heap.size 55 3 (.slice wa9 (newL c).writes.length wc9) (newL c).writes.length ((newL c).writes.flatMap wrL),
          fun v9 X9 => ∃ ad9 cap9 sa9 sc9 wa9 wc9, v9 = .slice ad9 (G.length + 1) cap9 ∧ X9.ownsRow 0 68 7 v9 (G.length + 1) ((G ++ [(newL c, Value.slice sa9 (newL c).spans.length sc9, Value.slice wa9 (newL c).writes.length wc9)]).flatMap glL) ∧ (∀ j, (v9).ownBlock = some j → (Value.slice lad G.length lcap).ownBlock = some j ∨ V.heap.size ≤ j) ∧ Fr V X9 (fun j => (Value.slice lad G.length lcap).ownBlock = some j) ∧ X9.ownsRow V.heap.size 57 2 (.slice sa9 (newL c).spans.length sc9) (newL c).spans.length ((newL c).spans.flatMap snL) ∧ X9.ownsRow V.heap.size 55 3 (.slice wa9 (newL c).writes.length wc9) (newL c).writes.length ((newL c).writes.flatMap wrL),
          fun v9 _ => v9 = .pointer (some ⟨A, 0, none⟩),
          fun v9 _ => v9 = .pointer (some ⟨A, 1, none⟩)]
          (fun _ X8 => ∃ ad9 cap9 sa9 sc9 wa9 wc9 X9, X8 = X9.setCell ⟨A, 1, none⟩ (.slice ad9 (G.length + 1) cap9) ∧ X9.ownsRow 0 68 7 (.slice ad9 (G.length + 1) cap9) (G.length + 1) ((G ++ [(newL c, Value.slice sa9 (newL c).spans.length sc9, Value.slice wa9 (newL c).writes.length wc9)]).flatMap glL) ∧ (∀ j, (Value.slice ad9 (G.length + 1) cap9).ownBlock = some j → (Value.slice lad G.length lcap).ownBlock = some j ∨ V.heap.size ≤ j) ∧ Fr V X9 (fun j => (Value.slice lad G.length lcap).ownBlock = some j) ∧ X9.ownsRow V.heap.size 57 2 (.slice sa9 (newL c).spans.length sc9) (newL c).spans.length ((newL c).spans.flatMap snL) ∧ X9.ownsRow V.heap.size 55 3 (.slice wa9 (newL c).writes.length wc9) (newL c).writes.length ((newL c).writes.flatMap wrL)) rfl (by kernel_rfl) (by kernel_rfl) (by kernel_rfl) (by kernel_rfl) ?st ?stm ?g0 (by decide) ?os ?la ?en
        case st => exact ⟨fun _ _ _ _ h => h, fun _ _ _ _ h => h, fun _ _ _ _ h => h, fun _ _ _ _ h => h, fun _ _ _ _ h => h, fun _ _ _ _ h => h, fun _ _ _ hs ⟨x, y, z, u, e, o1, o2⟩ => ⟨x, y, z, u, e, own_below o1 hs, own_below o2 hs⟩, fun _ _ _ hs ⟨Z1, x, y, z, u, e, z1, z2, o1, o2⟩ => ⟨Z1, x, y, z, u, e, z1, (hs.block _ (blk_lt z2)).trans z2, own_below o1 hs, own_below o2 hs⟩, fun _ _ _ hs ⟨x1, x2, x, y, z, u, e, p1, p2, p3, o1, o2⟩ => ⟨x1, x2, x, y, z, u, e, own_below p1 hs, p2, p3.below hs, own_below o1 hs, own_below o2 hs⟩, fun _ _ _ _ h => h, fun _ _ _ _ h => h, trivial⟩
        case stm => exact ⟨fun _ _ _ _ h => h, fun _ _ _ _ h => h, fun _ _ _ _ h => h, fun _ _ _ _ h => h, fun _ _ _ _ h => h, fun _ _ _ _ h => h, fun _ _ _ hs ⟨x, y, z, u, e, o1, o2⟩ => ⟨x, y, z, u, e, row_keep o1 hs (fun k hk e => by have z8 := (o1.lt k hk).1; have z9 := HRL.out k e; omega), row_keep o2 hs (fun k hk e => by have z8 := (o2.lt k hk).1; have z9 := HRL.out k e; omega)⟩, fun _ _ _ hs ⟨Z1, x, y, z, u, e, z1, z2, o1, o2⟩ => ⟨Z1, x, y, z, u, e, z1, (hs.block _ (blk_lt z2) (fun e => by have z9 := HRL.out _ e; omega)).trans z2, row_keep o1 hs (fun k hk e => by have z8 := (o1.lt k hk).1; have z9 := HRL.out k e; omega), row_keep o2 hs (fun k hk e => by have z8 := (o2.lt k hk).1; have z9 := HRL.out k e; omega)⟩, fun _ _ _ _ h => h, fun _ _ _ _ h => h, fun _ _ _ _ h => h, trivial⟩
        case g0 => exact ⟨⟨rfl, rfl, rfl, Nat.le_refl _, fun _ _ _ => rfl⟩, fun _ => ⟨rfl, rfl, rfl, Nat.le_refl _, fun _ _ => rfl⟩⟩
        case os =>
          refine ⟨?_, ?_, ?_, ?_, ?_, ?_, ?_, ?_, ?_, ?_, ?_, trivial⟩
          · exact ⟨rfl, fun _ ρ X9 d hg ho hc hf hr => Runs.val _ (op_move (show ρ (.tmp 0) = .pointer (some ⟨A, 0, none⟩) from ho 0 rfl)) ⟨hg, Below.refl _ _, rfl⟩, fun e => absurd e (by decide)⟩
          · exact ⟨rfl, fun _ ρ X9 d hg ho hc hf hr => Runs.val _ (op_move (show ρ (.tmp 0) = .pointer (some ⟨A, 0, none⟩) from ho 0 rfl)) ⟨hg, Below.refl _ _, rfl⟩, fun e => absurd e (by decide)⟩
          · exact ⟨rfl, fun _ ρ X9 d hg ho hc hf hr => Runs.val _ (op_nil (show ρ (.tmp 31) = .pointer (some ⟨A, 0, none⟩) from hr 1 31 rfl rfl)) ⟨hg, Below.refl _ _, rfl⟩, fun e => absurd e (by decide)⟩
          · exact ⟨rfl, fun _ ρ X9 d hg ho hc hf hr => Runs.val _ (op_f92_1 (show ρ (.tmp 32) = .pointer (some ⟨A, 0, none⟩) from hr 2 32 rfl rfl)) ⟨hg, Below.refl _ _, rfl⟩, fun e => absurd e (by decide)⟩
          · exact ⟨rfl, fun _ ρ X9 d hg ho hc hf hr => Runs.val _ (op_load31 (show ρ (.tmp 33) = .pointer (some ⟨A, 1, none⟩) from hr 3 33 rfl rfl) (cell_fr hg.1 hnA a1)) ⟨hg, Below.refl _ _, rfl⟩, fun e => absurd e (by decide)⟩
          · refine ⟨rfl, fun _ ρ X9 d hg ho hc hf hr => ?_, fun e => absurd e (by decide)⟩
            have jY9 := (hg.1.block Y (blk_lt HJYV.out) hnY).trans HJYV.out
            exact Runs.val _ (op_loadAt (show ρ (.tmp 5) = .pointer (some ⟨Y, 0, none⟩) from ho 5 rfl) (load_row jY9 Try.underlying47 rfl (by rw [HCV.out.sz]; exact size47))) ⟨hg, Below.refl _ _, rfl⟩
          · refine ⟨rfl, fun _ ρ X9 d hg ho hc hf hr => ?_, fun e => absurd e (by decide)⟩
            have hcX : Cc X9 c cs ra rc wa wc := HAP.out X9 ((Fr.ofBelow S HBV.out).trans (hg.1.mono fun k e => HCL.out k e))
            refine Runs.goes 53 #[.agg cs] (op_call1 hf call53 (show ρ (.tmp 35) = .agg cs from hr 5 35 rfl rfl)) ((newLock_any hcX hz hz2).mono ?_)
            rintro e7 w7 ⟨sa9, sc9, wa9, wc9, rfl, o1, o2, b7⟩
            exact ⟨_, rfl, ⟨hg.1.below b7, fun z => (hg.2 z).trans (b7.mono (hg.2 z).size)⟩, b7, sa9, sc9, wa9, wc9, rfl, own_mono o1 hg.1.size, own_mono o2 hg.1.size⟩
          · refine ⟨rfl, fun _ ρ X9 d hg ho hc hf hr => ?_, fun e => absurd e (by decide)⟩
            obtain ⟨sa9, sc9, wa9, wc9, e, o1, o2⟩ : ∃ sa9 sc9 wa9 wc9, (ρ (.tmp 36)) = lkV (newL c) sa9 sc9 wa9 wc9 ∧ X9.ownsRow V.heap.size 57 2 (.slice sa9 (newL c).spans.length sc9) (newL c).spans.length ((newL c).spans.flatMap snL) ∧ X9.ownsRow V.heap.size 55 3 (.slice wa9 (newL c).writes.length wc9) (newL c).writes.length ((newL c).writes.flatMap wrL) := hr 6 36 rfl rfl
            have hb7 : Below X9.heap.size X9 (X9.alloc (lkO (newL c) sa9 sc9 wa9 wc9)) := (Below.refl _ X9).alloc (Nat.le_refl _) _
            exact Runs.val _ (op_s31 e) ⟨⟨hg.1.below hb7, fun z => (hg.2 z).trans (hb7.mono (hg.2 z).size)⟩, hb7, X9.heap.size, sa9, sc9, wa9, wc9, rfl, hg.1.size, heap_alloc_new X9 _, own_below o1 hb7, own_below o2 hb7⟩
          · refine ⟨rfl, fun e => absurd rfl e, fun _ ρ X9 hg ho hc hf hr => ?_⟩
            obtain ⟨Z1, sa9, sc9, wa9, wc9, e, z1, z2, o1, o2⟩ : ∃ Z1 sa9 sc9 wa9 wc9, (ρ (.tmp 37)) = lv1 Z1 ∧ V.heap.size ≤ Z1 ∧ X9.heap[Z1]? = some (lkO (newL c) sa9 sc9 wa9 wc9) ∧ X9.ownsRow V.heap.size 57 2 (.slice sa9 (newL c).spans.length sc9) (newL c).spans.length ((newL c).spans.flatMap snL) ∧ X9.ownsRow V.heap.size 55 3 (.slice wa9 (newL c).writes.length wc9) (newL c).writes.length ((newL c).writes.flatMap wrL) := hr 7 37 rfl rfl
            have hbX := hg.2 rfl
            obtain ⟨ad9, cap9, w9, hrun, o9, g9, t9⟩ := run_lk (m := 1) (c := 1) (news := glL (newL c, Value.slice sa9 (newL c).spans.length sc9, Value.slice wa9 (newL c).writes.length wc9)) (own_below HRW.out hbX) (Nat.zero_le _) (.inr ⟨⟨Z1, 0, none⟩, rfl, rfl, fun j u hu => by
              rw [add_at, Nat.zero_add, cell_blk z2]
              simpa [glL] using hu⟩) (fun u hu => by simp [glL] at hu; rcases hu with rfl | rfl | rfl | rfl | rfl | rfl | rfl <;> rfl) (by omega)
            have f9 : Fr X9 w9 (fun j => (Value.slice lad G.length lcap).ownBlock = some j) := Fr.grown (Fr.refl X9 _) g9 (fun j hj => .inl hj)
            exact Runs.val _ (op_appendT (show ρ (.tmp 34) = (.slice lad G.length lcap) from hr 4 34 rfl rfl) e hrun) ⟨⟨hg.1.trans f9, fun z => by cases z⟩, f9, ad9, cap9, sa9, sc9, wa9, wc9, rfl, by rw [List.flatMap_append, List.flatMap_singleton]; exact o9, fun j e => (by
              rcases t9 with t9 | t9
              · rw [t9] at e; exact .inl e
              · rw [t9] at e; cases e; exact .inr hbX.size), hg.1.trans f9, row_keep o1 f9 (fun k hk e => by have z8 := (o1.lt k hk).1; have z9 := HRL.out k e; omega), row_keep o2 f9 (fun k hk e => by have z8 := (o2.lt k hk).1; have z9 := HRL.out k e; omega)⟩
          · exact ⟨rfl, fun _ ρ X9 d hg ho hc hf hr => Runs.val _ (op_nil (show ρ (.tmp 30) = .pointer (some ⟨A, 0, none⟩) from hr 0 30 rfl rfl)) ⟨hg, Below.refl _ _, rfl⟩, fun e => absurd e (by decide)⟩
          · exact ⟨rfl, fun _ ρ X9 d hg ho hc hf hr => Runs.val _ (op_f92_1 (show ρ (.tmp 39) = .pointer (some ⟨A, 0, none⟩) from hr 9 39 rfl rfl)) ⟨hg, Below.refl _ _, rfl⟩, fun e => absurd e (by decide)⟩
        case la =>
          refine ⟨rfl, fun ρ X9 hg ho hc hf hr => ?_⟩
          obtain ⟨ad9, cap9, sa9, sc9, wa9, wc9, e, p1, p2, p3, o1, o2⟩ : ∃ ad9 cap9 sa9 sc9 wa9 wc9, (ρ (.tmp 38)) = .slice ad9 (G.length + 1) cap9 ∧ X9.ownsRow 0 68 7 (ρ (.tmp 38)) (G.length + 1) ((G ++ [(newL c, Value.slice sa9 (newL c).spans.length sc9, Value.slice wa9 (newL c).writes.length wc9)]).flatMap glL) ∧ (∀ j, ((ρ (.tmp 38))).ownBlock = some j → (Value.slice lad G.length lcap).ownBlock = some j ∨ V.heap.size ≤ j) ∧ Fr V X9 (fun j => (Value.slice lad G.length lcap).ownBlock = some j) ∧ X9.ownsRow V.heap.size 57 2 (.slice sa9 (newL c).spans.length sc9) (newL c).spans.length ((newL c).spans.flatMap snL) ∧ X9.ownsRow V.heap.size 55 3 (.slice wa9 (newL c).writes.length wc9) (newL c).writes.length ((newL c).writes.flatMap wrL) := hr 8 38 (by decide) rfl
          rw [e] at p1 p2
          have hA9 := (p3.block A (blk_lt HXV.out.ob) hnA).trans HXV.out.ob
          exact Runs.skips (op_store31 (show ρ (.tmp 40) = .pointer (some ⟨A, 1, none⟩) from hr 10 40 (by decide) rfl) e (cell_blk hA9 1) (frozen_blk hA9 1)) ⟨ad9, cap9, sa9, sc9, wa9, wc9, X9, rfl, p1, p2, p3, o1, o2⟩
        case en =>
          intro a X9 Xb v9 hF hs hd ho hv9 hr
          obtain ⟨x, hx, hxt⟩ := act_put hs hd ho
          change a = putAll _ x [30, 31, 32, 33, 34, 35, 36, 37, 38, 39, 40] at hx
          simp only [putAll, Act.put, List.setIfInBounds_toArray, List.set_cons_zero, List.set_cons_succ] at hx
          obtain ⟨ad9, cap9, sa9, sc9, wa9, wc9, X8, rfl, p1, p2, p3, o1, o2⟩ := hF
          have hA8 := (p3.block A (blk_lt HXV.out.ob) hnA).trans HXV.out.ob
          obtain ⟨U, hU⟩ : ∃ U, U = X8.setCell ⟨A, 1, none⟩ (.slice ad9 (G.length + 1) cap9) := ⟨_, rfl⟩
          have fA : Fr X8 U (fun j => j = A) := by rw [hU]; exact Fr.set (a := ⟨A, 1, none⟩) (Fr.refl X8 (fun j => j = A)) (Or.inl rfl) _
          have obU : U.heap[A]? = some (.cells #[.pointer (some ⟨P, 0, none⟩), .slice ad9 (G.length + 1) cap9, rv, .map (some M), ov, .map (some N), .int .i64 s.high] 92 (0, 0)) := by rw [hU]; exact set_blk (i := 1) hA8 _
          have keepA : ∀ {e : TypeId} {c n B : Nat} {v : Value} {xs : List Value}, e ≠ 92 → X8.ownsRow B e c v n xs → U.ownsRow B e c v n xs := fun he h => row_keep h fA (fun j hj q => by
            have q' : j = A := q
            subst q'
            obtain ⟨c1, t1⟩ := own_tag h j hj
            exact tag_ne t1 hA8 he rfl)
          have fU : Fr V U (fun k => k = A ∨ lv.ownBlock = some k) := by
            rw [HLV.out]
            exact (p3.mono fun j q => .inr q).trans (fA.mono fun j q => .inl q)
          obtain ⟨k1, k2⟩ := HXV.out.addLock (l := newL c) fU obU (keepA (by decide) p1) (fun j hj => by rw [HLV.out]; exact p2 j hj) (keepA (by decide) o1) (keepA (by decide) o2) (by omega)
          have hstp : Step V A S (s.lock (newL c)) U := Step.mk HSS.out k1 k2
          have jZU : U.heap[Z]? = some (.cells #[.int .i64 0, .int .i64 0, .int .i64 0, .int .i64 0, .int .i64 0, .int .i64 0, .int .i64 0, .int .i64 0, .bool false] 52 (0, 0)) := by
            obtain ⟨_, _, _, hf⟩ := hstp
            exact (hf.block Z hZV (fun q => by have := HSL.out Z q; omega)).trans HJV.out
          have a6 : U.cell? ⟨A, 6, none⟩ = some (.int .i64 s.high) := cell_blk obU 6
          obtain ⟨X7, hst, jX, fX⟩ := put_rz jZU rfl ⟨0, s.high, td0, 0, true⟩
          have HA : Hid (Step w A S (s.lock (newL c)) X7) := Step.close HBV.out hstp HSL.out fX hZw hZV
          have HJX := Lib.hid jX
          have HU := Lib.hid hU
          clear hs hd ho hr hv9 hxt p1 p2 p3 o1 o2 hA8 fA obU keepA fU k1 k2 hstp jZU jX fX hU
          subst hx
          rw [← HU.out]
          go_wp2_with (refine wpl_store _ _ rfl (by simp [Act.eval]) (by simp [Act.eval]) hst ?_)
          refine bodyPost_ret (ret_rz HJX.out Try.results27 rfl) rfl ?_
          rw [HR.out]
          exact ⟨rfl, HA.out⟩
      · obtain ⟨X, hst, jX, fX⟩ := put_rz jZV rfl r
        have HR : Hid (s.prepare c = (s, r)) := by show _ = _; unfold Sh.prepare; rw [if_neg (of_decide_eq_false HQO.out), HN.out, if_neg (by omega : ¬ (0 : Int) ≤ n), HRR.out, if_pos (by simpa using hre)]
        have HA : Hid (Step w A S s X) := Step.close HBV.out (Step.same HYV.out (Below.refl _ _)) HSL.out fX hZw hZV
        have HJX := Lib.hid jX
        clear jX fX jZV jYV hxV
        go_wp2_with (first | (refine wpl_load _ rfl (by simp [Act.eval]) ld7 ?_) | (refine wpl_store _ _ rfl (by simp [Act.eval, Act.put]) (by simp [Act.eval, Act.put]) hst ?_))
        refine bodyPost_ret (ret_rz HJX.out Try.results27 rfl) rfl ?_
        rw [HR.out]
        exact ⟨rfl, HA.out⟩
end
end Go.Proofs.Ytcoaahlakkghhaa
