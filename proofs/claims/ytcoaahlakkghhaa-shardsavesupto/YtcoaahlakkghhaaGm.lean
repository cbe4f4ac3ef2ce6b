/- The walks of unlock and write. -/
import Derived.Test.YtcoaahlakkghhaaGl
import Derived.Test.YtcoaahlakkghhaaGe
import Derived.Carry
namespace Go.Proofs.Ytcoaahlakkghhaa
open Go.RowKit
section
variable {ρ : Operand → Value} {X : World} {d : Option Tmp} {ty : TypeId} {ps : String} {af : Array Edge} {g : Option (Nat × Bool)}
theorem op_f55_0 {x : Operand} {B o : Nat} (e : ρ x = .pointer (some ⟨B, o, none⟩)) : (execOp ρ ⟨d, .fieldAddr 55 x 0, ty, ps, af, g⟩).run Try.prog X = .ok (.value (.pointer (some ⟨B, o, none⟩))) X := by
  simp only [execOp, e]
  go_simp
theorem op_f55_1 {x : Operand} {B o : Nat} (e : ρ x = .pointer (some ⟨B, o, none⟩)) : (execOp ρ ⟨d, .fieldAddr 55 x 1, ty, ps, af, g⟩).run Try.prog X = .ok (.value (.pointer (some ⟨B, o + 1, none⟩))) X := by
  simp only [execOp, e]
  go_simp
theorem op_f55_2 {x : Operand} {B o : Nat} (e : ρ x = .pointer (some ⟨B, o, none⟩)) : (execOp ρ ⟨d, .fieldAddr 55 x 2, ty, ps, af, g⟩).run Try.prog X = .ok (.value (.pointer (some ⟨B, o + 2, none⟩))) X := by
  simp only [execOp, e]
  go_simp
theorem op_load4 {x : Operand} {B i : Nat} {n : Bool} (e : ρ x = .pointer (some ⟨B, i, none⟩)) (y : X.cell? ⟨B, i, none⟩ = some (.bool n)) : (execOp ρ ⟨d, .load 4 x, ty, ps, af, g⟩).run Try.prog X = .ok (.value (.bool n)) X := by
  simp only [execOp, e]
  go_simp
theorem op_b125 {x y z : Operand} {n : Int} {k : ByteArray} {b : Bool} (e : ρ x = .int .i64 n) (e2 : ρ y = .string k) (e3 : ρ z = .bool b) : (execOp ρ ⟨d, .build 125 #[(0, x), (1, y), (2, z)], ty, ps, af, g⟩).run Try.prog X = .ok (.value (.agg #[.int .i64 n, .string k, .bool b])) X := by
  simp only [execOp]
  simp [e, e2, e3]
  go_simp
theorem call92 {v u x : Value} : Sem.run Try.prog (callFunc 92 #[v, u, x]) X = .ok (.enter 92 #[v, u, x]) X := by go_simp
end
def putW (R : List Rw) (x : Wr) (ts : Int) : List Rw := putR R x.key ⟨ts, x.val, x.dead⟩
def puts (R : List Rw) (L : List Wr) (ts : Int) : List Rw := L.foldl (fun R x => putW R x ts) R
theorem puts_next {R : List Rw} {L : List Wr} {ts : Int} {j : Nat} (h : j < L.length) : puts R (L.take (j + 1)) ts = putW (puts R (L.take j) ts) L[j] ts := by
  unfold puts
  rw [List.take_add_one, List.getElem?_eq_getElem h, List.foldl_append]
  rfl
def Sh.puts (s : Sh) (L : List Wr) (ts : Int) : Sh := { s with rows := Go.Proofs.Ytcoaahlakkghhaa.puts s.rows L ts }
section
variable {w w' X : World} {A : Nat} {S1 S2 S1' : Nat → Prop} {s : Sh} {P M N : Nat} {G : List Gl} {lv rv ov lv' : Value}
theorem Sx.rows' (h : Sx w A S1 S2 s P M N G lv rv ov) {R : List Rw} (hs : Sb w' P S1' R) (hg : ∀ j, S1' j → Gro S1 w w' j) (hf : Fr w w' S1) : Sx w' A S1' S2 { s with rows := R } P M N G lv rv ov := by
  have hd : ∀ k, S2 k → ¬ S1 k := fun k h2 h1 => h.off k h1 h2
  exact {
    ob := (hf.block A (h.lt A h.cA) (hd A h.cA)).trans h.ob, st := hs, lks := row_keep h.lks hf (fun j hj => hd j (h.cl j hj)), gl := h.gl,
    sp := fun g hg => row_keep (h.sp g hg) hf (fun j hj => hd j (h.cs g hg j hj)), wr := fun g hg => row_keep (h.wr g hg) hf (fun j hj => hd j (h.cw g hg j hj)),
    rcs := row_keep h.rcs hf (fun j hj => hd j (h.cr j hj)), ovs := row_keep h.ovs hf (fun j hj => hd j (h.co j hj)), tm := h.tm.like (hf.block M (h.lt M h.cM) (hd M h.cM)), en := h.en.like (hf.block N (h.lt N h.cN) (hd N h.cN)), mn := h.mn,
    cA := h.cA, cM := h.cM, cN := h.cN, cl := h.cl, cr := h.cr, co := h.co, cs := h.cs, cw := h.cw, lt := fun k hk => Nat.lt_of_lt_of_le (h.lt k hk) hf.size,
    off := fun k h1 h2 => (by
      rcases hg k h1 with q | q
      · exact h.off k q h2
      · have := h.lt k h2
        omega),
    fl := h.fl, fr := h.fr, fo := h.fo }
set_option maxHeartbeats 4000000 in
set_option maxRecDepth 100000 in
theorem unlock_no (h : Sx w A S1 S2 s P M N G lv rv ov) {t : Td} (hneg : lockI s.locks t < 0) : Calls Try.prog 54 #[.pointer (some ⟨A, 0, none⟩), tdV t] w fun e w' => e = .returned (.slice none 0 0) ∧ Below w.heap.size w w' := by
  obtain ⟨W, hW⟩ : ∃ W, W = w.alloc (.cells #[.int .i64 t.1, .int .i64 t.2.1, .int .i64 t.2.2] 37) := ⟨_, rfl⟩
  have hb : Below w.heap.size w W := by rw [hW]; exact (Below.refl _ w).alloc (Nat.le_refl _) _
  obtain ⟨Y, hY⟩ : ∃ Y, w.heap.size = Y := ⟨_, rfl⟩
  have jY : W.heap[Y]? = some (.cells #[.int .i64 t.1, .int .i64 t.2.1, .int .i64 t.2.2] 37 (0, 0)) := by rw [hW, ← hY]; exact heap_alloc_new w _
  have b0 : W.cell? ⟨Y, 0, none⟩ = some (.int .i64 t.1) := cell_blk jY 0
  have b01 : W.cell? ⟨Y, 1, none⟩ = some (.int .i64 t.2.1) := cell_blk jY 1
  have b02 : W.cell? ⟨Y, 2, none⟩ = some (.int .i64 t.2.2) := cell_blk jY 2
  have hx := h.on hb
  have HW := Lib.hid hW
  have HY := Lib.hid hY
  have HB := Lib.hid hb
  have hlo := lockOf_any hx (t := t)
  obtain ⟨n, hn⟩ : ∃ n, lockI s.locks t = n := ⟨_, rfl⟩
  rw [hn] at hlo
  have hneg' : n < 0 := by rw [← hn]; exact hneg
  clear hW hY hb jY hx hn hneg h
  go_enter Try.func54, Try.ntmps54
  go_upto_region 1 with fail
  rw [← HW.out, HY.out]
  go_wp2_with fail
  refine hlo.mono ?_
  rintro e w1 ⟨rfl, b1⟩
  have HB1 := Lib.hid (HB.out.trans (b1.mono HB.out.size))
  clear b1 hlo
  go_wp2
  refine bodyPost_ret (v := .slice none 0 0) (by simp [results, Try.results54, go_sem]) rfl ?_
  exact ⟨rfl, HB1.out⟩
set_option maxHeartbeats 4000000 in
set_option maxRecDepth 100000 in
theorem unlock_yes (h : Sx w A S1 S2 s P M N G lv rv ov) {t : Td} {i : Nat} (hi : i < G.length) (hl : lockI s.locks t = (i : Int)) : Calls Try.prog 54 #[.pointer (some ⟨A, 0, none⟩), tdV t] w fun e w' => e = .returned G[i].2.2 ∧ ∃ lv', Sx w' A S1 S2 (s.cut i) P M N (G.eraseIdx i) lv' rv ov ∧ Fr w w' S2 ∧ w'.ownsRow 0 55 3 G[i].2.2 G[i].1.writes.length (G[i].1.writes.flatMap wrL) := by
  obtain ⟨W, hW⟩ : ∃ W, W = w.alloc (.cells #[.int .i64 t.1, .int .i64 t.2.1, .int .i64 t.2.2] 37) := ⟨_, rfl⟩
  have hb : Below w.heap.size w W := by rw [hW]; exact (Below.refl _ w).alloc (Nat.le_refl _) _
  obtain ⟨Y, hY⟩ : ∃ Y, w.heap.size = Y := ⟨_, rfl⟩
  have jY : W.heap[Y]? = some (.cells #[.int .i64 t.1, .int .i64 t.2.1, .int .i64 t.2.2] 37 (0, 0)) := by rw [hW, ← hY]; exact heap_alloc_new w _
  have b0 : W.cell? ⟨Y, 0, none⟩ = some (.int .i64 t.1) := cell_blk jY 0
  have b01 : W.cell? ⟨Y, 1, none⟩ = some (.int .i64 t.2.1) := cell_blk jY 1
  have b02 : W.cell? ⟨Y, 2, none⟩ = some (.int .i64 t.2.2) := cell_blk jY 2
  have hx := h.on hb
  have HW := Lib.hid hW
  have HY := Lib.hid hY
  have HB := Lib.hid hb
  have hlo := lockOf_any hx (t := t)
  rw [hl] at hlo
  obtain ⟨lad, lcap, elv⟩ := hx.shape
  have HX := Lib.hid hx
  obtain ⟨wa, wc, ewv⟩ := own_shape (hx.wr _ (List.getElem_mem hi))
  obtain ⟨g, hlad⟩ : ∃ g, lad = some ⟨g, 0, none⟩ := by
    rcases hx.lks.2 with ⟨hv, h0⟩ | ⟨g, cap, cur, hv, _⟩
    · omega
    · rw [elv] at hv
      cases hv
      exact ⟨g, rfl⟩
  subst hlad
  have hrow : W.ownsRow 0 68 7 (.slice (some ⟨g, 0, none⟩) G.length lcap) G.length (G.flatMap glL) := by rw [← elv]; exact hx.lks
  have a1 : W.cell? ⟨A, 1, none⟩ = some (.slice (some ⟨g, 0, none⟩) G.length lcap) := by rw [← elv]; exact cell_blk hx.ob 1
  have c6 : W.cell? ⟨g, i * 7 + 6, none⟩ = some (.slice wa G[i].1.writes.length wc) := by
    rw [hrow.cellAt _ (by omega), fl_get glL_len G i hi 6 (by decide)]
    show some G[i].2.2 = _
    rw [ewv]
  have hone : ∀ u ∈ G.flatMap glL, u.oneCell' = true := gl_one fun x hx' => by
    obtain ⟨a, b, e1⟩ := own_shape (hx.sp x hx')
    obtain ⟨a', b', e2⟩ := own_shape (hx.wr x hx')
    exact ⟨⟨a, _, b, e1⟩, a', _, b', e2⟩
  have hgA : A ≠ g := fun e => by
    obtain ⟨cur, q, _⟩ := row_blk hrow
    rw [← e] at q
    exact tag_ne hx.ob q (by decide) rfl
  have HEW := Lib.hid ewv
  have HEL := Lib.hid elv
  have HRW := Lib.hid hrow
  have HONE := Lib.hid hone
  have hmG : (G.length : Int) ≤ 9223372036854775807 := by have := hx.fl; omega
  have q0 : (0 : Int) ≤ (i : Int) := by omega
  have q1 : (i : Int) < (G.length : Int) := by omega
  have q2 : ¬ (i : Int) < 0 := by omega
  obtain ⟨nw, hnw⟩ : ∃ nw, G[i].1.writes.length = nw := ⟨_, rfl⟩
  rw [hnw] at c6
  have HNW := Lib.hid hnw
  clear hW hY hb jY hx h hl ewv elv hrow hone hnw
  go_enter Try.func54, Try.ntmps54
  go_upto_region 1 with fail
  rw [← HW.out, HY.out]
  go_wp2_with fail
  refine hlo.mono ?_
  rintro e w1 ⟨rfl, b1⟩
  have a1 := cell_on b1 a1
  have c6 := cell_on b1 c6
  have hdel := delete_any (own_below HRW.out b1) hi HONE.out
  have HB1 := Lib.hid (HB.out.trans (b1.mono HB.out.size))
  have hx1 := HX.out.on b1
  have HX1 := Lib.hid hx1
  have HB01 := Lib.hid b1
  clear hlo b1 hx1
  go_wp2_with fail
  refine hdel.mono ?_
  rintro e w2 ⟨rfl, o2, f2⟩
  have ob2 := (f2.block A (blk_lt HX1.out.ob) (fun e => hgA e)).trans HX1.out.ob
  have d1 : w2.cell? ⟨A, 1, none⟩ = some lv := cell_blk ob2 1
  have d2 : w2.frozen? ⟨A, 1, none⟩ = false := frozen_blk ob2 1
  obtain ⟨U, hU⟩ : ∃ U, U = w2.setCell ⟨A, 1, none⟩ (.slice (some ⟨g, 0, none⟩) (G.length - 1) lcap) := ⟨_, rfl⟩
  have HA : Hid (∃ lv', Sx U A S1 S2 (s.cut i) P M N (G.eraseIdx i) lv' rv ov ∧ Fr w U S2 ∧ U.ownsRow 0 55 3 G[i].2.2 G[i].1.writes.length (G[i].1.writes.flatMap wrL)) := by
    have fA : Fr w2 U (fun j => j = A) := by rw [hU]; exact Fr.set (a := ⟨A, 1, none⟩) (Fr.refl w2 (fun j => j = A)) (Or.inl rfl) _
    have obU : U.heap[A]? = some (.cells #[.pointer (some ⟨P, 0, none⟩), .slice (some ⟨g, 0, none⟩) (G.length - 1) lcap, rv, .map (some M), ov, .map (some N), .int .i64 s.high] 92 (0, 0)) := by rw [hU]; exact set_blk (i := 1) ob2 _
    have oU : U.ownsRow 0 68 7 (.slice (some ⟨g, 0, none⟩) (G.length - 1) lcap) (G.length - 1) ((G.eraseIdx i).flatMap glL) := row_keep o2 fA (fun j hj q => by
      have q' : j = A := q
      have hj' : g = j := by simpa [Value.ownBlock] using hj
      exact hgA (by rw [← q', hj']))
    have fU : Fr w1 U (fun k => k = A ∨ lv.ownBlock = some k) := by
      rw [HEL.out]
      exact (f2.mono fun j q => .inr (by have q' : j = g := q; rw [q']; rfl)).trans (fA.mono fun j q => .inl q)
    obtain ⟨k1, k2⟩ := HX1.out.cutLock hi fU obU oU (fun j hj => by rw [HEL.out]; exact hj)
    have oW := keep_row (HX1.out.wr _ (List.getElem_mem hi)) fU (fun k q cs hk => by
      rcases q with rfl | q
      · rw [HX1.out.ob] at hk
        simp only [Option.some.injEq, Obj.cells.injEq] at hk
        exact absurd hk.2.1 (by decide)
      · obtain ⟨cs', t⟩ := own_tag HX1.out.lks k q
        rw [t] at hk
        simp only [Option.some.injEq, Obj.cells.injEq] at hk
        exact absurd hk.2.1 (by decide))
    exact ⟨_, k1, (Fr.ofBelow S2 HB1.out).trans k2, oW⟩
  have HU := Lib.hid hU
  clear hdel o2 f2 ob2 hU a1 c6
  go_wp2
  refine bodyPost_ret (v := .slice wa nw wc) (by simp [results, Try.results54, go_sem]) rfl ?_
  rw [← HU.out]
  exact ⟨by rw [HEW.out, HNW.out], HA.out⟩
def WJ (w : World) (A : Nat) (S1 S2 : Nat → Prop) (s : Sh) (P M N : Nat) (G : List Gl) (lv rv ov : Value) (L : List Wr) (ts : Int) (wr : World) (iv : Value) : Prop := ∃ (j : Nat) (S1' : Nat → Prop), j ≤ L.length ∧ iv = .int .i64 (j : Int) ∧ Sx wr A S1' S2 (s.puts (L.take j) ts) P M N G lv rv ov ∧ (∀ k, S1' k → Gro S1 w wr k) ∧ Fr w wr S1 ∧ (s.puts (L.take j) ts).rows.length ≤ s.rows.length + j ∧ ∀ b, (∀ r ∈ s.rows, r.list.length ≤ b) → ∀ r ∈ (s.puts (L.take j) ts).rows, r.list.length ≤ b + j
set_option maxHeartbeats 4000000 in
set_option maxRecDepth 100000 in
theorem write_any (h : Sx w A S1 S2 s P M N G lv rv ov) {L : List Wr} {wa : Option Addr} {wc : Nat} (hr : w.ownsRow 0 55 3 (.slice wa L.length wc) L.length (L.flatMap wrL)) (hcv : ∀ k, (Value.slice wa L.length wc).ownBlock = some k → S2 k) (ts : Int) {bd : Nat} (hb1 : s.rows.length + L.length < 800000) (hb2 : ∀ r ∈ s.rows, r.list.length ≤ bd) (hb3 : bd + L.length < 800000) :
    Calls Try.prog 55 #[.pointer (some ⟨A, 0, none⟩), .slice wa L.length wc, .int .i64 ts] w fun e w' => e = .returned (.tuple #[]) ∧ ∃ S1', Sx w' A S1' S2 (s.puts L ts) P M N G lv rv ov ∧ (∀ k, S1' k → Gro S1 w w' k) ∧ Fr w w' S1 := by
  have hlr : Lr wrE 3 w L (.slice wa L.length wc) := Lr.own wrL_len hr
  obtain ⟨_, _, e1, _, z1, z2, _⟩ := hlr
  cases e1
  have hmx : (L.length : Int) ≤ 9223372036854775807 := by unfold maxLen at z2; omega
  have hoff := h.off
  have H0 : Hid (WJ w A S1 S2 s P M N G lv rv ov L ts w (.int .i64 0)) := ⟨0, S1, Nat.zero_le _, rfl, h, fun k hk => .inl hk, Fr.refl _ _, Nat.le_refl _, fun b hb r hr => hb r hr⟩
  have HR := Lib.hid hr
  have HCV := Lib.hid hcv
  have HOFF := Lib.hid hoff
  have HH := Lib.hid h
  clear h hr hcv hoff z1 z2
  go_enter Try.func55, Try.ntmps55
  go_wp2
  go_loopw [10] (fun iv wr => WJ w A S1 S2 s P M N G lv rv ov L ts wr iv) (fun iv _ => L.length - (intOf iv).toNat)
  case atStart => exact H0.out
  case round =>
    clear H0
    obtain ⟨j, S1', hj, rfl, hx, hg, hf, hl1, hl2⟩ := hrel
    obtain ⟨V, rfl⟩ : ∃ V, V = wr := ⟨_, rfl⟩
    by_cases hlt : j < L.length
    · have hrV := row_keep HR.out hf (fun k hk q => HOFF.out k q (HCV.out k hk))
      obtain ⟨_, _, e1, _, _, _, hcs⟩ := Lr.own wrL_len hrV
      cases e1
      obtain ⟨b, o, cs, rfl, _, hE, _, hcell⟩ := hcs j hlt
      have hE' : cs = wrL L[j] := hE
      subst hE'
      have c0 := hcell 0 _ rfl
      have c1 := hcell 1 _ rfl
      have c2 := hcell 2 _ rfl
      simp only [Nat.add_zero] at c0
      have k0 : (0 : Int) ≤ j := by omega
      have k1 : (j : Int) < L.length := by omega
      have hnx : s.puts (L.take (j + 1)) ts = { s with rows := putW (s.puts (L.take j) ts).rows L[j] ts } := by
        show ({ s with rows := Go.Proofs.Ytcoaahlakkghhaa.puts s.rows (L.take (j + 1)) ts } : Sh) = _
        rw [puts_next hlt]
        rfl
      obtain ⟨s1, hs1⟩ : ∃ s1, s.puts (L.take j) ts = s1 := ⟨_, rfl⟩
      have hs1e : s1 = { s with rows := s1.rows } := by rw [← hs1]; rfl
      rw [hs1] at hx hl1 hl2 hnx
      obtain ⟨x, hxe⟩ : ∃ x, L[j] = x := ⟨_, rfl⟩
      rw [hxe] at c0 c1 c2 hnx
      obtain ⟨V1, hV1⟩ : ∃ V1, V1 = V.alloc (.cells #[.string x.key, .string x.val, .bool x.dead] 55) := ⟨_, rfl⟩
      obtain ⟨Y, hY⟩ : ∃ Y, V.heap.size = Y := ⟨_, rfl⟩
      have bb : Below V.heap.size V V1 := by rw [hV1]; exact (Below.refl _ V).alloc (Nat.le_refl _) _
      have jY : V1.heap[Y]? = some (.cells #[.string x.key, .string x.val, .bool x.dead] 55 (0, 0)) := by rw [hV1, ← hY]; exact heap_alloc_new V _
      have m0 : V1.cell? ⟨Y, 0, none⟩ = some (.string x.key) := cell_blk jY 0
      have m1 : V1.cell? ⟨Y, 1, none⟩ = some (.string x.val) := cell_blk jY 1
      have m2 : V1.cell? ⟨Y, 2, none⟩ = some (.bool x.dead) := cell_blk jY 2
      have hx1 := hx.on bb
      have a0 : V1.cell? ⟨A, 0, none⟩ = some (.pointer (some ⟨P, 0, none⟩)) := cell_blk hx1.ob 0
      have HPUT : Hid (∀ X, Below V1.heap.size V1 X → Calls Try.prog 92 #[.pointer (some ⟨P, 0, none⟩), .string x.key, veV ⟨ts, x.val, x.dead⟩] X fun e w' => PutAns X P S1' s1.rows x.key ⟨ts, x.val, x.dead⟩ e w') := fun X hX => put_b (hx1.st.on hX) x.key ⟨ts, x.val, x.dead⟩ (by omega) (fun r hr => by have := hl2 bd hb2 r hr; omega)
      have HNJ : Hid (∀ X e X', Below V1.heap.size V1 X → PutAns X P S1' s1.rows x.key ⟨ts, x.val, x.dead⟩ e X' → WJ w A S1 S2 s P M N G lv rv ov L ts X' (.int .i64 ((j + 1 : Nat) : Int))) := by
        rintro X e X' hX ⟨_, S1n, q1, q2, q3⟩
        have bVX : Below V.heap.size V X := bb.trans (hX.mono bb.size)
        have hn := (hx1.on hX).rows' q1 q2 q3
        refine ⟨j + 1, S1n, hlt, rfl, ?_, fun k hk => ?_, ?_, ?_, ?_⟩
        · rw [hnx]
          rw [hs1e] at hn
          exact hn
        · rcases q2 k hk with z | z
          · rcases hg k z with y | y
            · exact .inl y
            · have := bVX.size
              have := q3.size
              exact .inr ⟨y.1, by omega⟩
          · have := hf.size
            have := bVX.size
            exact .inr ⟨by omega, z.2⟩
        · have f1 : Fr w X S1 := hf.below bVX
          exact f1.step q3 (fun k hk => by
            rcases hg k hk with y | y
            · exact .inl y
            · exact .inr y.1)
        · rw [hnx]
          have := put_len s1.rows x.key ⟨ts, x.val, x.dead⟩
          show (putR s1.rows x.key ⟨ts, x.val, x.dead⟩).length ≤ _
          omega
        · intro b hb
          rw [hnx]
          have := put_less (hl2 b hb) x.key ⟨ts, x.val, x.dead⟩
          intro r hr
          have := this r hr
          omega
      have HV1 := Lib.hid hV1
      have HY := Lib.hid hY
      clear hV1 hY bb jY hx hx1 hg hf hl1 hl2 hrV hcs hcell hnx hs1 hs1e hxe
      go_upto_region 3 with fail
      rw [← HV1.out, HY.out]
      refine wp_region_last (fun X9 => Below V1.heap.size V1 X9) (fun _ _ => True) [
        fun v9 _ => v9 = .pointer (some ⟨A, 0, none⟩),
        fun v9 _ => v9 = .pointer (some ⟨A, 0, none⟩),
        fun v9 _ => v9 = .pointer (some ⟨A, 0, none⟩),
        fun v9 _ => v9 = .pointer (some ⟨P, 0, none⟩),
        fun v9 _ => v9 = .pointer (some ⟨Y, 0, none⟩),
        fun v9 _ => v9 = .string x.key,
        fun v9 _ => v9 = .int .i64 ts,
        fun v9 _ => v9 = .pointer (some ⟨Y, 1, none⟩),
        fun v9 _ => v9 = .string x.val,
        fun v9 _ => v9 = .pointer (some ⟨Y, 2, none⟩),
        fun v9 _ => v9 = .bool x.dead,
        fun v9 _ => v9 = .agg #[.int .i64 ts, .string x.val, .bool x.dead]]
        (fun _ X9 => WJ w A S1 S2 s P M N G lv rv ov L ts X9 (.int .i64 ((j + 1 : Nat) : Int))) rfl (by kernel_rfl) (by kernel_rfl) (by kernel_rfl) (by kernel_rfl) ?st ?g0 ?os ?la ?en
      case st => exact ⟨fun _ _ _ _ h => h, fun _ _ _ _ h => h, fun _ _ _ _ h => h, fun _ _ _ _ h => h, fun _ _ _ _ h => h, fun _ _ _ _ h => h, fun _ _ _ _ h => h, fun _ _ _ _ h => h, fun _ _ _ _ h => h, fun _ _ _ _ h => h, fun _ _ _ _ h => h, fun _ _ _ _ h => h, trivial⟩
      case g0 => exact ⟨rfl, rfl, rfl, Nat.le_refl _, fun _ _ => rfl⟩
      case os =>
        refine ⟨?_, ?_, ?_, ?_, ?_, ?_, ?_, ?_, ?_, ?_, ?_, ?_, trivial⟩
        · exact ⟨rfl, fun ρ X9 hg ho hc hf hr => Runs.val _ (op_move (show ρ (.tmp 0) = .pointer (some ⟨A, 0, none⟩) from ho 0 rfl)) ⟨hg, trivial, rfl⟩⟩
        · exact ⟨rfl, fun ρ X9 hg ho hc hf hr => Runs.val _ (op_nil (show ρ (.tmp 14) = .pointer (some ⟨A, 0, none⟩) from hr 0 14 rfl rfl)) ⟨hg, trivial, rfl⟩⟩
        · exact ⟨rfl, fun ρ X9 hg ho hc hf hr => Runs.val _ (op_f92_0 (show ρ (.tmp 15) = .pointer (some ⟨A, 0, none⟩) from hr 1 15 rfl rfl)) ⟨hg, trivial, rfl⟩⟩
        · exact ⟨rfl, fun ρ X9 hg ho hc hf hr => Runs.val _ (op_load87 (show ρ (.tmp 16) = .pointer (some ⟨A, 0, none⟩) from hr 2 16 rfl rfl) (cell_on hg a0)) ⟨hg, trivial, rfl⟩⟩
        · exact ⟨rfl, fun ρ X9 hg ho hc hf hr => Runs.val _ (op_f55_0 (show ρ (.tmp 7) = .pointer (some ⟨Y, 0, none⟩) from ho 7 rfl)) ⟨hg, trivial, rfl⟩⟩
        · exact ⟨rfl, fun ρ X9 hg ho hc hf hr => Runs.val _ (op_load9 (show ρ (.tmp 18) = .pointer (some ⟨Y, 0, none⟩) from hr 4 18 rfl rfl) (cell_on hg m0)) ⟨hg, trivial, rfl⟩⟩
        · exact ⟨rfl, fun ρ X9 hg ho hc hf hr => Runs.val _ (op_move (show ρ (.tmp 2) = .int .i64 ts from ho 2 rfl)) ⟨hg, trivial, rfl⟩⟩
        · exact ⟨rfl, fun ρ X9 hg ho hc hf hr => Runs.val _ (op_f55_1 (show ρ (.tmp 7) = .pointer (some ⟨Y, 0, none⟩) from ho 7 rfl)) ⟨hg, trivial, rfl⟩⟩
        · exact ⟨rfl, fun ρ X9 hg ho hc hf hr => Runs.val _ (op_load9 (show ρ (.tmp 21) = .pointer (some ⟨Y, 1, none⟩) from hr 7 21 rfl rfl) (cell_on hg m1)) ⟨hg, trivial, rfl⟩⟩
        · exact ⟨rfl, fun ρ X9 hg ho hc hf hr => Runs.val _ (op_f55_2 (show ρ (.tmp 7) = .pointer (some ⟨Y, 0, none⟩) from ho 7 rfl)) ⟨hg, trivial, rfl⟩⟩
        · exact ⟨rfl, fun ρ X9 hg ho hc hf hr => Runs.val _ (op_load4 (show ρ (.tmp 23) = .pointer (some ⟨Y, 2, none⟩) from hr 9 23 rfl rfl) (cell_on hg m2)) ⟨hg, trivial, rfl⟩⟩
        · exact ⟨rfl, fun ρ X9 hg ho hc hf hr => Runs.val _ (op_b125 (show ρ (.tmp 20) = .int .i64 ts from hr 6 20 rfl rfl) (show ρ (.tmp 22) = .string x.val from hr 8 22 rfl rfl) (show ρ (.tmp 24) = .bool x.dead from hr 10 24 rfl rfl)) ⟨hg, trivial, rfl⟩⟩
      case la =>
        refine ⟨rfl, fun ρ X9 hg ho hc hf hr => ?_⟩
        refine Runs.goes 92 #[.pointer (some ⟨P, 0, none⟩), .string x.key, veV ⟨ts, x.val, x.dead⟩] (op_call3 hf call92 (show ρ (.tmp 17) = .pointer (some ⟨P, 0, none⟩) from hr 3 17 (by decide) rfl) (show ρ (.tmp 19) = .string x.key from hr 5 19 (by decide) rfl) (show ρ (.tmp 25) = .agg #[.int .i64 ts, .string x.val, .bool x.dead] from hr 11 25 (by decide) rfl)) ((HPUT.out X9 hg).mono ?_)
        intro e7 w7 h7
        have h8 := HNJ.out X9 e7 w7 hg h7
        obtain ⟨rfl, _⟩ := h7
        exact ⟨_, rfl, h8⟩
      case en =>
        intro a X9 Xb v9 hF hs hd ho hv9 hr
        obtain ⟨x9, hx, hxt⟩ := act_put hs hd ho
        change a = putAll _ x9 [14, 15, 16, 17, 18, 19, 20, 21, 22, 23, 24, 25, 26] at hx
        simp only [putAll, Act.put, List.setIfInBounds_toArray, List.set_cons_zero, List.set_cons_succ] at hx
        have HF := Lib.hid hF
        clear hF hs hd ho hr hxt hv9
        subst hx
        go_wp2
        go_roundw
        case rel => exact HF.out
        case measure => simp [intOf]; omega
    · have k1 : ¬ (j : Int) < L.length := by omega
      have ej : L.take j = L := List.take_of_length_le (by omega)
      rw [ej] at hx
      have HA : Hid (∃ S1', Sx V A S1' S2 (s.puts L ts) P M N G lv rv ov ∧ (∀ k, S1' k → Gro S1 w V k) ∧ Fr w V S1) := ⟨S1', hx, hg, hf⟩
      clear hx hg hf hl1 hl2 ej
      go_wp2
      refine bodyPost_end (results_none rfl _ _ _) rfl ?_
      exact ⟨rfl, HA.out⟩
end
end Go.Proofs.Ytcoaahlakkghhaa
/- The walk of resolve. -/
namespace Go.Proofs.Ytcoaahlakkghhaa
open Go.RowKit
section
variable {ρ : Operand → Value} {X : World} {d : Option Tmp} {ty : TypeId} {ps : String} {af : Array Edge} {g : Option (Nat × Bool)}
theorem op_f47_8 {x : Operand} {B o : Nat} (e : ρ x = .pointer (some ⟨B, o, none⟩)) : (execOp ρ ⟨d, .fieldAddr 47 x 8, ty, ps, af, g⟩).run Try.prog X = .ok (.value (.pointer (some ⟨B, o + 12, none⟩))) X := by
  simp only [execOp, e]
  go_simp
theorem op_f92_6 {x : Operand} {B o : Nat} (e : ρ x = .pointer (some ⟨B, o, none⟩)) : (execOp ρ ⟨d, .fieldAddr 92 x 6, ty, ps, af, g⟩).run Try.prog X = .ok (.value (.pointer (some ⟨B, o + 6, none⟩))) X := by
  simp only [execOp, e]
  go_simp
theorem op_max3 {x y : Operand} {a b : Int} (e : ρ x = .int .i64 a) (e2 : ρ y = .int .i64 b) : (execOp ρ ⟨d, .call { callee := .builtin .max, args := #[x, y], argTypes := #[3, 3] }, ty, ps, af, g⟩).run Try.prog X = .ok (.value (.int .i64 (if a < b then b else a))) X := by
  simp only [execOp]
  simp [resolve, invoke, builtin, e, e2]
  go_simp
theorem op_storeN {x y : Operand} {B i : Nat} {n : Int} {u : Value} (e : ρ x = .pointer (some ⟨B, i, none⟩)) (e2 : ρ y = .int .i64 n) (c : X.cell? ⟨B, i, none⟩ = some u) (z : X.frozen? ⟨B, i, none⟩ = false) : (execOp ρ ⟨d, .store 3 x y, ty, ps, af, g⟩).run Try.prog X = .ok .skip (X.setCell ⟨B, i, none⟩ (.int .i64 n)) := by
  simp only [execOp, e, e2]
  go_simp
end
/-! ### Plain -/
def Sh.unlock (s : Sh) (t : Td) : Sh × List Wr := if lockI s.locks t < 0 then (s, []) else (s.cut (lockI s.locks t).toNat, ((s.locks[(lockI s.locks t).toNat]?).map Lk.writes).getD [])
def Sh.ended (s : Sh) (t : Td) : Sh := { s with over := s.over ++ [t] }
def Sh.raise (s : Sh) (n : Int) : Sh := { s with high := if s.high < n then n else s.high }
def Sh.resolve (s : Sh) (c : Cm) : Sh × Rz := if c.txn ∈ s.over then (s, rz0) else
  (if 0 < c.ts then (((s.ended c.txn).unlock c.txn).1.puts ((s.ended c.txn).unlock c.txn).2 c.ts).raise c.ts else ((s.ended c.txn).unlock c.txn).1, ⟨0, 0, td0, 0, true⟩)
theorem fidx_lt {α : Type} {p : α → Bool} {L : List α} {i : Nat} (h : fidx p L = (i : Int)) : i < L.length := by
  unfold fidx at h
  cases e : L.findIdx? p with
  | none =>
    rw [e] at h
    simp only at h
    omega
  | some j =>
    rw [e] at h
    simp only at h
    obtain ⟨hj, _⟩ := List.findIdx?_eq_some_iff_getElem.1 e
    omega
theorem unlock_rows (s : Sh) (t : Td) : (s.unlock t).1.rows = s.rows := by
  unfold Sh.unlock
  split <;> rfl
theorem unlock_len {s : Sh} {t : Td} {b : Nat} (h : ∀ l ∈ s.locks, l.writes.length ≤ b) : (s.unlock t).2.length ≤ b := by
  unfold Sh.unlock
  split
  · exact Nat.zero_le _
  · cases e : s.locks[(lockI s.locks t).toNat]? with
    | none => exact Nat.zero_le _
    | some l => exact h l (List.mem_of_getElem? e)
section
variable {w w1 w' X : World} {A : Nat} {S S' S1 S2 S1' : Nat → Prop} {s s' : Sh} {P M N : Nat} {G : List Gl} {lv rv ov lv' : Value}
theorem Sx.high (h : Sx w A S1 S2 s P M N G lv rv ov) (n : Int) (hw : w' = w.setCell ⟨A, 6, none⟩ (.int .i64 n)) : Sx w' A S1 S2 { s with high := n } P M N G lv rv ov ∧ Fr w w' (fun k => k = A) := by
  have hf : Fr w w' (fun k => k = A) := by rw [hw]; exact Fr.set (a := ⟨A, 6, none⟩) (Fr.refl w (fun j => j = A)) (Or.inl rfl) _
  obtain ⟨es, cl, hM⟩ := h.tm.isMap
  obtain ⟨es2, cl2, hN⟩ := h.en.isMap
  have tag : ∀ {e : TypeId}, e ≠ 92 → ∀ k, k = A → ∀ cs, w.heap[k]? ≠ some (.cells cs e (0, 0)) := by
    rintro e q1 k rfl cs hk
    rw [h.ob] at hk
    simp only [Option.some.injEq, Obj.cells.injEq] at hk
    exact q1 hk.2.1.symm
  have mapK : ∀ B es cl, w.heap[B]? = some (.map es cl) → ¬ B = A := by
    rintro B es cl hB q
    rw [q, h.ob] at hB
    cases hB
  refine ⟨{
    ob := by rw [hw]; exact set_blk (i := 6) h.ob _
    st := h.st.stays hf (fun k hk q => h.off k hk (by have q' : k = A := q; rw [q']; exact h.cA))
    lks := keep_row h.lks hf (tag (by decide))
    gl := h.gl
    sp := fun g hg => keep_row (h.sp g hg) hf (tag (by decide))
    wr := fun g hg => keep_row (h.wr g hg) hf (tag (by decide))
    rcs := keep_row h.rcs hf (tag (by decide))
    ovs := keep_row h.ovs hf (tag (by decide))
    tm := h.tm.like (hf.block M (h.lt M h.cM) (mapK M es cl hM))
    en := h.en.like (hf.block N (h.lt N h.cN) (mapK N es2 cl2 hN))
    mn := h.mn
    cA := h.cA
    cM := h.cM
    cN := h.cN
    cl := h.cl
    cr := h.cr
    co := h.co
    cs := h.cs
    cw := h.cw
    lt := fun k hk => Nat.lt_of_lt_of_le (h.lt k hk) hf.size
    off := h.off
    fl := h.fl
    fr := h.fr
    fo := h.fo }, hf⟩
theorem Step.next (hg : ∀ j, S' j → Gro S w w1 j) (hf : Fr w w1 S) (st : Step w1 A S' s' w') : Step w A S s' w' := by
  obtain ⟨S2, y, g, f⟩ := st
  refine ⟨S2, y, fun j q => ?_, hf.step f fun j q => ?_⟩
  · have z1 := hf.size
    have z2 := f.size
    rcases g j q with z | z
    · rcases hg j z with u | u
      · exact .inl u
      · exact .inr ⟨u.1, by omega⟩
    · exact .inr ⟨by omega, z.2⟩
  · rcases hg j q with u | u
    · exact .inl u
    · exact .inr u.1
theorem Step.own (h : Sx w' A S1 S2 s' P M N G lv rv ov) (hS : ∀ k, S k ↔ S1 k ∨ S2 k) (hf : Fr w w' S2) : Step w A S s' w' :=
  ⟨S, ⟨S1, S2, P, M, N, G, lv, rv, ov, h, hS⟩, fun _ q => .inl q, hf.mono fun k q => (hS k).2 (.inr q)⟩
theorem Step.grow (h : Sx w' A S1' S2 s' P M N G lv rv ov) (hS : ∀ k, S k ↔ S1 k ∨ S2 k) (hg : ∀ k, S1' k → Gro S1 w w' k) (hf : Fr w w' S1) : Step w A S s' w' :=
  ⟨fun k => S1' k ∨ S2 k, ⟨S1', S2, P, M, N, G, lv, rv, ov, h, fun _ => Iff.rfl⟩, fun k q => by
    rcases q with q | q
    · rcases hg k q with z | z
      · exact .inl ((hS k).2 (.inl z))
      · exact .inr z
    · exact .inl ((hS k).2 (.inr q)), hf.mono fun k q => (hS k).2 (.inl q)⟩
theorem unlock_any (h : Sx w A S1 S2 s P M N G lv rv ov) {t : Td} : Calls Try.prog 54 #[.pointer (some ⟨A, 0, none⟩), tdV t] w fun e w' => ∃ wa wc G' lv', e = .returned (.slice wa (s.unlock t).2.length wc) ∧ Sx w' A S1 S2 (s.unlock t).1 P M N G' lv' rv ov ∧ w'.ownsRow 0 55 3 (.slice wa (s.unlock t).2.length wc) (s.unlock t).2.length ((s.unlock t).2.flatMap wrL) ∧ (∀ k, (Value.slice wa (s.unlock t).2.length wc).ownBlock = some k → S2 k) ∧ Fr w w' S2 := by
  by_cases hneg : lockI s.locks t < 0
  · have e : s.unlock t = (s, []) := if_pos hneg
    rw [e]
    refine (unlock_no h hneg).mono ?_
    rintro e w' ⟨rfl, b⟩
    exact ⟨none, 0, G, lv, rfl, h.on b, World.ownsRow_nil _ _ _ _, (fun k hk => by cases hk), Fr.ofBelow S2 b⟩
  · obtain ⟨i, hi⟩ : ∃ i : Nat, lockI s.locks t = (i : Int) := ⟨_, (Int.toNat_of_nonneg (by omega)).symm⟩
    have hlt : i < s.locks.length := fidx_lt hi
    have hG : s.locks.length = G.length := by rw [← h.gl]; simp
    have hiG : i < G.length := by omega
    have hlk : s.locks[i]? = some G[i].1 := by rw [← h.gl, List.getElem?_map, List.getElem?_eq_getElem hiG]; rfl
    have e : s.unlock t = (s.cut i, G[i].1.writes) := by
      unfold Sh.unlock
      rw [if_neg hneg, hi, Int.toNat_natCast, hlk]
      rfl
    rw [e]
    obtain ⟨wa, wc, ewv⟩ := own_shape (h.wr _ (List.getElem_mem hiG))
    refine (unlock_yes h hiG hi).mono ?_
    rintro e w' ⟨rfl, lv', k1, k2, k3⟩
    rw [ewv] at k3
    refine ⟨wa, wc, _, lv', by rw [ewv], k1, k3, fun k hk => ?_, k2⟩
    rw [← ewv] at hk
    exact h.cw _ (List.getElem_mem hiG) k hk
end
section
variable {w w' : World} {A : Nat} {S : Nat → Prop} {s : Sh} {c : Cm} {cs : Array Value} {ra wa : Option Addr} {rc wc : Nat}
set_option maxHeartbeats 4000000 in
set_option maxRecDepth 100000 in
theorem resolve_any (hy : Sy w A S s) (hc : Cc w c cs ra rc wa wc) (ht : TdOk c.txn) (hfew : s.over.length < 800000) {bw bd : Nat} (hlw : ∀ l ∈ s.locks, l.writes.length ≤ bw) (hb1 : s.rows.length + bw < 800000) (hb2 : ∀ r ∈ s.rows, r.list.length ≤ bd) (hb3 : bd + bw < 800000) (a0 : Int) : Calls Try.prog 30 #[.pointer (some ⟨A, 0, none⟩), .int .i64 a0, .agg cs] w fun e w' => e = .returned (rzV (s.resolve c).2) ∧ Step w A S (s.resolve c).1 w' := by
  obtain ⟨W, hW⟩ : ∃ W, W = (w.alloc (.cells cs 47)).alloc (.cells #[.int .i64 0, .int .i64 0, .int .i64 0, .int .i64 0, .int .i64 0, .int .i64 0, .int .i64 0, .int .i64 0, .bool false] 52) := ⟨_, rfl⟩
  obtain ⟨hb, jY, jZ, hZW⟩ := box47 hW
  obtain ⟨Y, hY⟩ : ∃ Y, w.heap.size = Y := ⟨_, rfl⟩
  obtain ⟨Z, hZ⟩ : ∃ Z, Y + 1 = Z := ⟨_, rfl⟩
  rw [hY] at jY jZ hZW
  rw [hZ] at jZ hZW
  have b4 : W.cell? ⟨Y, 4, none⟩ = some (.int .i64 c.txn.1) := (cell_blk jY 4).trans hc.t0
  have b5 : W.cell? ⟨Y, 5, none⟩ = some (.int .i64 c.txn.2.1) := (cell_blk jY 5).trans hc.t1
  have b6 : W.cell? ⟨Y, 6, none⟩ = some (.int .i64 c.txn.2.2) := (cell_blk jY 6).trans hc.t2
  have hZw : w.heap.size ≤ Z := by omega
  have hyl := hy.lt
  have HSY := Lib.hid hy
  have HYW := Lib.hid (hy.on hb)
  have HSL := Lib.hid hyl
  obtain ⟨S1, S2, P, M, N, G, lv, rv, ov, hx, hS⟩ := hy.on hb
  have HW := Lib.hid hW
  have HY := Lib.hid hY
  have HZ := Lib.hid hZ
  have HB := Lib.hid hb
  have HJZ := Lib.hid jZ
  have HJY := Lib.hid jY
  have HX := Lib.hid hx
  have HSS := Lib.hid hS
  have hov := isOver_any hx ht
  obtain ⟨q, hq⟩ : ∃ q, decide (c.txn ∈ s.over) = q := ⟨_, rfl⟩
  rw [hq] at hov
  have HQ := Lib.hid hq
  have HTS : Hid (cs[12]? = some (.int .i64 c.ts)) := hc.ts
  clear hW hY hZ hb jY jZ hx hS hq hy hc hyl
  go_enter Try.func30, Try.ntmps30
  go_upto_region 1 with fail
  rw [← HW.out, HY.out, HZ.out]
  go_wp2_with fail
  refine hov.mono ?_
  rintro e w1 ⟨rfl, b1⟩
  have jZ1 := (b1.block Z (blk_lt HJZ.out)).trans HJZ.out
  have jY1 := (b1.block Y (blk_lt HJY.out)).trans HJY.out
  have HB1 := Lib.hid (HB.out.trans (b1.mono HB.out.size))
  have HX1 := Lib.hid (HX.out.on b1)
  have hZ1 : Z < w1.heap.size := blk_lt jZ1
  have hY1 : Y < w1.heap.size := blk_lt jY1
  have HJ1 := Lib.hid jZ1
  have HJY1 := Lib.hid jY1
  cases q with
  | true =>
    obtain ⟨X, hst, jX, fX⟩ := put_rz jZ1 rfl rz0
    have HR : Hid (s.resolve c = (s, rz0)) := by show _ = _; unfold Sh.resolve; rw [if_pos (of_decide_eq_true HQ.out)]
    have HA : Hid (Step w A S s X) := Step.close HB1.out (Step.same (HYW.out.on b1) (Below.refl _ _)) HSL.out fX hZw hZ1
    have HJX := Lib.hid jX
    clear jX fX b1 hov jZ1 jY1
    go_wp2_with (refine wpl_store _ _ rfl (by simp [Act.eval]) (by simp [Act.eval, rz0]) hst ?_)
    refine bodyPost_ret (ret_rz HJX.out Try.results30 rfl) rfl ?_
    rw [HR.out]
    exact ⟨rfl, HA.out⟩
  | false =>
    have c4 := cell_on b1 b4
    have c5 := cell_on b1 b5
    have c6 := cell_on b1 b6
    have hen := end_any HX1.out HSS.out ht hfew
    clear b1 hov jZ1 jY1 b4 b5 b6
    go_wp2_with fail
    refine hen.mono ?_
    rintro e w2 ⟨rfl, S', hy2, hg2, hf2⟩
    have hN : ∀ k, w.heap.size ≤ k → k < w1.heap.size → ¬ S' k := fun k z1 z2 z3 => by
      rcases hg2 k z3 with u | u
      · have := HSL.out k u
        omega
      · omega
    have hNS : ∀ k, w.heap.size ≤ k → ¬ S k := fun k z1 z3 => by
      have := HSL.out k z3
      omega
    have hYw : w.heap.size ≤ Y := by have := HY.out; omega
    have jY2 := (hf2.block Y hY1 (hNS Y hYw)).trans HJY1.out
    have jZ2 := (hf2.block Z hZ1 (hNS Z hZw)).trans HJ1.out
    obtain ⟨T1, T2, P2, M2, N2, G2, lv2, rv2, ov2, hx2, hT⟩ := hy2
    have hun := unlock_any hx2 (t := c.txn)
    obtain ⟨u, hu⟩ : ∃ u, (s.ended c.txn).unlock c.txn = u := ⟨_, rfl⟩
    have hur : u.1.rows = s.rows := by rw [← hu]; exact unlock_rows _ _
    have hul : u.2.length ≤ bw := by rw [← hu]; exact unlock_len (s := s.ended c.txn) hlw
    change Calls _ _ _ _ (fun e w' => ∃ wa wc G' lv', e = .returned (.slice wa ((s.ended c.txn).unlock c.txn).2.length wc) ∧ Sx w' A T1 T2 ((s.ended c.txn).unlock c.txn).1 P2 M2 N2 G' lv' rv2 ov2 ∧ w'.ownsRow 0 55 3 (.slice wa ((s.ended c.txn).unlock c.txn).2.length wc) ((s.ended c.txn).unlock c.txn).2.length (((s.ended c.txn).unlock c.txn).2.flatMap wrL) ∧ (∀ k, (Value.slice wa ((s.ended c.txn).unlock c.txn).2.length wc).ownBlock = some k → T2 k) ∧ Fr w2 w' T2) at hun
    rw [hu] at hun
    have HU := Lib.hid hu
    have HG2 := Lib.hid hg2
    have HF2 := Lib.hid hf2
    have HTT := Lib.hid hT
    have HN := Lib.hid hN
    have nY : ¬ T1 Y ∧ ¬ T2 Y := ⟨fun z => hN Y hYw hY1 ((hT Y).2 (.inl z)), fun z => hN Y hYw hY1 ((hT Y).2 (.inr z))⟩
    have nZ : ¬ T1 Z ∧ ¬ T2 Z := ⟨fun z => hN Z hZw hZ1 ((hT Z).2 (.inl z)), fun z => hN Z hZw hZ1 ((hT Z).2 (.inr z))⟩
    have hY2 : Y < w2.heap.size := blk_lt jY2
    have hZ2 : Z < w2.heap.size := blk_lt jZ2
    have d4 : w2.cell? ⟨Y, 4, none⟩ = some (.int .i64 c.txn.1) := by rw [← c4]; exact (cell_blk jY2 4).trans (cell_blk HJY1.out 4).symm
    have d5 : w2.cell? ⟨Y, 5, none⟩ = some (.int .i64 c.txn.2.1) := by rw [← c5]; exact (cell_blk jY2 5).trans (cell_blk HJY1.out 5).symm
    have d6 : w2.cell? ⟨Y, 6, none⟩ = some (.int .i64 c.txn.2.2) := by rw [← c6]; exact (cell_blk jY2 6).trans (cell_blk HJY1.out 6).symm
    have HJY2 := Lib.hid jY2
    have HJZ2 := Lib.hid jZ2
    clear c4 c5 c6 hen jY2 jZ2 hN hNS hT hf2 hg2 hu
    go_wp2_with fail
    refine hun.mono ?_
    rintro e w3 ⟨wa3, wc3, G3, lv3, rfl, hx3, hr3, hcv3, hf3⟩
    have jY3 := (hf3.block Y hY2 nY.2).trans HJY2.out
    have jZ3 := (hf3.block Z hZ2 nZ.2).trans HJZ2.out
    have hY3 : Y < w3.heap.size := blk_lt jY3
    have hZ3 : Z < w3.heap.size := blk_lt jZ3
    have c12 : w3.cell? ⟨Y, 12, none⟩ = some (.int .i64 c.ts) := (cell_blk jY3 12).trans HTS.out
    have HST3 : Hid (Step w1 A S u.1 w3) := Step.next HG2.out HF2.out (Step.own hx3 HTT.out hf3)
    have HX3 := Lib.hid hx3
    have HJY3 := Lib.hid jY3
    have HJZ3 := Lib.hid jZ3
    have HF3 := Lib.hid hf3
    by_cases hts : 0 < c.ts
    · have hwr := write_any hx3 hr3 hcv3 c.ts (bd := bd) (by rw [hur]; omega) (by rw [hur]; exact hb2) (by omega)
      have HR : Hid (s.resolve c = ((u.1.puts u.2 c.ts).raise c.ts, ⟨0, 0, td0, 0, true⟩)) := by show _ = _; unfold Sh.resolve; rw [if_neg (of_decide_eq_false HQ.out), if_pos hts, HU.out]
      obtain ⟨n3, hn3⟩ : ∃ n3, u.2.length = n3 := ⟨_, rfl⟩
      rw [hn3] at hwr
      clear d4 d5 d6 hun hx3 hr3 hcv3 hf3 jY3 jZ3 hur hul
      rw [hn3]
      clear hn3
      go_wp2_with fail
      refine hwr.mono ?_
      rintro e w4 ⟨rfl, T3, hx4, hg4, hf4⟩
      have jY4 := (hf4.block Y hY3 nY.1).trans HJY3.out
      have jZ4 := (hf4.block Z hZ3 nZ.1).trans HJZ3.out
      have e12 : w4.cell? ⟨Y, 12, none⟩ = some (.int .i64 c.ts) := (cell_blk jY4 12).trans HTS.out
      have a6 : w4.cell? ⟨A, 6, none⟩ = some (.int .i64 (u.1.puts u.2 c.ts).high) := cell_blk hx4.ob 6
      have HX4 := Lib.hid hx4
      have HG4 := Lib.hid hg4
      have HF4 := Lib.hid hf4
      have HJZ4 := Lib.hid jZ4
      obtain ⟨hh, hhh⟩ : ∃ hh, (u.1.puts u.2 c.ts).high = hh := ⟨_, rfl⟩
      rw [hhh] at a6
      have HHH := Lib.hid hhh
      clear hwr hx4 hg4 hf4 jY4 jZ4 c12 hhh
      go_upto_region 7 with fail
      refine wp_region_last (fun X9 => Below w4.heap.size w4 X9) (fun _ _ => True) [
        fun v9 _ => v9 = .pointer (some ⟨A, 0, none⟩),
        fun v9 _ => v9 = .pointer (some ⟨A, 0, none⟩),
        fun v9 _ => v9 = .pointer (some ⟨A, 0, none⟩),
        fun v9 _ => v9 = .pointer (some ⟨A, 6, none⟩),
        fun v9 _ => v9 = .int .i64 hh,
        fun v9 _ => v9 = .pointer (some ⟨Y, 12, none⟩),
        fun v9 _ => v9 = .int .i64 c.ts,
        fun v9 _ => v9 = .int .i64 (if hh < c.ts then c.ts else hh),
        fun v9 _ => v9 = .pointer (some ⟨A, 0, none⟩),
        fun v9 _ => v9 = .pointer (some ⟨A, 6, none⟩)]
        (fun _ X8 => ∃ X9, X8 = X9.setCell ⟨A, 6, none⟩ (.int .i64 (if hh < c.ts then c.ts else hh)) ∧ Below w4.heap.size w4 X9) rfl (by kernel_rfl) (by kernel_rfl) (by kernel_rfl) (by kernel_rfl) ?st ?g0 ?os ?la ?en
      case st => exact ⟨fun _ _ _ _ h => h, fun _ _ _ _ h => h, fun _ _ _ _ h => h, fun _ _ _ _ h => h, fun _ _ _ _ h => h, fun _ _ _ _ h => h, fun _ _ _ _ h => h, fun _ _ _ _ h => h, fun _ _ _ _ h => h, fun _ _ _ _ h => h, trivial⟩
      case g0 => exact ⟨rfl, rfl, rfl, Nat.le_refl _, fun _ _ => rfl⟩
      case os =>
        refine ⟨?_, ?_, ?_, ?_, ?_, ?_, ?_, ?_, ?_, ?_, trivial⟩
        · exact ⟨rfl, fun ρ X9 hg ho hc hf hr => Runs.val _ (op_move (show ρ (.tmp 0) = .pointer (some ⟨A, 0, none⟩) from ho 0 rfl)) ⟨hg, trivial, rfl⟩⟩
        · exact ⟨rfl, fun ρ X9 hg ho hc hf hr => Runs.val _ (op_move (show ρ (.tmp 0) = .pointer (some ⟨A, 0, none⟩) from ho 0 rfl)) ⟨hg, trivial, rfl⟩⟩
        · exact ⟨rfl, fun ρ X9 hg ho hc hf hr => Runs.val _ (op_nil (show ρ (.tmp 30) = .pointer (some ⟨A, 0, none⟩) from hr 1 30 rfl rfl)) ⟨hg, trivial, rfl⟩⟩
        · exact ⟨rfl, fun ρ X9 hg ho hc hf hr => Runs.val _ (op_f92_6 (show ρ (.tmp 31) = .pointer (some ⟨A, 0, none⟩) from hr 2 31 rfl rfl)) ⟨hg, trivial, rfl⟩⟩
        · exact ⟨rfl, fun ρ X9 hg ho hc hf hr => Runs.val _ (op_load3 (show ρ (.tmp 32) = .pointer (some ⟨A, 6, none⟩) from hr 3 32 rfl rfl) (cell_on hg a6)) ⟨hg, trivial, rfl⟩⟩
        · exact ⟨rfl, fun ρ X9 hg ho hc hf hr => Runs.val _ (op_f47_8 (show ρ (.tmp 5) = .pointer (some ⟨Y, 0, none⟩) from ho 5 rfl)) ⟨hg, trivial, rfl⟩⟩
        · exact ⟨rfl, fun ρ X9 hg ho hc hf hr => Runs.val _ (op_load3 (show ρ (.tmp 34) = .pointer (some ⟨Y, 12, none⟩) from hr 5 34 rfl rfl) (cell_on hg e12)) ⟨hg, trivial, rfl⟩⟩
        · exact ⟨rfl, fun ρ X9 hg ho hc hf hr => Runs.val _ (op_max3 (show ρ (.tmp 33) = .int .i64 hh from hr 4 33 rfl rfl) (show ρ (.tmp 35) = .int .i64 c.ts from hr 6 35 rfl rfl)) ⟨hg, trivial, rfl⟩⟩
        · exact ⟨rfl, fun ρ X9 hg ho hc hf hr => Runs.val _ (op_nil (show ρ (.tmp 29) = .pointer (some ⟨A, 0, none⟩) from hr 0 29 rfl rfl)) ⟨hg, trivial, rfl⟩⟩
        · exact ⟨rfl, fun ρ X9 hg ho hc hf hr => Runs.val _ (op_f92_6 (show ρ (.tmp 37) = .pointer (some ⟨A, 0, none⟩) from hr 8 37 rfl rfl)) ⟨hg, trivial, rfl⟩⟩
      case la =>
        refine ⟨rfl, fun ρ X9 hg ho hc hf hr => ?_⟩
        have hx9 := HX4.out.on hg
        exact Runs.skips (op_storeN (show ρ (.tmp 38) = .pointer (some ⟨A, 6, none⟩) from hr 9 38 (by decide) rfl) (show ρ (.tmp 36) = .int .i64 (if hh < c.ts then c.ts else hh) from hr 7 36 (by decide) rfl) (cell_blk hx9.ob 6) (frozen_blk hx9.ob 6)) ⟨X9, rfl, hg⟩
      case en =>
        intro a X9 Xb v9 hF hs hd ho hv9 hr
        obtain ⟨x9, hx, hxt⟩ := act_put hs hd ho
        change a = putAll _ x9 [29, 30, 31, 32, 33, 34, 35, 36, 37, 38] at hx
        simp only [putAll, Act.put, List.setIfInBounds_toArray, List.set_cons_zero, List.set_cons_succ] at hx
        obtain ⟨X8, rfl, b8⟩ := hF
        obtain ⟨V, hV⟩ : ∃ V, V = X8.setCell ⟨A, 6, none⟩ (.int .i64 (if hh < c.ts then c.ts else hh)) := ⟨_, rfl⟩
        obtain ⟨hxV, fV⟩ := (HX4.out.on b8).high _ hV
        have gV : ∀ k, T3 k → Gro T1 w3 V k := fun k q => by
          have z1 := b8.size
          have z2 := fV.size
          rcases HG4.out k q with z | z
          · exact .inl z
          · exact .inr ⟨z.1, by omega⟩
        have f4 : Fr w3 X8 T1 := HF4.out.below b8
        have cA3 := HX3.out.cA
        have nA : Z ≠ A := fun e => nZ.2 (by rw [e]; exact cA3)
        have jZV := (fV.block Z (Nat.lt_of_lt_of_le (blk_lt HJZ4.out) b8.size) nA).trans ((b8.block Z (blk_lt HJZ4.out)).trans HJZ4.out)
        have HSV : Hid (Step w1 A S ((u.1.puts u.2 c.ts).raise c.ts) V) := by
          have e1 : (u.1.puts u.2 c.ts).raise c.ts = { (u.1.puts u.2 c.ts) with high := if hh < c.ts then c.ts else hh } := by rw [← HHH.out]; rfl
          rw [e1]
          refine Step.next HG2.out (HF2.out) ?_
          refine Step.next (S' := S') (w1 := w3) (fun _ q => .inl q) (HF3.out.mono fun k q => (HTT.out k).2 (.inr q)) ?_
          exact ⟨fun k => T3 k ∨ T2 k, ⟨T3, T2, _, _, _, _, _, _, _, hxV, fun _ => Iff.rfl⟩, fun k q => (by
            rcases q with q | q
            · rcases gV k q with z | z
              · exact .inl ((HTT.out k).2 (.inl z))
              · exact .inr z
            · exact .inl ((HTT.out k).2 (.inr q))), (f4.mono fun k q => (HTT.out k).2 (.inl q)).trans (fV.mono fun k q => (by
            have q' : k = A := q
            rw [q']
            exact (HTT.out A).2 (.inr cA3)))⟩
        obtain ⟨X, hst, jX, fX⟩ := put_rz jZV rfl ⟨0, 0, td0, 0, true⟩
        have HA : Hid (Step w A S ((u.1.puts u.2 c.ts).raise c.ts) X) := Step.close HB1.out HSV.out HSL.out fX hZw hZ1
        have HJX := Lib.hid jX
        have HV := Lib.hid hV
        clear hs hd ho hr hxt hv9 hxV fV gV f4 jZV jX fX b8 hV
        subst hx
        rw [← HV.out]
        go_wp2_with (refine wpl_store _ _ rfl (by simp [Act.eval]) (by simp [Act.eval]) hst ?_)
        refine bodyPost_ret (ret_rz HJX.out Try.results30 rfl) rfl ?_
        rw [HR.out]
        exact ⟨rfl, HA.out⟩
    · have HR : Hid (s.resolve c = (u.1, ⟨0, 0, td0, 0, true⟩)) := by show _ = _; unfold Sh.resolve; rw [if_neg (of_decide_eq_false HQ.out), if_neg hts, HU.out]
      obtain ⟨X, hst, jX, fX⟩ := put_rz jZ3 rfl ⟨0, 0, td0, 0, true⟩
      have HA : Hid (Step w A S u.1 X) := Step.close HB1.out HST3.out HSL.out fX hZw hZ1
      have HJX := Lib.hid jX
      clear jX fX d4 d5 d6 hun hx3 hr3 hcv3 hf3 jY3 jZ3 hur hul
      go_wp2_with (refine wpl_store _ _ rfl (by simp [Act.eval]) (by simp [Act.eval]) hst ?_)
      refine bodyPost_ret (ret_rz HJX.out Try.results30 rfl) rfl ?_
      rw [HR.out]
      exact ⟨rfl, HA.out⟩
end
end Go.Proofs.Ytcoaahlakkghhaa
/- A new shard; the map of what commands do. -/
namespace Go.Proofs.Ytcoaahlakkghhaa
open Go.RowKit Go.Maps
/-! ### Maps whose keys are numbers -/
theorem key3 : Keyed Try.prog 3 := int_keyed Try.underlying3
theorem isKey3 (i : Int) : WideAt.IsKeyLit (.int .i64 i) := by first | trivial | exact Or.inr (Or.inl ⟨_, _, rfl⟩) | simp [WideAt.IsKeyLit]
theorem key3_of {i : Int} (h : I64 i) : keyOf Try.prog 3 (.int .i64 i) = some (.int .i64 i) := keyOf_int_mk Try.underlying3 (WalkArith.wf_i64 (by omega))
theorem zero93 (w : World) : (zeroValue 93).run Try.prog w = .ok .nilFunc w := by kernel_rfl
/-- Block B is a map of at most n entries that holds what f says. -/
def Mi (w : World) (B n : Nat) (f : Int → Option Value) : Prop := ∃ D : DataW Value, w.ownsMap Try.prog 3 itself B n D ∧ ∀ i, has D (.int .i64 i) = (f i).isSome ∧ ∀ e, f i = some e → ∀ z, D.atKey (.int .i64 i) z = .held e
section
variable {w w' : World} {B n : Nat} {f : Int → Option Value} {T e : TypeId} {z : Value}
theorem Mi.made (w : World) : Mi (w.alloc (.map #[] 0)) w.heap.size 0 (fun _ => none) :=
  ⟨_, World.ownsMap_made w _ _ _, fun i => ⟨rfl, fun e h => by cases h⟩⟩
theorem Mi.lt (h : Mi w B n f) : B < w.heap.size := by
  obtain ⟨D, h1, _⟩ := h
  exact h1.lt
theorem Mi.look (h : Mi w B n f) (ht : Try.prog.underlying T = some (.map 3 e)) (hz : (zeroValue e).run Try.prog w = .ok z w) {i : Int} (hi : I64 i) : (Instr.lookup T (.map (some B)) (.int .i64 i) true).run Try.prog w = .ok (.tuple #[(f i).getD z, .bool (f i).isSome]) w := by
  obtain ⟨D, h1, h2⟩ := h
  obtain ⟨v, ps, hr, hv⟩ := h1.look_ok key3 ht hz (zd := .held z) (zp := []) rfl (key3_of hi)
  rw [hr, (h2 i).1]
  have hv : DataW.held v = D.atKey (.int .i64 i) (.held z) := by
    have := congrArg (Option.map Prod.fst) hv
    simpa [itself] using this
  cases hf : f i with
  | none =>
    have h3 := (h2 i).1
    rw [hf] at h3
    rw [atKey_of_not_has h3] at hv
    cases hv
    rfl
  | some x =>
    rw [(h2 i).2 x hf] at hv
    cases hv
    rfl
theorem Mi.put (h : Mi w B n f) (ht : Try.prog.underlying T = some (.map 3 e)) (hn : n < maxLen) {i : Int} (hi : I64 i) (x : Value) : ∃ w', (Instr.mapUpdate T (.map (some B)) (.int .i64 i) x).run Try.prog w = .ok () w' ∧ Mi w' B (n + 1) (fun j => if j = i then some x else f j) ∧ w.grownBy w' (some B) := by
  obtain ⟨D, h1, h2⟩ := h
  obtain ⟨w', hr, h3, h4⟩ := h1.update key3 ht hn (val := x) (d := .held x) (ps := []) (key3_of hi) rfl
  refine ⟨w', hr, ⟨_, h3, fun j => ?_⟩, h4⟩
  dsimp only
  by_cases hj : j = i
  · subst hj
    rw [if_pos rfl]
    refine ⟨has_put_same h1.isMap (isKey3 j) _, fun v he z => ?_⟩
    cases he
    exact atKey_put_same h1.isMap (isKey3 j) _ _
  · rw [if_neg hj]
    have hne : (Lit.int .i64 j) ≠ .int .i64 i := fun q => hj (by injection q)
    refine ⟨by rw [has_put_other hne]; exact (h2 j).1, fun v he z => ?_⟩
    rw [atKey_put_other hne]
    exact (h2 j).2 v he z
end
theorem Fr.low {w w' : World} {B : Nat} (h : Fr w w' (fun k => k = B)) (hB : w.heap.size ≤ B) : Below w.heap.size w w' :=
  ⟨h.os, h.tape, h.output, h.size, fun k hk => h.block k hk (fun e => by have e' : k = B := e; omega)⟩
abbrev fnV (F : Nat) : Value := .func (.func F) #[] #[]
/-- What a command of a kind does. -/
def doF (k : Int) : Option Value := if k = 4 then some (fnV 30) else if k = 3 then some (fnV 29) else if k = 2 then some (fnV 28) else if k = 1 then some (fnV 27) else none
theorem do_map (w : World) : ∃ V0 V1 V2 V3 V4 B, (Instr.makeMap 94 none).run Try.prog w = .ok (.map (some B)) V0 ∧ (Instr.mapUpdate 94 (.map (some B)) (.int .i64 1) (fnV 27)).run Try.prog V0 = .ok () V1 ∧ (Instr.mapUpdate 94 (.map (some B)) (.int .i64 2) (fnV 28)).run Try.prog V1 = .ok () V2 ∧ (Instr.mapUpdate 94 (.map (some B)) (.int .i64 3) (fnV 29)).run Try.prog V2 = .ok () V3 ∧ (Instr.mapUpdate 94 (.map (some B)) (.int .i64 4) (fnV 30)).run Try.prog V3 = .ok () V4
    ∧ (∀ k, I64 k → (Instr.lookup 94 (.map (some B)) (.int .i64 k) true).run Try.prog V4 = .ok (.tuple #[(doF k).getD .nilFunc, .bool (doF k).isSome]) V4) ∧ Below w.heap.size w V4 := by
  have m0 := Mi.made w
  obtain ⟨V1, r1, m1, g1⟩ := m0.put Try.underlying94 (by unfold maxLen; omega) (i := 1) (by unfold I64; omega) (fnV 27)
  obtain ⟨V2, r2, m2, g2⟩ := m1.put Try.underlying94 (by unfold maxLen; omega) (i := 2) (by unfold I64; omega) (fnV 28)
  obtain ⟨V3, r3, m3, g3⟩ := m2.put Try.underlying94 (by unfold maxLen; omega) (i := 3) (by unfold I64; omega) (fnV 29)
  obtain ⟨V4, r4, m4, g4⟩ := m3.put Try.underlying94 (by unfold maxLen; omega) (i := 4) (by unfold I64; omega) (fnV 30)
  refine ⟨_, V1, V2, V3, V4, w.heap.size, run_makeMap 94 w, r1, r2, r3, r4, fun k hk => m4.look Try.underlying94 (zero93 V4) hk, ?_⟩
  have f0 : Fr w (w.alloc (.map #[] 0)) (fun k => k = w.heap.size) := Fr.ofBelow _ ((Below.refl _ w).alloc (Nat.le_refl _) _)
  have f1 := Fr.grown f0 g1 (fun j hj => .inl (Option.some.inj hj).symm)
  have f2 := Fr.grown f1 g2 (fun j hj => .inl (Option.some.inj hj).symm)
  have f3 := Fr.grown f2 g3 (fun j hj => .inl (Option.some.inj hj).symm)
  have f4 := Fr.grown f3 g4 (fun j hj => .inl (Option.some.inj hj).symm)
  exact f4.low (Nat.le_refl _)
/-! ### New -/
theorem newS_any (w : World) : Calls Try.prog 11 #[] w fun e w' => ∃ A S, e = .returned (.pointer (some ⟨A, 0, none⟩)) ∧ Sy w' A S Sh.nil ∧ (∀ k, S k → w.heap.size ≤ k ∧ k < w'.heap.size) ∧ Below w.heap.size w w' := by
  have hn := new_any w
  have hmm := @run_makeMap Try.prog
  go_enter Try.func11, Try.ntmps11
  go_wp2_with fail
  refine hn.mono ?_
  rintro e w1 ⟨rfl, hs, b1⟩
  obtain ⟨W, hW⟩ : ∃ W, W = (w1.alloc (.map #[] 0)).alloc (.map #[] 0) := ⟨_, rfl⟩
  obtain ⟨V, hV⟩ : ∃ V, V = W.alloc (.cells #[.pointer (some ⟨w.heap.size, 0, none⟩), .slice none 0 0, .slice none 0 0, .map (some w1.heap.size), .slice none 0 0, .map (some (w1.heap.size + 1)), .int .i64 0] 92) := ⟨_, rfl⟩
  have bW : Below w1.heap.size w1 W := by rw [hW]; exact ((Below.refl _ w1).alloc (Nat.le_refl _) _).alloc (by simp) _
  have sW : W.heap.size = w1.heap.size + 2 := by rw [hW]; simp
  have bV : Below W.heap.size W V := by rw [hV]; exact (Below.refl _ W).alloc (Nat.le_refl _) _
  have sV : V.heap.size = w1.heap.size + 3 := by rw [hV]; simp [sW]
  have mM : Mt V w1.heap.size 0 (fun _ => none) := by
    have := (Mt.made w1).on ((Below.refl _ (w1.alloc (.map #[] 0))).alloc (Nat.le_refl _) (.map #[] 0))
    rw [← hW] at this
    exact this.on bV
  have mN : Mt V (w1.heap.size + 1) 0 (fun _ => none) := by
    have := Mt.made (w1.alloc (.map #[] 0))
    rw [← hW] at this
    simp only [World.size_alloc] at this
    exact this.on bV
  have ob : V.heap[w1.heap.size + 2]? = some (.cells #[.pointer (some ⟨w.heap.size, 0, none⟩), .slice none 0 0, .slice none 0 0, .map (some w1.heap.size), .slice none 0 0, .map (some (w1.heap.size + 1)), .int .i64 0] 92 (0, 0)) := by
    rw [hV, ← sW]
    exact heap_alloc_new W _
  have hlt : w.heap.size < w1.heap.size := by obtain ⟨_, _, q, _⟩ := hs; exact blk_lt q.ob
  have HX : Hid (Sx V (w1.heap.size + 2) (fun k => k = w.heap.size) (fun k => w1.heap.size ≤ k ∧ k < w1.heap.size + 3) Sh.nil w.heap.size w1.heap.size (w1.heap.size + 1) [] (.slice none 0 0) (.slice none 0 0) (.slice none 0 0)) := {
    ob := ob
    st := (hs.on bW).on bV
    lks := World.ownsRow_nil _ _ _ _
    gl := rfl
    sp := fun g hg => by cases hg
    wr := fun g hg => by cases hg
    rcs := World.ownsRow_nil _ _ _ _
    ovs := World.ownsRow_nil _ _ _ _
    tm := mM
    en := mN
    mn := by omega
    cA := by constructor <;> omega
    cM := by constructor <;> omega
    cN := by constructor <;> omega
    cl := fun k hk => by cases hk
    cr := fun k hk => by cases hk
    co := fun k hk => by cases hk
    cs := fun g hg => by cases hg
    cw := fun g hg => by cases hg
    lt := fun k hk => by rw [sV]; exact hk.2
    off := fun k h1 h2 => by have h1' : k = w.heap.size := h1; have h2' : w1.heap.size ≤ k ∧ k < w1.heap.size + 3 := h2; omega
    fl := Nat.zero_le _
    fr := Nat.zero_le _
    fo := Nat.zero_le _ }
  have HB : Hid (Below w.heap.size w V) := Lib.hid ((b1.trans (bW.mono b1.size)).trans (bV.mono (Nat.le_trans b1.size bW.size)))
  have HV := Lib.hid hV
  have HW := Lib.hid hW
  have HL := Lib.hid hlt
  have HSV := Lib.hid sV
  clear hV hW bW bV mM mN ob hs b1 sW sV hlt
  go_wp2
  refine bodyPost_ret (v := .pointer (some ⟨w1.heap.size + 2, 0, none⟩)) (by simp [results, Try.results11, go_sem]) rfl ?_
  rw [← HW.out, ← HV.out]
  refine ⟨_, fun k => k = w.heap.size ∨ (w1.heap.size ≤ k ∧ k < w1.heap.size + 3), rfl, ⟨_, _, _, _, _, _, _, _, _, HX.out, fun _ => Iff.rfl⟩, fun k hk => ?_, HB.out⟩
  have h1 := HL.out
  have h2 := HSV.out
  rcases hk with hk | hk
  · exact ⟨by omega, by omega⟩
  · exact ⟨by omega, by omega⟩
end Go.Proofs.Ytcoaahlakkghhaa
/- The walk of Do. -/
namespace Go.Proofs.Ytcoaahlakkghhaa
open Go.RowKit
theorem wpl_upd {P : Program} {w w' : World} {ops : Array Oper} {rest : List Oper} {o : Oper} {a : Act} {Q : Exit → Act → World → Prop} {t ty : TypeId} {p k v : Value} {ds : Option Tmp} {ps : String} {af : Array Edge} (x y z : Operand)
    (ho : o = ⟨ds, .insert t x y z, ty, ps, af, none⟩) (hx : a.eval x = p) (hy : a.eval y = k) (hz : a.eval z = v) (hst : (Instr.mapUpdate t p k v).run P w = .ok () w')
    (h : wpList P ops Q rest (a.put ds undef) w') : wpList P ops Q (o :: rest) a w := by
  subst ho
  subst hx
  subst hy
  subst hz
  refine wpList_plain rfl fun K hK => ?_
  unfold Oper.wp execOp
  simp only [Sem.run_bind, Sem.run_pure, Result.andThen_ok, hst]
  exact hK _ _ h
section
variable {w w' : World} {A : Nat} {S : Nat → Prop} {s : Sh} {c : Cm} {cs : Array Value} {ra wa : Option Addr} {rc wc : Nat}
set_option maxHeartbeats 4000000 in
set_option maxRecDepth 100000 in
theorem do_1 (hy : Sy w A S s) (hc : Cc w c cs ra rc wa wc) (hkd : c.kind = 1) (hkk : I64 c.kind) (a0 : Int) {r : Sh × Rz} (hcall : ∀ X, Below w.heap.size w X → Calls Try.prog 27 #[.pointer (some ⟨A, 0, none⟩), .int .i64 a0, .agg cs] X fun e w' => e = .returned (rzV r.2) ∧ Step X A S r.1 w') : Calls Try.prog 13 #[.pointer (some ⟨A, 0, none⟩), .int .i64 a0, .agg cs] w fun e w' => e = .returned (rzV r.2) ∧ Step w A S r.1 w' := by
  obtain ⟨W, hW⟩ : ∃ W, W = (w.alloc (.cells cs 47)).alloc (.cells #[.int .i64 0, .int .i64 0, .int .i64 0, .int .i64 0, .int .i64 0, .int .i64 0, .int .i64 0, .int .i64 0, .bool false] 52) := ⟨_, rfl⟩
  obtain ⟨hb, jY, jZ, hZW⟩ := box47 hW
  obtain ⟨Y, hY⟩ : ∃ Y, w.heap.size = Y := ⟨_, rfl⟩
  obtain ⟨Z, hZ⟩ : ∃ Z, Y + 1 = Z := ⟨_, rfl⟩
  rw [hY] at jY jZ hZW
  rw [hZ] at jZ hZW
  have hZw : w.heap.size ≤ Z := by omega
  have hyl := hy.lt
  have HSL := Lib.hid hyl
  obtain ⟨S1, S2, P, M, N, G, lv, rv, ov, hx, hS⟩ := hy.on hb
  have a0c : W.cell? ⟨A, 0, none⟩ = some (.pointer (some ⟨P, 0, none⟩)) := cell_blk hx.ob 0
  obtain ⟨V0, V1, V2, V3, V, B, m0, r1, r2, r3, r4, hlk, bV⟩ := do_map W
  have bwV : Below w.heap.size w V := hb.trans (bV.mono hb.size)
  have jYV := (bV.block Y (blk_lt jY)).trans jY
  have jZV := (bV.block Z (blk_lt jZ)).trans jZ
  have k0 : V.cell? ⟨Y, 0, none⟩ = some (.int .i64 c.kind) := (cell_blk jYV 0).trans hc.k
  have hl : (Instr.lookup 94 (.map (some B)) (.int .i64 1) true).run Try.prog V = .ok (.tuple #[fnV 27, .bool true]) V := by
    have q := hlk c.kind hkk
    rw [hkd] at q
    exact q
  rw [hkd] at k0
  have hld : (Instr.loadAt 47 (.pointer (some ⟨Y, 0, none⟩))).run Try.prog V = .ok (.agg cs) V := load_row jYV Try.underlying47 rfl (by rw [hc.sz]; exact size47)
  have hca := hcall V bwV
  have HJZ := Lib.hid jZV
  have HBV := Lib.hid bwV
  have hZV : Z < V.heap.size := blk_lt jZV
  have HW := Lib.hid hW
  have HY := Lib.hid hY
  have HZ := Lib.hid hZ
  clear hW hY hZ hb jY jZ hx hS hy hc hyl hlk bV bwV jYV jZV hcall hZW hkd hkk
  go_enter Try.func13, Try.ntmps13
  go_upto_region 1 with fail
  rw [← HW.out, HY.out, HZ.out]
  go_wp2_with (first | refine wpl_load _ rfl (by simp [Act.eval]) hld ?_ | fail)
  refine hca.mono ?_
  rintro e w2 ⟨rfl, hstp⟩
  have jZ2 : w2.heap[Z]? = some (.cells #[.int .i64 0, .int .i64 0, .int .i64 0, .int .i64 0, .int .i64 0, .int .i64 0, .int .i64 0, .int .i64 0, .bool false] 52 (0, 0)) := by
    obtain ⟨_, _, _, hf⟩ := hstp
    exact (hf.block Z hZV (fun q => by have := HSL.out Z q; omega)).trans HJZ.out
  obtain ⟨X, hst, jX, fX⟩ := put_rz jZ2 rfl r.2
  have HA : Hid (Step w A S r.1 X) := Step.close HBV.out hstp HSL.out fX hZw hZV
  have HJX := Lib.hid jX
  clear jX fX hca jZ2 hstp
  go_wp2_with (refine wpl_store _ _ rfl (by simp [Act.eval]) (by simp [Act.eval]) hst ?_)
  refine bodyPost_ret (ret_rz HJX.out Try.results13 rfl) rfl ?_
  exact ⟨rfl, HA.out⟩
set_option maxHeartbeats 4000000 in
set_option maxRecDepth 100000 in
theorem do_2 (hy : Sy w A S s) (hc : Cc w c cs ra rc wa wc) (hkd : c.kind = 2) (hkk : I64 c.kind) (a0 : Int) {r : Sh × Rz} (hcall : ∀ X, Below w.heap.size w X → Calls Try.prog 28 #[.pointer (some ⟨A, 0, none⟩), .int .i64 a0, .agg cs] X fun e w' => e = .returned (rzV r.2) ∧ Step X A S r.1 w') : Calls Try.prog 13 #[.pointer (some ⟨A, 0, none⟩), .int .i64 a0, .agg cs] w fun e w' => e = .returned (rzV r.2) ∧ Step w A S r.1 w' := by
  obtain ⟨W, hW⟩ : ∃ W, W = (w.alloc (.cells cs 47)).alloc (.cells #[.int .i64 0, .int .i64 0, .int .i64 0, .int .i64 0, .int .i64 0, .int .i64 0, .int .i64 0, .int .i64 0, .bool false] 52) := ⟨_, rfl⟩
  obtain ⟨hb, jY, jZ, hZW⟩ := box47 hW
  obtain ⟨Y, hY⟩ : ∃ Y, w.heap.size = Y := ⟨_, rfl⟩
  obtain ⟨Z, hZ⟩ : ∃ Z, Y + 1 = Z := ⟨_, rfl⟩
  rw [hY] at jY jZ hZW
  rw [hZ] at jZ hZW
  have hZw : w.heap.size ≤ Z := by omega
  have hyl := hy.lt
  have HSL := Lib.hid hyl
  obtain ⟨S1, S2, P, M, N, G, lv, rv, ov, hx, hS⟩ := hy.on hb
  have a0c : W.cell? ⟨A, 0, none⟩ = some (.pointer (some ⟨P, 0, none⟩)) := cell_blk hx.ob 0
  obtain ⟨V0, V1, V2, V3, V, B, m0, r1, r2, r3, r4, hlk, bV⟩ := do_map W
  have bwV : Below w.heap.size w V := hb.trans (bV.mono hb.size)
  have jYV := (bV.block Y (blk_lt jY)).trans jY
  have jZV := (bV.block Z (blk_lt jZ)).trans jZ
  have k0 : V.cell? ⟨Y, 0, none⟩ = some (.int .i64 c.kind) := (cell_blk jYV 0).trans hc.k
  have hl : (Instr.lookup 94 (.map (some B)) (.int .i64 2) true).run Try.prog V = .ok (.tuple #[fnV 28, .bool true]) V := by
    have q := hlk c.kind hkk
    rw [hkd] at q
    exact q
  rw [hkd] at k0
  have hld : (Instr.loadAt 47 (.pointer (some ⟨Y, 0, none⟩))).run Try.prog V = .ok (.agg cs) V := load_row jYV Try.underlying47 rfl (by rw [hc.sz]; exact size47)
  have hca := hcall V bwV
  have HJZ := Lib.hid jZV
  have HBV := Lib.hid bwV
  have hZV : Z < V.heap.size := blk_lt jZV
  have HW := Lib.hid hW
  have HY := Lib.hid hY
  have HZ := Lib.hid hZ
  clear hW hY hZ hb jY jZ hx hS hy hc hyl hlk bV bwV jYV jZV hcall hZW hkd hkk
  go_enter Try.func13, Try.ntmps13
  go_upto_region 1 with fail
  rw [← HW.out, HY.out, HZ.out]
  go_wp2_with (first | refine wpl_load _ rfl (by simp [Act.eval]) hld ?_ | fail)
  refine hca.mono ?_
  rintro e w2 ⟨rfl, hstp⟩
  have jZ2 : w2.heap[Z]? = some (.cells #[.int .i64 0, .int .i64 0, .int .i64 0, .int .i64 0, .int .i64 0, .int .i64 0, .int .i64 0, .int .i64 0, .bool false] 52 (0, 0)) := by
    obtain ⟨_, _, _, hf⟩ := hstp
    exact (hf.block Z hZV (fun q => by have := HSL.out Z q; omega)).trans HJZ.out
  obtain ⟨X, hst, jX, fX⟩ := put_rz jZ2 rfl r.2
  have HA : Hid (Step w A S r.1 X) := Step.close HBV.out hstp HSL.out fX hZw hZV
  have HJX := Lib.hid jX
  clear jX fX hca jZ2 hstp
  go_wp2_with (refine wpl_store _ _ rfl (by simp [Act.eval]) (by simp [Act.eval]) hst ?_)
  refine bodyPost_ret (ret_rz HJX.out Try.results13 rfl) rfl ?_
  exact ⟨rfl, HA.out⟩
set_option maxHeartbeats 4000000 in
set_option maxRecDepth 100000 in
theorem do_3 (hy : Sy w A S s) (hc : Cc w c cs ra rc wa wc) (hkd : c.kind = 3) (hkk : I64 c.kind) (a0 : Int) {r : Sh × Rz} (hcall : ∀ X, Below w.heap.size w X → Calls Try.prog 29 #[.pointer (some ⟨A, 0, none⟩), .int .i64 a0, .agg cs] X fun e w' => e = .returned (rzV r.2) ∧ Step X A S r.1 w') : Calls Try.prog 13 #[.pointer (some ⟨A, 0, none⟩), .int .i64 a0, .agg cs] w fun e w' => e = .returned (rzV r.2) ∧ Step w A S r.1 w' := by
  obtain ⟨W, hW⟩ : ∃ W, W = (w.alloc (.cells cs 47)).alloc (.cells #[.int .i64 0, .int .i64 0, .int .i64 0, .int .i64 0, .int .i64 0, .int .i64 0, .int .i64 0, .int .i64 0, .bool false] 52) := ⟨_, rfl⟩
  obtain ⟨hb, jY, jZ, hZW⟩ := box47 hW
  obtain ⟨Y, hY⟩ : ∃ Y, w.heap.size = Y := ⟨_, rfl⟩
  obtain ⟨Z, hZ⟩ : ∃ Z, Y + 1 = Z := ⟨_, rfl⟩
  rw [hY] at jY jZ hZW
  rw [hZ] at jZ hZW
  have hZw : w.heap.size ≤ Z := by omega
  have hyl := hy.lt
  have HSL := Lib.hid hyl
  obtain ⟨S1, S2, P, M, N, G, lv, rv, ov, hx, hS⟩ := hy.on hb
  have a0c : W.cell? ⟨A, 0, none⟩ = some (.pointer (some ⟨P, 0, none⟩)) := cell_blk hx.ob 0
  obtain ⟨V0, V1, V2, V3, V, B, m0, r1, r2, r3, r4, hlk, bV⟩ := do_map W
  have bwV : Below w.heap.size w V := hb.trans (bV.mono hb.size)
  have jYV := (bV.block Y (blk_lt jY)).trans jY
  have jZV := (bV.block Z (blk_lt jZ)).trans jZ
  have k0 : V.cell? ⟨Y, 0, none⟩ = some (.int .i64 c.kind) := (cell_blk jYV 0).trans hc.k
  have hl : (Instr.lookup 94 (.map (some B)) (.int .i64 3) true).run Try.prog V = .ok (.tuple #[fnV 29, .bool true]) V := by
    have q := hlk c.kind hkk
    rw [hkd] at q
    exact q
  rw [hkd] at k0
  have hld : (Instr.loadAt 47 (.pointer (some ⟨Y, 0, none⟩))).run Try.prog V = .ok (.agg cs) V := load_row jYV Try.underlying47 rfl (by rw [hc.sz]; exact size47)
  have hca := hcall V bwV
  have HJZ := Lib.hid jZV
  have HBV := Lib.hid bwV
  have hZV : Z < V.heap.size := blk_lt jZV
  have HW := Lib.hid hW
  have HY := Lib.hid hY
  have HZ := Lib.hid hZ
  clear hW hY hZ hb jY jZ hx hS hy hc hyl hlk bV bwV jYV jZV hcall hZW hkd hkk
  go_enter Try.func13, Try.ntmps13
  go_upto_region 1 with fail
  rw [← HW.out, HY.out, HZ.out]
  go_wp2_with (first | refine wpl_load _ rfl (by simp [Act.eval]) hld ?_ | fail)
  refine hca.mono ?_
  rintro e w2 ⟨rfl, hstp⟩
  have jZ2 : w2.heap[Z]? = some (.cells #[.int .i64 0, .int .i64 0, .int .i64 0, .int .i64 0, .int .i64 0, .int .i64 0, .int .i64 0, .int .i64 0, .bool false] 52 (0, 0)) := by
    obtain ⟨_, _, _, hf⟩ := hstp
    exact (hf.block Z hZV (fun q => by have := HSL.out Z q; omega)).trans HJZ.out
  obtain ⟨X, hst, jX, fX⟩ := put_rz jZ2 rfl r.2
  have HA : Hid (Step w A S r.1 X) := Step.close HBV.out hstp HSL.out fX hZw hZV
  have HJX := Lib.hid jX
  clear jX fX hca jZ2 hstp
  go_wp2_with (refine wpl_store _ _ rfl (by simp [Act.eval]) (by simp [Act.eval]) hst ?_)
  refine bodyPost_ret (ret_rz HJX.out Try.results13 rfl) rfl ?_
  exact ⟨rfl, HA.out⟩
set_option maxHeartbeats 4000000 in
set_option maxRecDepth 100000 in
theorem do_4 (hy : Sy w A S s) (hc : Cc w c cs ra rc wa wc) (hkd : c.kind = 4) (hkk : I64 c.kind) (a0 : Int) {r : Sh × Rz} (hcall : ∀ X, Below w.heap.size w X → Calls Try.prog 30 #[.pointer (some ⟨A, 0, none⟩), .int .i64 a0, .agg cs] X fun e w' => e = .returned (rzV r.2) ∧ Step X A S r.1 w') : Calls Try.prog 13 #[.pointer (some ⟨A, 0, none⟩), .int .i64 a0, .agg cs] w fun e w' => e = .returned (rzV r.2) ∧ Step w A S r.1 w' := by
  obtain ⟨W, hW⟩ : ∃ W, W = (w.alloc (.cells cs 47)).alloc (.cells #[.int .i64 0, .int .i64 0, .int .i64 0, .int .i64 0, .int .i64 0, .int .i64 0, .int .i64 0, .int .i64 0, .bool false] 52) := ⟨_, rfl⟩
  obtain ⟨hb, jY, jZ, hZW⟩ := box47 hW
  obtain ⟨Y, hY⟩ : ∃ Y, w.heap.size = Y := ⟨_, rfl⟩
  obtain ⟨Z, hZ⟩ : ∃ Z, Y + 1 = Z := ⟨_, rfl⟩
  rw [hY] at jY jZ hZW
  rw [hZ] at jZ hZW
  have hZw : w.heap.size ≤ Z := by omega
  have hyl := hy.lt
  have HSL := Lib.hid hyl
  obtain ⟨S1, S2, P, M, N, G, lv, rv, ov, hx, hS⟩ := hy.on hb
  have a0c : W.cell? ⟨A, 0, none⟩ = some (.pointer (some ⟨P, 0, none⟩)) := cell_blk hx.ob 0
  obtain ⟨V0, V1, V2, V3, V, B, m0, r1, r2, r3, r4, hlk, bV⟩ := do_map W
  have bwV : Below w.heap.size w V := hb.trans (bV.mono hb.size)
  have jYV := (bV.block Y (blk_lt jY)).trans jY
  have jZV := (bV.block Z (blk_lt jZ)).trans jZ
  have k0 : V.cell? ⟨Y, 0, none⟩ = some (.int .i64 c.kind) := (cell_blk jYV 0).trans hc.k
  have hl : (Instr.lookup 94 (.map (some B)) (.int .i64 4) true).run Try.prog V = .ok (.tuple #[fnV 30, .bool true]) V := by
    have q := hlk c.kind hkk
    rw [hkd] at q
    exact q
  rw [hkd] at k0
  have hld : (Instr.loadAt 47 (.pointer (some ⟨Y, 0, none⟩))).run Try.prog V = .ok (.agg cs) V := load_row jYV Try.underlying47 rfl (by rw [hc.sz]; exact size47)
  have hca := hcall V bwV
  have HJZ := Lib.hid jZV
  have HBV := Lib.hid bwV
  have hZV : Z < V.heap.size := blk_lt jZV
  have HW := Lib.hid hW
  have HY := Lib.hid hY
  have HZ := Lib.hid hZ
  clear hW hY hZ hb jY jZ hx hS hy hc hyl hlk bV bwV jYV jZV hcall hZW hkd hkk
  go_enter Try.func13, Try.ntmps13
  go_upto_region 1 with fail
  rw [← HW.out, HY.out, HZ.out]
  go_wp2_with (first | refine wpl_load _ rfl (by simp [Act.eval]) hld ?_ | fail)
  refine hca.mono ?_
  rintro e w2 ⟨rfl, hstp⟩
  have jZ2 : w2.heap[Z]? = some (.cells #[.int .i64 0, .int .i64 0, .int .i64 0, .int .i64 0, .int .i64 0, .int .i64 0, .int .i64 0, .int .i64 0, .bool false] 52 (0, 0)) := by
    obtain ⟨_, _, _, hf⟩ := hstp
    exact (hf.block Z hZV (fun q => by have := HSL.out Z q; omega)).trans HJZ.out
  obtain ⟨X, hst, jX, fX⟩ := put_rz jZ2 rfl r.2
  have HA : Hid (Step w A S r.1 X) := Step.close HBV.out hstp HSL.out fX hZw hZV
  have HJX := Lib.hid jX
  clear jX fX hca jZ2 hstp
  go_wp2_with (refine wpl_store _ _ rfl (by simp [Act.eval]) (by simp [Act.eval]) hst ?_)
  refine bodyPost_ret (ret_rz HJX.out Try.results13 rfl) rfl ?_
  exact ⟨rfl, HA.out⟩
set_option maxHeartbeats 4000000 in
set_option maxRecDepth 100000 in
theorem do_no (hy : Sy w A S s) (hc : Cc w c cs ra rc wa wc) (h1 : ¬ c.kind = 1) (h2 : ¬ c.kind = 2) (h3 : ¬ c.kind = 3) (h4 : ¬ c.kind = 4) (hkk : I64 c.kind) (a0 : Int) : Calls Try.prog 13 #[.pointer (some ⟨A, 0, none⟩), .int .i64 a0, .agg cs] w fun e w' => e = .returned (rzV ⟨1, 0, td0, 0, false⟩) ∧ Step w A S s w' := by
  obtain ⟨W, hW⟩ : ∃ W, W = (w.alloc (.cells cs 47)).alloc (.cells #[.int .i64 0, .int .i64 0, .int .i64 0, .int .i64 0, .int .i64 0, .int .i64 0, .int .i64 0, .int .i64 0, .bool false] 52) := ⟨_, rfl⟩
  obtain ⟨hb, jY, jZ, hZW⟩ := box47 hW
  obtain ⟨Y, hY⟩ : ∃ Y, w.heap.size = Y := ⟨_, rfl⟩
  obtain ⟨Z, hZ⟩ : ∃ Z, Y + 1 = Z := ⟨_, rfl⟩
  rw [hY] at jY jZ hZW
  rw [hZ] at jZ hZW
  have hZw : w.heap.size ≤ Z := by omega
  have hyl := hy.lt
  have HSL := Lib.hid hyl
  obtain ⟨S1, S2, P, M, N, G, lv, rv, ov, hx, hS⟩ := hy.on hb
  have a0c : W.cell? ⟨A, 0, none⟩ = some (.pointer (some ⟨P, 0, none⟩)) := cell_blk hx.ob 0
  obtain ⟨V0, V1, V2, V3, V, B, m0, r1, r2, r3, r4, hlk, bV⟩ := do_map W
  have bwV : Below w.heap.size w V := hb.trans (bV.mono hb.size)
  have jYV := (bV.block Y (blk_lt jY)).trans jY
  have jZV := (bV.block Z (blk_lt jZ)).trans jZ
  have k0 : V.cell? ⟨Y, 0, none⟩ = some (.int .i64 c.kind) := (cell_blk jYV 0).trans hc.k
  have hdf : doF c.kind = none := by unfold doF; rw [if_neg h4, if_neg h3, if_neg h2, if_neg h1]
  have hl : (Instr.lookup 94 (.map (some B)) (.int .i64 c.kind) true).run Try.prog V = .ok (.tuple #[.nilFunc, .bool false]) V := by
    have q := hlk c.kind hkk
    rw [hdf] at q
    exact q
  have hZV : Z < V.heap.size := blk_lt jZV
  obtain ⟨X, hst, jX, fX⟩ := put_rz jZV rfl ⟨1, 0, td0, 0, false⟩
  have HA : Hid (Step w A S s X) := Step.close bwV (Step.same (hy.on bwV) (Below.refl _ _)) hyl fX hZw hZV
  have HJX := Lib.hid jX
  have HW := Lib.hid hW
  have HY := Lib.hid hY
  have HZ := Lib.hid hZ
  clear hW hY hZ hb jY jZ hx hS hy hc hyl hlk bV bwV jYV jZV hZW hkk h1 h2 h3 h4 hdf jX fX
  go_enter Try.func13, Try.ntmps13
  go_upto_region 1 with fail
  rw [← HW.out, HY.out, HZ.out]
  go_wp2_with (refine wpl_store _ _ rfl (by simp [Act.eval]) (by simp [Act.eval]) hst ?_)
  refine bodyPost_ret (ret_rz HJX.out Try.results13 rfl) rfl ?_
  exact ⟨rfl, HA.out⟩
/-- What a command does. -/
def Sh.act (s : Sh) (a : Int) (c : Cm) : Sh × Rz := if c.kind = 1 then s.prepare c else if c.kind = 2 then s.commit a c else if c.kind = 3 then s.abort c else if c.kind = 4 then s.resolve c else (s, ⟨1, 0, td0, 0, false⟩)
/-- A command's own memory is none of the shard's. -/
def Apart (w : World) (S : Nat → Prop) (c : Cm) (cs : Array Value) (ra : Option Addr) (rc : Nat) (wa : Option Addr) (wc : Nat) : Prop := ∀ X, Fr w X S → Cc X c cs ra rc wa wc
/-- There is room for one command more. -/
structure Room (s : Sh) (c : Cm) (bw bd : Nat) : Prop where
  lk : s.locks.length < 800000
  rc : s.recs.length < 800000
  ov : s.over.length < 800000
  cr : c.reads.length ≤ 800000
  cw : c.writes.length ≤ 800000
  lw : ∀ l ∈ s.locks, l.writes.length ≤ bw
  b1 : s.rows.length + bw < 800000
  b2 : ∀ r ∈ s.rows, r.list.length ≤ bd
  b3 : bd + bw < 800000
theorem do_any (hy : Sy w A S s) (hap : Apart w S c cs ra rc wa wc) (ht : TdOk c.txn) (hk : I64 c.kind) {bw bd : Nat} (hr : Room s c bw bd) (a0 : Int) : Calls Try.prog 13 #[.pointer (some ⟨A, 0, none⟩), .int .i64 a0, .agg cs] w fun e w' => e = .returned (rzV (s.act a0 c).2) ∧ Step w A S (s.act a0 c).1 w' := by
  have hc : Cc w c cs ra rc wa wc := hap w (Fr.refl _ _)
  have hcX : ∀ X, Below w.heap.size w X → Cc X c cs ra rc wa wc := fun X hX => hc.on hX
  have haX : ∀ X, Below w.heap.size w X → ∀ Y, Fr X Y S → Cc Y c cs ra rc wa wc := fun X hX Y hY => hap Y ((Fr.ofBelow S hX).trans hY)
  unfold Sh.act
  split
  · rename_i h1
    exact do_1 hy hc h1 hk a0 (fun X hX => prepare_any (hy.on hX) (hcX X hX) ht hr.lk hr.cr hr.cw (haX X hX) a0)
  · split
    · rename_i h1
      exact do_2 hy hc h1 hk a0 (fun X hX => commit_any (hy.on hX) (hcX X hX) ht hr.rc a0)
    · split
      · rename_i h1
        exact do_3 hy hc h1 hk a0 (fun X hX => abort_any (hy.on hX) (hcX X hX) ht hr.rc a0)
      · split
        · rename_i h1
          exact do_4 hy hc h1 hk a0 (fun X hX => resolve_any (hy.on hX) (hcX X hX) ht hr.ov hr.lw hr.b1 hr.b2 hr.b3 a0)
        · rename_i h1 h2 h3 h4
          exact do_no hy hc h1 h2 h3 h4 hk a0
theorem do_nil (cs : Array Value) (a0 : Int) : Calls Try.prog 13 #[.pointer none, .int .i64 a0, .agg cs] w fun e w' => e = .returned (rzV ⟨2, 0, td0, 0, false⟩) ∧ Below w.heap.size w w' := by
  obtain ⟨W, hW⟩ : ∃ W, W = (w.alloc (.cells cs 47)).alloc (.cells #[.int .i64 0, .int .i64 0, .int .i64 0, .int .i64 0, .int .i64 0, .int .i64 0, .int .i64 0, .int .i64 0, .bool false] 52) := ⟨_, rfl⟩
  obtain ⟨hb, jY, jZ, hZW⟩ := box47 hW
  obtain ⟨Y, hY⟩ : ∃ Y, w.heap.size = Y := ⟨_, rfl⟩
  obtain ⟨Z, hZ⟩ : ∃ Z, Y + 1 = Z := ⟨_, rfl⟩
  rw [hY] at jY jZ hZW
  rw [hZ] at jZ hZW
  obtain ⟨X, hst, jX, fX⟩ := put_rz jZ rfl ⟨2, 0, td0, 0, false⟩
  have HA : Hid (Below w.heap.size w X) := Lib.hid ((hb.trans (Below.refl _ _)).trans ⟨fX.os, fX.tape, fX.output, fX.size, fun k hk => fX.block k (Nat.lt_of_lt_of_le hk hb.size) (fun e => by have e' : k = Z := e; omega)⟩)
  have HW := Lib.hid hW
  have HY := Lib.hid hY
  have HZ := Lib.hid hZ
  have HJX := Lib.hid jX
  clear hW hY hZ hb jY jZ jX fX hZW
  go_enter Try.func13, Try.ntmps13
  go_upto_region 1 with fail
  rw [← HW.out, HY.out, HZ.out]
  go_wp2_with (refine wpl_store _ _ rfl (by simp [Act.eval]) (by simp [Act.eval]) hst ?_)
  refine bodyPost_ret (ret_rz HJX.out Try.results13 rfl) rfl ?_
  exact ⟨rfl, HA.out⟩
end
end Go.Proofs.Ytcoaahlakkghhaa
