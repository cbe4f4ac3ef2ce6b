/- The walks of unlock and write. -/
import Derived.Test.YtcoaahlakkghhaaSu
import Derived.Test.YtcoaahlakkghhaaVt
namespace Go.Proofs.Ytcoaahlakkghhaa
open Go.RowKit
section
variable {ρ : Operand → Value} {X : World} {d : Option Tmp} {ty : TypeId} {ps : String} {af : Array Edge} {g : Option (Nat × Bool)}
theorem op_f55_0 {x : Operand} {B o : Nat} (e : ρ x = .pointer (some ⟨B, o, none⟩)) : (execOp ρ ⟨d, .fieldAddr 55 x 0, ty, ps, af, g⟩).run Try.prog X = .ok (.value (.pointer (some ⟨B, o, none⟩))) X := by
  simp only [execOp, e]
  go_simp
theorem op_f55_1 {x : Operand} {B o : Nat} (e : ρ x = .pointer (some ⟨B, o, none⟩)) : (execOp ρ ⟨d, .fieldAddr 55 x 1, ty, ps, af, g⟩).run Try.prog X = .ok (.value (.pointer (some ⟨B, o + 1, none⟩))) X := by
  simp only [execOp, e]
  go_simp
theorem op_f55_2 {x : Operand} {B o : Nat} (e : ρ x = .pointer (some ⟨B, o, none⟩)) : (execOp ρ ⟨d, .fieldAddr 55 x 2, ty, ps, af, g⟩).run Try.prog X = .ok (.value (.pointer (some ⟨B, o + 2, none⟩))) X := by
  simp only [execOp, e]
  go_simp
theorem op_load4 {x : Operand} {B i : Nat} {n : Bool} (e : ρ x = .pointer (some ⟨B, i, none⟩)) (y : X.cell? ⟨B, i, none⟩ = some (.bool n)) : (execOp ρ ⟨d, .load 4 x, ty, ps, af, g⟩).run Try.prog X = .ok (.value (.bool n)) X := by
  simp only [execOp, e]
  go_simp
theorem op_b125 {x y z : Operand} {n : Int} {k : ByteArray} {b : Bool} (e : ρ x = .int .i64 n) (e2 : ρ y = .string k) (e3 : ρ z = .bool b) : (execOp ρ ⟨d, .build 125 #[(0, x), (1, y), (2, z)], ty, ps, af, g⟩).run Try.prog X = .ok (.value (.agg #[.int .i64 n, .string k, .bool b])) X := by
  simp only [execOp]
  simp [e, e2, e3]
  go_simp
theorem call92 {v u x : Value} : Sem.run Try.prog (callFunc 92 #[v, u, x]) X = .ok (.enter 92 #[v, u, x]) X := by go_simp
end
def putW (R : List Rw) (x : Wr) (ts : Int) : List Rw := putR R x.key ⟨ts, x.val, x.dead⟩
def puts (R : List Rw) (L : List Wr) (ts : Int) : List Rw := L.foldl (fun R x => putW R x ts) R
theorem puts_next {R : List Rw} {L : List Wr} {ts : Int} {j : Nat} (h : j < L.length) : puts R (L.take (j + 1)) ts = putW (puts R (L.take j) ts) L[j] ts := by
  unfold puts
  rw [List.take_add_one, List.getElem?_eq_getElem h, List.foldl_append]
  rfl
def Sh.puts (s : Sh) (L : List Wr) (ts : Int) : Sh := { s with rows := Go.Proofs.Ytcoaahlakkghhaa.puts s.rows L ts }
section
variable {w w' X : World} {A : Nat} {S1 S2 S1' : Nat → Prop} {s : Sh} {P M N : Nat} {G : List Gl} {lv rv ov lv' : Value}
theorem Sx.rows' (h : Sx w A S1 S2 s P M N G lv rv ov) {R : List Rw} (hs : Sb w' P S1' R) (hg : ∀ j, S1' j → Gro S1 w w' j) (hf : Fr w w' S1) : Sx w' A S1' S2 { s with rows := R } P M N G lv rv ov := by
  have hd : ∀ k, S2 k → ¬ S1 k := fun k h2 h1 => h.off k h1 h2
  exact {
    ob := (hf.block A (h.lt A h.cA) (hd A h.cA)).trans h.ob, st := hs, lks := row_keep h.lks hf (fun j hj => hd j (h.cl j hj)), gl := h.gl,
    sp := fun g hg => row_keep (h.sp g hg) hf (fun j hj => hd j (h.cs g hg j hj)), wr := fun g hg => row_keep (h.wr g hg) hf (fun j hj => hd j (h.cw g hg j hj)),
    rcs := row_keep h.rcs hf (fun j hj => hd j (h.cr j hj)), ovs := row_keep h.ovs hf (fun j hj => hd j (h.co j hj)), tm := h.tm.like (hf.block M (h.lt M h.cM) (hd M h.cM)), en := h.en.like (hf.block N (h.lt N h.cN) (hd N h.cN)), mn := h.mn,
    cA := h.cA, cM := h.cM, cN := h.cN, cl := h.cl, cr := h.cr, co := h.co, cs := h.cs, cw := h.cw, lt := fun k hk => Nat.lt_of_lt_of_le (h.lt k hk) hf.size,
    off := fun k h1 h2 => (by
      rcases hg k h1 with q | q
      · exact h.off k q h2
      · have := h.lt k h2
        omega),
    fl := h.fl, fr := h.fr, fo := h.fo }
set_option maxHeartbeats 4000000 in
set_option maxRecDepth 100000 in
theorem unlock_no (h : Sx w A S1 S2 s P M N G lv rv ov) {t : Td} (hneg : lockI s.locks t < 0) : Calls Try.prog 54 #[.pointer (some ⟨A, 0, none⟩), tdV t] w fun e w' => e = .returned (.slice none 0 0) ∧ Below w.heap.size w w' := by
  obtain ⟨W, hW⟩ : ∃ W, W = w.alloc (.cells #[.int .i64 t.1, .int .i64 t.2.1, .int .i64 t.2.2] 37) := ⟨_, rfl⟩
  have hb : Below w.heap.size w W := by rw [hW]; exact (Below.refl _ w).alloc (Nat.le_refl _) _
  obtain ⟨Y, hY⟩ : ∃ Y, w.heap.size = Y := ⟨_, rfl⟩
  have jY : W.heap[Y]? = some (.cells #[.int .i64 t.1, .int .i64 t.2.1, .int .i64 t.2.2] 37 (0, 0)) := by rw [hW, ← hY]; exact heap_alloc_new w _
  have b0 : W.cell? ⟨Y, 0, none⟩ = some (.int .i64 t.1) := cell_blk jY 0
  have b01 : W.cell? ⟨Y, 1, none⟩ = some (.int .i64 t.2.1) := cell_blk jY 1
  have b02 : W.cell? ⟨Y, 2, none⟩ = some (.int .i64 t.2.2) := cell_blk jY 2
  have hx := h.on hb
  have HW := Lib.hid hW
  have HY := Lib.hid hY
  have HB := Lib.hid hb
  have hlo := lockOf_any hx (t := t)
  obtain ⟨n, hn⟩ : ∃ n, lockI s.locks t = n := ⟨_, rfl⟩
  rw [hn] at hlo
  have hneg' : n < 0 := by rw [← hn]; exact hneg
  clear hW hY hb jY hx hn hneg h
  go_enter Try.func54, Try.ntmps54
  go_upto_region 1 with fail
  rw [← HW.out, HY.out]
  go_wp2_with fail
  refine hlo.mono ?_
  rintro e w1 ⟨rfl, b1⟩
  have HB1 := Lib.hid (HB.out.trans (b1.mono HB.out.size))
  clear b1 hlo
  go_wp2
  refine bodyPost_ret (v := .slice none 0 0) (by simp [results, Try.results54, go_sem]) rfl ?_
  exact ⟨rfl, HB1.out⟩
set_option maxHeartbeats 4000000 in
set_option maxRecDepth 100000 in
theorem unlock_yes (h : Sx w A S1 S2 s P M N G lv rv ov) {t : Td} {i : Nat} (hi : i < G.length) (hl : lockI s.locks t = (i : Int)) : Calls Try.prog 54 #[.pointer (some ⟨A, 0, none⟩), tdV t] w fun e w' => e = .returned G[i].2.2 ∧ ∃ lv', Sx w' A S1 S2 (s.cut i) P M N (G.eraseIdx i) lv' rv ov ∧ Fr w w' S2 ∧ w'.ownsRow 0 55 3 G[i].2.2 G[i].1.writes.length (G[i].1.writes.flatMap wrL) := by
  obtain ⟨W, hW⟩ : ∃ W, W = w.alloc (.cells #[.int .i64 t.1, .int .i64 t.2.1, .int .i64 t.2.2] 37) := ⟨_, rfl⟩
  have hb : Below w.heap.size w W := by rw [hW]; exact (Below.refl _ w).alloc (Nat.le_refl _) _
  obtain ⟨Y, hY⟩ : ∃ Y, w.heap.size = Y := ⟨_, rfl⟩
  have jY : W.heap[Y]? = some (.cells #[.int .i64 t.1, .int .i64 t.2.1, .int .i64 t.2.2] 37 (0, 0)) := by rw [hW, ← hY]; exact heap_alloc_new w _
  have b0 : W.cell? ⟨Y, 0, none⟩ = some (.int .i64 t.1) := cell_blk jY 0
  have b01 : W.cell? ⟨Y, 1, none⟩ = some (.int .i64 t.2.1) := cell_blk jY 1
  have b02 : W.cell? ⟨Y, 2, none⟩ = some (.int .i64 t.2.2) := cell_blk jY 2
  have hx := h.on hb
  have HW := Lib.hid hW
  have HY := Lib.hid hY
  have HB := Lib.hid hb
  have hlo := lockOf_any hx (t := t)
  rw [hl] at hlo
  obtain ⟨lad, lcap, elv⟩ := hx.shape
  have HX := Lib.hid hx
  obtain ⟨wa, wc, ewv⟩ := own_shape (hx.wr _ (List.getElem_mem hi))
  obtain ⟨g, hlad⟩ : ∃ g, lad = some ⟨g, 0, none⟩ := by
    rcases hx.lks.2 with ⟨hv, h0⟩ | ⟨g, cap, cur, hv, _⟩
    · omega
    · rw [elv] at hv
      cases hv
      exact ⟨g, rfl⟩
  subst hlad
  have hrow : W.ownsRow 0 68 7 (.slice (some ⟨g, 0, none⟩) G.length lcap) G.length (G.flatMap glL) := by rw [← elv]; exact hx.lks
  have a1 : W.cell? ⟨A, 1, none⟩ = some (.slice (some ⟨g, 0, none⟩) G.length lcap) := by rw [← elv]; exact cell_blk hx.ob 1
  have c6 : W.cell? ⟨g, i * 7 + 6, none⟩ = some (.slice wa G[i].1.writes.length wc) := by
    rw [hrow.cellAt _ (by omega), fl_get glL_len G i hi 6 (by decide)]
    show some G[i].2.2 = _
    rw [ewv]
  have hone : ∀ u ∈ G.flatMap glL, u.oneCell' = true := gl_one fun x hx' => by
    obtain ⟨a, b, e1⟩ := own_shape (hx.sp x hx')
    obtain ⟨a', b', e2⟩ := own_shape (hx.wr x hx')
    exact ⟨⟨a, _, b, e1⟩, a', _, b', e2⟩
  have hgA : A ≠ g := fun e => by
    obtain ⟨cur, q, _⟩ := row_blk hrow
    rw [← e] at q
    exact tag_ne hx.ob q (by decide) rfl
  have HEW := Lib.hid ewv
  have HEL := Lib.hid elv
  have HRW := Lib.hid hrow
  have HONE := Lib.hid hone
  have hmG : (G.length : Int) ≤ 9223372036854775807 := by have := hx.fl; omega
  have q0 : (0 : Int) ≤ (i : Int) := by omega
  have q1 : (i : Int) < (G.length : Int) := by omega
  have q2 : ¬ (i : Int) < 0 := by omega
  obtain ⟨nw, hnw⟩ : ∃ nw, G[i].1.writes.length = nw := ⟨_, rfl⟩
  rw [hnw] at c6
  have HNW := Lib.hid hnw
  clear hW hY hb jY hx h hl ewv elv hrow hone hnw
  go_enter Try.func54, Try.ntmps54
  go_upto_region 1 with fail
  rw [← HW.out, HY.out]
  go_wp2_with fail
  refine hlo.mono ?_
  rintro e w1 ⟨rfl, b1⟩
  have a1 := cell_on b1 a1
  have c6 := cell_on b1 c6
  have hdel := delete_any (own_below HRW.out b1) hi HONE.out
  have HB1 := Lib.hid (HB.out.trans (b1.mono HB.out.size))
  have hx1 := HX.out.on b1
  have HX1 := Lib.hid hx1
  have HB01 := Lib.hid b1
  clear hlo b1 hx1
  go_wp2_with fail
  refine hdel.mono ?_
  rintro e w2 ⟨rfl, o2, f2⟩
  have ob2 := (f2.block A (blk_lt HX1.out.ob) (fun e => hgA e)).trans HX1.out.ob
  have d1 : w2.cell? ⟨A, 1, none⟩ = some lv := cell_blk ob2 1
  have d2 : w2.frozen? ⟨A, 1, none⟩ = false := frozen_blk ob2 1
  obtain ⟨U, hU⟩ : ∃ U, U = w2.setCell ⟨A, 1, none⟩ (.slice (some ⟨g, 0, none⟩) (G.length - 1) lcap) := ⟨_, rfl⟩
  have HA : Hid (∃ lv', Sx U A S1 S2 (s.cut i) P M N (G.eraseIdx i) lv' rv ov ∧ Fr w U S2 ∧ U.ownsRow 0 55 3 G[i].2.2 G[i].1.writes.length (G[i].1.writes.flatMap wrL)) := by
    have fA : Fr w2 U (fun j => j = A) := by rw [hU]; exact Fr.set (a := ⟨A, 1, none⟩) (Fr.refl w2 (fun j => j = A)) (Or.inl rfl) _
    have obU : U.heap[A]? = some (.cells #[.pointer (some ⟨P, 0, none⟩), .slice (some ⟨g, 0, none⟩) (G.length - 1) lcap, rv, .map (some M), ov, .map (some N), .int .i64 s.high] 92 (0, 0)) := by rw [hU]; exact set_blk (i := 1) ob2 _
    have oU : U.ownsRow 0 68 7 (.slice (some ⟨g, 0, none⟩) (G.length - 1) lcap) (G.length - 1) ((G.eraseIdx i).flatMap glL) := row_keep o2 fA (fun j hj q => by
      have q' : j = A := q
      have hj' : g = j := by simpa [Value.ownBlock] using hj
      exact hgA (by rw [← q', hj']))
    have fU : Fr w1 U (fun k => k = A ∨ lv.ownBlock = some k) := by
      rw [HEL.out]
      exact (f2.mono fun j q => .inr (by have q' : j = g := q; rw [q']; rfl)).trans (fA.mono fun j q => .inl q)
    obtain ⟨k1, k2⟩ := HX1.out.cutLock hi fU obU oU (fun j hj => by rw [HEL.out]; exact hj)
    have oW := keep_row (HX1.out.wr _ (List.getElem_mem hi)) fU (fun k q cs hk => by
      rcases q with rfl | q
      · rw [HX1.out.ob] at hk
        simp only [Option.some.injEq, Obj.cells.injEq] at hk
        exact absurd hk.2.1 (by decide)
      · obtain ⟨cs', t⟩ := own_tag HX1.out.lks k q
        rw [t] at hk
        simp only [Option.some.injEq, Obj.cells.injEq] at hk
        exact absurd hk.2.1 (by decide))
    exact ⟨_, k1, (Fr.ofBelow S2 HB1.out).trans k2, oW⟩
  have HU := Lib.hid hU
  clear hdel o2 f2 ob2 hU a1 c6
  go_wp2
  refine bodyPost_ret (v := .slice wa nw wc) (by simp [results, Try.results54, go_sem]) rfl ?_
  rw [← HU.out]
  exact ⟨by rw [HEW.out, HNW.out], HA.out⟩
def WJ (w : World) (A : Nat) (S1 S2 : Nat → Prop) (s : Sh) (P M N : Nat) (G : List Gl) (lv rv ov : Value) (L : List Wr) (ts : Int) (wr : World) (iv : Value) : Prop := ∃ (j : Nat) (S1' : Nat → Prop), j ≤ L.length ∧ iv = .int .i64 (j : Int) ∧ Sx wr A S1' S2 (s.puts (L.take j) ts) P M N G lv rv ov ∧ (∀ k, S1' k → Gro S1 w wr k) ∧ Fr w wr S1 ∧ (s.puts (L.take j) ts).rows.length ≤ s.rows.length + j ∧ ∀ b, (∀ r ∈ s.rows, r.list.length ≤ b) → ∀ r ∈ (s.puts (L.take j) ts).rows, r.list.length ≤ b + j
set_option maxHeartbeats 4000000 in
set_option maxRecDepth 100000 in
theorem write_any (h : Sx w A S1 S2 s P M N G lv rv ov) {L : List Wr} {wa : Option Addr} {wc : Nat} (hr : w.ownsRow 0 55 3 (.slice wa L.length wc) L.length (L.flatMap wrL)) (hcv : ∀ k, (Value.slice wa L.length wc).ownBlock = some k → S2 k) (ts : Int) {bd : Nat} (hb1 : s.rows.length + L.length < 800000) (hb2 : ∀ r ∈ s.rows, r.list.length ≤ bd) (hb3 : bd + L.length < 800000) :
    Calls Try.prog 55 #[.pointer (some ⟨A, 0, none⟩), .slice wa L.length wc, .int .i64 ts] w fun e w' => e = .returned (.tuple #[]) ∧ ∃ S1', Sx w' A S1' S2 (s.puts L ts) P M N G lv rv ov ∧ (∀ k, S1' k → Gro S1 w w' k) ∧ Fr w w' S1 := by
  have hlr : Lr wrE 3 w L (.slice wa L.length wc) := Lr.own wrL_len hr
  obtain ⟨_, _, e1, _, z1, z2, _⟩ := hlr
  cases e1
  have hmx : (L.length : Int) ≤ 9223372036854775807 := by unfold maxLen at z2; omega
  have hoff := h.off
  have H0 : Hid (WJ w A S1 S2 s P M N G lv rv ov L ts w (.int .i64 0)) := ⟨0, S1, Nat.zero_le _, rfl, h, fun k hk => .inl hk, Fr.refl _ _, Nat.le_refl _, fun b hb r hr => hb r hr⟩
  have HR := Lib.hid hr
  have HCV := Lib.hid hcv
  have HOFF := Lib.hid hoff
  have HH := Lib.hid h
  clear h hr hcv hoff z1 z2
  go_enter Try.func55, Try.ntmps55
  go_wp2
  go_loopw [10] (fun iv wr => WJ w A S1 S2 s P M N G lv rv ov L ts wr iv) (fun iv _ => L.length - (intOf iv).toNat)
  case atStart => exact H0.out
  case round =>
    clear H0
    obtain ⟨j, S1', hj, rfl, hx, hg, hf, hl1, hl2⟩ := hrel
    obtain ⟨V, rfl⟩ : ∃ V, V = wr := ⟨_, rfl⟩
    by_cases hlt : j < L.length
    · have hrV := row_keep HR.out hf (fun k hk q => HOFF.out k q (HCV.out k hk))
      obtain ⟨_, _, e1, _, _, _, hcs⟩ := Lr.own wrL_len hrV
      cases e1
      obtain ⟨b, o, cs, rfl, _, hE, _, hcell⟩ := hcs j hlt
      have hE' : cs = wrL L[j] := hE
      subst hE'
      have c0 := hcell 0 _ rfl
      have c1 := hcell 1 _ rfl
      have c2 := hcell 2 _ rfl
      simp only [Nat.add_zero] at c0
      have k0 : (0 : Int) ≤ j := by omega
      have k1 : (j : Int) < L.length := by omega
      have hnx : s.puts (L.take (j + 1)) ts = { s with rows := putW (s.puts (L.take j) ts).rows L[j] ts } := by
        show ({ s with rows := Go.Proofs.Ytcoaahlakkghhaa.puts s.rows (L.take (j + 1)) ts } : Sh) = _
        rw [puts_next hlt]
        rfl
      obtain ⟨s1, hs1⟩ : ∃ s1, s.puts (L.take j) ts = s1 := ⟨_, rfl⟩
      have hs1e : s1 = { s with rows := s1.rows } := by rw [← hs1]; rfl
      rw [hs1] at hx hl1 hl2 hnx
      obtain ⟨x, hxe⟩ : ∃ x, L[j] = x := ⟨_, rfl⟩
      rw [hxe] at c0 c1 c2 hnx
      obtain ⟨V1, hV1⟩ : ∃ V1, V1 = V.alloc (.cells #[.string x.key, .string x.val, .bool x.dead] 55) := ⟨_, rfl⟩
      obtain ⟨Y, hY⟩ : ∃ Y, V.heap.size = Y := ⟨_, rfl⟩
      have bb : Below V.heap.size V V1 := by rw [hV1]; exact (Below.refl _ V).alloc (Nat.le_refl _) _
      have jY : V1.heap[Y]? = some (.cells #[.string x.key, .string x.val, .bool x.dead] 55 (0, 0)) := by rw [hV1, ← hY]; exact heap_alloc_new V _
      have m0 : V1.cell? ⟨Y, 0, none⟩ = some (.string x.key) := cell_blk jY 0
      have m1 : V1.cell? ⟨Y, 1, none⟩ = some (.string x.val) := cell_blk jY 1
      have m2 : V1.cell? ⟨Y, 2, none⟩ = some (.bool x.dead) := cell_blk jY 2
      have hx1 := hx.on bb
      have a0 : V1.cell? ⟨A, 0, none⟩ = some (.pointer (some ⟨P, 0, none⟩)) := cell_blk hx1.ob 0
      have HPUT : Hid (∀ X, Below V1.heap.size V1 X → Calls Try.prog 92 #[.pointer (some ⟨P, 0, none⟩), .string x.key, veV ⟨ts, x.val, x.dead⟩] X fun e w' => PutAns X P S1' s1.rows x.key ⟨ts, x.val, x.dead⟩ e w') := fun X hX => put_b (hx1.st.on hX) x.key ⟨ts, x.val, x.dead⟩ (by omega) (fun r hr => by have := hl2 bd hb2 r hr; omega)
      have HNJ : Hid (∀ X e X', Below V1.heap.size V1 X → PutAns X P S1' s1.rows x.key ⟨ts, x.val, x.dead⟩ e X' → WJ w A S1 S2 s P M N G lv rv ov L ts X' (.int .i64 ((j + 1 : Nat) : Int))) := by
        rintro X e X' hX ⟨_, S1n, q1, q2, q3⟩
        have bVX : Below V.heap.size V X := bb.trans (hX.mono bb.size)
        have hn := (hx1.on hX).rows' q1 q2 q3
        refine ⟨j + 1, S1n, hlt, rfl, ?_, fun k hk => ?_, ?_, ?_, ?_⟩
        · rw [hnx]
          rw [hs1e] at hn
          exact hn
        · rcases q2 k hk with z | z
          · rcases hg k z with y | y
            · exact .inl y
            · have := bVX.size
              have := q3.size
              exact .inr ⟨y.1, by omega⟩
          · have := hf.size
            have := bVX.size
            exact .inr ⟨by omega, z.2⟩
        · have f1 : Fr w X S1 := hf.below bVX
          exact f1.step q3 (fun k hk => by
            rcases hg k hk with y | y
            · exact .inl y
            · exact .inr y.1)
        · rw [hnx]
          have := put_len s1.rows x.key ⟨ts, x.val, x.dead⟩
          show (putR s1.rows x.key ⟨ts, x.val, x.dead⟩).length ≤ _
          omega
        · intro b hb
          rw [hnx]
          have := put_less (hl2 b hb) x.key ⟨ts, x.val, x.dead⟩
          intro r hr
          have := this r hr
          omega
      have HV1 := Lib.hid hV1
      have HY := Lib.hid hY
      clear hV1 hY bb jY hx hx1 hg hf hl1 hl2 hrV hcs hcell hnx hs1 hs1e hxe
      go_upto_region 3 with fail
      rw [← HV1.out, HY.out]
      refine wp_region_last (fun X9 => Below V1.heap.size V1 X9) (fun _ _ => True) [
        fun v9 _ => v9 = .pointer (some ⟨A, 0, none⟩),
        fun v9 _ => v9 = .pointer (some ⟨A, 0, none⟩),
        fun v9 _ => v9 = .pointer (some ⟨A, 0, none⟩),
        fun v9 _ => v9 = .pointer (some ⟨P, 0, none⟩),
        fun v9 _ => v9 = .pointer (some ⟨Y, 0, none⟩),
        fun v9 _ => v9 = .string x.key,
        fun v9 _ => v9 = .int .i64 ts,
        fun v9 _ => v9 = .pointer (some ⟨Y, 1, none⟩),
        fun v9 _ => v9 = .string x.val,
        fun v9 _ => v9 = .pointer (some ⟨Y, 2, none⟩),
        fun v9 _ => v9 = .bool x.dead,
        fun v9 _ => v9 = .agg #[.int .i64 ts, .string x.val, .bool x.dead]]
        (fun _ X9 => WJ w A S1 S2 s P M N G lv rv ov L ts X9 (.int .i64 ((j + 1 : Nat) : Int))) rfl (by kernel_rfl) (by kernel_rfl) (by kernel_rfl) (by kernel_rfl) ?st ?g0 ?os ?la ?en
      case st => exact ⟨fun _ _ _ _ h => h, fun _ _ _ _ h => h, fun _ _ _ _ h => h, fun _ _ _ _ h => h, fun _ _ _ _ h => h, fun _ _ _ _ h => h, fun _ _ _ _ h => h, fun _ _ _ _ h => h, fun _ _ _ _ h => h, fun _ _ _ _ h => h, fun _ _ _ _ h => h, fun _ _ _ _ h => h, trivial⟩
      case g0 => exact ⟨rfl, rfl, rfl, Nat.le_refl _, fun _ _ => rfl⟩
      case os =>
        refine ⟨?_, ?_, ?_, ?_, ?_, ?_, ?_, ?_, ?_, ?_, ?_, ?_, trivial⟩
        · exact ⟨rfl, fun ρ X9 hg ho hc hf hr => Runs.val _ (op_move (show ρ (.tmp 0) = .pointer (some ⟨A, 0, none⟩) from ho 0 rfl)) ⟨hg, trivial, rfl⟩⟩
        · exact ⟨rfl, fun ρ X9 hg ho hc hf hr => Runs.val _ (op_nil (show ρ (.tmp 14) = .pointer (some ⟨A, 0, none⟩) from hr 0 14 rfl rfl)) ⟨hg, trivial, rfl⟩⟩
        · exact ⟨rfl, fun ρ X9 hg ho hc hf hr => Runs.val _ (op_f92_0 (show ρ (.tmp 15) = .pointer (some ⟨A, 0, none⟩) from hr 1 15 rfl rfl)) ⟨hg, trivial, rfl⟩⟩
        · exact ⟨rfl, fun ρ X9 hg ho hc hf hr => Runs.val _ (op_load87 (show ρ (.tmp 16) = .pointer (some ⟨A, 0, none⟩) from hr 2 16 rfl rfl) (cell_on hg a0)) ⟨hg, trivial, rfl⟩⟩
        · exact ⟨rfl, fun ρ X9 hg ho hc hf hr => Runs.val _ (op_f55_0 (show ρ (.tmp 7) = .pointer (some ⟨Y, 0, none⟩) from ho 7 rfl)) ⟨hg, trivial, rfl⟩⟩
        · exact ⟨rfl, fun ρ X9 hg ho hc hf hr => Runs.val _ (op_load9 (show ρ (.tmp 18) = .pointer (some ⟨Y, 0, none⟩) from hr 4 18 rfl rfl) (cell_on hg m0)) ⟨hg, trivial, rfl⟩⟩
        · exact ⟨rfl, fun ρ X9 hg ho hc hf hr => Runs.val _ (op_move (show ρ (.tmp 2) = .int .i64 ts from ho 2 rfl)) ⟨hg, trivial, rfl⟩⟩
        · exact ⟨rfl, fun ρ X9 hg ho hc hf hr => Runs.val _ (op_f55_1 (show ρ (.tmp 7) = .pointer (some ⟨Y, 0, none⟩) from ho 7 rfl)) ⟨hg, trivial, rfl⟩⟩
        · exact ⟨rfl, fun ρ X9 hg ho hc hf hr => Runs.val _ (op_load9 (show ρ (.tmp 21) = .pointer (some ⟨Y, 1, none⟩) from hr 7 21 rfl rfl) (cell_on hg m1)) ⟨hg, trivial, rfl⟩⟩
        · exact ⟨rfl, fun ρ X9 hg ho hc hf hr => Runs.val _ (op_f55_2 (show ρ (.tmp 7) = .pointer (some ⟨Y, 0, none⟩) from ho 7 rfl)) ⟨hg, trivial, rfl⟩⟩
        · exact ⟨rfl, fun ρ X9 hg ho hc hf hr => Runs.val _ (op_load4 (show ρ (.tmp 23) = .pointer (some ⟨Y, 2, none⟩) from hr 9 23 rfl rfl) (cell_on hg m2)) ⟨hg, trivial, rfl⟩⟩
        · exact ⟨rfl, fun ρ X9 hg ho hc hf hr => Runs.val _ (op_b125 (show ρ (.tmp 20) = .int .i64 ts from hr 6 20 rfl rfl) (show ρ (.tmp 22) = .string x.val from hr 8 22 rfl rfl) (show ρ (.tmp 24) = .bool x.dead from hr 10 24 rfl rfl)) ⟨hg, trivial, rfl⟩⟩
      case la =>
        refine ⟨rfl, fun ρ X9 hg ho hc hf hr => ?_⟩
        refine Runs.goes 92 #[.pointer (some ⟨P, 0, none⟩), .string x.key, veV ⟨ts, x.val, x.dead⟩] (op_call3 hf call92 (show ρ (.tmp 17) = .pointer (some ⟨P, 0, none⟩) from hr 3 17 (by decide) rfl) (show ρ (.tmp 19) = .string x.key from hr 5 19 (by decide) rfl) (show ρ (.tmp 25) = .agg #[.int .i64 ts, .string x.val, .bool x.dead] from hr 11 25 (by decide) rfl)) ((HPUT.out X9 hg).mono ?_)
        intro e7 w7 h7
        have h8 := HNJ.out X9 e7 w7 hg h7
        obtain ⟨rfl, _⟩ := h7
        exact ⟨_, rfl, h8⟩
      case en =>
        intro a X9 Xb v9 hF hs hd ho hv9 hr
        obtain ⟨x9, hx, hxt⟩ := act_put hs hd ho
        change a = putAll _ x9 [14, 15, 16, 17, 18, 19, 20, 21, 22, 23, 24, 25, 26] at hx
        simp only [putAll, Act.put, List.setIfInBounds_toArray, List.set_cons_zero, List.set_cons_succ] at hx
        have HF := Lib.hid hF
        clear hF hs hd ho hr hxt hv9
        subst hx
        go_wp2
        go_roundw
        case rel => exact HF.out
        case measure => simp [intOf]; omega
    · have k1 : ¬ (j : Int) < L.length := by omega
      have ej : L.take j = L := List.take_of_length_le (by omega)
      rw [ej] at hx
      have HA : Hid (∃ S1', Sx V A S1' S2 (s.puts L ts) P M N G lv rv ov ∧ (∀ k, S1' k → Gro S1 w V k) ∧ Fr w V S1) := ⟨S1', hx, hg, hf⟩
      clear hx hg hf hl1 hl2 ej
      go_wp2
      refine bodyPost_end (results_none rfl _ _ _) rfl ?_
      exact ⟨rfl, HA.out⟩
end
end Go.Proofs.Ytcoaahlakkghhaa
