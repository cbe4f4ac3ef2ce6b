/- PutRange and GetRange. -/
import Derived.Test.YtjhgmncmcklnkaaVNa
import Derived.Test.YtjhgmncmcklnkaaVMk
namespace Go.Proofs.Ytjhgmncmcklnkaa
open Go.RowKit

theorem sets_shard {w1 : World} {R : Nat} (h : w1.heap[R]? = some (.cells #[.slice none 0 0, .slice none 0 0, .slice none 0 0, .slice none 0 0, .int .i64 0] 62 (0, 0))) (q0 q1 q2 q3 q4 : Value) : ∃ W, W = (((((w1.setCell ⟨R, 0, none⟩ (q0)).setCell ⟨R, 1, none⟩ (q1)).setCell ⟨R, 2, none⟩ (q2)).setCell ⟨R, 3, none⟩ (q3)).setCell ⟨R, 4, none⟩ (q4)) ∧ W.heap[R]? = some (.cells #[q0, q1, q2, q3, q4] 62 (0, 0)) ∧ (∀ k, k ≠ R → W.heap[k]? = w1.heap[k]?) ∧ W.heap.size = w1.heap.size ∧ W.os = w1.os ∧ W.tape = w1.tape ∧ W.output = w1.output := by
  have b0 := h
  obtain ⟨W0, e0⟩ : ∃ X, X = w1.setCell ⟨R, 0, none⟩ q0 := ⟨_, rfl⟩
  have b1 : W0.heap[R]? = some (.cells #[q0, .slice none 0 0, .slice none 0 0, .slice none 0 0, .int .i64 0] 62 (0, 0)) := by rw [e0]; exact set_blk (i := 0) b0 q0
  have o0 : ∀ k, k ≠ R → W0.heap[k]? = w1.heap[k]? := fun k hk => by rw [e0]; exact set_other (a := ⟨R, 0, none⟩) _ hk
  have s0 : W0.heap.size = w1.heap.size := by rw [e0]; simp [World.setCell]
  have p0 : W0.os = w1.os ∧ W0.tape = w1.tape ∧ W0.output = w1.output := by rw [e0]; exact ⟨rfl, rfl, rfl⟩
  clear b0
  obtain ⟨W1, e1⟩ : ∃ X, X = W0.setCell ⟨R, 1, none⟩ q1 := ⟨_, rfl⟩
  have b2 : W1.heap[R]? = some (.cells #[q0, q1, .slice none 0 0, .slice none 0 0, .int .i64 0] 62 (0, 0)) := by rw [e1]; exact set_blk (i := 1) b1 q1
  have o1 : ∀ k, k ≠ R → W1.heap[k]? = W0.heap[k]? := fun k hk => by rw [e1]; exact set_other (a := ⟨R, 1, none⟩) _ hk
  have s1 : W1.heap.size = W0.heap.size := by rw [e1]; simp [World.setCell]
  have p1 : W1.os = W0.os ∧ W1.tape = W0.tape ∧ W1.output = W0.output := by rw [e1]; exact ⟨rfl, rfl, rfl⟩
  clear b1
  obtain ⟨W2, e2⟩ : ∃ X, X = W1.setCell ⟨R, 2, none⟩ q2 := ⟨_, rfl⟩
  have b3 : W2.heap[R]? = some (.cells #[q0, q1, q2, .slice none 0 0, .int .i64 0] 62 (0, 0)) := by rw [e2]; exact set_blk (i := 2) b2 q2
  have o2 : ∀ k, k ≠ R → W2.heap[k]? = W1.heap[k]? := fun k hk => by rw [e2]; exact set_other (a := ⟨R, 2, none⟩) _ hk
  have s2 : W2.heap.size = W1.heap.size := by rw [e2]; simp [World.setCell]
  have p2 : W2.os = W1.os ∧ W2.tape = W1.tape ∧ W2.output = W1.output := by rw [e2]; exact ⟨rfl, rfl, rfl⟩
  clear b2
  obtain ⟨W3, e3⟩ : ∃ X, X = W2.setCell ⟨R, 3, none⟩ q3 := ⟨_, rfl⟩
  have b4 : W3.heap[R]? = some (.cells #[q0, q1, q2, q3, .int .i64 0] 62 (0, 0)) := by rw [e3]; exact set_blk (i := 3) b3 q3
  have o3 : ∀ k, k ≠ R → W3.heap[k]? = W2.heap[k]? := fun k hk => by rw [e3]; exact set_other (a := ⟨R, 3, none⟩) _ hk
  have s3 : W3.heap.size = W2.heap.size := by rw [e3]; simp [World.setCell]
  have p3 : W3.os = W2.os ∧ W3.tape = W2.tape ∧ W3.output = W2.output := by rw [e3]; exact ⟨rfl, rfl, rfl⟩
  clear b3
  obtain ⟨W4, e4⟩ : ∃ X, X = W3.setCell ⟨R, 4, none⟩ q4 := ⟨_, rfl⟩
  have b5 : W4.heap[R]? = some (.cells #[q0, q1, q2, q3, q4] 62 (0, 0)) := by rw [e4]; exact set_blk (i := 4) b4 q4
  have o4 : ∀ k, k ≠ R → W4.heap[k]? = W3.heap[k]? := fun k hk => by rw [e4]; exact set_other (a := ⟨R, 4, none⟩) _ hk
  have s4 : W4.heap.size = W3.heap.size := by rw [e4]; simp [World.setCell]
  have p4 : W4.os = W3.os ∧ W4.tape = W3.tape ∧ W4.output = W3.output := by rw [e4]; exact ⟨rfl, rfl, rfl⟩
  clear b4
  exact ⟨W4, by rw [e4, e3, e2, e1, e0], b5, fun k hk => (o4 k hk).trans ((o3 k hk).trans ((o2 k hk).trans ((o1 k hk).trans (o0 k hk)))), (s4).trans ((s3).trans ((s2).trans ((s1).trans (s0)))), (p4.1).trans ((p3.1).trans ((p2.1).trans ((p1.1).trans (p0.1)))), (p4.2.1).trans ((p3.2.1).trans ((p2.2.1).trans ((p1.2.1).trans (p0.2.1)))), (p4.2.2).trans ((p3.2.2).trans ((p2.2.2).trans ((p1.2.2).trans (p0.2.2))))⟩
set_option maxHeartbeats 8000000 in
set_option maxRecDepth 100000 in
theorem put_shard (w : World) {x : List At} {vs : List Value} (hx0 : hasS shardT x) (hv0 : valsS w NoS x vs) (hl : (encS x).length ≤ 1000000000) : Calls Try.prog 43 #[.agg vs.toArray, .func (.func 44) #[] #[]] w fun e w' => e = .returned (.string (txt (encS x))) ∧ Below w.heap.size w w' := by
  have hcall := shard_any (put_pre (ty := 62) hx0 hv0 hl)
  have HF : Hid (∀ w1, Post ((w.alloc (.cells vs.toArray 62)).alloc (.cells tapeW 132)) w1 (w.heap.size + 1) (fun k => k = w.heap.size + 1) ⟨false, [], [], false⟩ w.heap.size 0 shardT x → Below w.heap.size w w1 ∧ ∃ rv, w1.cell? ⟨w.heap.size + 1, 1, none⟩ = some rv ∧ (convert 130 9 rv).run Try.prog w1 = .ok (.string (txt (encS x))) w1) := fun w1 q => put_post q
  obtain ⟨E, hE⟩ : ∃ E, txt (encS x) = E := ⟨_, rfl⟩
  rw [hE] at HF ⊢
  clear hE hl
  obtain ⟨a0, x0, rfl, k0, hx_0⟩ := hasS_cons hx0
  obtain ⟨n0, rfl, m0, i0⟩ := has_list k0
  obtain ⟨u0, r0, rfl, l0, hv_0⟩ := valsS_cons hv0
  obtain ⟨ad0, cp0, rfl⟩ := lies_list l0
  obtain ⟨a1, x1, rfl, k1, hx_1⟩ := hasS_cons hx_0
  obtain ⟨n1, rfl, m1, i1⟩ := has_list k1
  obtain ⟨u1, r1, rfl, l1, hv_1⟩ := valsS_cons hv_0
  obtain ⟨ad1, cp1, rfl⟩ := lies_list l1
  obtain ⟨a2, x2, rfl, k2, hx_2⟩ := hasS_cons hx_1
  obtain ⟨n2, rfl, m2, i2⟩ := has_list k2
  obtain ⟨u2, r2, rfl, l2, hv_2⟩ := valsS_cons hv_1
  obtain ⟨ad2, cp2, rfl⟩ := lies_list l2
  obtain ⟨a3, x3, rfl, k3, hx_3⟩ := hasS_cons hx_2
  obtain ⟨n3, rfl, m3, i3⟩ := has_list k3
  obtain ⟨u3, r3, rfl, l3, hv_3⟩ := valsS_cons hv_2
  obtain ⟨ad3, cp3, rfl⟩ := lies_list l3
  obtain ⟨a4, x4, rfl, k4, hx_4⟩ := hasS_cons hx_3
  obtain ⟨n4, rfl, i4⟩ := has_num k4
  obtain ⟨u4, r4, rfl, l4, hv_4⟩ := valsS_cons hv_3
  obtain rfl := lies_num l4
  obtain rfl := hasS_end hx_4
  obtain rfl := valsS_end hv_4
  clear k0 hx_0 hv_0 l0 i0 m0 k1 hx_1 hv_1 l1 i1 m1 k2 hx_2 hv_2 l2 i2 m2 k3 hx_3 hv_3 l3 i3 m3 k4 hx_4 hv_4 l4 i4
  go_enter Try.func43, Try.ntmps43
  go_wp2_with (go_at_call 44; refine hcall.mono ?_; rintro e w1 ⟨rfl, q⟩; refine Hid.out ?_)
  refine Lib.hid ?_
  obtain ⟨hb, rv, c1, hcv⟩ := HF.out w1 q
  have HBB := Lib.hid hb
  clear q hcall HF hb
  go_wp2
  go_ret
  exact ⟨rfl, HBB.out⟩
set_option maxHeartbeats 8000000 in
set_option maxRecDepth 100000 in
theorem Put_shard (w : World) {x : List At} {vs : List Value} (hx0 : hasS shardT x) (hv0 : valsS w NoS x vs) (hl : (encS x).length ≤ 1000000000) : Calls Try.prog 19 #[.agg vs.toArray] w fun e w' => e = .returned (.string (txt (encS x))) ∧ Below w.heap.size w w' := by
  have hb0 : Below w.heap.size w (w.alloc (.cells vs.toArray 62)) := (Below.refl _ _).alloc (Nat.le_refl _) _
  have hcall := put_shard (w.alloc (.cells vs.toArray 62)) hx0 (valsS_keeps ⟨hb0.size, fun k hk hs => ⟨hb0.block k hk, hs⟩⟩ hv0) hl
  have HB0 := Lib.hid hb0
  obtain ⟨E, hE⟩ : ∃ E, txt (encS x) = E := ⟨_, rfl⟩
  rw [hE] at hcall ⊢
  clear hE hl hb0
  obtain ⟨a0, x0, rfl, k0, hx_0⟩ := hasS_cons hx0
  obtain ⟨n0, rfl, m0, i0⟩ := has_list k0
  obtain ⟨u0, r0, rfl, l0, hv_0⟩ := valsS_cons hv0
  obtain ⟨ad0, cp0, rfl⟩ := lies_list l0
  obtain ⟨a1, x1, rfl, k1, hx_1⟩ := hasS_cons hx_0
  obtain ⟨n1, rfl, m1, i1⟩ := has_list k1
  obtain ⟨u1, r1, rfl, l1, hv_1⟩ := valsS_cons hv_0
  obtain ⟨ad1, cp1, rfl⟩ := lies_list l1
  obtain ⟨a2, x2, rfl, k2, hx_2⟩ := hasS_cons hx_1
  obtain ⟨n2, rfl, m2, i2⟩ := has_list k2
  obtain ⟨u2, r2, rfl, l2, hv_2⟩ := valsS_cons hv_1
  obtain ⟨ad2, cp2, rfl⟩ := lies_list l2
  obtain ⟨a3, x3, rfl, k3, hx_3⟩ := hasS_cons hx_2
  obtain ⟨n3, rfl, m3, i3⟩ := has_list k3
  obtain ⟨u3, r3, rfl, l3, hv_3⟩ := valsS_cons hv_2
  obtain ⟨ad3, cp3, rfl⟩ := lies_list l3
  obtain ⟨a4, x4, rfl, k4, hx_4⟩ := hasS_cons hx_3
  obtain ⟨n4, rfl, i4⟩ := has_num k4
  obtain ⟨u4, r4, rfl, l4, hv_4⟩ := valsS_cons hv_3
  obtain rfl := lies_num l4
  obtain rfl := hasS_end hx_4
  obtain rfl := valsS_end hv_4
  clear k0 hx_0 hv_0 l0 i0 m0 k1 hx_1 hv_1 l1 i1 m1 k2 hx_2 hv_2 l2 i2 m2 k3 hx_3 hv_3 l3 i3 m3 k4 hx_4 hv_4 l4 i4
  go_enter Try.func19, Try.ntmps19
  go_wp2_with (go_at_call 43; refine hcall.mono ?_; rintro e w1 ⟨rfl, q⟩; refine Hid.out ?_)
  refine Lib.hid ?_
  have HBB : Hid (Below w.heap.size w w1) := bel_trans HB0.out q
  clear q hcall HB0
  go_wp2
  go_ret
  exact ⟨rfl, HBB.out⟩
set_option maxHeartbeats 8000000 in
set_option maxRecDepth 100000 in
theorem get_shard (w : World) (s : ByteArray) (hl : s.size ≤ 1000000000) : Calls Try.prog 45 #[.string s, .func (.func 44) #[] #[]] w fun e w' => GetAns w w' shardT s e := by
  have hcall := shard_any (get_pre w shardT 62 s hl)
  have ez : zvS shardT = #[.slice none 0 0, .slice none 0 0, .slice none 0 0, .slice none 0 0, .int .i64 0] := rfl
  have HF := Lib.hid (fun w1 => get_post (w := w) (w' := w1) (t := shardT) (ty := 62) (s := s))
  have HEZ := Lib.hid ez
  rw [ez] at hcall HF
  clear ez hl
  go_enter Try.func45, Try.ntmps45
  go_wp2_with (go_at_call 44; refine hcall.mono ?_; rintro e w1 ⟨rfl, q⟩; refine Hid.out ?_)
  refine Lib.hid ?_
  obtain ⟨hb, hR, hN, vs, bad, r, hX, hvs, hkd, c3, c2, hbad, hok⟩ := HF.out w1 q
  clear q hcall HF
  obtain ⟨v0, v1, v2, v3, v4, rfl⟩ := arr5 hvs
  obtain ⟨u0, g0, ad0, n0, cp0, rfl⟩ := hkd 0 (by decide)
  obtain ⟨u1, g1, ad1, n1, cp1, rfl⟩ := hkd 1 (by decide)
  obtain ⟨u2, g2, ad2, n2, cp2, rfl⟩ := hkd 2 (by decide)
  obtain ⟨u3, g3, ad3, n3, cp3, rfl⟩ := hkd 3 (by decide)
  obtain ⟨u4, g4, n4, rfl⟩ := hkd 4 (by decide)
  simp at g0 g1 g2 g3 g4
  subst g0 g1 g2 g3 g4
  have e0 : w1.cell? ⟨w.heap.size + 2, 0, none⟩ = some (.slice ad0 n0 cp0) := cell_blk hX 0
  have y0 : w1.cell? ⟨w.heap.size + 3, 0, none⟩ = some (.slice none 0 0) := cell_blk hN 0
  have r0 : w1.cell? ⟨w.heap.size, 0, none⟩ = some (.slice none 0 0) := cell_blk hR 0
  have f0 : w1.frozen? ⟨w.heap.size, 0, none⟩ = false := frozen_blk hR 0
  have e1 : w1.cell? ⟨w.heap.size + 2, 1, none⟩ = some (.slice ad1 n1 cp1) := cell_blk hX 1
  have y1 : w1.cell? ⟨w.heap.size + 3, 1, none⟩ = some (.slice none 0 0) := cell_blk hN 1
  have r1 : w1.cell? ⟨w.heap.size, 1, none⟩ = some (.slice none 0 0) := cell_blk hR 1
  have f1 : w1.frozen? ⟨w.heap.size, 1, none⟩ = false := frozen_blk hR 1
  have e2 : w1.cell? ⟨w.heap.size + 2, 2, none⟩ = some (.slice ad2 n2 cp2) := cell_blk hX 2
  have y2 : w1.cell? ⟨w.heap.size + 3, 2, none⟩ = some (.slice none 0 0) := cell_blk hN 2
  have r2 : w1.cell? ⟨w.heap.size, 2, none⟩ = some (.slice none 0 0) := cell_blk hR 2
  have f2 : w1.frozen? ⟨w.heap.size, 2, none⟩ = false := frozen_blk hR 2
  have e3 : w1.cell? ⟨w.heap.size + 2, 3, none⟩ = some (.slice ad3 n3 cp3) := cell_blk hX 3
  have y3 : w1.cell? ⟨w.heap.size + 3, 3, none⟩ = some (.slice none 0 0) := cell_blk hN 3
  have r3 : w1.cell? ⟨w.heap.size, 3, none⟩ = some (.slice none 0 0) := cell_blk hR 3
  have f3 : w1.frozen? ⟨w.heap.size, 3, none⟩ = false := frozen_blk hR 3
  have e4 : w1.cell? ⟨w.heap.size + 2, 4, none⟩ = some (.int .i64 n4) := cell_blk hX 4
  have y4 : w1.cell? ⟨w.heap.size + 3, 4, none⟩ = some (.int .i64 0) := cell_blk hN 4
  have r4 : w1.cell? ⟨w.heap.size, 4, none⟩ = some (.int .i64 0) := cell_blk hR 4
  have f4 : w1.frozen? ⟨w.heap.size, 4, none⟩ = false := frozen_blk hR 4
  have HBB := Lib.hid hb
  have HBAD := Lib.hid hbad
  have HOK := Lib.hid hok
  have HKD := Lib.hid hkd
  have HR0 := Lib.hid hR
  clear hb hbad hok hkd hR hN hX hvs
  cases bad with
  | true =>
    have HBD := Lib.hid (HBAD.out (.inl rfl))
    clear HBAD HOK
    go_wp2
    obtain ⟨W, hW, hWR, hWk, hWs, h1, h2, h3⟩ := sets_shard HR0.out (.slice none 0 0) (.slice none 0 0) (.slice none 0 0) (.slice none 0 0) (.int .i64 0)
    rw [← hW]
    have z0 : W.cell? ⟨w.heap.size, 0, none⟩ = some (.slice none 0 0) := cell_blk hWR 0
    have z1 : W.cell? ⟨w.heap.size, 1, none⟩ = some (.slice none 0 0) := cell_blk hWR 1
    have z2 : W.cell? ⟨w.heap.size, 2, none⟩ = some (.slice none 0 0) := cell_blk hWR 2
    have z3 : W.cell? ⟨w.heap.size, 3, none⟩ = some (.slice none 0 0) := cell_blk hWR 3
    have z4 : W.cell? ⟨w.heap.size, 4, none⟩ = some (.int .i64 0) := cell_blk hWR 4
    refine bodyPost_ret (v := .tuple #[.agg #[.slice none 0 0, .slice none 0 0, .slice none 0 0, .slice none 0 0, .int .i64 0], .int .i64 100]) (by simp [results, Try.results45, go_sem, z0, z1, z2, z3, z4]) rfl ?_
    have hbF : Below w.heap.size w W := ⟨h1.trans HBB.out.os, h2.trans HBB.out.tape, h3.trans HBB.out.output, by rw [hWs]; exact HBB.out.size, fun k hk => (hWk k (by omega)).trans (HBB.out.block k hk)⟩
    exact ⟨#[.slice none 0 0, .slice none 0 0, .slice none 0 0, .slice none 0 0, .int .i64 0], 100, rfl, rfl, by rw [← HEZ.out]; exact zvS_kinds _, hbF, .inr ⟨rfl, HEZ.out.symm, HBD.out⟩⟩
  | false =>
    by_cases hr : r = ⟨#[]⟩
    · subst hr
      have HO := Lib.hid (HOK.out rfl rfl)
      clear HBAD HOK
      go_wp2
      obtain ⟨W, hW, hWR, hWk, hWs, h1, h2, h3⟩ := sets_shard HR0.out (.slice ad0 n0 cp0) (.slice ad1 n1 cp1) (.slice ad2 n2 cp2) (.slice ad3 n3 cp3) (.int .i64 n4)
      rw [← hW]
      have z0 : W.cell? ⟨w.heap.size, 0, none⟩ = some (.slice ad0 n0 cp0) := cell_blk hWR 0
      have z1 : W.cell? ⟨w.heap.size, 1, none⟩ = some (.slice ad1 n1 cp1) := cell_blk hWR 1
      have z2 : W.cell? ⟨w.heap.size, 2, none⟩ = some (.slice ad2 n2 cp2) := cell_blk hWR 2
      have z3 : W.cell? ⟨w.heap.size, 3, none⟩ = some (.slice ad3 n3 cp3) := cell_blk hWR 3
      have z4 : W.cell? ⟨w.heap.size, 4, none⟩ = some (.int .i64 n4) := cell_blk hWR 4
      refine bodyPost_ret (v := .tuple #[.agg #[.slice ad0 n0 cp0, .slice ad1 n1 cp1, .slice ad2 n2 cp2, .slice ad3 n3 cp3, .int .i64 n4], .int .i64 0]) (by simp [results, Try.results45, go_sem, z0, z1, z2, z3, z4]) rfl ?_
      have hbF : Below w.heap.size w W := ⟨h1.trans HBB.out.os, h2.trans HBB.out.tape, h3.trans HBB.out.output, by rw [hWs]; exact HBB.out.size, fun k hk => (hWk k (by omega)).trans (HBB.out.block k hk)⟩
      obtain ⟨y, y1, y2, y3⟩ := HO.out
      refine ⟨#[.slice ad0 n0 cp0, .slice ad1 n1 cp1, .slice ad2 n2 cp2, .slice ad3 n3 cp3, .int .i64 n4], 0, rfl, rfl, HKD.out, hbF, .inl ⟨rfl, y, y1, y2, valsS_keeps ⟨by rw [hWs]; exact Nat.le_refl _, fun k hk hs => ⟨hWk k (fun e => hs (by omega)), fun q => hs (by omega)⟩⟩ y3⟩⟩
    · have hrb := not_empty hr
      have HBD := Lib.hid (HBAD.out (.inr hr))
      clear HBAD HOK
      go_wp2
      obtain ⟨W, hW, hWR, hWk, hWs, h1, h2, h3⟩ := sets_shard HR0.out (.slice none 0 0) (.slice none 0 0) (.slice none 0 0) (.slice none 0 0) (.int .i64 0)
      rw [← hW]
      have z0 : W.cell? ⟨w.heap.size, 0, none⟩ = some (.slice none 0 0) := cell_blk hWR 0
      have z1 : W.cell? ⟨w.heap.size, 1, none⟩ = some (.slice none 0 0) := cell_blk hWR 1
      have z2 : W.cell? ⟨w.heap.size, 2, none⟩ = some (.slice none 0 0) := cell_blk hWR 2
      have z3 : W.cell? ⟨w.heap.size, 3, none⟩ = some (.slice none 0 0) := cell_blk hWR 3
      have z4 : W.cell? ⟨w.heap.size, 4, none⟩ = some (.int .i64 0) := cell_blk hWR 4
      refine bodyPost_ret (v := .tuple #[.agg #[.slice none 0 0, .slice none 0 0, .slice none 0 0, .slice none 0 0, .int .i64 0], .int .i64 100]) (by simp [results, Try.results45, go_sem, z0, z1, z2, z3, z4]) rfl ?_
      have hbF : Below w.heap.size w W := ⟨h1.trans HBB.out.os, h2.trans HBB.out.tape, h3.trans HBB.out.output, by rw [hWs]; exact HBB.out.size, fun k hk => (hWk k (by omega)).trans (HBB.out.block k hk)⟩
      exact ⟨#[.slice none 0 0, .slice none 0 0, .slice none 0 0, .slice none 0 0, .int .i64 0], 100, rfl, rfl, by rw [← HEZ.out]; exact zvS_kinds _, hbF, .inr ⟨rfl, HEZ.out.symm, HBD.out⟩⟩
set_option maxHeartbeats 8000000 in
set_option maxRecDepth 100000 in
theorem Get_shard (w : World) (s : ByteArray) (hl : s.size ≤ 1000000000) : Calls Try.prog 20 #[.string s] w fun e w' => GetAns w w' shardT s e := by
  have hcall := get_shard (w.alloc (.cells #[.slice none 0 0, .slice none 0 0, .slice none 0 0, .slice none 0 0, .int .i64 0] 62)) s hl
  have hR0 := heap_alloc_new w (.cells #[.slice none 0 0, .slice none 0 0, .slice none 0 0, .slice none 0 0, .int .i64 0] 62)
  have hb0 : Below w.heap.size w (w.alloc (.cells #[.slice none 0 0, .slice none 0 0, .slice none 0 0, .slice none 0 0, .int .i64 0] 62)) := (Below.refl _ _).alloc (Nat.le_refl _) _
  have HR00 := Lib.hid hR0
  have HB0 := Lib.hid hb0
  clear hR0 hb0 hl
  go_enter Try.func20, Try.ntmps20
  go_wp2_with (go_at_call 45; refine hcall.mono ?_; rintro e w1 ⟨vs, c, rfl, hvs, hkd, hb, hor⟩; refine Hid.out ?_)
  refine Lib.hid ?_
  clear hcall
  have hR : w1.heap[w.heap.size]? = some (.cells #[.slice none 0 0, .slice none 0 0, .slice none 0 0, .slice none 0 0, .int .i64 0] 62 (0, 0)) := (hb.block _ (by simp)).trans HR00.out
  obtain ⟨v0, v1, v2, v3, v4, rfl⟩ := arr5 hvs
  have hkd2 := hkd
  obtain ⟨u0, g0, ad0, n0, cp0, rfl⟩ := hkd2 0 (by decide)
  obtain ⟨u1, g1, ad1, n1, cp1, rfl⟩ := hkd2 1 (by decide)
  obtain ⟨u2, g2, ad2, n2, cp2, rfl⟩ := hkd2 2 (by decide)
  obtain ⟨u3, g3, ad3, n3, cp3, rfl⟩ := hkd2 3 (by decide)
  obtain ⟨u4, g4, n4, rfl⟩ := hkd2 4 (by decide)
  simp at g0 g1 g2 g3 g4
  subst g0 g1 g2 g3 g4
  have r0 : w1.cell? ⟨w.heap.size, 0, none⟩ = some (.slice none 0 0) := cell_blk hR 0
  have f0 : w1.frozen? ⟨w.heap.size, 0, none⟩ = false := frozen_blk hR 0
  have r1 : w1.cell? ⟨w.heap.size, 1, none⟩ = some (.slice none 0 0) := cell_blk hR 1
  have f1 : w1.frozen? ⟨w.heap.size, 1, none⟩ = false := frozen_blk hR 1
  have r2 : w1.cell? ⟨w.heap.size, 2, none⟩ = some (.slice none 0 0) := cell_blk hR 2
  have f2 : w1.frozen? ⟨w.heap.size, 2, none⟩ = false := frozen_blk hR 2
  have r3 : w1.cell? ⟨w.heap.size, 3, none⟩ = some (.slice none 0 0) := cell_blk hR 3
  have f3 : w1.frozen? ⟨w.heap.size, 3, none⟩ = false := frozen_blk hR 3
  have r4 : w1.cell? ⟨w.heap.size, 4, none⟩ = some (.int .i64 0) := cell_blk hR 4
  have f4 : w1.frozen? ⟨w.heap.size, 4, none⟩ = false := frozen_blk hR 4
  have HBB : Hid (Below w.heap.size w w1) := bel_trans HB0.out hb
  have HOR := Lib.hid hor
  have HKD := Lib.hid hkd
  have HR0 := Lib.hid hR
  clear hb hor hkd hkd2 hR hvs
  go_wp2
  obtain ⟨W, hW, hWR, hWk, hWs, h1, h2, h3⟩ := sets_shard HR0.out (.slice ad0 n0 cp0) (.slice ad1 n1 cp1) (.slice ad2 n2 cp2) (.slice ad3 n3 cp3) (.int .i64 n4)
  rw [← hW]
  have z0 : W.cell? ⟨w.heap.size, 0, none⟩ = some (.slice ad0 n0 cp0) := cell_blk hWR 0
  have z1 : W.cell? ⟨w.heap.size, 1, none⟩ = some (.slice ad1 n1 cp1) := cell_blk hWR 1
  have z2 : W.cell? ⟨w.heap.size, 2, none⟩ = some (.slice ad2 n2 cp2) := cell_blk hWR 2
  have z3 : W.cell? ⟨w.heap.size, 3, none⟩ = some (.slice ad3 n3 cp3) := cell_blk hWR 3
  have z4 : W.cell? ⟨w.heap.size, 4, none⟩ = some (.int .i64 n4) := cell_blk hWR 4
  refine bodyPost_ret (v := .tuple #[.agg #[.slice ad0 n0 cp0, .slice ad1 n1 cp1, .slice ad2 n2 cp2, .slice ad3 n3 cp3, .int .i64 n4], .int .i64 c]) (by simp [results, Try.results20, go_sem, z0, z1, z2, z3, z4]) rfl ?_
  have hbF : Below w.heap.size w W := ⟨h1.trans HBB.out.os, h2.trans HBB.out.tape, h3.trans HBB.out.output, by rw [hWs]; exact HBB.out.size, fun k hk => (hWk k (by omega)).trans (HBB.out.block k hk)⟩
  refine ⟨#[.slice ad0 n0 cp0, .slice ad1 n1 cp1, .slice ad2 n2 cp2, .slice ad3 n3 cp3, .int .i64 n4], c, rfl, rfl, HKD.out, hbF, ?_⟩
  rcases HOR.out with ⟨q1, y, y1, y2, y3⟩ | q
  · exact .inl ⟨q1, y, y1, y2, valsS_keeps ⟨by rw [hWs]; exact Nat.le_refl _, fun k hk hs => ⟨hWk k (fun e => hs (by simp; omega)), fun q => hs (by simp; omega)⟩⟩ y3⟩
  · exact .inr q
end Go.Proofs.Ytjhgmncmcklnkaa
