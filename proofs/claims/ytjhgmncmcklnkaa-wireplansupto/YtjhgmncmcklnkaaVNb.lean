/- PutMsg and GetMsg. -/
import Derived.Test.YtjhgmncmcklnkaaVNa
import Derived.Test.YtjhgmncmcklnkaaVMm
namespace Go.Proofs.Ytjhgmncmcklnkaa
open Go.RowKit

theorem arr10 {vs : Array Value} (h : vs.size = 10) : ∃ a0 a1 a2 a3 a4 a5 a6 a7 a8 a9, vs = #[a0, a1, a2, a3, a4, a5, a6, a7, a8, a9] := by
  obtain ⟨l⟩ := vs
  match l, h with
  | [a0, a1, a2, a3, a4, a5, a6, a7, a8, a9], _ => exact ⟨a0, a1, a2, a3, a4, a5, a6, a7, a8, a9, rfl⟩
theorem sets_msg {w1 : World} {R : Nat} (h : w1.heap[R]? = some (.cells #[.int .i64 0, .int .i64 0, .int .i64 0, .int .i64 0, .int .i64 0, .int .i64 0, .int .i64 0, .bool false, .slice none 0 0, .string ⟨#[]⟩] 24 (0, 0))) (q0 q1 q2 q3 q4 q5 q6 q7 q8 q9 : Value) : ∃ W, W = ((((((((((w1.setCell ⟨R, 0, none⟩ (q0)).setCell ⟨R, 1, none⟩ (q1)).setCell ⟨R, 2, none⟩ (q2)).setCell ⟨R, 3, none⟩ (q3)).setCell ⟨R, 4, none⟩ (q4)).setCell ⟨R, 5, none⟩ (q5)).setCell ⟨R, 6, none⟩ (q6)).setCell ⟨R, 7, none⟩ (q7)).setCell ⟨R, 8, none⟩ (q8)).setCell ⟨R, 9, none⟩ (q9)) ∧ W.heap[R]? = some (.cells #[q0, q1, q2, q3, q4, q5, q6, q7, q8, q9] 24 (0, 0)) ∧ (∀ k, k ≠ R → W.heap[k]? = w1.heap[k]?) ∧ W.heap.size = w1.heap.size ∧ W.os = w1.os ∧ W.tape = w1.tape ∧ W.output = w1.output := by
  have b0 := h
  obtain ⟨W0, e0⟩ : ∃ X, X = w1.setCell ⟨R, 0, none⟩ q0 := ⟨_, rfl⟩
  have b1 : W0.heap[R]? = some (.cells #[q0, .int .i64 0, .int .i64 0, .int .i64 0, .int .i64 0, .int .i64 0, .int .i64 0, .bool false, .slice none 0 0, .string ⟨#[]⟩] 24 (0, 0)) := by rw [e0]; exact set_blk (i := 0) b0 q0
  have o0 : ∀ k, k ≠ R → W0.heap[k]? = w1.heap[k]? := fun k hk => by rw [e0]; exact set_other (a := ⟨R, 0, none⟩) _ hk
  have s0 : W0.heap.size = w1.heap.size := by rw [e0]; simp [World.setCell]
  have p0 : W0.os = w1.os ∧ W0.tape = w1.tape ∧ W0.output = w1.output := by rw [e0]; exact ⟨rfl, rfl, rfl⟩
  clear b0
  obtain ⟨W1, e1⟩ : ∃ X, X = W0.setCell ⟨R, 1, none⟩ q1 := ⟨_, rfl⟩
  have b2 : W1.heap[R]? = some (.cells #[q0, q1, .int .i64 0, .int .i64 0, .int .i64 0, .int .i64 0, .int .i64 0, .bool false, .slice none 0 0, .string ⟨#[]⟩] 24 (0, 0)) := by rw [e1]; exact set_blk (i := 1) b1 q1
  have o1 : ∀ k, k ≠ R → W1.heap[k]? = W0.heap[k]? := fun k hk => by rw [e1]; exact set_other (a := ⟨R, 1, none⟩) _ hk
  have s1 : W1.heap.size = W0.heap.size := by rw [e1]; simp [World.setCell]
  have p1 : W1.os = W0.os ∧ W1.tape = W0.tape ∧ W1.output = W0.output := by rw [e1]; exact ⟨rfl, rfl, rfl⟩
  clear b1
  obtain ⟨W2, e2⟩ : ∃ X, X = W1.setCell ⟨R, 2, none⟩ q2 := ⟨_, rfl⟩
  have b3 : W2.heap[R]? = some (.cells #[q0, q1, q2, .int .i64 0, .int .i64 0, .int .i64 0, .int .i64 0, .bool false, .slice none 0 0, .string ⟨#[]⟩] 24 (0, 0)) := by rw [e2]; exact set_blk (i := 2) b2 q2
  have o2 : ∀ k, k ≠ R → W2.heap[k]? = W1.heap[k]? := fun k hk => by rw [e2]; exact set_other (a := ⟨R, 2, none⟩) _ hk
  have s2 : W2.heap.size = W1.heap.size := by rw [e2]; simp [World.setCell]
  have p2 : W2.os = W1.os ∧ W2.tape = W1.tape ∧ W2.output = W1.output := by rw [e2]; exact ⟨rfl, rfl, rfl⟩
  clear b2
  obtain ⟨W3, e3⟩ : ∃ X, X = W2.setCell ⟨R, 3, none⟩ q3 := ⟨_, rfl⟩
  have b4 : W3.heap[R]? = some (.cells #[q0, q1, q2, q3, .int .i64 0, .int .i64 0, .int .i64 0, .bool false, .slice none 0 0, .string ⟨#[]⟩] 24 (0, 0)) := by rw [e3]; exact set_blk (i := 3) b3 q3
  have o3 : ∀ k, k ≠ R → W3.heap[k]? = W2.heap[k]? := fun k hk => by rw [e3]; exact set_other (a := ⟨R, 3, none⟩) _ hk
  have s3 : W3.heap.size = W2.heap.size := by rw [e3]; simp [World.setCell]
  have p3 : W3.os = W2.os ∧ W3.tape = W2.tape ∧ W3.output = W2.output := by rw [e3]; exact ⟨rfl, rfl, rfl⟩
  clear b3
  obtain ⟨W4, e4⟩ : ∃ X, X = W3.setCell ⟨R, 4, none⟩ q4 := ⟨_, rfl⟩
  have b5 : W4.heap[R]? = some (.cells #[q0, q1, q2, q3, q4, .int .i64 0, .int .i64 0, .bool false, .slice none 0 0, .string ⟨#[]⟩] 24 (0, 0)) := by rw [e4]; exact set_blk (i := 4) b4 q4
  have o4 : ∀ k, k ≠ R → W4.heap[k]? = W3.heap[k]? := fun k hk => by rw [e4]; exact set_other (a := ⟨R, 4, none⟩) _ hk
  have s4 : W4.heap.size = W3.heap.size := by rw [e4]; simp [World.setCell]
  have p4 : W4.os = W3.os ∧ W4.tape = W3.tape ∧ W4.output = W3.output := by rw [e4]; exact ⟨rfl, rfl, rfl⟩
  clear b4
  obtain ⟨W5, e5⟩ : ∃ X, X = W4.setCell ⟨R, 5, none⟩ q5 := ⟨_, rfl⟩
  have b6 : W5.heap[R]? = some (.cells #[q0, q1, q2, q3, q4, q5, .int .i64 0, .bool false, .slice none 0 0, .string ⟨#[]⟩] 24 (0, 0)) := by rw [e5]; exact set_blk (i := 5) b5 q5
  have o5 : ∀ k, k ≠ R → W5.heap[k]? = W4.heap[k]? := fun k hk => by rw [e5]; exact set_other (a := ⟨R, 5, none⟩) _ hk
  have s5 : W5.heap.size = W4.heap.size := by rw [e5]; simp [World.setCell]
  have p5 : W5.os = W4.os ∧ W5.tape = W4.tape ∧ W5.output = W4.output := by rw [e5]; exact ⟨rfl, rfl, rfl⟩
  clear b5
  obtain ⟨W6, e6⟩ : ∃ X, X = W5.setCell ⟨R, 6, none⟩ q6 := ⟨_, rfl⟩
  have b7 : W6.heap[R]? = some (.cells #[q0, q1, q2, q3, q4, q5, q6, .bool false, .slice none 0 0, .string ⟨#[]⟩] 24 (0, 0)) := by rw [e6]; exact set_blk (i := 6) b6 q6
  have o6 : ∀ k, k ≠ R → W6.heap[k]? = W5.heap[k]? := fun k hk => by rw [e6]; exact set_other (a := ⟨R, 6, none⟩) _ hk
  have s6 : W6.heap.size = W5.heap.size := by rw [e6]; simp [World.setCell]
  have p6 : W6.os = W5.os ∧ W6.tape = W5.tape ∧ W6.output = W5.output := by rw [e6]; exact ⟨rfl, rfl, rfl⟩
  clear b6
  obtain ⟨W7, e7⟩ : ∃ X, X = W6.setCell ⟨R, 7, none⟩ q7 := ⟨_, rfl⟩
  have b8 : W7.heap[R]? = some (.cells #[q0, q1, q2, q3, q4, q5, q6, q7, .slice none 0 0, .string ⟨#[]⟩] 24 (0, 0)) := by rw [e7]; exact set_blk (i := 7) b7 q7
  have o7 : ∀ k, k ≠ R → W7.heap[k]? = W6.heap[k]? := fun k hk => by rw [e7]; exact set_other (a := ⟨R, 7, none⟩) _ hk
  have s7 : W7.heap.size = W6.heap.size := by rw [e7]; simp [World.setCell]
  have p7 : W7.os = W6.os ∧ W7.tape = W6.tape ∧ W7.output = W6.output := by rw [e7]; exact ⟨rfl, rfl, rfl⟩
  clear b7
  obtain ⟨W8, e8⟩ : ∃ X, X = W7.setCell ⟨R, 8, none⟩ q8 := ⟨_, rfl⟩
  have b9 : W8.heap[R]? = some (.cells #[q0, q1, q2, q3, q4, q5, q6, q7, q8, .string ⟨#[]⟩] 24 (0, 0)) := by rw [e8]; exact set_blk (i := 8) b8 q8
  have o8 : ∀ k, k ≠ R → W8.heap[k]? = W7.heap[k]? := fun k hk => by rw [e8]; exact set_other (a := ⟨R, 8, none⟩) _ hk
  have s8 : W8.heap.size = W7.heap.size := by rw [e8]; simp [World.setCell]
  have p8 : W8.os = W7.os ∧ W8.tape = W7.tape ∧ W8.output = W7.output := by rw [e8]; exact ⟨rfl, rfl, rfl⟩
  clear b8
  obtain ⟨W9, e9⟩ : ∃ X, X = W8.setCell ⟨R, 9, none⟩ q9 := ⟨_, rfl⟩
  have b10 : W9.heap[R]? = some (.cells #[q0, q1, q2, q3, q4, q5, q6, q7, q8, q9] 24 (0, 0)) := by rw [e9]; exact set_blk (i := 9) b9 q9
  have o9 : ∀ k, k ≠ R → W9.heap[k]? = W8.heap[k]? := fun k hk => by rw [e9]; exact set_other (a := ⟨R, 9, none⟩) _ hk
  have s9 : W9.heap.size = W8.heap.size := by rw [e9]; simp [World.setCell]
  have p9 : W9.os = W8.os ∧ W9.tape = W8.tape ∧ W9.output = W8.output := by rw [e9]; exact ⟨rfl, rfl, rfl⟩
  clear b9
  exact ⟨W9, by rw [e9, e8, e7, e6, e5, e4, e3, e2, e1, e0], b10, fun k hk => (o9 k hk).trans ((o8 k hk).trans ((o7 k hk).trans ((o6 k hk).trans ((o5 k hk).trans ((o4 k hk).trans ((o3 k hk).trans ((o2 k hk).trans ((o1 k hk).trans (o0 k hk))))))))), (s9).trans ((s8).trans ((s7).trans ((s6).trans ((s5).trans ((s4).trans ((s3).trans ((s2).trans ((s1).trans (s0))))))))), (p9.1).trans ((p8.1).trans ((p7.1).trans ((p6.1).trans ((p5.1).trans ((p4.1).trans ((p3.1).trans ((p2.1).trans ((p1.1).trans (p0.1))))))))), (p9.2.1).trans ((p8.2.1).trans ((p7.2.1).trans ((p6.2.1).trans ((p5.2.1).trans ((p4.2.1).trans ((p3.2.1).trans ((p2.2.1).trans ((p1.2.1).trans (p0.2.1))))))))), (p9.2.2).trans ((p8.2.2).trans ((p7.2.2).trans ((p6.2.2).trans ((p5.2.2).trans ((p4.2.2).trans ((p3.2.2).trans ((p2.2.2).trans ((p1.2.2).trans (p0.2.2)))))))))⟩
set_option maxHeartbeats 8000000 in
set_option maxRecDepth 100000 in
theorem put_msg (w : World) {x : List At} {vs : List Value} (hx0 : hasS msgT x) (hv0 : valsS w NoS x vs) (hl : (encS x).length ≤ 1000000000) : Calls Try.prog 25 #[.agg vs.toArray, .func (.func 26) #[] #[]] w fun e w' => e = .returned (.string (txt (encS x))) ∧ Below w.heap.size w w' := by
  have hcall := msg_any (put_pre (ty := 24) hx0 hv0 hl)
  have HF : Hid (∀ w1, Post ((w.alloc (.cells vs.toArray 24)).alloc (.cells tapeW 132)) w1 (w.heap.size + 1) (fun k => k = w.heap.size + 1) ⟨false, [], [], false⟩ w.heap.size 0 msgT x → Below w.heap.size w w1 ∧ ∃ rv, w1.cell? ⟨w.heap.size + 1, 1, none⟩ = some rv ∧ (convert 130 9 rv).run Try.prog w1 = .ok (.string (txt (encS x))) w1) := fun w1 q => put_post q
  obtain ⟨E, hE⟩ : ∃ E, txt (encS x) = E := ⟨_, rfl⟩
  rw [hE] at HF ⊢
  clear hE hl
  obtain ⟨a0, x0, rfl, k0, hx_0⟩ := hasS_cons hx0
  obtain ⟨n0, rfl, i0⟩ := has_num k0
  obtain ⟨u0, r0, rfl, l0, hv_0⟩ := valsS_cons hv0
  obtain rfl := lies_num l0
  obtain ⟨a1, x1, rfl, k1, hx_1⟩ := hasS_cons hx_0
  obtain ⟨n1, rfl, i1⟩ := has_num k1
  obtain ⟨u1, r1, rfl, l1, hv_1⟩ := valsS_cons hv_0
  obtain rfl := lies_num l1
  obtain ⟨a2, x2, rfl, k2, hx_2⟩ := hasS_cons hx_1
  obtain ⟨n2, rfl, i2⟩ := has_num k2
  obtain ⟨u2, r2, rfl, l2, hv_2⟩ := valsS_cons hv_1
  obtain rfl := lies_num l2
  obtain ⟨a3, x3, rfl, k3, hx_3⟩ := hasS_cons hx_2
  obtain ⟨n3, rfl, i3⟩ := has_num k3
  obtain ⟨u3, r3, rfl, l3, hv_3⟩ := valsS_cons hv_2
  obtain rfl := lies_num l3
  obtain ⟨a4, x4, rfl, k4, hx_4⟩ := hasS_cons hx_3
  obtain ⟨n4, rfl, i4⟩ := has_num k4
  obtain ⟨u4, r4, rfl, l4, hv_4⟩ := valsS_cons hv_3
  obtain rfl := lies_num l4
  obtain ⟨a5, x5, rfl, k5, hx_5⟩ := hasS_cons hx_4
  obtain ⟨n5, rfl, i5⟩ := has_num k5
  obtain ⟨u5, r5, rfl, l5, hv_5⟩ := valsS_cons hv_4
  obtain rfl := lies_num l5
  obtain ⟨a6, x6, rfl, k6, hx_6⟩ := hasS_cons hx_5
  obtain ⟨n6, rfl, i6⟩ := has_num k6
  obtain ⟨u6, r6, rfl, l6, hv_6⟩ := valsS_cons hv_5
  obtain rfl := lies_num l6
  obtain ⟨a7, x7, rfl, k7, hx_7⟩ := hasS_cons hx_6
  obtain ⟨n7, rfl⟩ := has_yes k7
  obtain ⟨u7, r7, rfl, l7, hv_7⟩ := valsS_cons hv_6
  obtain rfl := lies_yes l7
  obtain ⟨a8, x8, rfl, k8, hx_8⟩ := hasS_cons hx_7
  obtain ⟨n8, rfl, m8, i8⟩ := has_list k8
  obtain ⟨u8, r8, rfl, l8, hv_8⟩ := valsS_cons hv_7
  obtain ⟨ad8, cp8, rfl⟩ := lies_list l8
  obtain ⟨a9, x9, rfl, k9, hx_9⟩ := hasS_cons hx_8
  obtain ⟨n9, rfl, i9⟩ := has_text k9
  obtain ⟨u9, r9, rfl, l9, hv_9⟩ := valsS_cons hv_8
  obtain rfl := lies_text l9
  obtain rfl := hasS_end hx_9
  obtain rfl := valsS_end hv_9
  clear k0 hx_0 hv_0 l0 i0 k1 hx_1 hv_1 l1 i1 k2 hx_2 hv_2 l2 i2 k3 hx_3 hv_3 l3 i3 k4 hx_4 hv_4 l4 i4 k5 hx_5 hv_5 l5 i5 k6 hx_6 hv_6 l6 i6 k7 hx_7 hv_7 l7 k8 hx_8 hv_8 l8 i8 m8 k9 hx_9 hv_9 l9 i9
  go_enter Try.func25, Try.ntmps25
  go_wp2_with (go_at_call 26; refine hcall.mono ?_; rintro e w1 ⟨rfl, q⟩; refine Hid.out ?_)
  refine Lib.hid ?_
  obtain ⟨hb, rv, c1, hcv⟩ := HF.out w1 q
  have HBB := Lib.hid hb
  clear q hcall HF hb
  go_wp2
  go_ret
  exact ⟨rfl, HBB.out⟩
set_option maxHeartbeats 8000000 in
set_option maxRecDepth 100000 in
theorem Put_msg (w : World) {x : List At} {vs : List Value} (hx0 : hasS msgT x) (hv0 : valsS w NoS x vs) (hl : (encS x).length ≤ 1000000000) : Calls Try.prog 10 #[.agg vs.toArray] w fun e w' => e = .returned (.string (txt (encS x))) ∧ Below w.heap.size w w' := by
  have hb0 : Below w.heap.size w (w.alloc (.cells vs.toArray 24)) := (Below.refl _ _).alloc (Nat.le_refl _) _
  have hcall := put_msg (w.alloc (.cells vs.toArray 24)) hx0 (valsS_keeps ⟨hb0.size, fun k hk hs => ⟨hb0.block k hk, hs⟩⟩ hv0) hl
  have HB0 := Lib.hid hb0
  obtain ⟨E, hE⟩ : ∃ E, txt (encS x) = E := ⟨_, rfl⟩
  rw [hE] at hcall ⊢
  clear hE hl hb0
  obtain ⟨a0, x0, rfl, k0, hx_0⟩ := hasS_cons hx0
  obtain ⟨n0, rfl, i0⟩ := has_num k0
  obtain ⟨u0, r0, rfl, l0, hv_0⟩ := valsS_cons hv0
  obtain rfl := lies_num l0
  obtain ⟨a1, x1, rfl, k1, hx_1⟩ := hasS_cons hx_0
  obtain ⟨n1, rfl, i1⟩ := has_num k1
  obtain ⟨u1, r1, rfl, l1, hv_1⟩ := valsS_cons hv_0
  obtain rfl := lies_num l1
  obtain ⟨a2, x2, rfl, k2, hx_2⟩ := hasS_cons hx_1
  obtain ⟨n2, rfl, i2⟩ := has_num k2
  obtain ⟨u2, r2, rfl, l2, hv_2⟩ := valsS_cons hv_1
  obtain rfl := lies_num l2
  obtain ⟨a3, x3, rfl, k3, hx_3⟩ := hasS_cons hx_2
  obtain ⟨n3, rfl, i3⟩ := has_num k3
  obtain ⟨u3, r3, rfl, l3, hv_3⟩ := valsS_cons hv_2
  obtain rfl := lies_num l3
  obtain ⟨a4, x4, rfl, k4, hx_4⟩ := hasS_cons hx_3
  obtain ⟨n4, rfl, i4⟩ := has_num k4
  obtain ⟨u4, r4, rfl, l4, hv_4⟩ := valsS_cons hv_3
  obtain rfl := lies_num l4
  obtain ⟨a5, x5, rfl, k5, hx_5⟩ := hasS_cons hx_4
  obtain ⟨n5, rfl, i5⟩ := has_num k5
  obtain ⟨u5, r5, rfl, l5, hv_5⟩ := valsS_cons hv_4
  obtain rfl := lies_num l5
  obtain ⟨a6, x6, rfl, k6, hx_6⟩ := hasS_cons hx_5
  obtain ⟨n6, rfl, i6⟩ := has_num k6
  obtain ⟨u6, r6, rfl, l6, hv_6⟩ := valsS_cons hv_5
  obtain rfl := lies_num l6
  obtain ⟨a7, x7, rfl, k7, hx_7⟩ := hasS_cons hx_6
  obtain ⟨n7, rfl⟩ := has_yes k7
  obtain ⟨u7, r7, rfl, l7, hv_7⟩ := valsS_cons hv_6
  obtain rfl := lies_yes l7
  obtain ⟨a8, x8, rfl, k8, hx_8⟩ := hasS_cons hx_7
  obtain ⟨n8, rfl, m8, i8⟩ := has_list k8
  obtain ⟨u8, r8, rfl, l8, hv_8⟩ := valsS_cons hv_7
  obtain ⟨ad8, cp8, rfl⟩ := lies_list l8
  obtain ⟨a9, x9, rfl, k9, hx_9⟩ := hasS_cons hx_8
  obtain ⟨n9, rfl, i9⟩ := has_text k9
  obtain ⟨u9, r9, rfl, l9, hv_9⟩ := valsS_cons hv_8
  obtain rfl := lies_text l9
  obtain rfl := hasS_end hx_9
  obtain rfl := valsS_end hv_9
  clear k0 hx_0 hv_0 l0 i0 k1 hx_1 hv_1 l1 i1 k2 hx_2 hv_2 l2 i2 k3 hx_3 hv_3 l3 i3 k4 hx_4 hv_4 l4 i4 k5 hx_5 hv_5 l5 i5 k6 hx_6 hv_6 l6 i6 k7 hx_7 hv_7 l7 k8 hx_8 hv_8 l8 i8 m8 k9 hx_9 hv_9 l9 i9
  go_enter Try.func10, Try.ntmps10
  go_wp2_with (go_at_call 25; refine hcall.mono ?_; rintro e w1 ⟨rfl, q⟩; refine Hid.out ?_)
  refine Lib.hid ?_
  have HBB : Hid (Below w.heap.size w w1) := bel_trans HB0.out q
  clear q hcall HB0
  go_wp2
  go_ret
  exact ⟨rfl, HBB.out⟩
set_option maxHeartbeats 8000000 in
set_option maxRecDepth 100000 in
theorem get_msg (w : World) (s : ByteArray) (hl : s.size ≤ 1000000000) : Calls Try.prog 27 #[.string s, .func (.func 26) #[] #[]] w fun e w' => GetAns w w' msgT s e := by
  have hcall := msg_any (get_pre w msgT 24 s hl)
  have ez : zvS msgT = #[.int .i64 0, .int .i64 0, .int .i64 0, .int .i64 0, .int .i64 0, .int .i64 0, .int .i64 0, .bool false, .slice none 0 0, .string ⟨#[]⟩] := rfl
  have HF := Lib.hid (fun w1 => get_post (w := w) (w' := w1) (t := msgT) (ty := 24) (s := s))
  have HEZ := Lib.hid ez
  rw [ez] at hcall HF
  clear ez hl
  go_enter Try.func27, Try.ntmps27
  go_wp2_with (go_at_call 26; refine hcall.mono ?_; rintro e w1 ⟨rfl, q⟩; refine Hid.out ?_)
  refine Lib.hid ?_
  obtain ⟨hb, hR, hN, vs, bad, r, hX, hvs, hkd, c3, c2, hbad, hok⟩ := HF.out w1 q
  clear q hcall HF
  obtain ⟨v0, v1, v2, v3, v4, v5, v6, v7, v8, v9, rfl⟩ := arr10 hvs
  obtain ⟨u0, g0, n0, rfl⟩ := hkd 0 (by decide)
  obtain ⟨u1, g1, n1, rfl⟩ := hkd 1 (by decide)
  obtain ⟨u2, g2, n2, rfl⟩ := hkd 2 (by decide)
  obtain ⟨u3, g3, n3, rfl⟩ := hkd 3 (by decide)
  obtain ⟨u4, g4, n4, rfl⟩ := hkd 4 (by decide)
  obtain ⟨u5, g5, n5, rfl⟩ := hkd 5 (by decide)
  obtain ⟨u6, g6, n6, rfl⟩ := hkd 6 (by decide)
  obtain ⟨u7, g7, n7, rfl⟩ := hkd 7 (by decide)
  obtain ⟨u8, g8, ad8, n8, cp8, rfl⟩ := hkd 8 (by decide)
  obtain ⟨u9, g9, n9, rfl⟩ := hkd 9 (by decide)
  simp at g0 g1 g2 g3 g4 g5 g6 g7 g8 g9
  subst g0 g1 g2 g3 g4 g5 g6 g7 g8 g9
  have e0 : w1.cell? ⟨w.heap.size + 2, 0, none⟩ = some (.int .i64 n0) := cell_blk hX 0
  have y0 : w1.cell? ⟨w.heap.size + 3, 0, none⟩ = some (.int .i64 0) := cell_blk hN 0
  have r0 : w1.cell? ⟨w.heap.size, 0, none⟩ = some (.int .i64 0) := cell_blk hR 0
  have f0 : w1.frozen? ⟨w.heap.size, 0, none⟩ = false := frozen_blk hR 0
  have e1 : w1.cell? ⟨w.heap.size + 2, 1, none⟩ = some (.int .i64 n1) := cell_blk hX 1
  have y1 : w1.cell? ⟨w.heap.size + 3, 1, none⟩ = some (.int .i64 0) := cell_blk hN 1
  have r1 : w1.cell? ⟨w.heap.size, 1, none⟩ = some (.int .i64 0) := cell_blk hR 1
  have f1 : w1.frozen? ⟨w.heap.size, 1, none⟩ = false := frozen_blk hR 1
  have e2 : w1.cell? ⟨w.heap.size + 2, 2, none⟩ = some (.int .i64 n2) := cell_blk hX 2
  have y2 : w1.cell? ⟨w.heap.size + 3, 2, none⟩ = some (.int .i64 0) := cell_blk hN 2
  have r2 : w1.cell? ⟨w.heap.size, 2, none⟩ = some (.int .i64 0) := cell_blk hR 2
  have f2 : w1.frozen? ⟨w.heap.size, 2, none⟩ = false := frozen_blk hR 2
  have e3 : w1.cell? ⟨w.heap.size + 2, 3, none⟩ = some (.int .i64 n3) := cell_blk hX 3
  have y3 : w1.cell? ⟨w.heap.size + 3, 3, none⟩ = some (.int .i64 0) := cell_blk hN 3
  have r3 : w1.cell? ⟨w.heap.size, 3, none⟩ = some (.int .i64 0) := cell_blk hR 3
  have f3 : w1.frozen? ⟨w.heap.size, 3, none⟩ = false := frozen_blk hR 3
  have e4 : w1.cell? ⟨w.heap.size + 2, 4, none⟩ = some (.int .i64 n4) := cell_blk hX 4
  have y4 : w1.cell? ⟨w.heap.size + 3, 4, none⟩ = some (.int .i64 0) := cell_blk hN 4
  have r4 : w1.cell? ⟨w.heap.size, 4, none⟩ = some (.int .i64 0) := cell_blk hR 4
  have f4 : w1.frozen? ⟨w.heap.size, 4, none⟩ = false := frozen_blk hR 4
  have e5 : w1.cell? ⟨w.heap.size + 2, 5, none⟩ = some (.int .i64 n5) := cell_blk hX 5
  have y5 : w1.cell? ⟨w.heap.size + 3, 5, none⟩ = some (.int .i64 0) := cell_blk hN 5
  have r5 : w1.cell? ⟨w.heap.size, 5, none⟩ = some (.int .i64 0) := cell_blk hR 5
  have f5 : w1.frozen? ⟨w.heap.size, 5, none⟩ = false := frozen_blk hR 5
  have e6 : w1.cell? ⟨w.heap.size + 2, 6, none⟩ = some (.int .i64 n6) := cell_blk hX 6
  have y6 : w1.cell? ⟨w.heap.size + 3, 6, none⟩ = some (.int .i64 0) := cell_blk hN 6
  have r6 : w1.cell? ⟨w.heap.size, 6, none⟩ = some (.int .i64 0) := cell_blk hR 6
  have f6 : w1.frozen? ⟨w.heap.size, 6, none⟩ = false := frozen_blk hR 6
  have e7 : w1.cell? ⟨w.heap.size + 2, 7, none⟩ = some (.bool n7) := cell_blk hX 7
  have y7 : w1.cell? ⟨w.heap.size + 3, 7, none⟩ = some (.bool false) := cell_blk hN 7
  have r7 : w1.cell? ⟨w.heap.size, 7, none⟩ = some (.bool false) := cell_blk hR 7
  have f7 : w1.frozen? ⟨w.heap.size, 7, none⟩ = false := frozen_blk hR 7
  have e8 : w1.cell? ⟨w.heap.size + 2, 8, none⟩ = some (.slice ad8 n8 cp8) := cell_blk hX 8
  have y8 : w1.cell? ⟨w.heap.size + 3, 8, none⟩ = some (.slice none 0 0) := cell_blk hN 8
  have r8 : w1.cell? ⟨w.heap.size, 8, none⟩ = some (.slice none 0 0) := cell_blk hR 8
  have f8 : w1.frozen? ⟨w.heap.size, 8, none⟩ = false := frozen_blk hR 8
  have e9 : w1.cell? ⟨w.heap.size + 2, 9, none⟩ = some (.string n9) := cell_blk hX 9
  have y9 : w1.cell? ⟨w.heap.size + 3, 9, none⟩ = some (.string ⟨#[]⟩) := cell_blk hN 9
  have r9 : w1.cell? ⟨w.heap.size, 9, none⟩ = some (.string ⟨#[]⟩) := cell_blk hR 9
  have f9 : w1.frozen? ⟨w.heap.size, 9, none⟩ = false := frozen_blk hR 9
  have HBB := Lib.hid hb
  have HBAD := Lib.hid hbad
  have HOK := Lib.hid hok
  have HKD := Lib.hid hkd
  have HR0 := Lib.hid hR
  clear hb hbad hok hkd hR hN hX hvs
  cases bad with
  | true =>
    have HBD := Lib.hid (HBAD.out (.inl rfl))
    clear HBAD HOK
    go_wp2
    obtain ⟨W, hW, hWR, hWk, hWs, h1, h2, h3⟩ := sets_msg HR0.out (.int .i64 0) (.int .i64 0) (.int .i64 0) (.int .i64 0) (.int .i64 0) (.int .i64 0) (.int .i64 0) (.bool false) (.slice none 0 0) (.string ⟨#[]⟩)
    rw [← hW]
    have z0 : W.cell? ⟨w.heap.size, 0, none⟩ = some (.int .i64 0) := cell_blk hWR 0
    have z1 : W.cell? ⟨w.heap.size, 1, none⟩ = some (.int .i64 0) := cell_blk hWR 1
    have z2 : W.cell? ⟨w.heap.size, 2, none⟩ = some (.int .i64 0) := cell_blk hWR 2
    have z3 : W.cell? ⟨w.heap.size, 3, none⟩ = some (.int .i64 0) := cell_blk hWR 3
    have z4 : W.cell? ⟨w.heap.size, 4, none⟩ = some (.int .i64 0) := cell_blk hWR 4
    have z5 : W.cell? ⟨w.heap.size, 5, none⟩ = some (.int .i64 0) := cell_blk hWR 5
    have z6 : W.cell? ⟨w.heap.size, 6, none⟩ = some (.int .i64 0) := cell_blk hWR 6
    have z7 : W.cell? ⟨w.heap.size, 7, none⟩ = some (.bool false) := cell_blk hWR 7
    have z8 : W.cell? ⟨w.heap.size, 8, none⟩ = some (.slice none 0 0) := cell_blk hWR 8
    have z9 : W.cell? ⟨w.heap.size, 9, none⟩ = some (.string ⟨#[]⟩) := cell_blk hWR 9
    refine bodyPost_ret (v := .tuple #[.agg #[.int .i64 0, .int .i64 0, .int .i64 0, .int .i64 0, .int .i64 0, .int .i64 0, .int .i64 0, .bool false, .slice none 0 0, .string ⟨#[]⟩], .int .i64 100]) (by simp [results, Try.results27, go_sem, z0, z1, z2, z3, z4, z5, z6, z7, z8, z9]) rfl ?_
    have hbF : Below w.heap.size w W := ⟨h1.trans HBB.out.os, h2.trans HBB.out.tape, h3.trans HBB.out.output, by rw [hWs]; exact HBB.out.size, fun k hk => (hWk k (by omega)).trans (HBB.out.block k hk)⟩
    exact ⟨#[.int .i64 0, .int .i64 0, .int .i64 0, .int .i64 0, .int .i64 0, .int .i64 0, .int .i64 0, .bool false, .slice none 0 0, .string ⟨#[]⟩], 100, rfl, rfl, by rw [← HEZ.out]; exact zvS_kinds _, hbF, .inr ⟨rfl, HEZ.out.symm, HBD.out⟩⟩
  | false =>
    by_cases hr : r = ⟨#[]⟩
    · subst hr
      have HO := Lib.hid (HOK.out rfl rfl)
      clear HBAD HOK
      go_wp2
      obtain ⟨W, hW, hWR, hWk, hWs, h1, h2, h3⟩ := sets_msg HR0.out (.int .i64 n0) (.int .i64 n1) (.int .i64 n2) (.int .i64 n3) (.int .i64 n4) (.int .i64 n5) (.int .i64 n6) (.bool n7) (.slice ad8 n8 cp8) (.string n9)
      rw [← hW]
      have z0 : W.cell? ⟨w.heap.size, 0, none⟩ = some (.int .i64 n0) := cell_blk hWR 0
      have z1 : W.cell? ⟨w.heap.size, 1, none⟩ = some (.int .i64 n1) := cell_blk hWR 1
      have z2 : W.cell? ⟨w.heap.size, 2, none⟩ = some (.int .i64 n2) := cell_blk hWR 2
      have z3 : W.cell? ⟨w.heap.size, 3, none⟩ = some (.int .i64 n3) := cell_blk hWR 3
      have z4 : W.cell? ⟨w.heap.size, 4, none⟩ = some (.int .i64 n4) := cell_blk hWR 4
      have z5 : W.cell? ⟨w.heap.size, 5, none⟩ = some (.int .i64 n5) := cell_blk hWR 5
      have z6 : W.cell? ⟨w.heap.size, 6, none⟩ = some (.int .i64 n6) := cell_blk hWR 6
      have z7 : W.cell? ⟨w.heap.size, 7, none⟩ = some (.bool n7) := cell_blk hWR 7
      have z8 : W.cell? ⟨w.heap.size, 8, none⟩ = some (.slice ad8 n8 cp8) := cell_blk hWR 8
      have z9 : W.cell? ⟨w.heap.size, 9, none⟩ = some (.string n9) := cell_blk hWR 9
      refine bodyPost_ret (v := .tuple #[.agg #[.int .i64 n0, .int .i64 n1, .int .i64 n2, .int .i64 n3, .int .i64 n4, .int .i64 n5, .int .i64 n6, .bool n7, .slice ad8 n8 cp8, .string n9], .int .i64 0]) (by simp [results, Try.results27, go_sem, z0, z1, z2, z3, z4, z5, z6, z7, z8, z9]) rfl ?_
      have hbF : Below w.heap.size w W := ⟨h1.trans HBB.out.os, h2.trans HBB.out.tape, h3.trans HBB.out.output, by rw [hWs]; exact HBB.out.size, fun k hk => (hWk k (by omega)).trans (HBB.out.block k hk)⟩
      obtain ⟨y, y1, y2, y3⟩ := HO.out
      refine ⟨#[.int .i64 n0, .int .i64 n1, .int .i64 n2, .int .i64 n3, .int .i64 n4, .int .i64 n5, .int .i64 n6, .bool n7, .slice ad8 n8 cp8, .string n9], 0, rfl, rfl, HKD.out, hbF, .inl ⟨rfl, y, y1, y2, valsS_keeps ⟨by rw [hWs]; exact Nat.le_refl _, fun k hk hs => ⟨hWk k (fun e => hs (by omega)), fun q => hs (by omega)⟩⟩ y3⟩⟩
    · have hrb := not_empty hr
      have HBD := Lib.hid (HBAD.out (.inr hr))
      clear HBAD HOK
      go_wp2
      obtain ⟨W, hW, hWR, hWk, hWs, h1, h2, h3⟩ := sets_msg HR0.out (.int .i64 0) (.int .i64 0) (.int .i64 0) (.int .i64 0) (.int .i64 0) (.int .i64 0) (.int .i64 0) (.bool false) (.slice none 0 0) (.string ⟨#[]⟩)
      rw [← hW]
      have z0 : W.cell? ⟨w.heap.size, 0, none⟩ = some (.int .i64 0) := cell_blk hWR 0
      have z1 : W.cell? ⟨w.heap.size, 1, none⟩ = some (.int .i64 0) := cell_blk hWR 1
      have z2 : W.cell? ⟨w.heap.size, 2, none⟩ = some (.int .i64 0) := cell_blk hWR 2
      have z3 : W.cell? ⟨w.heap.size, 3, none⟩ = some (.int .i64 0) := cell_blk hWR 3
      have z4 : W.cell? ⟨w.heap.size, 4, none⟩ = some (.int .i64 0) := cell_blk hWR 4
      have z5 : W.cell? ⟨w.heap.size, 5, none⟩ = some (.int .i64 0) := cell_blk hWR 5
      have z6 : W.cell? ⟨w.heap.size, 6, none⟩ = some (.int .i64 0) := cell_blk hWR 6
      have z7 : W.cell? ⟨w.heap.size, 7, none⟩ = some (.bool false) := cell_blk hWR 7
      have z8 : W.cell? ⟨w.heap.size, 8, none⟩ = some (.slice none 0 0) := cell_blk hWR 8
      have z9 : W.cell? ⟨w.heap.size, 9, none⟩ = some (.string ⟨#[]⟩) := cell_blk hWR 9
      refine bodyPost_ret (v := .tuple #[.agg #[.int .i64 0, .int .i64 0, .int .i64 0, .int .i64 0, .int .i64 0, .int .i64 0, .int .i64 0, .bool false, .slice none 0 0, .string ⟨#[]⟩], .int .i64 100]) (by simp [results, Try.results27, go_sem, z0, z1, z2, z3, z4, z5, z6, z7, z8, z9]) rfl ?_
      have hbF : Below w.heap.size w W := ⟨h1.trans HBB.out.os, h2.trans HBB.out.tape, h3.trans HBB.out.output, by rw [hWs]; exact HBB.out.size, fun k hk => (hWk k (by omega)).trans (HBB.out.block k hk)⟩
      exact ⟨#[.int .i64 0, .int .i64 0, .int .i64 0, .int .i64 0, .int .i64 0, .int .i64 0, .int .i64 0, .bool false, .slice none 0 0, .string ⟨#[]⟩], 100, rfl, rfl, by rw [← HEZ.out]; exact zvS_kinds _, hbF, .inr ⟨rfl, HEZ.out.symm, HBD.out⟩⟩
set_option maxHeartbeats 8000000 in
set_option maxRecDepth 100000 in
theorem Get_msg (w : World) (s : ByteArray) (hl : s.size ≤ 1000000000) : Calls Try.prog 11 #[.string s] w fun e w' => GetAns w w' msgT s e := by
  have hcall := get_msg (w.alloc (.cells #[.int .i64 0, .int .i64 0, .int .i64 0, .int .i64 0, .int .i64 0, .int .i64 0, .int .i64 0, .bool false, .slice none 0 0, .string ⟨#[]⟩] 24)) s hl
  have hR0 := heap_alloc_new w (.cells #[.int .i64 0, .int .i64 0, .int .i64 0, .int .i64 0, .int .i64 0, .int .i64 0, .int .i64 0, .bool false, .slice none 0 0, .string ⟨#[]⟩] 24)
  have hb0 : Below w.heap.size w (w.alloc (.cells #[.int .i64 0, .int .i64 0, .int .i64 0, .int .i64 0, .int .i64 0, .int .i64 0, .int .i64 0, .bool false, .slice none 0 0, .string ⟨#[]⟩] 24)) := (Below.refl _ _).alloc (Nat.le_refl _) _
  have HR00 := Lib.hid hR0
  have HB0 := Lib.hid hb0
  clear hR0 hb0 hl
  go_enter Try.func11, Try.ntmps11
  go_wp2_with (go_at_call 27; refine hcall.mono ?_; rintro e w1 ⟨vs, c, rfl, hvs, hkd, hb, hor⟩; refine Hid.out ?_)
  refine Lib.hid ?_
  clear hcall
  have hR : w1.heap[w.heap.size]? = some (.cells #[.int .i64 0, .int .i64 0, .int .i64 0, .int .i64 0, .int .i64 0, .int .i64 0, .int .i64 0, .bool false, .slice none 0 0, .string ⟨#[]⟩] 24 (0, 0)) := (hb.block _ (by simp)).trans HR00.out
  obtain ⟨v0, v1, v2, v3, v4, v5, v6, v7, v8, v9, rfl⟩ := arr10 hvs
  have hkd2 := hkd
  obtain ⟨u0, g0, n0, rfl⟩ := hkd2 0 (by decide)
  obtain ⟨u1, g1, n1, rfl⟩ := hkd2 1 (by decide)
  obtain ⟨u2, g2, n2, rfl⟩ := hkd2 2 (by decide)
  obtain ⟨u3, g3, n3, rfl⟩ := hkd2 3 (by decide)
  obtain ⟨u4, g4, n4, rfl⟩ := hkd2 4 (by decide)
  obtain ⟨u5, g5, n5, rfl⟩ := hkd2 5 (by decide)
  obtain ⟨u6, g6, n6, rfl⟩ := hkd2 6 (by decide)
  obtain ⟨u7, g7, n7, rfl⟩ := hkd2 7 (by decide)
  obtain ⟨u8, g8, ad8, n8, cp8, rfl⟩ := hkd2 8 (by decide)
  obtain ⟨u9, g9, n9, rfl⟩ := hkd2 9 (by decide)
  simp at g0 g1 g2 g3 g4 g5 g6 g7 g8 g9
  subst g0 g1 g2 g3 g4 g5 g6 g7 g8 g9
  have r0 : w1.cell? ⟨w.heap.size, 0, none⟩ = some (.int .i64 0) := cell_blk hR 0
  have f0 : w1.frozen? ⟨w.heap.size, 0, none⟩ = false := frozen_blk hR 0
  have r1 : w1.cell? ⟨w.heap.size, 1, none⟩ = some (.int .i64 0) := cell_blk hR 1
  have f1 : w1.frozen? ⟨w.heap.size, 1, none⟩ = false := frozen_blk hR 1
  have r2 : w1.cell? ⟨w.heap.size, 2, none⟩ = some (.int .i64 0) := cell_blk hR 2
  have f2 : w1.frozen? ⟨w.heap.size, 2, none⟩ = false := frozen_blk hR 2
  have r3 : w1.cell? ⟨w.heap.size, 3, none⟩ = some (.int .i64 0) := cell_blk hR 3
  have f3 : w1.frozen? ⟨w.heap.size, 3, none⟩ = false := frozen_blk hR 3
  have r4 : w1.cell? ⟨w.heap.size, 4, none⟩ = some (.int .i64 0) := cell_blk hR 4
  have f4 : w1.frozen? ⟨w.heap.size, 4, none⟩ = false := frozen_blk hR 4
  have r5 : w1.cell? ⟨w.heap.size, 5, none⟩ = some (.int .i64 0) := cell_blk hR 5
  have f5 : w1.frozen? ⟨w.heap.size, 5, none⟩ = false := frozen_blk hR 5
  have r6 : w1.cell? ⟨w.heap.size, 6, none⟩ = some (.int .i64 0) := cell_blk hR 6
  have f6 : w1.frozen? ⟨w.heap.size, 6, none⟩ = false := frozen_blk hR 6
  have r7 : w1.cell? ⟨w.heap.size, 7, none⟩ = some (.bool false) := cell_blk hR 7
  have f7 : w1.frozen? ⟨w.heap.size, 7, none⟩ = false := frozen_blk hR 7
  have r8 : w1.cell? ⟨w.heap.size, 8, none⟩ = some (.slice none 0 0) := cell_blk hR 8
  have f8 : w1.frozen? ⟨w.heap.size, 8, none⟩ = false := frozen_blk hR 8
  have r9 : w1.cell? ⟨w.heap.size, 9, none⟩ = some (.string ⟨#[]⟩) := cell_blk hR 9
  have f9 : w1.frozen? ⟨w.heap.size, 9, none⟩ = false := frozen_blk hR 9
  have HBB : Hid (Below w.heap.size w w1) := bel_trans HB0.out hb
  have HOR := Lib.hid hor
  have HKD := Lib.hid hkd
  have HR0 := Lib.hid hR
  clear hb hor hkd hkd2 hR hvs
  go_wp2
  obtain ⟨W, hW, hWR, hWk, hWs, h1, h2, h3⟩ := sets_msg HR0.out (.int .i64 n0) (.int .i64 n1) (.int .i64 n2) (.int .i64 n3) (.int .i64 n4) (.int .i64 n5) (.int .i64 n6) (.bool n7) (.slice ad8 n8 cp8) (.string n9)
  rw [← hW]
  have z0 : W.cell? ⟨w.heap.size, 0, none⟩ = some (.int .i64 n0) := cell_blk hWR 0
  have z1 : W.cell? ⟨w.heap.size, 1, none⟩ = some (.int .i64 n1) := cell_blk hWR 1
  have z2 : W.cell? ⟨w.heap.size, 2, none⟩ = some (.int .i64 n2) := cell_blk hWR 2
  have z3 : W.cell? ⟨w.heap.size, 3, none⟩ = some (.int .i64 n3) := cell_blk hWR 3
  have z4 : W.cell? ⟨w.heap.size, 4, none⟩ = some (.int .i64 n4) := cell_blk hWR 4
  have z5 : W.cell? ⟨w.heap.size, 5, none⟩ = some (.int .i64 n5) := cell_blk hWR 5
  have z6 : W.cell? ⟨w.heap.size, 6, none⟩ = some (.int .i64 n6) := cell_blk hWR 6
  have z7 : W.cell? ⟨w.heap.size, 7, none⟩ = some (.bool n7) := cell_blk hWR 7
  have z8 : W.cell? ⟨w.heap.size, 8, none⟩ = some (.slice ad8 n8 cp8) := cell_blk hWR 8
  have z9 : W.cell? ⟨w.heap.size, 9, none⟩ = some (.string n9) := cell_blk hWR 9
  refine bodyPost_ret (v := .tuple #[.agg #[.int .i64 n0, .int .i64 n1, .int .i64 n2, .int .i64 n3, .int .i64 n4, .int .i64 n5, .int .i64 n6, .bool n7, .slice ad8 n8 cp8, .string n9], .int .i64 c]) (by simp [results, Try.results11, go_sem, z0, z1, z2, z3, z4, z5, z6, z7, z8, z9]) rfl ?_
  have hbF : Below w.heap.size w W := ⟨h1.trans HBB.out.os, h2.trans HBB.out.tape, h3.trans HBB.out.output, by rw [hWs]; exact HBB.out.size, fun k hk => (hWk k (by omega)).trans (HBB.out.block k hk)⟩
  refine ⟨#[.int .i64 n0, .int .i64 n1, .int .i64 n2, .int .i64 n3, .int .i64 n4, .int .i64 n5, .int .i64 n6, .bool n7, .slice ad8 n8 cp8, .string n9], c, rfl, rfl, HKD.out, hbF, ?_⟩
  rcases HOR.out with ⟨q1, y, y1, y2, y3⟩ | q
  · exact .inl ⟨q1, y, y1, y2, valsS_keeps ⟨by rw [hWs]; exact Nat.le_refl _, fun k hk hs => ⟨hWk k (fun e => hs (by simp; omega)), fun q => hs (by simp; omega)⟩⟩ y3⟩
  · exact .inr q
end Go.Proofs.Ytjhgmncmcklnkaa
