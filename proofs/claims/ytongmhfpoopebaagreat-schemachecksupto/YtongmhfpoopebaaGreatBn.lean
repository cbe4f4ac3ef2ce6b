/- The walks of idsOf, rightElements. -/
import Derived.Test.YtongmhfpoopebaaGreatBm
namespace Go.Proofs.YtongmhfpoopebaaGreat
open Go.RowKit Go.Maps
section
variable {w : World}
set_option maxHeartbeats 2000000 in
set_option maxRecDepth 100000 in
theorem idsOf_any {t : Tb} {cv iv kv : Value} (h : Three w t cv iv kv) (hz : t.few) : Calls Tryz.prog 56 #[tbV t cv iv kv] w fun e w' => ∃ ad n cap, e = .returned (.slice ad n cap) ∧ n = (idsT t).length ∧ w'.ownsRow w.heap.size 3 1 (.slice ad n cap) n ((idsT t).flatMap inL) ∧ Below w.heap.size w w' := by
  have HT := Lib.hid h
  have HZ := Lib.hid hz
  obtain ⟨ca, cc, rfl, _⟩ := h.c
  obtain ⟨ia, ic, rfl, _⟩ := h.i
  obtain ⟨ka, kc, rfl, _⟩ := h.k
  obtain ⟨W, hW⟩ : ∃ W, W = w.alloc (.cells #[.int .i64 t.id, .string t.nm, .slice ca t.cols.length cc, .slice ia t.ixs.length ic, .slice ka t.fks.length kc] 35) := ⟨_, rfl⟩
  have hbW : Below w.heap.size w W := by rw [hW]; exact (Below.refl _ w).alloc (Nat.le_refl _) _
  obtain ⟨Y0, hY0⟩ : ∃ Y0, w.heap.size = Y0 := ⟨_, rfl⟩
  have jY0 : W.heap[Y0]? = some (.cells #[.int .i64 t.id, .string t.nm, .slice ca t.cols.length cc, .slice ia t.ixs.length ic, .slice ka t.fks.length kc] 35 (0, 0)) := by
    have := heap_alloc_new w (.cells #[.int .i64 t.id, .string t.nm, .slice ca t.cols.length cc, .slice ia t.ixs.length ic, .slice ka t.fks.length kc] 35)
    rw [hW, ← hY0]
    exact this
  have d0 : W.cell? ⟨Y0, 0, none⟩ = some (.int .i64 t.id) := cell_blk jY0 0
  obtain ⟨W1, hW1⟩ : ∃ W1, W1 = W.alloc (.cells #[.int .i64 t.id] 3) := ⟨_, rfl⟩
  have b1 : Below W.heap.size W W1 := by rw [hW1]; exact bnew _ _
  obtain ⟨Q, hQ⟩ : ∃ Q, W.heap.size = Q := ⟨_, rfl⟩
  have jQ : W1.heap[Q]? = some (.cells #[.int .i64 t.id] 3 (0, 0)) := by rw [hW1, ← hQ]; exact heap_alloc_new W _
  have o0 : W1.ownsRow W.heap.size 3 1 (.slice (some ⟨Q, 0, none⟩) 1 1) ([t.id]).length (([t.id]).flatMap inL) := ⟨rfl, .inr ⟨Q, 1, _, rfl, by omega, jQ, Nat.le_refl _, by unfold maxLen; omega, rfl, rfl⟩⟩
  have ht := HT.out.on hbW
  have hz' := HZ.out
  have c1 := idsC_any (w := W1) (w0 := W) (I := [t.id]) o0 b1 ht.c hz'.1 (by simp)
  have d2 : W1.cell? ⟨Y0, 2, none⟩ = some (.slice ca t.cols.length cc) := cell_on b1 (cell_blk jY0 2)
  have J0 := Lib.hid jY0
  have B1 := Lib.hid b1
  have HTW := Lib.hid ht
  have HW1 := Lib.hid hW1
  have HQ := Lib.hid hQ
  have HW := Lib.hid hW
  have HBW := Lib.hid hbW
  have HY0 := Lib.hid hY0
  clear hW hbW hY0
  clear jY0 hW1 b1 hQ jQ o0 ht hz' h hz
  go_enter Tryz.func56, Tryz.ntmps56
  go_upto_region 1 with fail
  rw [← HW.out, HY0.out]
  go_upto_region 2 with fail
  rw [← HW1.out, HQ.out]
  clear d0
  go_wp2_with fail
  refine c1.mono ?_
  rintro e w1 ⟨a1, p1, rfl, o1, b1⟩
  have b01 : Below W.heap.size W w1 := B1.out.trans b1
  have d3 : w1.cell? ⟨Y0, 3, none⟩ = some (.slice ia t.ixs.length ic) := cell_on b01 (cell_blk J0.out 3)
  have hl1 : ([t.id]).length + t.cols.length = ([t.id] ++ t.cols.map Col.id).length := by rw [List.length_append, List.length_map]
  rw [hl1] at o1
  have c2 := idsI_any (w := w1) (w0 := W) (I := [t.id] ++ t.cols.map Col.id) o1 b01 HTW.out.i HZ.out.2.1 (by rw [← hl1]; have := HZ.out.1; simp; omega)
  rw [← hl1] at c2
  have BB1 := Lib.hid b01
  clear c1 b1 o1 b01 hl1
  go_wp2_with fail
  refine c2.mono ?_
  rintro e w2 ⟨a2, p2, rfl, o2, b2⟩
  have b02 : Below W.heap.size W w2 := BB1.out.trans b2
  have d4 : w2.cell? ⟨Y0, 4, none⟩ = some (.slice ka t.fks.length kc) := cell_on b02 (cell_blk J0.out 4)
  have hl2 : ([t.id]).length + t.cols.length + t.ixs.length = ([t.id] ++ t.cols.map Col.id ++ t.ixs.map Ix.id).length := by simp only [List.length_append, List.length_map]
  rw [hl2] at o2
  have c3 := idsK_any (w := w2) (w0 := W) (I := [t.id] ++ t.cols.map Col.id ++ t.ixs.map Ix.id) o2 b02 HTW.out.k HZ.out.2.2 (by rw [← hl2]; have q1 := HZ.out.1; have q2 := HZ.out.2.1; simp; omega)
  rw [← hl2] at c3
  have BB2 := Lib.hid b02
  clear c2 b2 o2 b02 hl2
  go_wp2_with fail
  refine c3.mono ?_
  rintro e w3 ⟨a3, p3, rfl, o3, b3⟩
  have hid : [t.id] ++ t.cols.map Col.id ++ t.ixs.map Ix.id ++ t.fks.map Fk.id = idsT t := by simp [idsT]
  rw [hid] at o3
  obtain ⟨n, hn⟩ : ∃ n, ([t.id]).length + t.cols.length + t.ixs.length + t.fks.length = n := ⟨_, rfl⟩
  rw [hn] at o3
  have HO := Lib.hid (own_mono o3 HBW.out.size)
  have HE := Lib.hid (bgo HBW.out (BB2.out.trans b3))
  have HN : Hid (n = (idsT t).length) := Lib.hid (by rw [← hn, ← hid]; simp only [List.length_append, List.length_map])
  have HN2 := Lib.hid hn
  clear c3 o3 b3 hid hn d2 d3 d4
  go_wp2
  go_ret
  refine ⟨a3, n, p3, ?_, HN.out, HO.out, HE.out⟩
  rw [← HN2.out]
  simp
set_option maxHeartbeats 2000000 in
set_option maxRecDepth 100000 in
theorem el_f {x : Col} {B q : Nat} (h : Pt colE w B q x) : Calls Tryz.prog 92 #[.pointer (some ⟨B, q, none⟩)] w fun e w' => e = .returned (.bool (!(kindB x.kd && fitB x.df x.kd))) ∧ Below w.heap.size w w' := by
  obtain ⟨cs, hE, hc⟩ := h
  cases hE
  have c2 : w.cell? ⟨B, q + 2, none⟩ = some (.int .i64 x.kd) := hc 2 _ rfl
  have c4 : w.cell? ⟨B, q + 4, none⟩ = some (.int .i64 x.df.k) := hc 4 _ rfl
  have c5 : w.cell? ⟨B, q + 4 + 1, none⟩ = some (.int .i64 x.df.n) := hc 5 _ rfl
  have c6 : w.cell? ⟨B, q + 4 + 2, none⟩ = some (.string x.df.s) := hc 6 _ rfl
  clear hc
  have hk := fun X => kind_any (w := X) x.kd
  have hf := fun X => fit_any (w := X) x.df x.kd
  have HC := Lib.hid (And.intro c2 (And.intro c4 (And.intro c5 c6)))
  cases q1 : kindB x.kd with
  | false =>
    rw [q1] at hk
    clear q1 hf
    go_enter Tryz.func92, Tryz.ntmps92
    go_wp2
    go_quiet ((go_at_call 93; exact Calls.quiet_of_same (hk _)))
    go_wp2
    go_ret
    exact ⟨rfl, bdrewN (Below.refl _ _) _⟩
  | true =>
    rw [q1] at hk
    clear q1
    obtain ⟨r, hr⟩ : ∃ r, fitB x.df x.kd = r := ⟨_, rfl⟩
    rw [hr] at hf ⊢
    clear hr
    go_enter Tryz.func92, Tryz.ntmps92
    go_wp2
    go_region_with (first | (go_at_call 93; refine (hk _).mono ?_; rintro e w1 ⟨rfl, rfl⟩) | (go_at_call 94; refine (hf _).mono ?_; rintro e w2 ⟨rfl, b2⟩))
    all_goals
      go_wp2
      go_ret
      exact ⟨rfl, ⟨b2.os, b2.tape, b2.output, b2.size, b2.block⟩⟩
end
end Go.Proofs.YtongmhfpoopebaaGreat
