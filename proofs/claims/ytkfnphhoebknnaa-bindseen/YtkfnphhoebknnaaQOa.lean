import Derived.Test.YtkfnphhoebknnaaQCk
namespace Go.Proofs.Ytkfnphhoebknnaa
open Go.RowKit Go.Maps
section
variable {w : World}
abbrev zTA : Array Value := #[.int .i64 0, .string ⟨#[]⟩, .slice none 0 0, .slice none 0 0, .slice none 0 0]
theorem Lr.cells2 {α : Type} {E : World → α → List Value → Prop} {c : Nat} {X : World} {L : List α} {a : Option Addr} {n m : Nat} (h : Lr E c X L (.slice a n m)) : ∀ i (h : i < L.length), ∃ b o cs, a = some ⟨b, o, none⟩ ∧ b < X.heap.size ∧ E X L[i] cs ∧ cs.length = c ∧ ∀ j u, cs[j]? = some u → X.cell? ⟨b, o + i * c + j, none⟩ = some u := by
  obtain ⟨a1, c1, e, h0, h1, h2, h3⟩ := h
  cases e
  exact h3
set_option maxHeartbeats 4000000 in
set_option maxRecDepth 100000 in
theorem table_no {s : Sc} {tv : Value} {z : ByteArray} (hL : Lr tbE 5 w s.tabs tv) (hf : fidx (fun x => decide (x.nm = z)) s.tabs = -1) : Calls Try.prog 38 #[scV s tv, .string z] w fun e w' => e = .returned (.tuple #[.agg zTA, .bool false]) ∧ Below w.heap.size w w' := by
  obtain ⟨ta, tc, rfl, hr0⟩ := hL
  have hL : Lr tbE 5 w s.tabs (.slice ta s.tabs.length tc) := ⟨ta, tc, rfl, hr0⟩
  obtain ⟨W, hW⟩ : ∃ W, W = (w.alloc (.cells #[.int .i64 s.ver, .int .i64 s.last, .slice ta s.tabs.length tc] 24)).alloc (.cells #[.int .i64 0, .string ⟨#[]⟩, .slice none 0 0, .slice none 0 0, .slice none 0 0] 54) := ⟨_, rfl⟩
  have hbW : Below w.heap.size w W := by rw [hW]; exact ((Below.refl _ w).alloc (Nat.le_refl _) _).alloc (by simp) _
  obtain ⟨Y0, hY0⟩ : ∃ Y0, w.heap.size = Y0 := ⟨_, rfl⟩
  obtain ⟨Y1, hY1⟩ : ∃ Y1, Y0 + 1 = Y1 := ⟨_, rfl⟩
  have j0 : W.heap[Y0]? = some (.cells (scA s (.slice ta s.tabs.length tc)) 24 (0, 0)) := by
    have := heap_alloc_new w (.cells #[.int .i64 s.ver, .int .i64 s.last, .slice ta s.tabs.length tc] 24)
    rw [hW, ← hY0, Below.heap_alloc _ _ _ (by simp only [World.size_alloc]; omega)]
    exact this
  have j1 : W.heap[Y1]? = some (.cells zTA 54 (0, 0)) := by
    have := heap_alloc_new (w.alloc (.cells #[.int .i64 s.ver, .int .i64 s.last, .slice ta s.tabs.length tc] 24)) (.cells zTA 54)
    simp only [World.size_alloc] at this
    rw [hW, ← hY1, ← hY0]
    exact this
  have c2 : W.cell? ⟨Y0, 2, none⟩ = some (.slice ta s.tabs.length tc) := cell_blk j0 2
  have hcall := tabN_any z (hL.on tbE_held hbW)
  rw [hf] at hcall
  have HST : Hid (∀ X, Below W.heap.size W X → ∃ X', (Instr.storeAt 54 (.pointer (some ⟨Y1, 0, none⟩)) (.agg zTA)).run Try.prog X = .ok () X' ∧ X'.heap[Y1]? = some (.cells zTA 54 (0, 0)) ∧ Below w.heap.size w X') := Lib.hid fun X hX => by
    have j := (hX.block Y1 (blk_lt j1)).trans j1
    obtain ⟨X', e, j', f⟩ := sets_row j zTA rfl
    exact ⟨X', by rw [e]; exact store_row j rfl size54 (by simp [Value.oneCell']), j', (bgo hbW hX).trans (f.toBelow (fun k hk q => by rw [q] at hk; omega) (bgo hbW hX).size)⟩
  have HW := Lib.hid hW
  have HY0 := Lib.hid hY0
  have HY1 := Lib.hid hY1
  clear hW hbW hY0 hY1 j0 j1 hL hr0 hf
  go_enter Try.func38, Try.ntmps38
  go_upto_region 1 with fail
  rw [← HW.out, HY0.out, HY1.out]
  go_upto_region 3 with (go_at_call 61; refine hcall.mono ?_; rintro e w1 ⟨rfl, b1⟩; refine Hid.out ?_)
  refine Lib.hid ?_
  obtain ⟨X', hst, j', hb'⟩ := HST.out w1 b1
  have HX := Lib.hid (And.intro j' hb')
  clear hcall j' hb' b1 c2
  go_wp2_with (refine wpl_store _ _ rfl (by simp [Act.eval]) (by simp [Act.eval]) hst ?_)
  refine bodyPost_ret (results_two rfl rfl rfl (load_var HX.out.1 Try.underlying54 rfl size54)) rfl ?_
  exact ⟨rfl, HX.out.2⟩
set_option maxHeartbeats 4000000 in
set_option maxRecDepth 100000 in
theorem table_yes {s : Sc} {tv : Value} {z : ByteArray} {i : Nat} {t : Tb} (hL : Lr tbE 5 w s.tabs tv) (hi : i < s.tabs.length) (ht : s.tabs[i] = t) (hz : t.few) (hf : fidx (fun x => decide (x.nm = z)) s.tabs = (i : Int)) : Calls Try.prog 38 #[scV s tv, .string z] w fun e w' => ∃ cv iv kv, e = .returned (.tuple #[tbV t cv iv kv, .bool true]) ∧ Three w' t cv iv kv ∧ Below w.heap.size w w' := by
  obtain ⟨ta, tc, rfl, hr0⟩ := hL
  have hL : Lr tbE 5 w s.tabs (.slice ta s.tabs.length tc) := ⟨ta, tc, rfl, hr0⟩
  obtain ⟨W, hW⟩ : ∃ W, W = (w.alloc (.cells #[.int .i64 s.ver, .int .i64 s.last, .slice ta s.tabs.length tc] 24)).alloc (.cells #[.int .i64 0, .string ⟨#[]⟩, .slice none 0 0, .slice none 0 0, .slice none 0 0] 54) := ⟨_, rfl⟩
  have hbW : Below w.heap.size w W := by rw [hW]; exact ((Below.refl _ w).alloc (Nat.le_refl _) _).alloc (by simp) _
  obtain ⟨Y0, hY0⟩ : ∃ Y0, w.heap.size = Y0 := ⟨_, rfl⟩
  obtain ⟨Y1, hY1⟩ : ∃ Y1, Y0 + 1 = Y1 := ⟨_, rfl⟩
  have j0 : W.heap[Y0]? = some (.cells (scA s (.slice ta s.tabs.length tc)) 24 (0, 0)) := by
    have := heap_alloc_new w (.cells #[.int .i64 s.ver, .int .i64 s.last, .slice ta s.tabs.length tc] 24)
    rw [hW, ← hY0, Below.heap_alloc _ _ _ (by simp only [World.size_alloc]; omega)]
    exact this
  have j1 : W.heap[Y1]? = some (.cells zTA 54 (0, 0)) := by
    have := heap_alloc_new (w.alloc (.cells #[.int .i64 s.ver, .int .i64 s.last, .slice ta s.tabs.length tc] 24)) (.cells zTA 54)
    simp only [World.size_alloc] at this
    rw [hW, ← hY1, ← hY0]
    exact this
  have c2 : W.cell? ⟨Y0, 2, none⟩ = some (.slice ta s.tabs.length tc) := cell_blk j0 2
  have hcall := tabN_any z (hL.on tbE_held hbW)
  rw [hf] at hcall
  obtain ⟨n, hn⟩ : ∃ n, s.tabs.length = n := ⟨_, rfl⟩
  have k0 : (0 : Int) ≤ (i : Int) := by omega
  have k1 : (i : Int) < (n : Int) := by omega
  have kn : ¬ (i : Int) < 0 := by omega
  have HLW := Lib.hid (hL.on tbE_held hbW)
  have HHI := Lib.hid hi
  have HT := Lib.hid ht
  have HZ := Lib.hid hz
  have J0 := Lib.hid j0
  have J1 := Lib.hid j1
  have HBW := Lib.hid hbW
  have HYW : Hid (w.heap.size ≤ Y1) := Lib.hid (by omega)
  rw [hn] at c2 hcall
  have HW := Lib.hid hW
  have HY0 := Lib.hid hY0
  have HY1 := Lib.hid hY1
  clear hW hbW hY0 hY1 j0 j1 hL hr0 hf ht hz
  unfold scV
  rw [hn] at HW J0 HLW ⊢
  clear hn
  go_enter Try.func38, Try.ntmps38
  go_upto_region 1 with fail
  rw [← HW.out, HY0.out, HY1.out]
  go_upto_region 2 with (go_at_call 61; refine hcall.mono ?_; rintro e w1 ⟨rfl, b1⟩; refine Hid.out ?_)
  refine Lib.hid ?_
  obtain ⟨q, o, cs, rfl, hq, hE, hcl, hcell⟩ := (HLW.out.on tbE_held b1).cells2 i hi
  obtain ⟨cv, iv, kv, rfl, h3⟩ := hE
  rw [HT.out] at hcell h3
  obtain ⟨ca, cc, hcv, hs1⟩ := h3.c.shape
  obtain ⟨ia, ic, hiv, hs2⟩ := h3.i.shape
  obtain ⟨ka, kc, hkv, hs3⟩ := h3.k.shape
  subst hcv hiv hkv
  have d0 : w1.cell? ⟨q, o + i * 5, none⟩ = some (.int .i64 t.id) := hcell 0 _ rfl
  have d1 : w1.cell? ⟨q, o + i * 5 + 1, none⟩ = some (.string t.nm) := hcell 1 _ rfl
  have d2 : w1.cell? ⟨q, o + i * 5 + 2, none⟩ = some (.slice ca t.cols.length cc) := hcell 2 _ rfl
  have d3 : w1.cell? ⟨q, o + i * 5 + 3, none⟩ = some (.slice ia t.ixs.length ic) := hcell 3 _ rfl
  have d4 : w1.cell? ⟨q, o + i * 5 + 4, none⟩ = some (.slice ka t.fks.length kc) := hcell 4 _ rfl
  have e2 := cell_on b1 c2
  have hcl2 := cloneT_any h3 HZ.out
  have J11 : Hid (w1.heap[Y1]? = some (.cells zTA 54 (0, 0))) := Lib.hid ((b1.block Y1 (blk_lt J1.out)).trans J1.out)
  have HB1 := Lib.hid (bgo HBW.out b1)
  clear hcall c2 b1 hcell h3 hcl hq hs1 hs2 hs3
  go_wp2_with (go_at_call 62; refine hcl2.mono ?_; rintro e w2 ⟨cv, iv, kv, rfl, o1, o2, o3, b2⟩; refine Hid.out ?_)
  refine Lib.hid ?_
  have j2 := (b2.block Y1 (blk_lt J11.out)).trans J11.out
  obtain ⟨a1, m1, hv1⟩ := own_shape o1
  obtain ⟨a2, m2, hv2⟩ := own_shape o2
  obtain ⟨a3, m3, hv3⟩ := own_shape o3
  subst hv1 hv2 hv3
  obtain ⟨X', e', j', f⟩ := sets_row j2 (tbA t (.slice a1 t.cols.length m1) (.slice a2 t.ixs.length m2) (.slice a3 t.fks.length m3)) rfl
  have hst : (Instr.storeAt 54 (.pointer (some ⟨Y1, 0, none⟩)) (.agg (tbA t (.slice a1 t.cols.length m1) (.slice a2 t.ixs.length m2) (.slice a3 t.fks.length m3)))).run Try.prog w2 = .ok () X' := by
    rw [e']
    exact store_row j2 rfl size54 (by simp [Value.oneCell'])
  have kp : ∀ {e : TypeId} {c n B : Nat} {v : Value} {xs : List Value}, e ≠ 54 → w2.ownsRow B e c v n xs → X'.ownsRow B e c v n xs := fun he q => keep_rowB q f (fun k hk cs tg => by
    rw [hk, j2] at tg
    simp only [Option.some.injEq, Obj.cells.injEq] at tg
    exact he tg.2.1.symm)
  have HTH : Hid (Three X' t (.slice a1 t.cols.length m1) (.slice a2 t.ixs.length m2) (.slice a3 t.fks.length m3)) := Lib.hid ⟨Lr.own colL_len (kp (by decide) o1), Lr.own ixL_len (kp (by decide) o2), Lr.own fkL_len (kp (by decide) o3)⟩
  have HB2 : Hid (Below w.heap.size w X') := Lib.hid ((bgo HB1.out b2).trans (f.toBelow (fun k hk q => by have := HYW.out; omega) (bgo HB1.out b2).size))
  have J' := Lib.hid j'
  clear hcl2 o1 o2 o3 b2 j2 e' j' f kp
  go_wp2_with (refine wpl_store _ _ rfl (by simp [Act.eval]) (by simp [Act.eval]) hst ?_)
  refine bodyPost_ret (results_two rfl rfl rfl (load_var J'.out Try.underlying54 rfl size54)) rfl ?_
  exact ⟨_, _, _, rfl, HTH.out, HB2.out⟩
end
end Go.Proofs.Ytkfnphhoebknnaa
