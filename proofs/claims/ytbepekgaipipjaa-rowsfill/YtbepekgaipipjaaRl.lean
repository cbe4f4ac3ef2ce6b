/- The closures that gather writes; keyValue. -/
import Derived.Test.YtbepekgaipipjaaRe
import Derived.Test.YtbepekgaipipjaaRf
import Derived.Test.YtbepekgaipipjaaRh
namespace Go.Proofs.Ytbepekgaipipjaa
open Go.RowKit
theorem info78 : (Try.prog.info? 78).map (fun i => (i.zero, i.size, i.bytes)) = some (some (.agg #[.string ⟨#[]⟩, .string ⟨#[]⟩, .bool false]), 3, 40) := by kernel_rfl
/-- The list that is gathered: its slice lies in the block D. -/
def Out (X : World) (B D : Nat) (Ws : List Wr) : Prop := ∃ v, X.heap[D]? = some (.cells #[v] 57 (0, 0)) ∧ X.ownsRow B 78 3 v Ws.length (Ws.flatMap wrL)
/-- All blocks of other types stay. -/
def Kp (X X' : World) : Prop := ∀ (Q : Nat) (cs : Array Value) (T : Nat), X.heap[Q]? = some (.cells cs T (0, 0)) → T ≠ 57 → T ≠ 78 → X'.heap[Q]? = some (.cells cs T (0, 0))
theorem Kp.refl (X : World) : Kp X X := fun _ _ _ h _ _ => h
theorem Kp.trans {X Y Z : World} (h : Kp X Y) (k : Kp Y Z) : Kp X Z := fun Q cs T q a b => k Q cs T (h Q cs T q a b) a b
theorem Kp.below {X Y : World} (h : Below X.heap.size X Y) : Kp X Y := fun Q _ _ q _ _ => (h.block Q (blk_lt q)).trans q
theorem Out.below {X Y : World} {B D : Nat} {Ws : List Wr} (h : Out X B D Ws) (hb : Below X.heap.size X Y) : Out Y B D Ws := by
  obtain ⟨v, j, o⟩ := h
  exact ⟨v, (hb.block D (blk_lt j)).trans j, own_below o hb⟩
theorem news_wr (w : World) (x : Wr) : ∀ j u, (wrL x)[j]? = some u → (w.alloc (.cells (wrA x) 78)).cell? ((⟨w.heap.size, 0, none⟩ : Addr).add j) = some u := by
  intro j u hu
  rw [add_at, Nat.zero_add, cell_blk (heap_alloc_new w _)]
  simpa using hu
theorem own_wr {w : World} {B : Nat} {v : Value} {M : List Wr} {c : Wr} (h : w.ownsRow B 78 3 v (M.length + 1) (M.flatMap wrL ++ wrL c)) : w.ownsRow B 78 3 v (M ++ [c]).length ((M ++ [c]).flatMap wrL) := by
  rw [List.flatMap_append, List.length_append, List.flatMap_cons, List.flatMap_nil, List.append_nil]
  exact h
theorem out_set {w1 : World} {B D : Nat} {Ws : List Wr} {v v' : Value} (j : w1.heap[D]? = some (.cells #[v] 57 (0, 0))) (ho : w1.ownsRow B 78 3 v' Ws.length (Ws.flatMap wrL)) : Out (w1.setCell ⟨D, 0, none⟩ v') B D Ws := by
  refine ⟨v', by simpa using set_blk j v' (i := 0), ?_⟩
  refine keep_rowB ho ((Fr.refl w1 (fun k => k = D)).set (.inl rfl) v') (fun k hk cs q => ?_)
  rw [hk, j] at q
  simp at q
theorem kp_set {w1 : World} {D : Nat} {v v' : Value} (j : w1.heap[D]? = some (.cells #[v] 57 (0, 0))) : Kp w1 (w1.setCell ⟨D, 0, none⟩ v') := fun Q cs T q h1 h2 => by
  rw [set_other (a := ⟨D, 0, none⟩) _ (tag_ne q j h1)]
  exact q
theorem kp_grow {X w1 : World} {B : Nat} {v : Value} {n : Nat} {xs : List Value} (ho : X.ownsRow B 78 3 v n xs) (x : Wr) (g : (X.alloc (.cells (wrA x) 78)).grownBy w1 v.ownBlock) : Kp X w1 := fun Q _ _ q _ h2 =>
  grow_keep (ho.alloc _) ((Below.heap_alloc X _ Q (blk_lt q)).trans q) h2 g
set_option maxHeartbeats 4000000 in
set_option maxRecDepth 100000 in
theorem clo_put {X : World} {B D : Nat} {Ws : List Wr} (k s : ByteArray) (h : Out X B D Ws) (hB : B ≤ X.heap.size) (hD : B ≤ D) (hlen : Ws.length ≤ 1000) : Calls Try.prog 46 #[.string k, .string s, .pointer (some ⟨D, 0, none⟩)] X fun e w' => e = .returned (.tuple #[]) ∧ Out w' B D (Ws ++ [⟨k, s, false⟩]) ∧ Below B X w' ∧ Kp X w' := by
  obtain ⟨iV, hi, hz0, hz1, hz2⟩ := info_parts info78
  obtain ⟨v, j, ho⟩ := h
  obtain ⟨ad, cap, rfl⟩ := own_shape ho
  have d0 : X.cell? ⟨D, 0, none⟩ = some (.slice ad Ws.length cap) := cell_blk j 0
  have HJ := Lib.hid j
  clear j
  go_enter Try.func46, Try.ntmps46
  go_wp2_with (at_builtin; refine wpList_append_own _ rfl _ _ 57 rfl B 78 iV (.agg #[.string ⟨#[]⟩, .string ⟨#[]⟩, .bool false]) 3 40 Try.underlying57 hi hz0 hz1 hz2 rfl (by decide) _ _ _ rfl (ho.alloc _) ⟨X.heap.size, 0, none⟩ 1 1 (wrL ⟨k, s, false⟩) rfl rfl (news_wr X ⟨k, s, false⟩) (by intro u' hu'; simp at hu'; rcases hu' with rfl | rfl | rfl <;> rfl) (by unfold maxLen; omega) (by omega) (by simp; omega) ?_; intro v3 w3 hown3 hgrow3 _; refine Hid.out ?_)
  refine Lib.hid ?_
  have j3 : w3.heap[D]? = some (.cells #[.slice ad Ws.length cap] 57 (0, 0)) := grow_keep (ho.alloc _) ((Below.heap_alloc X _ D (blk_lt HJ.out)).trans HJ.out) (by decide) hgrow3
  have hb3 : Below B X w3 := ((Below.refl _ X).alloc hB _).grown hgrow3 (by simp; omega) (fun k hk => (ho.lt k hk).1)
  have HO := Lib.hid (out_set j3 (own_wr hown3))
  have HK := Lib.hid ((kp_grow ho ⟨k, s, false⟩ hgrow3).trans (kp_set (v' := v3) j3))
  have HB : Hid (Below B X (w3.setCell ⟨D, 0, none⟩ v3)) := Lib.hid (hb3.trans (((Fr.refl w3 (fun k => k = D)).set (.inl rfl) v3).toBelow (fun k hk q => by omega) (Nat.le_trans hB hb3.size)))
  have e0 : w3.cell? ⟨D, 0, none⟩ = some (.slice ad Ws.length cap) := cell_blk j3 0
  have f0 : w3.frozen? ⟨D, 0, none⟩ = false := frozen_blk j3 0
  obtain ⟨ad3, cap3, rfl⟩ := own_shape hown3
  clear j3 hb3 hown3 hgrow3 d0 ho
  go_wp2
  go_end0
  exact ⟨rfl, HO.out, HB.out, HK.out⟩
set_option maxHeartbeats 4000000 in
set_option maxRecDepth 100000 in
theorem clo_drop {X : World} {B D : Nat} {Ws : List Wr} (k : ByteArray) (h : Out X B D Ws) (hB : B ≤ X.heap.size) (hD : B ≤ D) (hlen : Ws.length ≤ 1000) : Calls Try.prog 47 #[.string k, .pointer (some ⟨D, 0, none⟩)] X fun e w' => e = .returned (.tuple #[]) ∧ Out w' B D (Ws ++ [⟨k, ⟨#[]⟩, true⟩]) ∧ Below B X w' ∧ Kp X w' := by
  obtain ⟨iV, hi, hz0, hz1, hz2⟩ := info_parts info78
  obtain ⟨v, j, ho⟩ := h
  obtain ⟨ad, cap, rfl⟩ := own_shape ho
  have d0 : X.cell? ⟨D, 0, none⟩ = some (.slice ad Ws.length cap) := cell_blk j 0
  have HJ := Lib.hid j
  clear j
  go_enter Try.func47, Try.ntmps47
  go_wp2_with (at_builtin; refine wpList_append_own _ rfl _ _ 57 rfl B 78 iV (.agg #[.string ⟨#[]⟩, .string ⟨#[]⟩, .bool false]) 3 40 Try.underlying57 hi hz0 hz1 hz2 rfl (by decide) _ _ _ rfl (ho.alloc _) ⟨X.heap.size, 0, none⟩ 1 1 (wrL ⟨k, ⟨#[]⟩, true⟩) rfl rfl (news_wr X ⟨k, ⟨#[]⟩, true⟩) (by intro u' hu'; simp at hu'; rcases hu' with rfl | rfl | rfl <;> rfl) (by unfold maxLen; omega) (by omega) (by simp; omega) ?_; intro v3 w3 hown3 hgrow3 _; refine Hid.out ?_)
  refine Lib.hid ?_
  have j3 : w3.heap[D]? = some (.cells #[.slice ad Ws.length cap] 57 (0, 0)) := grow_keep (ho.alloc _) ((Below.heap_alloc X _ D (blk_lt HJ.out)).trans HJ.out) (by decide) hgrow3
  have hb3 : Below B X w3 := ((Below.refl _ X).alloc hB _).grown hgrow3 (by simp; omega) (fun k hk => (ho.lt k hk).1)
  have HO := Lib.hid (out_set j3 (own_wr hown3))
  have HK := Lib.hid ((kp_grow ho ⟨k, ⟨#[]⟩, true⟩ hgrow3).trans (kp_set (v' := v3) j3))
  have HB : Hid (Below B X (w3.setCell ⟨D, 0, none⟩ v3)) := Lib.hid (hb3.trans (((Fr.refl w3 (fun k => k = D)).set (.inl rfl) v3).toBelow (fun k hk q => by omega) (Nat.le_trans hB hb3.size)))
  have e0 : w3.cell? ⟨D, 0, none⟩ = some (.slice ad Ws.length cap) := cell_blk j3 0
  have f0 : w3.frozen? ⟨D, 0, none⟩ = false := frozen_blk j3 0
  obtain ⟨ad3, cap3, rfl⟩ := own_shape hown3
  clear j3 hb3 hown3 hgrow3 d0 ho
  go_wp2
  go_end0
  exact ⟨rfl, HO.out, HB.out, HK.out⟩
theorem Lr.cols {w : World} {L : List Col} {v : Value} (h : Lr colE 7 w L v) (h0 : 0 < L.length) : ∃ b o cap, v = .slice (some ⟨b, o, none⟩) L.length cap ∧ w.cell? ⟨b, o, none⟩ = some (.int .i64 L[0].id) := by
  obtain ⟨ad, cap, rfl, _, _, _, hh⟩ := h
  obtain ⟨b, o, cs, rfl, _, hE, _, hc⟩ := hh 0 h0
  have hE' : cs = colL L[0] := hE
  subst hE'
  refine ⟨b, o, cap, rfl, ?_⟩
  have := hc 0 _ rfl
  simpa using this
theorem chgK_at (t : Tb) (old new : List Ce) (hc : 0 < t.cols.length) : chgK t old new = keyV (t.cols[0]'hc).id old new := by
  obtain ⟨id, nm, cols, ixs, fks⟩ := t
  cases cols with
  | nil => simp at hc
  | cons c r => rfl
theorem Lr.len0 {α : Type} {E : World → α → List Value → Prop} {c : Nat} {w : World} {L : List α} {v : Value} (h : Lr E c w L v) : ∃ ad cap, v = .slice ad L.length cap ∧ (L.length : Int) ≤ 9223372036854775807 := by
  obtain ⟨ad, cap, rfl, _, h1, h2, _⟩ := h
  exact ⟨ad, cap, rfl, by unfold maxLen at h2; omega⟩
theorem box_of {w : World} {cs : Array Value} {t : Nat} : ∃ W Y, W = w.alloc (.cells cs t) ∧ w.heap.size = Y ∧ W.heap[Y]? = some (.cells cs t (0, 0)) ∧ Below w.heap.size w W :=
  ⟨_, _, rfl, rfl, heap_alloc_new w _, bnew _ _⟩
set_option maxHeartbeats 4000000 in
set_option maxRecDepth 100000 in
theorem keyV_any {w : World} {t : Tb} {old new : List Ce} {cv iv kv ov nv' : Value} (h3 : Three w t cv iv kv) (hO : Lr ceE 4 w old ov) (hN : Lr ceE 4 w new nv') (hc : 0 < t.cols.length) : Calls Try.prog 48 #[tbV t cv iv kv, ov, nv'] w fun e w' => e = .returned (vlV (chgK t old new)) ∧ Below w.heap.size w w' := by
  have hcols := h3.c
  obtain ⟨ca, co, cc, rfl, hcc⟩ := hcols.cols hc
  have hK := chgK_at t old new hc
  rw [hK]
  obtain ⟨cid, hcid⟩ : ∃ cid, t.cols[0].id = cid := ⟨_, rfl⟩
  rw [hcid] at hcc ⊢
  obtain ⟨ia, ic, hiv, _⟩ := h3.i.len0
  obtain ⟨ka, kc, hkv, _⟩ := h3.k.len0
  subst hiv hkv
  obtain ⟨oa, oc, rfl, hox⟩ := hO.len0
  obtain ⟨na, nc, rfl, hnx⟩ := hN.len0
  obtain ⟨W0, hW0⟩ : ∃ W, W = w.alloc (.cells (tbA t (.slice (some ⟨ca, co, none⟩) t.cols.length cc) (.slice ia t.ixs.length ic) (.slice ka t.fks.length kc)) 55) := ⟨_, rfl⟩
  obtain ⟨W, hW⟩ : ∃ W, W = W0.alloc (.cells #[.int .i64 0, .int .i64 0, .string ⟨#[]⟩] 23) := ⟨_, rfl⟩
  obtain ⟨Y0, hY0⟩ : ∃ Y, w.heap.size = Y := ⟨_, rfl⟩
  obtain ⟨Y1, hY1⟩ : ∃ Y, Y0 + 1 = Y := ⟨_, rfl⟩
  have b0 : Below w.heap.size w W0 := by rw [hW0]; exact bnew _ _
  have b1 : Below W0.heap.size W0 W := by rw [hW]; exact bnew _ _
  have j0 : W.heap[Y0]? = some (.cells (tbA t (.slice (some ⟨ca, co, none⟩) t.cols.length cc) (.slice ia t.ixs.length ic) (.slice ka t.fks.length kc)) 55 (0, 0)) := by
    have : W0.heap[Y0]? = some (.cells (tbA t (.slice (some ⟨ca, co, none⟩) t.cols.length cc) (.slice ia t.ixs.length ic) (.slice ka t.fks.length kc)) 55 (0, 0)) := by rw [hW0, ← hY0]; exact heap_alloc_new w _
    exact (b1.block Y0 (blk_lt this)).trans this
  have j1 : W.heap[Y1]? = some (.cells #[.int .i64 0, .int .i64 0, .string ⟨#[]⟩] 23 (0, 0)) := by
    have := heap_alloc_new W0 (.cells #[.int .i64 0, .int .i64 0, .string ⟨#[]⟩] 23)
    rw [hW0] at this
    simp only [World.size_alloc] at this
    rw [hW, hW0, ← hY1, ← hY0]
    exact this
  have hbW := bgo b0 b1
  have q2 : W.cell? ⟨Y0, 2, none⟩ = some (.slice (some ⟨ca, co, none⟩) t.cols.length cc) := cell_blk j0 2
  have hcc' := cell_on hbW hcc
  have HO := Lib.hid (of_any cid W (hO.on ceE_held hbW))
  have HN := Lib.hid (of_any cid W (hN.on ceE_held hbW))
  have HB := Lib.hid hbW
  have HJ := Lib.hid j1
  have HW : Hid (W = (w.alloc (.cells #[.int .i64 t.id, .string t.nm, .slice (some ⟨ca, co, none⟩) t.cols.length cc, .slice ia t.ixs.length ic, .slice ka t.fks.length kc] 55)).alloc (.cells #[.int .i64 0, .int .i64 0, .string ⟨#[]⟩] 23)) := Lib.hid (by rw [hW, hW0])
  have HY0 := Lib.hid hY0
  have HY1 := Lib.hid hY1
  have HYY : Hid (w.heap.size ≤ Y1) := Lib.hid (by omega)
  have hc1 : (0 : Int) < t.cols.length := by omega
  have HNE : Hid ((old.isEmpty = true ↔ old.length = 0)) := Lib.hid (by simp)
  obtain ⟨on, hon⟩ : ∃ on, old.length = on := ⟨_, rfl⟩
  rw [hon] at HO HNE hox ⊢
  clear hW0 hW hY0 hY1 b0 b1 j0 j1 hbW hcc hcols hc hK h3 hO hN hcid hnx
  by_cases hz : on = 0
  · have HK : Hid (keyV cid old new = ofP new cid) := Lib.hid (by unfold keyV; rw [if_pos (HNE.out.2 hz)])
    rw [HK.out]
    obtain ⟨R, hR⟩ : ∃ R, ofP new cid = R := ⟨_, rfl⟩
    have hcall := HN.out
    rw [hR] at hcall ⊢
    subst hz
    clear hR hon hox
    go_enter Try.func48, Try.ntmps48
    go_upto_region 1 with fail
    rw [← HW.out, HY0.out, HY1.out]
    go_wp2_with (go_at_call 30; refine hcall.mono ?_; rintro e w4 ⟨rfl, b4⟩; refine Hid.out ?_)
    refine Lib.hid ?_
    have HB4 := Lib.hid (HB.out.trans (b4.mono HB.out.size))
    obtain ⟨X', hst, j', f'⟩ := st_row ((b4.block Y1 (blk_lt HJ.out)).trans HJ.out) (us := vlA R) rfl size23 (by simp [Value.oneCell'])
    have HR := Lib.hid (And.intro j' f')
    clear hcall HJ b4 j' f'
    go_wp2_with (refine wpl_store _ _ rfl (by simp [Act.eval]) (by simp [Act.eval]) hst ?_)
    refine bodyPost_ret (results_one rfl rfl (load_var HR.out.1 Try.underlying23 rfl size23)) rfl ?_
    exact ⟨rfl, HB4.out.trans (HR.out.2.toBelow (fun k hk q => by have := HYY.out; omega) HB4.out.size)⟩
  · have HK : Hid (keyV cid old new = ofP old cid) := Lib.hid (by unfold keyV; rw [if_neg (fun q => hz (HNE.out.1 q))])
    rw [HK.out]
    obtain ⟨R, hR⟩ : ∃ R, ofP old cid = R := ⟨_, rfl⟩
    have hcall := HO.out
    rw [hR] at hcall ⊢
    have hz1 : (0 : Int) < on := by omega
    clear hR hz hon hox
    go_enter Try.func48, Try.ntmps48
    go_upto_region 1 with fail
    rw [← HW.out, HY0.out, HY1.out]
    go_wp2_with (go_at_call 30; refine hcall.mono ?_; rintro e w4 ⟨rfl, b4⟩; refine Hid.out ?_)
    refine Lib.hid ?_
    have HB4 := Lib.hid (HB.out.trans (b4.mono HB.out.size))
    obtain ⟨X', hst, j', f'⟩ := st_row ((b4.block Y1 (blk_lt HJ.out)).trans HJ.out) (us := vlA R) rfl size23 (by simp [Value.oneCell'])
    have HR := Lib.hid (And.intro j' f')
    clear hcall HJ b4 j' f'
    go_wp2_with (refine wpl_store _ _ rfl (by simp [Act.eval]) (by simp [Act.eval]) hst ?_)
    refine bodyPost_ret (results_one rfl rfl (load_var HR.out.1 Try.underlying23 rfl size23)) rfl ?_
    exact ⟨rfl, HB4.out.trans (HR.out.2.toBelow (fun k hk q => by have := HYY.out; omega) HB4.out.size)⟩
end Go.Proofs.Ytbepekgaipipjaa
