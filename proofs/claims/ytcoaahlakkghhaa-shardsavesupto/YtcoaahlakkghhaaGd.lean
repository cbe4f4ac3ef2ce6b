/- The walk of slices.Insert at pointers to rows. -/
import Derived.Test.YtcoaahlakkghhaaGc
import Derived.Lib.Overlaps
import Derived.Lib.AppendZerosOnto
import Derived.Laws.Externs
import Derived.Laws.NewBlocks
import Derived.Laws.IdiomCopy
namespace Go.Proofs.Ytcoaahlakkghhaa
open Go.RowKit

section
variable {P : Program}
theorem wp_copy_run (w : World) {o : Oper} {a : Act} {K : Act → World → Prop} {Q : Exit → Act → World → Prop} (d s : Operand) (t t' : TypeId)
    (ho : o.op = .call { callee := .builtin .copy, args := #[d, s], argTypes := #[t, t'] }) (v u : Value) (hd : a.eval d = v) (hs : a.eval s = u) {v' : Value} {w' : World}
    (hr : (Builtin.copy_ #[t, t'] o.type #[v, u]).run P w = .ok v' w') (h : K (a.put o.dst v') w') : o.wp P a w K Q := by
  unfold Oper.wp execOp
  simp only [ho, resolve, invoke, builtin, Sem.run_bind, Sem.run_pure, Result.andThen_ok, List.map_toArray, List.map_cons, List.map_nil, hd, hs, hr]
  exact h
theorem wpl_copy_run (w : World) {ops : Array Oper} {rest : List Oper} {o : Oper} {a : Act} {Q : Exit → Act → World → Prop} (hgd : plainOp o) (d s : Operand) (t t' : TypeId)
    (ho : o.op = .call { callee := .builtin .copy, args := #[d, s], argTypes := #[t, t'] }) (v u : Value) (hd : a.eval d = v) (hs : a.eval s = u) {v' : Value} {w' : World}
    (hr : (Builtin.copy_ #[t, t'] o.type #[v, u]).run P w = .ok v' w') (h : wpList P ops Q rest (a.put o.dst v') w') : wpList P ops Q (o :: rest) a w :=
  wpList_plain (by
    unfold plainOp Region.wanted at hgd
    split at hgd
    · assumption
    · cases hgd) fun _ hK => wp_copy_run w d s t t' ho v u hd hs hr (hK _ _ h)
theorem step_copy_run {ops : Array Oper} {o : Oper} {a : Act} {w : World} {K : Act → World → Prop} {Q : Exit → Act → World → Prop} {E : Prop}
    (hg : plainOp o) (d x : Operand) (dT sT : TypeId) (hop : o.op = Op.call { callee := Callee.builtin Builtin.copy, args := #[d, x], argTypes := #[dT, sT] })
    (v u : Value) (hd : a.eval d = v) (hx : a.eval x = u) {v' : Value} {w' : World} (hr : (Builtin.copy_ #[dT, sT] o.type #[v, u]).run P w = .ok v' w') (hK : K (a.put o.dst v') w') :
    if Region.wanted o (yielded ops a.tmps) = true then Oper.wp P o a w K Q else E := by
  have hw : Region.wanted o (yielded ops a.tmps) = true := wanted_none hg _
  rw [if_pos hw]
  unfold Oper.wp
  simp [execOp, hop, resolve, invoke, builtin, hd, hx, hr, Result.andThen]
  exact hK
end
theorem isSome_set (b : Nat) (vs : List Value) (o : Nat) (w : World) (h : ∀ j, j < vs.length → (w.cell? ⟨b, o + j, none⟩).isSome = true) (k : Nat) (hk : (w.cell? ⟨b, k, none⟩).isSome = true) : ((w.setCells b o vs).cell? ⟨b, k, none⟩).isSome = true := by
  by_cases hin : o ≤ k ∧ k < o + vs.length
  · have := World.cell?_setCells_in b vs o w h (k - o) (by omega)
    rw [show o + (k - o) = k by omega] at this
    rw [this]
    rfl
  · rw [World.cell?_setCells_out b vs o w ⟨b, k, none⟩ (fun _ _ => by show k < o ∨ o + vs.length ≤ k; omega)]
    exact hk
section
variable {w w' W V : World}
theorem size67 : (Try.prog.info? 126).map (·.size) = some 1 := by kernel_rfl
set_option maxHeartbeats 4000000 in
set_option maxRecDepth 100000 in
/-- There is room: in place. -/
theorem ins_shift (b n c i vb : Nat) (cs : List Value) (x : Value) (kB : Nat) (hi : i < n) (hroom : n + 1 ≤ c) (hc63 : c ≤ 9223372036854775807) (hvb : vb ≠ b) (hcl : cs.length = n)
    (hcs : ∀ j v, cs[j]? = some v → w.cell? ⟨b, j, none⟩ = some v) (hsp : ∀ j, j < n + 1 → (w.cell? ⟨b, j, none⟩).isSome = true) (hfz : ∀ j, w.frozen? ⟨b, j, none⟩ = false)
    (hvs : w.heap[vb]? = some (.cells #[x] 126 (0, 0))) (h1c : ∀ v ∈ cs, v.oneCell' = true) (h1v : x.oneCell' = true) (hsb : w.shape? b = some (126, kB)) (hkB : kB ≠ 0) :
    Calls Try.prog 108 #[.slice (some ⟨b, 0, none⟩) n c, .int .i64 (i : Int), .slice (some ⟨vb, 0, none⟩) 1 1] w fun e w' =>
      e = .returned (.slice (some ⟨b, 0, none⟩) (n + 1) c) ∧ w' = (w.drew.setCells b (i + 1) (cs.drop i)).setCells b i [x] := by
  have hz2 : ¬ ((i : Int) = (n : Int)) := by omega
  have hsa : w.shape? vb = some (126, 1) := by simp [World.shape?, hvs]
  have hov : ∀ lb cb, (callFunc 112 #[.slice (some ⟨vb, 0, none⟩) 1 1, .slice (some ⟨b, i + 1, none⟩) lb cb]).run Try.prog w = .ok (.value (.bool false)) w := fun lb cb => by
    rw [run_callFunc_extern Try.func112 (by kernel_rfl) (by kernel_rfl) (by kernel_rfl) (e := Extern.SlicesOverlaps.overlaps #[114, 114] #[4]) (by kernel_rfl),
      Lib.run_overlaps_apart w 114 4 126 Try.underlying114 1 Try.sizeOf126 ⟨vb, 0, none⟩ ⟨b, i + 1, none⟩ 1 1 lb cb hvb 126 126 1 kB hsa hsb hkB (frozen_blk hvs 0) (frozen_blk hvs 1)]
    rfl
  have hdl : (cs.drop i).length = n - i := by rw [List.length_drop, hcl]
  have hcp1 : ∀ ty dc sc, (Builtin.copy_ #[114, 114] ty #[.slice (some ⟨b, i + 1, none⟩) (n + 1 - (i + 1)) dc, .slice (some ⟨b, i, none⟩) (n + 1 - i) sc]).run Try.prog w.drew = .ok (goInt (cs.drop i).length) (w.drew.setCells b (i + 1) (cs.drop i)) := fun ty dc sc =>
    run_copy_cells w.drew _ _ ty 126 b (i + 1) (n + 1 - (i + 1)) dc ⟨b, i, none⟩ (n + 1 - i) sc (cs.drop i) Try.underlying114 size67 (by rw [hdl]; simp only [Nat.min_def]; split <;> omega)
      (fun j v hj => by rw [add_at]; exact hcs (i + j) v (by rwa [List.getElem?_drop] at hj))
      (fun j hj => hsp _ (by rw [hdl] at hj; omega)) (fun j _ => hfz _) (fun v hv => h1c v (List.mem_of_mem_drop hv))
  obtain ⟨W1, hW1⟩ : ∃ W1, W1 = w.drew.setCells b (i + 1) (cs.drop i) := ⟨_, rfl⟩
  have hsp1 : ∀ k, k < n + 1 → (W1.cell? ⟨b, k, none⟩).isSome = true := fun k hk => by
    rw [hW1]
    exact isSome_set b _ _ w.drew (fun j hj => hsp (i + 1 + j) (by rw [hdl] at hj; omega)) _ (hsp k hk)
  have hcp2 : ∀ (W : World), (∀ x, W.cell? x = W1.cell? x) → (∀ x, W.frozen? x = W1.frozen? x) → ∀ ty dc, (Builtin.copy_ #[114, 114] ty #[.slice (some ⟨b, i, none⟩) (n + 1 - i) dc, .slice (some ⟨vb, 0, none⟩) 1 1]).run Try.prog W = .ok (goInt [x].length) (W.setCells b i [x]) := fun W hWc hWf ty dc =>
    run_copy_cells W _ _ ty 126 b i (n + 1 - i) dc ⟨vb, 0, none⟩ 1 1 [x] Try.underlying114 size67 (by show 1 = _; simp only [Nat.min_def]; split <;> omega)
      (fun j v hj => by
        rw [add_at, hWc, hW1, World.cell?_setCells_out b _ _ _ _ (fun h _ => absurd h hvb), Nat.zero_add]
        show w.cell? ⟨vb, j, none⟩ = some v
        rw [cell_blk hvs]
        simpa using hj)
      (fun j hj => by rw [hWc]; exact hsp1 _ (by simp at hj; omega)) (fun j hj => by rw [hWf, hW1, World.frozen?_setCells]; exact hfz _) (fun v hv => by rw [List.mem_singleton.1 hv]; exact h1v)
  rw [← hW1] at hcp1
  have hi0 : (0 : Int) ≤ (i : Int) := by omega
  have hi1 : (i : Int) ≤ (n : Int) := by omega
  have hi2 : (i : Int) + 1 ≤ (n : Int) + 1 := by omega
  have htn : ((i : Int) + 1).toNat = i + 1 := by omega
  have hnc : (n : Int) ≤ (c : Int) := by omega
  have hb2 : ¬ (c = i + 1) := by omega
  have hb4 : ¬ (c = i) := by omega
  have hc0 : (n : Int) + 1 ≤ (c : Int) := by omega
  have hcI : (c : Int) ≤ 9223372036854775807 := by omega
  have hw1 : IntKind.i64.wrap ((i : Int) + 1) = (i : Int) + 1 := by rw [IntKind.wrap_i64]; omega
  have hb1 : (0 : Int) ≤ (i : Int) + 1 := by omega
  have hb3 : (i : Int) ≤ (n : Int) + 1 := by omega
  clear hsa hdl hsp hfz hcs hvs h1c h1v hsb
  go_enter Try.func108, Try.ntmps108
  go_wp2_with (simp only [hov])
  go_region_law (refine step_copy_run rfl (.tmp 73) (.tmp 76) 114 114 rfl (.slice (some ⟨b, i + 1, none⟩) (n + 1 - (i + 1)) (c - (i + 1))) (.slice (some ⟨b, i, none⟩) (n + 1 - i) (c - i)) (by simp [Act.eval, Act.put]) (by simp [Act.eval, Act.put]) (hcp1 3 (c - (i + 1)) (c - i)) ?_)
  go_wp2_with (at_builtin; refine wpl_copy_run _ rfl _ _ 114 114 rfl _ _ rfl rfl (hcp2 _ (fun _ => rfl) (fun _ => rfl) _ _) ?_)
  go_ret
  exact ⟨rfl, rfl⟩
set_option maxHeartbeats 4000000 in
set_option maxRecDepth 100000 in
/-- There is no room: a new row. -/
theorem ins_grow (b n c i vb : Nat) (cs : List Value) (x : Value) (hi : i < n) (hnc : n ≤ c) (hroom : c < n + 1) (hbig : n ≤ 900000) (hcl : cs.length = n)
    (hcs : ∀ j v, cs[j]? = some v → w.cell? ⟨b, j, none⟩ = some v) (hvs : w.heap[vb]? = some (.cells #[x] 126 (0, 0))) (h1c : ∀ v ∈ cs, v.oneCell' = true) (h1v : x.oneCell' = true) :
    Calls Try.prog 108 #[.slice (some ⟨b, 0, none⟩) n c, .int .i64 (i : Int), .slice (some ⟨vb, 0, none⟩) 1 1] w fun e w' =>
      ∃ G ROW, n + 1 ≤ G ∧ G ≤ maxLen ∧ ROW.size = G ∧ (∀ j v, j < i → cs[j]? = some v → ROW[j]? = some v) ∧ e = .returned (.slice (some ⟨w.heap.size, 0, none⟩) (n + 1) G) ∧
      w' = (((w.alloc (.cells ROW 126)).drew.setCells w.heap.size i [x]).drew).setCells w.heap.size (i + 1) (cs.drop i) := by
  obtain ⟨i0, hi0, hz0, hzs, hzb⟩ := info_parts info_pt
  have hz2 : ¬ ((i : Int) = (n : Int)) := by omega
  have hz3 : (c : Int) < (n : Int) + 1 := by omega
  have hbw : b < w.heap.size := block_lt_of_cell (hcs 0 _ (List.getElem?_eq_getElem (by omega)))
  have hvw : vb < w.heap.size := blk_lt hvs
  have hkk : (n : Int) + 1 - (i : Int) = ((n + 1 - i : Nat) : Int) := by omega
  have hik : i + (n + 1 - i) = n + 1 := by omega
  have hold : (Builtin.firstCells i0.size i (.slice (some ⟨b, 0, none⟩) i c)).run Try.prog w.drew = .ok (cs.take i).toArray w.drew := by
    rw [hzs]
    exact run_firstCells_some w.drew 1 i ⟨b, 0, none⟩ i c (cs.take i) (by rw [List.length_take]; omega) (fun j v hj => by
      rw [add_at, Nat.zero_add]
      rw [List.getElem?_take] at hj
      split at hj
      · exact hcs j v hj
      · cases hj)
  have hrz : ∀ ty, (Builtin.append_ #[114, 3] ty #[.slice (some ⟨b, 0, none⟩) i c, .int .i64 ((n : Int) + 1 - (i : Int))]).run Try.prog w =
      .ok (.slice (some ⟨w.heap.size, 0, none⟩) (n + 1) (grownCap w (n + 1) c 126)) (w.drew.alloc (.cells ((cs.take i).toArray ++ Builtin.zeroCells (Value.pointer none).cells (n + 1 - i) ++ Builtin.zeroCells (Value.pointer none).cells (grownCap w (n + 1) c 126 - (n + 1))) 126)) := fun ty => by
    have h := Lib.run_append_grow_zeros w 114 3 ty 126 i0 _ .i64 .i64 Try.underlying114 Try.underlying3 hi0 hz0 (some ⟨b, 0, none⟩) i c (cs.take i) hold (n + 1 - i) (by omega) (by omega) (by omega) (by omega) (by rw [hzb]; omega) (by rw [hzb, hik]; exact growslice_fits hroom (by omega))
    rw [hik] at h
    rw [hkk]
    exact h
  obtain ⟨G, hG⟩ : ∃ G, G = grownCap w (n + 1) c 126 := ⟨_, rfl⟩
  obtain ⟨ROW, hROW⟩ : ∃ ROW : Array Value, ROW = (cs.take i).toArray ++ Builtin.zeroCells (Value.pointer none).cells (n + 1 - i) ++ Builtin.zeroCells (Value.pointer none).cells (G - (n + 1)) := ⟨_, rfl⟩
  rw [← hG] at hrz
  rw [← hROW] at hrz
  have hGn : n + 1 ≤ G := by rw [hG]; exact grownCap_ge w _ _ _
  have hGm : G ≤ maxLen := by rw [hG]; exact grownCap_le_maxLen w (n + 1) c 126 (by unfold maxLen; omega)
  have hRs : ROW.size = G := by
    rw [hROW]
    simp [Builtin.zeroCells, Value.cells]
    omega
  have hRc : ∀ j v, j < i → cs[j]? = some v → ROW[j]? = some v := fun j v hj hv => by
    rw [hROW, Array.append_assoc, Array.getElem?_append_left (by simp; omega)]
    simp [hj, hv]
  obtain ⟨W1, hW1⟩ : ∃ W1, W1 = w.drew.alloc (.cells ROW 126) := ⟨_, rfl⟩
  rw [← hW1] at hrz
  have hN : ∀ j, j < n + 1 → (W1.cell? ⟨w.heap.size, j, none⟩).isSome = true := fun j hj => by
    rw [hW1, World.cell?_alloc_at (w := w.drew) ROW _ w.heap.size j rfl, Array.getElem?_eq_getElem (by omega)]; rfl
  have hNf : ∀ j, W1.frozen? ⟨w.heap.size, j, none⟩ = false := fun j => by rw [hW1]; exact World.frozen?_alloc_at (w := w.drew) ROW _ w.heap.size j rfl
  have hOb : ∀ j v, w.cell? ⟨b, j, none⟩ = some v → W1.cell? ⟨b, j, none⟩ = some v := fun j v h => by rw [hW1, World.cell?_alloc_past (w := w.drew) _ b j hbw]; exact h
  have hOv : ∀ j v, w.cell? ⟨vb, j, none⟩ = some v → W1.cell? ⟨vb, j, none⟩ = some v := fun j v h => by rw [hW1, World.cell?_alloc_past (w := w.drew) _ vb j hvw]; exact h
  have hcpA : ∀ (W : World), (∀ x, W.cell? x = W1.cell? x) → (∀ x, W.frozen? x = W1.frozen? x) → ∀ ty dc, (Builtin.copy_ #[114, 114] ty #[.slice (some ⟨w.heap.size, i, none⟩) (n + 1 - i) dc, .slice (some ⟨vb, 0, none⟩) 1 1]).run Try.prog W = .ok (goInt [x].length) (W.setCells w.heap.size i [x]) := fun W hWc hWf ty dc =>
    run_copy_cells W _ _ ty 126 w.heap.size i (n + 1 - i) dc ⟨vb, 0, none⟩ 1 1 [x] Try.underlying114 size67 (by show 1 = _; simp only [Nat.min_def]; split <;> omega)
      (fun j v hj => by
        rw [add_at, hWc, Nat.zero_add]
        refine hOv _ v ?_
        rw [cell_blk hvs]
        simpa using hj)
      (fun j hj => by rw [hWc]; exact hN _ (by simp at hj; omega)) (fun j hj => by rw [hWf]; exact hNf _) (fun v hv => by rw [List.mem_singleton.1 hv]; exact h1v)
  have hcI : (c : Int) ≤ 9223372036854775807 := by omega
  have hG63 : (G : Int) ≤ 9223372036854775807 := by unfold maxLen at hGm; omega
  have hGi : ¬ (G = i) := by omega
  have hGim : ¬ (G = i + 1) := by omega
  have hci : ¬ (c = i) := by omega
  have hbN : b ≠ w.heap.size := by omega
  have hdl : (cs.drop i).length = n - i := by rw [List.length_drop, hcl]
  have hcpB : ∀ (W : World), (∀ y, W.cell? y = (W1.setCells w.heap.size i [x]).cell? y) → (∀ y, W.frozen? y = (W1.setCells w.heap.size i [x]).frozen? y) → ∀ ty dc sc, (Builtin.copy_ #[114, 114] ty #[.slice (some ⟨w.heap.size, i + 1, none⟩) (n + 1 - (i + 1)) dc, .slice (some ⟨b, i, none⟩) (n - i) sc]).run Try.prog W = .ok (goInt (cs.drop i).length) (W.setCells w.heap.size (i + 1) (cs.drop i)) := fun W hWc hWf ty dc sc =>
    run_copy_cells W _ _ ty 126 w.heap.size (i + 1) (n + 1 - (i + 1)) dc ⟨b, i, none⟩ (n - i) sc (cs.drop i) Try.underlying114 size67 (by rw [hdl]; simp only [Nat.min_def]; split <;> omega)
      (fun j v hj => by
        rw [add_at, hWc, World.cell?_setCells_out _ _ _ _ _ (fun h _ => absurd h hbN)]
        exact hOb _ v (hcs (i + j) v (by rwa [List.getElem?_drop] at hj)))
      (fun j hj => by rw [hWc]; exact isSome_set _ _ _ _ (fun t ht => hN _ (by simp at ht; omega)) _ (hN _ (by rw [hdl] at hj; omega)))
      (fun j hj => by rw [hWf, World.frozen?_setCells]; exact hNf _) (fun v hv => h1c v (List.mem_of_mem_drop hv))
  subst hW1
  have hE1 : ∀ x, ((w.alloc (.cells ROW 126)).drew).cell? x = (w.drew.alloc (.cells ROW 126)).cell? x := fun x => rfl
  have hE2 : ∀ x, ((w.alloc (.cells ROW 126)).drew).frozen? x = (w.drew.alloc (.cells ROW 126)).frozen? x := fun x => rfl
  have hF1 : ∀ y, (((w.alloc (.cells ROW 126)).drew.setCells w.heap.size i [x]).drew).cell? y = ((w.drew.alloc (.cells ROW 126)).setCells w.heap.size i [x]).cell? y := fun y => rfl
  have hF2 : ∀ y, (((w.alloc (.cells ROW 126)).drew.setCells w.heap.size i [x]).drew).frozen? y = ((w.drew.alloc (.cells ROW 126)).setCells w.heap.size i [x]).frozen? y := fun y => rfl
  have hw1 : IntKind.i64.wrap ((i : Int) + 1) = (i : Int) + 1 := by rw [IntKind.wrap_i64]; omega
  have hb1 : (0 : Int) ≤ (i : Int) + 1 := by omega
  have htn : ((i : Int) + 1).toNat = i + 1 := by omega
  have hi0' : (0 : Int) ≤ (i : Int) := by omega
  have hi1' : (i : Int) ≤ (n : Int) := by omega
  have hi2' : (i : Int) + 1 ≤ (n : Int) + 1 := by omega
  have hic : (i : Int) ≤ (c : Int) := by omega
  have HRS := Lib.hid hRs
  have HRC := Lib.hid hRc
  have HGM := Lib.hid hGm
  have HGN := Lib.hid hGn
  clear hkk hik hold hROW hG hRs hRc hOb hOv hN hNf hcs hvs h1c h1v hi0 hz0 hzs hzb hGm
  go_enter Try.func108, Try.ntmps108
  go_wp2_with (first
    | (at_builtin; refine Lib.wpList_append_run _ rfl _ _ _ _ rfl _ _ rfl rfl _ _ (hrz _) ?_)
    | (at_builtin; refine wpl_copy_run _ rfl _ _ 114 114 rfl _ _ rfl rfl (hcpA _ hE1 hE2 _ _) ?_)
    | (at_builtin; refine wpl_copy_run _ rfl _ _ 114 114 rfl _ _ rfl rfl (hcpB _ (fun _ => rfl) (fun _ => rfl) _ _ _) ?_))
  go_region_law (refine step_copy_run rfl (.tmp 50) (.tmp 53) 114 114 rfl (.slice (some ⟨w.heap.size, i + 1, none⟩) (n + 1 - (i + 1)) (G - (i + 1))) (.slice (some ⟨b, i, none⟩) (n - i) (c - i)) (by simp [Act.eval, Act.put]) (by simp [Act.eval, Act.put]) (hcpB _ hF1 hF2 3 (G - (i + 1)) (c - i)) ?_)
  go_wp2
  go_ret
  exact ⟨G, ROW, HGN.out, HGM.out, HRS.out, HRC.out, rfl, rfl⟩
end
end Go.Proofs.Ytcoaahlakkghhaa
/- slices.Insert at a row of pointers, whatever room there is. -/
namespace Go.Proofs.Ytcoaahlakkghhaa
open Go.RowKit

theorem setCells_fix (b : Nat) : ∀ (vs : List Value) (o : Nat) (w : World), (w.setCells b o vs).os = w.os ∧ (w.setCells b o vs).tape = w.tape ∧ (w.setCells b o vs).output = w.output ∧ (w.setCells b o vs).heap.size = w.heap.size
  | [], _, _ => ⟨rfl, rfl, rfl, rfl⟩
  | v :: r, o, w => by
    obtain ⟨h1, h2, h3, h4⟩ := setCells_fix b r (o + 1) (w.setCell ⟨b, o, none⟩ v)
    exact ⟨h1, h2, h3, h4.trans (by simp [World.setCell])⟩
theorem setCells_other (b : Nat) : ∀ (vs : List Value) (o : Nat) (w : World) (k : Nat), k ≠ b → (w.setCells b o vs).heap[k]? = w.heap[k]?
  | [], _, _, _, _ => rfl
  | v :: r, o, _, k, h => (setCells_other b r (o + 1) _ k h).trans (set_other (a := ⟨b, o, none⟩) v h)
theorem setCells_blk (b : Nat) {t : TypeId} {fr : Nat × Nat} : ∀ (vs : List Value) (o : Nat) (w : World) (cur : Array Value), w.heap[b]? = some (.cells cur t fr) → ∃ cur', (w.setCells b o vs).heap[b]? = some (.cells cur' t fr) ∧ cur'.size = cur.size
  | [], _, _, cur, h => ⟨cur, h, rfl⟩
  | v :: r, o, w, cur, h => by
    obtain ⟨c, h1, h2⟩ := setCells_blk b r (o + 1) _ _ (set_blk (i := o) h v)
    exact ⟨c, h1, h2.trans (by simp)⟩
theorem setCells_fr (b o : Nat) (vs : List Value) (w : World) {S : Nat → Prop} (h : S b) : Fr w (w.setCells b o vs) S := by
  obtain ⟨h1, h2, h3, h4⟩ := setCells_fix b vs o w
  exact ⟨h1, h2, h3, by rw [h4]; exact Nat.le_refl _, fun k _ hk => setCells_other b vs o w k (fun e => hk (e ▸ h))⟩
theorem inn_get {α : Type} (l : List α) (i : Nat) (x : α) (hi : i ≤ l.length) (j : Nat) : (inn l i x)[j]? = if j < i then l[j]? else if j = i then some x else l[j - 1]? := by
  unfold inn
  by_cases h1 : j < i
  · rw [if_pos h1, List.getElem?_append_left (by simp; omega), List.getElem?_take, if_pos h1]
  · rw [if_neg h1, List.getElem?_append_right (by simp; omega), List.length_take, Nat.min_eq_left hi]
    by_cases h2 : j = i
    · subst h2
      simp
    · rw [if_neg h2, show j - i = (j - 1 - i) + 1 by omega, List.getElem?_cons_succ, List.getElem?_drop]
      congr 1
      omega
theorem inn_len {α : Type} (l : List α) (i : Nat) (x : α) (hi : i ≤ l.length) : (inn l i x).length = l.length + 1 := by
  unfold inn
  simp only [List.length_append, List.length_cons, List.length_take, List.length_drop]
  omega
section
variable {w w' W V : World} {g i n : Nat} {xs : List Value} {x : Value}
theorem two_cells (hl : xs.length = n) (hi : i ≤ n) (h1 : ∀ j, j < i → W.cell? ⟨g, j, none⟩ = xs[j]?) {U : World} (hU : ∀ j, U.cell? ⟨g, j, none⟩ = if j = i then some x else if i < j ∧ j < n + 1 then xs[j - 1]? else W.cell? ⟨g, j, none⟩) : ∀ j, j < n + 1 → U.cell? ⟨g, j, none⟩ = (inn xs i x)[j]? := by
  intro j hj
  rw [hU j, inn_get xs i x (by omega)]
  by_cases h3 : j < i
  · rw [if_neg (by omega), if_neg (by omega), if_pos h3]
    exact h1 j h3
  · rw [if_neg h3]
    by_cases h4 : j = i
    · rw [if_pos h4, if_pos h4]
    · rw [if_neg h4, if_neg h4, if_pos (by omega)]
theorem set_in {U : World} {b o : Nat} {vs : List Value} (h : ∀ j, j < vs.length → (U.cell? ⟨b, o + j, none⟩).isSome = true) (j : Nat) : (U.setCells b o vs).cell? ⟨b, j, none⟩ = if o ≤ j ∧ j < o + vs.length then vs[j - o]? else U.cell? ⟨b, j, none⟩ := by
  by_cases hin : o ≤ j ∧ j < o + vs.length
  · have := World.cell?_setCells_in b vs o U h (j - o) (by omega)
    rw [show o + (j - o) = j by omega] at this
    rw [this, if_pos hin, List.getElem?_eq_getElem (by omega)]
  · rw [if_neg hin]
    exact World.cell?_setCells_out b vs o U ⟨b, j, none⟩ (fun _ _ => by show j < o ∨ o + vs.length ≤ j; omega)
theorem row_of {t : TypeId} {cur : Array Value} {cap : Nat} (hb : W.heap[g]? = some (.cells cur t (0, 0))) (hc : cur.size = cap) (hn : n ≤ cap) (hm : cap ≤ maxLen) (hl : xs.length = n) (h : ∀ j, j < n → W.cell? ⟨g, j, none⟩ = xs[j]?) : W.ownsRow 0 t 1 (.slice (some ⟨g, 0, none⟩) n cap) n xs := by
  refine ⟨by omega, .inr ⟨g, cap, cur, rfl, Nat.zero_le _, hb, hn, hm, by omega, ?_⟩⟩
  rw [Nat.mul_one]
  refine List.ext_getElem? (fun j => ?_)
  rw [List.getElem?_take]
  by_cases hj : j < n
  · rw [if_pos hj, ← h j hj, cell_blk hb, Array.getElem?_toList]
  · rw [if_neg hj, List.getElem?_eq_none (by omega)]
def InsAns (w : World) (rv : Value) (n : Nat) (ys : List Value) (e : Ending) (w' : World) : Prop := ∃ ad cap, e = .returned (.slice ad (n + 1) cap) ∧ w'.ownsRow 0 126 1 (.slice ad (n + 1) cap) (n + 1) ys ∧ Fr w w' (fun k => rv.ownBlock = some k) ∧ (∀ k, (Value.slice ad (n + 1) cap).ownBlock = some k → rv.ownBlock = some k ∨ w.heap.size ≤ k)
set_option maxHeartbeats 1000000 in
theorem insert_any {rv : Value} {vb : Nat} (h : w.ownsRow 0 126 1 rv n xs) (h1c : ∀ v ∈ xs, v.oneCell' = true) (hi : i ≤ n) (hn : n ≤ 800000) (h1v : x.oneCell' = true) (hv : w.heap[vb]? = some (.cells #[x] 126 (0, 0))) (hvb : rv.ownBlock ≠ some vb) :
    Calls Try.prog 108 #[rv, .int .i64 (i : Int), .slice (some ⟨vb, 0, none⟩) 1 1] w fun e w' => InsAns w rv n (inn xs i x) e w' := by
  have hxl : xs.length = n := by have := h.1; omega
  by_cases he : i = n
  · subst he
    obtain ⟨ad, cap, w', hrun, ho, hg, hat⟩ := run_pt (m := 1) (c := 1) (news := [x]) h (Nat.zero_le _) (.inr ⟨⟨vb, 0, none⟩, rfl, rfl, fun j u hu => by
      rw [add_at, Nat.zero_add, cell_blk hv]
      simpa using hu⟩) (fun u hu => by rw [List.mem_singleton.1 hu]; exact h1v) (by omega)
    have hin : inn xs i x = xs ++ [x] := by
      unfold inn
      rw [List.take_of_length_le (by omega), List.drop_eq_nil_of_le (by omega)]
    have HA : Hid (InsAns w rv i (inn xs i x) (.returned (.slice ad (i + 1) cap)) w') := by
      rw [hin]
      refine ⟨ad, cap, rfl, ho, Fr.grown (Fr.refl w _) hg (fun k hk => .inl hk), fun k hk => ?_⟩
      rcases hat with e | e
      · rw [e] at hk
        exact .inl hk
      · rw [e] at hk
        cases hk
        exact .inr (Nat.le_refl _)
    obtain ⟨rad, rcap, rfl⟩ := own_shape h
    have hrc : (i : Int) ≤ (rcap : Int) ∧ (rcap : Int) ≤ 9223372036854775807 := by
      rcases h.2 with ⟨hv, h0⟩ | ⟨g, cap, cur, hv, _, _, z1, z2, _⟩
      · simp only [Value.slice.injEq] at hv
        obtain ⟨_, z, rfl⟩ := hv
        omega
      · cases hv
        unfold maxLen at z2
        omega
    obtain ⟨hr1, hr2⟩ := hrc
    have i0 : (0 : Int) ≤ (i : Int) := by omega
    obtain ⟨ad', cap', hsl⟩ : ∃ ad' cap', ∀ X : World, (Instr.sliceAt 114 (.slice rad i rcap) (some (.int .i64 (i : Int))) none none).run Try.prog X = .ok (.slice ad' 0 cap') X := by
      by_cases z : rcap = i
      · refine ⟨rad, 0, fun X => ?_⟩
        subst z
        cases rad <;> go_simp
      · rcases h.2 with ⟨hv, h0⟩ | ⟨g, cap, cur, hv, _⟩
        · simp only [Value.slice.injEq] at hv
          omega
        · cases hv
          refine ⟨some ((⟨g, 0, none⟩ : Addr).add i), rcap - i, fun X => ?_⟩
          have z2 : ¬ rcap = i := z
          go_simp
    clear hat hg ho hin h hxl
    go_enter Try.func108, Try.ntmps108
    go_wp2_with (at_builtin; refine wpl_run2 _ _ rfl (by simp [Act.eval]) (by simp [Act.eval]) hrun ?_)
    refine bodyPost_ret (v := .slice ad (i + 1) cap) (by simp [results, Try.results108, go_sem]) rfl ?_
    exact HA.out
  · have hlt : i < n := by omega
    rcases h.2 with ⟨hv0, h0⟩ | ⟨g, cap, cur, hv0, _, hg, z1, z2, z3, z4⟩
    · omega
    · subst hv0
      have hcell := fun j (hj : j < n) => h.cellAt j (by omega)
      have hcs : ∀ j v, xs[j]? = some v → w.cell? ⟨g, j, none⟩ = some v := fun j v hj => by
        have := (List.getElem?_eq_some_iff.1 hj).1
        rw [hcell j (by omega)]
        exact hj
      have hgv : vb ≠ g := fun e => hvb (by rw [e]; rfl)
      by_cases hroom : n + 1 ≤ cap
      · have hsp : ∀ j, j < n + 1 → (w.cell? ⟨g, j, none⟩).isSome = true := fun j hj => by
          rw [cell_blk hg, Array.getElem?_eq_getElem (by omega)]
          rfl
        refine (ins_shift g n cap i vb xs x cur.size hlt hroom (by unfold maxLen at z2; omega) hgv hxl hcs hsp (fun j => frozen_blk hg j) hv h1c h1v (by simp [World.shape?, hg]) (by omega)).mono ?_
        rintro e w' ⟨rfl, rfl⟩
        have hg0 : w.drew.heap[g]? = some (.cells cur 126 (0, 0)) := hg
        obtain ⟨c1, b1, s1⟩ := setCells_blk g (xs.drop i) (i + 1) w.drew cur hg0
        obtain ⟨c2, b2, s2⟩ := setCells_blk g [x] i _ c1 b1
        have hdl : (xs.drop i).length = n - i := by rw [List.length_drop, hxl]
        have hU : ∀ j, ((w.drew.setCells g (i + 1) (xs.drop i)).setCells g i [x]).cell? ⟨g, j, none⟩ = if j = i then some x else if i < j ∧ j < n + 1 then xs[j - 1]? else w.cell? ⟨g, j, none⟩ := by
          intro j
          rw [set_in (U := w.drew.setCells g (i + 1) (xs.drop i)) (fun k hk => by
            simp at hk
            rw [cell_blk b1, Array.getElem?_eq_getElem (by omega)]
            rfl)]
          by_cases q : j = i
          · rw [if_pos q, if_pos (by simp; omega)]
            subst q
            simp
          · rw [if_neg q, if_neg (by simp; omega), set_in (U := w.drew) (fun k hk => hsp _ (by rw [hdl] at hk; omega))]
            by_cases q2 : i < j ∧ j < n + 1
            · rw [if_pos q2, if_pos (by rw [hdl]; omega), List.getElem?_drop]
              congr 1
              omega
            · rw [if_neg q2, if_neg (by rw [hdl]; omega)]
              rfl
        refine ⟨_, cap, rfl, row_of b2 (by omega) hroom z2 (by rw [inn_len xs i x (by omega), hxl]) (two_cells hxl (by omega) (fun j hj => hcell j (by omega)) hU), ?_, fun k hk => .inl hk⟩
        have f1 : Fr w w.drew (fun k => (Value.slice (some ⟨g, 0, none⟩) n cap).ownBlock = some k) := ⟨rfl, rfl, rfl, Nat.le_refl _, fun _ _ _ => rfl⟩
        exact (f1.trans (setCells_fr g (i + 1) (xs.drop i) w.drew (S := fun k => (Value.slice (some ⟨g, 0, none⟩) n cap).ownBlock = some k) rfl)).trans (setCells_fr g i [x] _ (S := fun k => (Value.slice (some ⟨g, 0, none⟩) n cap).ownBlock = some k) rfl)
      · refine (ins_grow g n cap i vb xs x hlt z1 (by omega) (by omega) hxl hcs hv h1c h1v).mono ?_
        rintro e w' ⟨K, ROW, k1, k2, k3, k4, rfl, rfl⟩
        obtain ⟨N, hN⟩ : ∃ N, w.heap.size = N := ⟨_, rfl⟩
        rw [hN]
        have hb0 : (w.alloc (.cells ROW 126)).drew.heap[N]? = some (.cells ROW 126 (0, 0)) := by rw [← hN]; exact heap_alloc_new w _
        obtain ⟨c1, b1, s1⟩ := setCells_blk N [x] i _ ROW hb0
        have b1' : ((w.alloc (.cells ROW 126)).drew.setCells N i [x]).drew.heap[N]? = some (.cells c1 126 (0, 0)) := b1
        obtain ⟨c2, b2, s2⟩ := setCells_blk N (xs.drop i) (i + 1) _ c1 b1'
        have hdl : (xs.drop i).length = n - i := by rw [List.length_drop, hxl]
        have hs0 : ∀ j, j < n + 1 → ((w.alloc (.cells ROW 126)).drew.cell? ⟨N, j, none⟩).isSome = true := fun j hj => by
          rw [cell_blk hb0, Array.getElem?_eq_getElem (by omega)]
          rfl
        have hU : ∀ j, (((w.alloc (.cells ROW 126)).drew.setCells N i [x]).drew.setCells N (i + 1) (xs.drop i)).cell? ⟨N, j, none⟩ = if j = i then some x else if i < j ∧ j < n + 1 then xs[j - 1]? else (w.alloc (.cells ROW 126)).drew.cell? ⟨N, j, none⟩ := by
          intro j
          rw [set_in (U := ((w.alloc (.cells ROW 126)).drew.setCells N i [x]).drew) (fun k hk => by
            rw [hdl] at hk
            rw [cell_blk b1', Array.getElem?_eq_getElem (by omega)]
            rfl)]
          by_cases q2 : i < j ∧ j < n + 1
          · rw [if_pos (by rw [hdl]; omega), if_neg (by omega), if_pos q2, List.getElem?_drop]
            congr 1
            omega
          · rw [if_neg (by rw [hdl]; omega), if_neg q2]
            show ((w.alloc (.cells ROW 126)).drew.setCells N i [x]).cell? ⟨N, j, none⟩ = _
            rw [set_in (U := (w.alloc (.cells ROW 126)).drew) (fun k hk => hs0 _ (by simp at hk; omega))]
            by_cases q : j = i
            · rw [if_pos q, if_pos (by simp; omega)]
              subst q
              simp
            · rw [if_neg q, if_neg (by simp; omega)]
        refine ⟨_, K, rfl, row_of b2 (by omega) k1 k2 (by rw [inn_len xs i x (by omega), hxl]) (two_cells hxl (by omega) (fun j hj => ?_) hU), ?_, fun k hk => ?_⟩
        · rw [cell_blk hb0]
          have hj2 : xs[j]? = some xs[j] := List.getElem?_eq_getElem (by omega)
          rw [hj2]
          exact k4 j _ hj hj2
        · have f0 : Fr w (w.alloc (.cells ROW 126)).drew (fun k => (Value.slice (some ⟨g, 0, none⟩) n cap).ownBlock = some k) := ((Fr.refl w _).alloc _).drewN 1
          have f1 := f0.step (setCells_fr N i [x] (w.alloc (.cells ROW 126)).drew (S := fun k => k = N) rfl) (fun k e => .inr (by have e' : k = N := e; omega))
          have f2 := (f1.drewN 1).step (setCells_fr N (i + 1) (xs.drop i) ((w.alloc (.cells ROW 126)).drew.setCells N i [x]).drew (S := fun k => k = N) rfl) (fun k e => .inr (by have e' : k = N := e; omega))
          exact f2
        · have e : N = k := by
            simp only [Value.ownBlock, Option.some.injEq] at hk
            exact hk
          exact .inr (by rw [← e, hN]; exact Nat.le_refl _)
end
end Go.Proofs.Ytcoaahlakkghhaa
/- What a Put leaves of the store in memory. -/
namespace Go.Proofs.Ytcoaahlakkghhaa
open Go.RowKit

theorem inn_map {α β : Type} (f : α → β) (l : List α) (i : Nat) (x : α) : (inn l i x).map f = inn (l.map f) i (f x) := by
  unfold inn
  simp
theorem inn_mem {α : Type} {l : List α} {i : Nat} {x y : α} (h : y ∈ inn l i x) : y = x ∨ y ∈ l := by
  unfold inn at h
  rcases List.mem_append.1 h with q | q
  · exact .inr (List.mem_of_mem_take q)
  · rcases List.mem_cons.1 q with q | q
    · exact .inl q
    · exact .inr (List.mem_of_mem_drop q)
theorem inn_pair {α : Type} {r : α → α → Prop} {l : List α} {i : Nat} {x : α} (h : l.Pairwise r) (h1 : ∀ y ∈ l, r y x) (h2 : ∀ y ∈ l, r x y) : (inn l i x).Pairwise r := by
  unfold inn
  have e := List.take_append_drop i l
  rw [← e] at h
  obtain ⟨a, b, c⟩ := List.pairwise_append.1 h
  refine List.pairwise_append.2 ⟨a, List.pairwise_cons.2 ⟨fun y hy => h2 y (List.mem_of_mem_drop hy), b⟩, fun y hy z hz => ?_⟩
  rcases List.mem_cons.1 hz with rfl | hz
  · exact h1 y (List.mem_of_mem_take hy)
  · exact c y hy z hz
section
variable {w w' W V X : World} {A : Nat} {S T : Nat → Prop} {G : List Gw} {rv rv' : Value} {R : List Rw} {s Y1 Y2 : Nat} {k : ByteArray} {v : Ve}
abbrev lv1 (Y : Nat) : Value := .slice (some ⟨Y, 0, none⟩) 1 1
theorem own_one {t : TypeId} {c : Nat} {cs : Array Value} {Y : Nat} (h : X.heap[Y]? = some (.cells cs t (0, 0))) (hc : cs.size = c) : X.ownsRow 0 t c (lv1 Y) 1 cs.toList :=
  ⟨by simp [hc], .inr ⟨Y, 1, cs, rfl, Nat.zero_le _, h, Nat.le_refl _, by unfold maxLen; omega, by omega, by rw [Nat.one_mul]; exact List.take_of_length_le (by simp [hc])⟩⟩
theorem Sv.add (h : Sv w A S G rv) (hf : Fr w X (fun j => rv.ownBlock = some j)) (ho : X.ownsRow 0 126 1 rv' (G.length + 1) (inn (G.map gP) s (.pointer (some ⟨Y2, 0, none⟩)))) (hb : ∀ j, rv'.ownBlock = some j → rv.ownBlock = some j ∨ w.heap.size ≤ j)
    (j1 : X.heap[Y1]? = some (.cells #[.int .i64 v.ts, .string v.val, .bool v.dead] 125 (0, 0))) (j2 : X.heap[Y2]? = some (.cells #[.string k, lv1 Y1] 129 (0, 0))) (y1 : w.heap.size ≤ Y1) (y2 : w.heap.size ≤ Y2) (hs : s ≤ G.length) (hok : Okr (inn (G.map Gw.r) s ⟨k, [v]⟩)) (hfew : G.length < 800000) :
    Sv (X.setCell ⟨A, 0, none⟩ rv') A (Gro S w (X.setCell ⟨A, 0, none⟩ rv')) (inn G s ⟨⟨k, [v]⟩, Y2, lv1 Y1⟩) rv' ∧ Fr w (X.setCell ⟨A, 0, none⟩ rv') S := by
  have hz := hf.size
  have hsz : (X.setCell ⟨A, 0, none⟩ rv').heap.size = X.heap.size := by simp [World.setCell]
  have hlt := h.lt
  have hA := hlt A h.covA
  have hfA : Fr X (X.setCell ⟨A, 0, none⟩ rv') (fun j => j = A) := Fr.set (a := ⟨A, 0, none⟩) (Fr.refl X (fun j => j = A)) (Or.inl rfl) _
  have hrA : ¬ rv.ownBlock = some A := fun e => by
    obtain ⟨cs, t⟩ := own_tag h.rows A e
    exact tag_ne t h.ob (by decide) rfl
  have hobA : X.heap[A]? = some (.cells #[rv] 116 (0, 0)) := (hf.block A hA hrA).trans h.ob
  have hF : Fr w (X.setCell ⟨A, 0, none⟩ rv') S := (hf.mono (fun j e => h.cov j e)).trans (hfA.mono (fun j e => by have e' : j = A := e; rw [e']; exact h.covA))
  have hin : ∀ j, rv'.ownBlock = some j → Gro S w (X.setCell ⟨A, 0, none⟩ rv') j := fun j e => by
    rcases hb j e with q | q
    · exact .inl (h.cov j q)
    · exact .inr ⟨q, by rw [hsz]; exact (ho.lt j e).2⟩
  have hpb : ∀ g ∈ G, X.heap[g.ptr]? = some (.cells #[.string g.r.key, g.lv] 129 (0, 0)) := fun g hg => (hf.block _ (hlt _ (h.covp g hg)) (fun e => by
    obtain ⟨cs, t⟩ := own_tag h.rows _ e
    exact tag_ne t (h.at' g hg) (by decide) rfl)).trans (h.at' g hg)
  have hlb : ∀ g ∈ G, X.ownsRow 0 125 3 g.lv g.r.list.length (veC g.r.list) := fun g hg => row_keep (h.ls g hg) hf (fun j e1 e2 => by
    obtain ⟨c1, t1⟩ := own_tag (h.ls g hg) j e1
    obtain ⟨c2, t2⟩ := own_tag h.rows j e2
    exact tag_ne t1 t2 (by decide) rfl)
  have hY2A : Y2 ≠ A := by omega
  have hY1A : Y1 ≠ A := by omega
  refine ⟨⟨?_, ?_, fun g hg => ?_, fun g hg => ?_, ?_, .inl h.covA, hin, fun g hg => ?_, fun g hg j e => ?_, fun j q => ?_, ?_, fun g hg => ?_, ?_⟩, hF⟩
  · exact set_blk (i := 0) hobA rv'
  · rw [inn_len G s _ hs, inn_map]
    exact row_keep ho hfA (fun j e e2 => by
      obtain ⟨cs, t⟩ := own_tag ho j e
      have e2' : j = A := e2
      subst e2'
      exact tag_ne t hobA (by decide) rfl)
  · rcases inn_mem hg with rfl | hg
    · exact (set_other rv' hY2A).trans j2
    · exact (set_other rv' (tag_ne (hpb g hg) hobA (by decide))).trans (hpb g hg)
  · rcases inn_mem hg with rfl | hg
    · have o1 := own_one (c := 3) j1 rfl
      have e1 : veC [v] = (#[.int .i64 v.ts, .string v.val, .bool v.dead] : Array Value).toList := by simp [veC]
      show World.ownsRow _ 0 125 3 (lv1 Y1) 1 (veC [v])
      rw [e1]
      exact row_keep o1 hfA (fun j e e2 => by
        have e3 : Y1 = j := by simpa [Value.ownBlock] using e
        have e2' : j = A := e2
        omega)
    · exact row_keep (hlb g hg) hfA (fun j e e2 => by
        obtain ⟨cs, t⟩ := own_tag (hlb g hg) j e
        have e2' : j = A := e2
        subst e2'
        exact tag_ne t hobA (by decide) rfl)
  · refine inn_pair h.apart (fun g hg => ⟨?_, fun j e1 e2 => ?_⟩) (fun g hg => ⟨?_, fun j e1 e2 => ?_⟩)
    · have := hlt _ (h.covp g hg)
      show g.ptr ≠ Y2
      omega
    · have := hlt _ (h.covl g hg j e1)
      have e3 : Y1 = j := by simpa [Value.ownBlock] using e2
      omega
    · have := hlt _ (h.covp g hg)
      show Y2 ≠ g.ptr
      omega
    · have := hlt _ (h.covl g hg j e2)
      have e3 : Y1 = j := by simpa [Value.ownBlock] using e1
      omega
  · rcases inn_mem hg with rfl | hg
    · exact .inr ⟨y2, by rw [hsz]; exact blk_lt j2⟩
    · exact .inl (h.covp g hg)
  · rcases inn_mem hg with rfl | hg
    · have e3 : Y1 = j := by simpa [Value.ownBlock] using e
      exact .inr ⟨by omega, by rw [hsz, ← e3]; exact blk_lt j1⟩
    · exact .inl (h.covl g hg j e)
  · rcases q with q | q
    · have := hlt j q
      omega
    · exact q.2
  · rw [inn_len G s _ hs]
    omega
  · rcases inn_mem hg with rfl | hg
    · show 1 ≤ 800000
      omega
    · exact h.less g hg
  · rw [inn_map]
    exact hok
theorem pair_set {α : Type} {r : α → α → Prop} {l : List α} {i : Nat} {x : α} (h : l.Pairwise r) (h1 : ∀ j (hj : j < l.length), j < i → r l[j] x) (h2 : ∀ j (hj : j < l.length), i < j → r x l[j]) : (l.set i x).Pairwise r := by
  refine List.pairwise_iff_getElem.2 (fun a b ha hb hab => ?_)
  rw [List.length_set] at ha hb
  rw [List.getElem_set, List.getElem_set]
  by_cases ea : i = a
  · rw [if_pos ea, if_neg (by omega)]
    exact h2 b hb (by omega)
  · rw [if_neg ea]
    by_cases eb : i = b
    · rw [if_pos eb]
      exact h1 a ha (by omega)
    · rw [if_neg eb]
      exact List.pairwise_iff_getElem.1 h a b ha hb hab
theorem Sv.more (h : Sv w A S G rv) (hs : s < G.length) {lv : Value} (hf : Fr w X (fun j => G[s].lv.ownBlock = some j)) (ho : X.ownsRow 0 125 3 lv (G[s].r.list.length + 1) (veC (G[s].r.list ++ [v]))) (hb : ∀ j, lv.ownBlock = some j → G[s].lv.ownBlock = some j ∨ w.heap.size ≤ j)
    (hok : Okr ((G.map Gw.r).set s ⟨G[s].r.key, G[s].r.list ++ [v]⟩)) (hless : G[s].r.list.length < 800000) :
    Sv (X.setCell ⟨G[s].ptr, 1, none⟩ lv) A (Gro S w (X.setCell ⟨G[s].ptr, 1, none⟩ lv)) (G.set s ⟨⟨G[s].r.key, G[s].r.list ++ [v]⟩, G[s].ptr, lv⟩) rv ∧ Fr w (X.setCell ⟨G[s].ptr, 1, none⟩ lv) S := by
  have hms := List.getElem_mem hs
  obtain ⟨x, hx⟩ : ∃ x, G[s] = x := ⟨_, rfl⟩
  rw [hx] at hf ho hb hok hless hms ⊢
  have hz := hf.size
  have hsz : (X.setCell ⟨x.ptr, 1, none⟩ lv).heap.size = X.heap.size := by simp [World.setCell]
  have hlt := h.lt
  have hfq : Fr X (X.setCell ⟨x.ptr, 1, none⟩ lv) (fun j => j = x.ptr) := Fr.set (a := ⟨x.ptr, 1, none⟩) (Fr.refl X (fun j => j = x.ptr)) (Or.inl rfl) _
  have no31 : ∀ {b : Nat} {cs : Array Value} {t : TypeId}, w.heap[b]? = some (.cells cs t (0, 0)) → t ≠ 125 → ¬ x.lv.ownBlock = some b := fun hb0 ht e => by
    obtain ⟨c1, t1⟩ := own_tag (h.ls x hms) _ e
    exact tag_ne hb0 t1 ht rfl
  have hobA : X.heap[A]? = some (.cells #[rv] 116 (0, 0)) := (hf.block A (hlt A h.covA) (no31 h.ob (by decide))).trans h.ob
  have hpb : ∀ g ∈ G, X.heap[g.ptr]? = some (.cells #[.string g.r.key, g.lv] 129 (0, 0)) := fun g hg => (hf.block _ (hlt _ (h.covp g hg)) (no31 (h.at' g hg) (by decide))).trans (h.at' g hg)
  have hrows : X.ownsRow 0 126 1 rv G.length (G.map gP) := row_keep h.rows hf (fun j e => by
    obtain ⟨cs, t⟩ := own_tag h.rows j e
    exact no31 t (by decide))
  have hF : Fr w (X.setCell ⟨x.ptr, 1, none⟩ lv) S := (hf.mono (fun j e => h.covl x hms j e)).trans (hfq.mono (fun j e => by have e' : j = x.ptr := e; rw [e']; exact h.covp x hms))
  have oth : ∀ j (hj : j < G.length), j ≠ s → G[j].ptr ≠ x.ptr ∧ Off G[j].lv x.lv := fun j hj hne => by
    rcases Nat.lt_or_gt_of_ne hne with q | q
    · have := List.pairwise_iff_getElem.1 h.apart j s hj hs q
      rw [hx] at this
      exact this
    · have := List.pairwise_iff_getElem.1 h.apart s j hs hj q
      rw [hx] at this
      exact ⟨this.1.symm, fun k e1 e2 => this.2 k e2 e1⟩
  have mem : ∀ g ∈ G.set s ⟨⟨x.r.key, x.r.list ++ [v]⟩, x.ptr, lv⟩, g = ⟨⟨x.r.key, x.r.list ++ [v]⟩, x.ptr, lv⟩ ∨ ∃ j, ∃ hj : j < G.length, j ≠ s ∧ g = G[j] := fun g hg => by
    obtain ⟨j, hj, e⟩ := List.getElem_of_mem hg
    rw [List.length_set] at hj
    rw [List.getElem_set] at e
    by_cases q : s = j
    · rw [if_pos q] at e
      exact .inl e.symm
    · rw [if_neg q] at e
      exact .inr ⟨j, hj, fun z => q z.symm, e.symm⟩
  have hmap : (G.set s ⟨⟨x.r.key, x.r.list ++ [v]⟩, x.ptr, lv⟩).map gP = G.map gP := by
    refine List.ext_getElem (by simp) (fun j h1 h2 => ?_)
    simp only [List.length_map, List.length_set] at h1
    rw [List.getElem_map, List.getElem_map, List.getElem_set]
    split
    · rename_i q
      subst q
      rw [hx]
    · rfl
  refine ⟨⟨?_, ?_, fun g hg => ?_, fun g hg => ?_, ?_, .inl h.covA, fun j e => .inl (h.cov j e), fun g hg => ?_, fun g hg j e => ?_, fun j q => ?_, ?_, fun g hg => ?_, ?_⟩, hF⟩
  · exact (set_other lv (tag_ne hobA (hpb x hms) (by decide))).trans hobA
  · rw [List.length_set, hmap]
    exact row_keep hrows hfq (fun j e e2 => by
      obtain ⟨cs, t⟩ := own_tag hrows j e
      have e2' : j = x.ptr := e2
      subst e2'
      exact tag_ne t (hpb x hms) (by decide) rfl)
  · rcases mem g hg with rfl | ⟨j, hj, hne, rfl⟩
    · exact set_blk (i := 1) (hpb x hms) lv
    · exact (set_other lv (oth j hj hne).1).trans (hpb _ (List.getElem_mem hj))
  · rcases mem g hg with rfl | ⟨j, hj, hne, rfl⟩
    · show World.ownsRow _ 0 125 3 lv (x.r.list ++ [v]).length (veC (x.r.list ++ [v]))
      rw [List.length_append]
      exact row_keep ho hfq (fun j e e2 => by
        obtain ⟨cs, t⟩ := own_tag ho j e
        have e2' : j = x.ptr := e2
        subst e2'
        exact tag_ne t (hpb x hms) (by decide) rfl)
    · have o1 := row_keep (h.ls _ (List.getElem_mem hj)) hf (fun k e => (oth j hj hne).2 k e)
      exact row_keep o1 hfq (fun k e e2 => by
        obtain ⟨cs, t⟩ := own_tag o1 k e
        have e2' : k = x.ptr := e2
        subst e2'
        exact tag_ne t (hpb x hms) (by decide) rfl)
  · have off : ∀ j (hj : j < G.length), j ≠ s → ∀ k, G[j].lv.ownBlock = some k → lv.ownBlock ≠ some k := fun j hj hne k e1 e2 => by
      rcases hb k e2 with q | q
      · exact (oth j hj hne).2 k e1 q
      · have := hlt _ (h.covl _ (List.getElem_mem hj) k e1)
        omega
    refine pair_set h.apart (fun j hj hjs => ⟨(oth j hj (by omega)).1, off j hj (by omega)⟩) (fun j hj hjs => ⟨(oth j hj (by omega)).1.symm, fun k e1 e2 => off j hj (by omega) k e2 e1⟩)
  · rcases mem g hg with rfl | ⟨j, hj, hne, rfl⟩
    · exact .inl (h.covp x hms)
    · exact .inl (h.covp _ (List.getElem_mem hj))
  · rcases mem g hg with rfl | ⟨j', hj, hne, rfl⟩
    · rcases hb j e with q | q
      · exact .inl (h.covl x hms j q)
      · exact .inr ⟨q, by rw [hsz]; exact (ho.lt j e).2⟩
    · exact .inl (h.covl _ (List.getElem_mem hj) j e)
  · rcases q with q | q
    · have := hlt j q
      omega
    · exact q.2
  · rw [List.length_set]
    exact h.few
  · rcases mem g hg with rfl | ⟨j, hj, hne, rfl⟩
    · show (x.r.list ++ [v]).length ≤ 800000
      rw [List.length_append]
      simp
      omega
    · exact h.less _ (List.getElem_mem hj)
  · rw [List.map_set]
    exact hok
end
end Go.Proofs.Ytcoaahlakkghhaa
/- The walk of Put. -/
namespace Go.Proofs.Ytcoaahlakkghhaa
open Go.RowKit

def PutAns (w : World) (A : Nat) (S : Nat → Prop) (R : List Rw) (k : ByteArray) (v : Ve) (e : Ending) (w' : World) : Prop := e = .returned (.int .i64 (putE R k v)) ∧ ∃ S', Sb w' A S' (putR R k v) ∧ (∀ j, S' j → Gro S w w' j) ∧ Fr w w' S
theorem put_lt {R : List Rw} {k : ByteArray} {v : Ve} (h : v.ts < 1) : putE R k v = 1 ∧ putR R k v = R := by
  unfold putE putR
  rw [if_pos h, if_pos h]
  exact ⟨rfl, rfl⟩
theorem newR_of {R : List Rw} {k : ByteArray} {r : Rw} (hr : R[place R k]? = some r) : newR R k = if r.key = k then newest r.list else 0 := by
  unfold newR
  rw [hr]
theorem newR_no {R : List Rw} {k : ByteArray} (hr : R[place R k]? = none) : newR R k = 0 := by
  unfold newR
  rw [hr]
theorem put_new {R : List Rw} {k : ByteArray} {v : Ve} (h : ¬ v.ts < 1) (hf : fd R k = false) : putE R k v = 0 ∧ putR R k v = inn R (place R k) ⟨k, [v]⟩ := by
  unfold fd at hf
  cases hr : R[place R k]? with
  | none =>
    refine ⟨?_, ?_⟩
    · unfold putE
      rw [if_neg h, newR_no hr, if_neg (by omega)]
    · unfold putR
      rw [if_neg h, hr]
  | some r =>
    rw [hr] at hf
    simp only [decide_eq_false_iff_not] at hf
    refine ⟨?_, ?_⟩
    · unfold putE
      rw [if_neg h, newR_of hr, if_neg hf, if_neg (by omega)]
    · unfold putR
      rw [if_neg h, hr]
      exact if_neg hf
theorem put_old {R : List Rw} {k : ByteArray} {v : Ve} {r : Rw} (h : ¬ v.ts < 1) (hr : R[place R k]? = some r) (hk : r.key = k) : putE R k v = (if v.ts ≤ newest r.list then 120 else 0) ∧ putR R k v = (if v.ts ≤ newest r.list then R else R.set (place R k) ⟨k, r.list ++ [v]⟩) := by
  refine ⟨?_, ?_⟩
  · unfold putE
    rw [if_neg h, newR_of hr, if_pos hk]
  · unfold putR
    rw [if_neg h, hr]
    exact if_pos hk
section
variable {w w' W V X : World} {A : Nat} {S T : Nat → Prop} {G : List Gw} {rv rv' : Value} {R : List Rw} {k : ByteArray} {v : Ve}
theorem PutAns.same (h : Sv w A S G rv) (hb : Below w.heap.size w w') {n : Int} (e1 : putE (G.map Gw.r) k v = n) (e2 : putR (G.map Gw.r) k v = G.map Gw.r) : PutAns w A S (G.map Gw.r) k v (.returned (.int .i64 n)) w' :=
  ⟨by rw [e1], S, by rw [e2]; exact ⟨G, rv, h.on hb, rfl⟩, fun _ q => .inl q, Fr.ofBelow S hb⟩
set_option maxHeartbeats 4000000 in
set_option maxRecDepth 100000 in
theorem put_any (h : Sv w A S G rv) (k : ByteArray) (v : Ve) (hfew : G.length < 800000) (hless : ∀ g ∈ G, g.r.list.length < 800000) : Calls Try.prog 92 #[.pointer (some ⟨A, 0, none⟩), .string k, veV v] w fun e w' => PutAns w A S (G.map Gw.r) k v e w' := by
  obtain ⟨W, hW⟩ : ∃ W, W = w.alloc (.cells #[.int .i64 v.ts, .string v.val, .bool v.dead] 125) := ⟨_, rfl⟩
  have hb : Below w.heap.size w W := by rw [hW]; exact (Below.refl _ w).alloc (Nat.le_refl _) _
  obtain ⟨Y, hY⟩ : ∃ Y, w.heap.size = Y := ⟨_, rfl⟩
  have jY : W.heap[Y]? = some (.cells #[.int .i64 v.ts, .string v.val, .bool v.dead] 125 (0, 0)) := by rw [hW, ← hY]; exact heap_alloc_new w _
  have hv := h.on hb
  have b0 : W.cell? ⟨Y, 0, none⟩ = some (.int .i64 v.ts) := cell_blk jY 0
  have hYl := blk_lt jY
  have HW := Lib.hid hW
  have HYY := Lib.hid hY
  have HB := Lib.hid hb
  have HJY := Lib.hid jY
  have HH := Lib.hid h
  by_cases hts : v.ts < 1
  · obtain ⟨e1, e2⟩ := put_lt (R := G.map Gw.r) (k := k) hts
    have HA : Hid (PutAns w A S (G.map Gw.r) k v (.returned (.int .i64 1)) W) := PutAns.same h hb e1 e2
    clear e1 e2 hv jY hb hY hW h
    go_enter Try.func92, Try.ntmps92
    go_upto_region 1 with fail
    rw [← HW.out, HYY.out]
    go_wp2
    go_ret
    exact HA.out
  · have hfnd := find_any hv k
    have hle := place_le (G.map Gw.r) k
    rw [List.length_map] at hle
    have hokp := put_ok h.ok k v
    obtain ⟨s, hs⟩ : ∃ s, place (G.map Gw.r) k = s := ⟨_, rfl⟩
    rw [hs] at hle
    cases hfd : fd (G.map Gw.r) k with
    | false =>
      obtain ⟨e1, e2⟩ := put_new hts hfd
      rw [e2, hs] at hokp
      rw [hfd, hs] at hfnd
      rw [hs] at e2
      have HE1 := Lib.hid e1
      have HE2 := Lib.hid e2
      have HOK := Lib.hid hokp
      obtain ⟨rad, rcap, rfl, hc1, hc2, _⟩ := h.shape
      clear e1 e2 hokp hfd hv hb jY hY hW h hs
      go_enter Try.func92, Try.ntmps92
      go_upto_region 1 with fail
      rw [← HW.out, HYY.out]
      go_wp2_with fail
      refine hfnd.mono ?_
      rintro e w1 ⟨rfl, hb1⟩
      have hbw1 := HB.out.trans (hb1.mono HB.out.size)
      have hv1 := HH.out.on hbw1
      have jY1 := (hb1.block Y (blk_lt HJY.out)).trans HJY.out
      have a0 : w1.cell? ⟨A, 0, none⟩ = some (.slice rad G.length rcap) := cell_blk hv1.ob 0
      have m0 : w1.cell? ⟨Y, 0, none⟩ = some (.int .i64 v.ts) := cell_blk jY1 0
      have m1 : w1.cell? ⟨Y, 1, none⟩ = some (.string v.val) := cell_blk jY1 1
      have m2 : w1.cell? ⟨Y, 2, none⟩ = some (.bool v.dead) := cell_blk jY1 2
      have hrows := hv1.rows
      have hob := hv1.ob
      have hrl : ∀ j, (Value.slice rad G.length rcap).ownBlock = some j → j < w1.heap.size := fun j e => (hrows.lt j e).2
      have hnA : ¬ (Value.slice rad G.length rcap).ownBlock = some A := fun e => by
        obtain ⟨cs, t⟩ := own_tag hrows A e
        exact tag_ne t hob (by decide) rfl
      have hnY : ¬ (Value.slice rad G.length rcap).ownBlock = some Y := fun e => by
        obtain ⟨cs, t⟩ := own_tag hrows Y e
        exact tag_ne t jY1 (by decide) rfl
      have HV1 := Lib.hid hv1
      have HRL := Lib.hid hrl
      have HRW := Lib.hid hrows
      have HOB := Lib.hid hob
      have HB1 := Lib.hid hbw1
      clear hfnd hb1 hv1 jY1 hbw1 hrows hob b0 hrl
      go_upto_region 7 with fail
      refine wp_region_once 12 (fun d X9 => Fr w1 X9 (fun j => (Value.slice rad G.length rcap).ownBlock = some j) ∧ (d = false → Below w1.heap.size w1 X9)) (fun X9 X' => Below X9.heap.size X9 X') (fun X9 X' => Fr X9 X' (fun j => (Value.slice rad G.length rcap).ownBlock = some j)) [
        fun v9 _ => v9 = .pointer (some ⟨A, 0, none⟩),
        fun v9 _ => v9 = .pointer (some ⟨A, 0, none⟩),
        fun v9 _ => v9 = .pointer (some ⟨A, 0, none⟩),
        fun v9 _ => v9 = .pointer (some ⟨A, 0, none⟩),
        fun v9 _ => v9 = (.slice rad G.length rcap),
        fun v9 _ => v9 = .int .i64 (s : Int),
        fun v9 _ => v9 = .string k,
        fun v9 _ => v9 = .agg #[.int .i64 v.ts, .string v.val, .bool v.dead],
        fun v9 X9 => ∃ Z1, v9 = lv1 Z1 ∧ w1.heap.size ≤ Z1 ∧ X9.heap[Z1]? = some (.cells #[.int .i64 v.ts, .string v.val, .bool v.dead] 125 (0, 0)),
        fun v9 X9 => ∃ Z1, v9 = .agg #[.string k, lv1 Z1] ∧ w1.heap.size ≤ Z1 ∧ X9.heap[Z1]? = some (.cells #[.int .i64 v.ts, .string v.val, .bool v.dead] 125 (0, 0)),
        fun v9 X9 => ∃ Z1 Z2, v9 = .pointer (some ⟨Z2, 0, none⟩) ∧ w1.heap.size ≤ Z2 ∧ X9.heap[Z2]? = some (.cells #[.string k, lv1 Z1] 129 (0, 0)) ∧ w1.heap.size ≤ Z1 ∧ X9.heap[Z1]? = some (.cells #[.int .i64 v.ts, .string v.val, .bool v.dead] 125 (0, 0)),
        fun v9 X9 => ∃ Z1 Z2 Z3, v9 = lv1 Z3 ∧ w1.heap.size ≤ Z3 ∧ X9.heap[Z3]? = some (.cells #[.pointer (some ⟨Z2, 0, none⟩)] 126 (0, 0)) ∧ w1.heap.size ≤ Z2 ∧ X9.heap[Z2]? = some (.cells #[.string k, lv1 Z1] 129 (0, 0)) ∧ w1.heap.size ≤ Z1 ∧ X9.heap[Z1]? = some (.cells #[.int .i64 v.ts, .string v.val, .bool v.dead] 125 (0, 0)),
        fun v9 X9 => ∃ Z1 Z2 ad9 cap9, v9 = .slice ad9 (G.length + 1) cap9 ∧ X9.ownsRow 0 126 1 v9 (G.length + 1) (inn (G.map gP) s (.pointer (some ⟨Z2, 0, none⟩))) ∧ (∀ j, (v9).ownBlock = some j → (Value.slice rad G.length rcap).ownBlock = some j ∨ w1.heap.size ≤ j) ∧ Fr w1 X9 (fun j => (Value.slice rad G.length rcap).ownBlock = some j) ∧ w1.heap.size ≤ Z2 ∧ X9.heap[Z2]? = some (.cells #[.string k, lv1 Z1] 129 (0, 0)) ∧ w1.heap.size ≤ Z1 ∧ X9.heap[Z1]? = some (.cells #[.int .i64 v.ts, .string v.val, .bool v.dead] 125 (0, 0)),
        fun v9 _ => v9 = .pointer (some ⟨A, 0, none⟩),
        fun v9 _ => v9 = .pointer (some ⟨A, 0, none⟩)]
        (fun _ X8 => ∃ Z1 Z2 ad9 cap9 X9, X8 = X9.setCell ⟨A, 0, none⟩ (.slice ad9 (G.length + 1) cap9) ∧ X9.ownsRow 0 126 1 (.slice ad9 (G.length + 1) cap9) (G.length + 1) (inn (G.map gP) s (.pointer (some ⟨Z2, 0, none⟩))) ∧ (∀ j, (Value.slice ad9 (G.length + 1) cap9).ownBlock = some j → (Value.slice rad G.length rcap).ownBlock = some j ∨ w1.heap.size ≤ j) ∧ Fr w1 X9 (fun j => (Value.slice rad G.length rcap).ownBlock = some j) ∧ w1.heap.size ≤ Z2 ∧ X9.heap[Z2]? = some (.cells #[.string k, lv1 Z1] 129 (0, 0)) ∧ w1.heap.size ≤ Z1 ∧ X9.heap[Z1]? = some (.cells #[.int .i64 v.ts, .string v.val, .bool v.dead] 125 (0, 0))) rfl (by kernel_rfl) (by kernel_rfl) (by kernel_rfl) (by kernel_rfl) ?st ?stm ?g0 (by decide) ?os ?la ?en
      case st => exact ⟨fun _ _ _ _ h => h, fun _ _ _ _ h => h, fun _ _ _ _ h => h, fun _ _ _ _ h => h, fun _ _ _ _ h => h, fun _ _ _ _ h => h, fun _ _ _ _ h => h, fun _ _ _ _ h => h, fun _ _ _ hs ⟨Z1, e, z1, z2⟩ => ⟨Z1, e, z1, (hs.block _ (blk_lt z2)).trans z2⟩, fun _ _ _ hs ⟨Z1, e, z1, z2⟩ => ⟨Z1, e, z1, (hs.block _ (blk_lt z2)).trans z2⟩, fun _ _ _ hs ⟨Z1, Z2, e, z1, z2, z3, z4⟩ => ⟨Z1, Z2, e, z1, (hs.block _ (blk_lt z2)).trans z2, z3, (hs.block _ (blk_lt z4)).trans z4⟩, fun _ _ _ hs ⟨Z1, Z2, Z3, e, z1, z2, z3, z4, z5, z6⟩ => ⟨Z1, Z2, Z3, e, z1, (hs.block _ (blk_lt z2)).trans z2, z3, (hs.block _ (blk_lt z4)).trans z4, z5, (hs.block _ (blk_lt z6)).trans z6⟩, fun _ _ _ hs ⟨Z1, Z2, x1, x2, e, o1, o2, o3, z1, z2, z3, z4⟩ => ⟨Z1, Z2, x1, x2, e, own_below o1 hs, o2, o3.below hs, z1, (hs.block _ (blk_lt z2)).trans z2, z3, (hs.block _ (blk_lt z4)).trans z4⟩, fun _ _ _ _ h => h, fun _ _ _ _ h => h, trivial⟩
      case stm => exact ⟨fun _ _ _ _ h => h, fun _ _ _ _ h => h, fun _ _ _ _ h => h, fun _ _ _ _ h => h, fun _ _ _ _ h => h, fun _ _ _ _ h => h, fun _ _ _ _ h => h, fun _ _ _ _ h => h, fun _ _ _ hs ⟨Z1, e, z1, z2⟩ => ⟨Z1, e, z1, (hs.block _ (blk_lt z2) (fun e => by have z9 := HRL.out _ e; omega)).trans z2⟩, fun _ _ _ hs ⟨Z1, e, z1, z2⟩ => ⟨Z1, e, z1, (hs.block _ (blk_lt z2) (fun e => by have z9 := HRL.out _ e; omega)).trans z2⟩, fun _ _ _ hs ⟨Z1, Z2, e, z1, z2, z3, z4⟩ => ⟨Z1, Z2, e, z1, (hs.block _ (blk_lt z2) (fun e => by have z9 := HRL.out _ e; omega)).trans z2, z3, (hs.block _ (blk_lt z4) (fun e => by have z9 := HRL.out _ e; omega)).trans z4⟩, fun _ _ _ hs ⟨Z1, Z2, Z3, e, z1, z2, z3, z4, z5, z6⟩ => ⟨Z1, Z2, Z3, e, z1, (hs.block _ (blk_lt z2) (fun e => by have z9 := HRL.out _ e; omega)).trans z2, z3, (hs.block _ (blk_lt z4) (fun e => by have z9 := HRL.out _ e; omega)).trans z4, z5, (hs.block _ (blk_lt z6) (fun e => by have z9 := HRL.out _ e; omega)).trans z6⟩, fun _ _ _ _ h => h, fun _ _ _ _ h => h, fun _ _ _ _ h => h, trivial⟩
      case g0 => exact ⟨⟨rfl, rfl, rfl, Nat.le_refl _, fun _ _ _ => rfl⟩, fun _ => ⟨rfl, rfl, rfl, Nat.le_refl _, fun _ _ => rfl⟩⟩
      case os =>
        refine ⟨?_, ?_, ?_, ?_, ?_, ?_, ?_, ?_, ?_, ?_, ?_, ?_, ?_, ?_, ?_, trivial⟩
        · exact ⟨rfl, fun _ ρ X9 d hg ho hc hf hr => Runs.val _ (op_move (show ρ (.tmp 0) = .pointer (some ⟨A, 0, none⟩) from ho 0 rfl)) ⟨hg, Below.refl _ _, rfl⟩, fun e => absurd e (by decide)⟩
        · exact ⟨rfl, fun _ ρ X9 d hg ho hc hf hr => Runs.val _ (op_move (show ρ (.tmp 0) = .pointer (some ⟨A, 0, none⟩) from ho 0 rfl)) ⟨hg, Below.refl _ _, rfl⟩, fun e => absurd e (by decide)⟩
        · exact ⟨rfl, fun _ ρ X9 d hg ho hc hf hr => Runs.val _ (op_nil (show ρ (.tmp 24) = .pointer (some ⟨A, 0, none⟩) from hr 1 24 rfl rfl)) ⟨hg, Below.refl _ _, rfl⟩, fun e => absurd e (by decide)⟩
        · exact ⟨rfl, fun _ ρ X9 d hg ho hc hf hr => Runs.val _ (op_f116_0 (show ρ (.tmp 25) = .pointer (some ⟨A, 0, none⟩) from hr 2 25 rfl rfl)) ⟨hg, Below.refl _ _, rfl⟩, fun e => absurd e (by decide)⟩
        · exact ⟨rfl, fun _ ρ X9 d hg ho hc hf hr => Runs.val _ (op_load114 (show ρ (.tmp 26) = .pointer (some ⟨A, 0, none⟩) from hr 3 26 rfl rfl) (cell_fr hg.1 hnA a0)) ⟨hg, Below.refl _ _, rfl⟩, fun e => absurd e (by decide)⟩
        · exact ⟨rfl, fun _ ρ X9 d hg ho hc hf hr => Runs.val _ (op_move (show ρ (.tmp 7) = .int .i64 (s : Int) from ho 7 rfl)) ⟨hg, Below.refl _ _, rfl⟩, fun e => absurd e (by decide)⟩
        · exact ⟨rfl, fun _ ρ X9 d hg ho hc hf hr => Runs.val _ (op_move (show ρ (.tmp 1) = .string k from ho 1 rfl)) ⟨hg, Below.refl _ _, rfl⟩, fun e => absurd e (by decide)⟩
        · exact ⟨rfl, fun _ ρ X9 d hg ho hc hf hr => Runs.val _ (op_load125 (show ρ (.tmp 5) = .pointer (some ⟨Y, 0, none⟩) from ho 5 rfl) (cell_fr hg.1 hnY m0) (cell_fr hg.1 hnY m1) (cell_fr hg.1 hnY m2)) ⟨hg, Below.refl _ _, rfl⟩, fun e => absurd e (by decide)⟩
        · refine ⟨rfl, fun _ ρ X9 d hg ho hc hf hr => ?_, fun e => absurd e (by decide)⟩
          have hb7 : Below X9.heap.size X9 (X9.alloc (.cells #[.int .i64 v.ts, .string v.val, .bool v.dead] 125)) := (Below.refl _ X9).alloc (Nat.le_refl _) _
          exact Runs.val _ (op_s127 (show ρ (.tmp 30) = .agg #[.int .i64 v.ts, .string v.val, .bool v.dead] from hr 7 30 rfl rfl)) ⟨⟨hg.1.below hb7, fun z => (hg.2 z).trans (hb7.mono (hg.2 z).size)⟩, hb7, X9.heap.size, rfl, hg.1.size, heap_alloc_new X9 _⟩
        · refine ⟨rfl, fun _ ρ X9 d hg ho hc hf hr => ?_, fun e => absurd e (by decide)⟩
          obtain ⟨Z1, e, z1, z2⟩ : ∃ Z1, (ρ (.tmp 31)) = lv1 Z1 ∧ w1.heap.size ≤ Z1 ∧ X9.heap[Z1]? = some (.cells #[.int .i64 v.ts, .string v.val, .bool v.dead] 125 (0, 0)) := hr 8 31 rfl rfl
          exact Runs.val _ (op_b129 (show ρ (.tmp 29) = .string k from hr 6 29 rfl rfl) e) ⟨hg, Below.refl _ _, Z1, rfl, z1, z2⟩
        · refine ⟨rfl, fun _ ρ X9 d hg ho hc hf hr => ?_, fun e => absurd e (by decide)⟩
          obtain ⟨Z1, e, z1, z2⟩ : ∃ Z1, (ρ (.tmp 32)) = .agg #[.string k, lv1 Z1] ∧ w1.heap.size ≤ Z1 ∧ X9.heap[Z1]? = some (.cells #[.int .i64 v.ts, .string v.val, .bool v.dead] 125 (0, 0)) := hr 9 32 rfl rfl
          have hb7 : Below X9.heap.size X9 (X9.alloc (.cells #[.string k, lv1 Z1] 129)) := (Below.refl _ X9).alloc (Nat.le_refl _) _
          exact Runs.val _ (op_x129 e) ⟨⟨hg.1.below hb7, fun z => (hg.2 z).trans (hb7.mono (hg.2 z).size)⟩, hb7, Z1, X9.heap.size, rfl, hg.1.size, heap_alloc_new X9 _, z1, (hb7.block _ (blk_lt z2)).trans z2⟩
        · refine ⟨rfl, fun _ ρ X9 d hg ho hc hf hr => ?_, fun e => absurd e (by decide)⟩
          obtain ⟨Z1, Z2, e, z1, z2, z3, z4⟩ : ∃ Z1 Z2, (ρ (.tmp 33)) = .pointer (some ⟨Z2, 0, none⟩) ∧ w1.heap.size ≤ Z2 ∧ X9.heap[Z2]? = some (.cells #[.string k, lv1 Z1] 129 (0, 0)) ∧ w1.heap.size ≤ Z1 ∧ X9.heap[Z1]? = some (.cells #[.int .i64 v.ts, .string v.val, .bool v.dead] 125 (0, 0)) := hr 10 33 rfl rfl
          have hb7 : Below X9.heap.size X9 (X9.alloc (.cells #[.pointer (some ⟨Z2, 0, none⟩)] 126)) := (Below.refl _ X9).alloc (Nat.le_refl _) _
          exact Runs.val _ (op_s114 e) ⟨⟨hg.1.below hb7, fun z => (hg.2 z).trans (hb7.mono (hg.2 z).size)⟩, hb7, Z1, Z2, X9.heap.size, rfl, hg.1.size, heap_alloc_new X9 _, z1, (hb7.block _ (blk_lt z2)).trans z2, z3, (hb7.block _ (blk_lt z4)).trans z4⟩
        · refine ⟨rfl, fun e => absurd rfl e, fun _ ρ X9 hg ho hc hf hr => ?_⟩
          obtain ⟨Z1, Z2, Z3, e, z1, z2, z3, z4, z5, z6⟩ : ∃ Z1 Z2 Z3, (ρ (.tmp 34)) = lv1 Z3 ∧ w1.heap.size ≤ Z3 ∧ X9.heap[Z3]? = some (.cells #[.pointer (some ⟨Z2, 0, none⟩)] 126 (0, 0)) ∧ w1.heap.size ≤ Z2 ∧ X9.heap[Z2]? = some (.cells #[.string k, lv1 Z1] 129 (0, 0)) ∧ w1.heap.size ≤ Z1 ∧ X9.heap[Z1]? = some (.cells #[.int .i64 v.ts, .string v.val, .bool v.dead] 125 (0, 0)) := hr 11 34 rfl rfl
          have hbX := hg.2 rfl
          have hins := insert_any (w := X9) (n := G.length) (i := s) (xs := G.map gP) (x := .pointer (some ⟨Z2, 0, none⟩)) (rv := (.slice rad G.length rcap)) (vb := Z3) (own_below HRW.out hbX) (fun u hu => by obtain ⟨g, _, rfl⟩ := List.mem_map.1 hu; rfl) hle (by omega) rfl z2 (fun e => by have z9 := HRL.out _ e; omega)
          refine Runs.goes 108 #[(.slice rad G.length rcap), .int .i64 (s : Int), lv1 Z3] (op_call3 hf call108 (show ρ (.tmp 27) = (.slice rad G.length rcap) from hr 4 27 rfl rfl) (show ρ (.tmp 28) = .int .i64 (s : Int) from hr 5 28 rfl rfl) e) (hins.mono ?_)
          rintro e7 w7 ⟨ad9, cap9, rfl, o7, f7, n7⟩
          exact ⟨_, rfl, ⟨hg.1.trans f7, fun z => by cases z⟩, f7, Z1, Z2, ad9, cap9, rfl, o7, fun j e => (by rcases n7 j e with q | q; exact .inl q; exact .inr (Nat.le_trans hbX.size q)), hg.1.trans f7, z3, (f7.block _ (blk_lt z4) (fun e => by have z9 := HRL.out _ e; omega)).trans z4, z5, (f7.block _ (blk_lt z6) (fun e => by have z9 := HRL.out _ e; omega)).trans z6⟩
        · exact ⟨rfl, fun _ ρ X9 d hg ho hc hf hr => Runs.val _ (op_nil (show ρ (.tmp 23) = .pointer (some ⟨A, 0, none⟩) from hr 0 23 rfl rfl)) ⟨hg, Below.refl _ _, rfl⟩, fun e => absurd e (by decide)⟩
        · exact ⟨rfl, fun _ ρ X9 d hg ho hc hf hr => Runs.val _ (op_f116_0 (show ρ (.tmp 36) = .pointer (some ⟨A, 0, none⟩) from hr 13 36 rfl rfl)) ⟨hg, Below.refl _ _, rfl⟩, fun e => absurd e (by decide)⟩
      case la =>
        refine ⟨rfl, fun ρ X9 hg ho hc hf hr => ?_⟩
        obtain ⟨Z1, Z2, ad9, cap9, e, o1, o2, o3, z1, z2, z3, z4⟩ : ∃ Z1 Z2 ad9 cap9, (ρ (.tmp 35)) = .slice ad9 (G.length + 1) cap9 ∧ X9.ownsRow 0 126 1 (ρ (.tmp 35)) (G.length + 1) (inn (G.map gP) s (.pointer (some ⟨Z2, 0, none⟩))) ∧ (∀ j, ((ρ (.tmp 35))).ownBlock = some j → (Value.slice rad G.length rcap).ownBlock = some j ∨ w1.heap.size ≤ j) ∧ Fr w1 X9 (fun j => (Value.slice rad G.length rcap).ownBlock = some j) ∧ w1.heap.size ≤ Z2 ∧ X9.heap[Z2]? = some (.cells #[.string k, lv1 Z1] 129 (0, 0)) ∧ w1.heap.size ≤ Z1 ∧ X9.heap[Z1]? = some (.cells #[.int .i64 v.ts, .string v.val, .bool v.dead] 125 (0, 0)) := hr 12 35 (by decide) rfl
        rw [e] at o1 o2
        have hA9 := (o3.block A (blk_lt HOB.out) hnA).trans HOB.out
        exact Runs.skips (op_store114 (show ρ (.tmp 37) = .pointer (some ⟨A, 0, none⟩) from hr 14 37 (by decide) rfl) e (cell_blk hA9 0) (frozen_blk hA9 0)) ⟨Z1, Z2, ad9, cap9, X9, rfl, o1, o2, o3, z1, z2, z3, z4⟩
      case en =>
        intro a X9 Xb v9 hF hs hd ho hv9 hr
        obtain ⟨x, hx, hxt⟩ := act_put hs hd ho
        change a = putAll _ x [23, 24, 25, 26, 27, 28, 29, 30, 31, 32, 33, 34, 35, 36, 37] at hx
        simp only [putAll, Act.put, List.setIfInBounds_toArray, List.set_cons_zero, List.set_cons_succ] at hx
        obtain ⟨Z1, Z2, ad9, cap9, X8, rfl, o1, o2, o3, z1, z2, z3, z4⟩ := hF
        have HA : Hid (PutAns w A S (G.map Gw.r) k v (.returned (.int .i64 0)) (X8.setCell ⟨A, 0, none⟩ (.slice ad9 (G.length + 1) cap9))) := by
          have bz := HB1.out.size
          have f0 : Fr w X8 (fun j => (Value.slice rad G.length rcap).ownBlock = some j) := ⟨o3.os.trans HB1.out.os, o3.tape.trans HB1.out.tape, o3.output.trans HB1.out.output, Nat.le_trans bz o3.size, fun j hj hn => (o3.block j (by omega) hn).trans (HB1.out.block j hj)⟩
          obtain ⟨k1, k2⟩ := HH.out.add f0 o1 (fun j e => by rcases o2 j e with q | q; exact .inl q; exact .inr (Nat.le_trans bz q)) z4 z2 (Nat.le_trans bz z3) (Nat.le_trans bz z1) hle HOK.out hfew
          refine ⟨by rw [HE1.out], _, ?_, fun j q => q, k2⟩
          rw [HE2.out]
          exact ⟨_, _, k1, by rw [inn_map]⟩
        clear hs hd ho hr hv9 hxt o1 o2 o3 z1 z2 z3 z4
        subst hx
        go_wp2
        go_ret
        exact HA.out
    | true =>
      obtain ⟨hlt, hkk⟩ : ∃ hlt : s < G.length, G[s].r.key = k := by
        unfold fd at hfd
        rw [hs, List.getElem?_map] at hfd
        by_cases hlt : s < G.length
        · rw [List.getElem?_eq_getElem hlt] at hfd
          simp only [Option.map_some, decide_eq_true_eq] at hfd
          exact ⟨hlt, hfd⟩
        · rw [List.getElem?_eq_none (by omega)] at hfd
          cases hfd
      have hrs : (G.map Gw.r)[place (G.map Gw.r) k]? = some G[s].r := by rw [hs, List.getElem?_map, List.getElem?_eq_getElem hlt]; rfl
      obtain ⟨e1, e2⟩ := put_old hts hrs hkk
      rw [hfd, hs] at hfnd
      rw [hs] at e2
      have hrise := h.ok.rise G[s].r (List.mem_map_of_mem (List.getElem_mem hlt))
      have hnw := fun V (hV : Below w.heap.size w V) => newest_any (own_below (h.ls _ (List.getElem_mem hlt)) hV) hrise.ne (by have := h.less _ (List.getElem_mem hlt); omega)
      obtain ⟨nw, hnwe⟩ : ∃ nw, newest G[s].r.list = nw := ⟨_, rfl⟩
      rw [hnwe] at hnw e1 e2
      obtain ⟨lad, lcap, hlv⟩ := own_shape (h.ls _ (List.getElem_mem hlt))
      rw [hlv] at hnw
      have s0 : (0 : Int) ≤ (s : Int) := by omega
      have s1 : (s : Int) < (G.length : Int) := by omega
      obtain ⟨n, hn⟩ : ∃ n, G[s].r.list.length = n := ⟨_, rfl⟩
      rw [hn] at hnw hlv
      have HNW := Lib.hid hnw
      have HLV := Lib.hid hlv
      have HNN := Lib.hid hn
      have HE1 := Lib.hid e1
      have HE2 := Lib.hid e2
      have HKK := Lib.hid hkk
      have HOK := Lib.hid hokp
      obtain ⟨q, hq⟩ : ∃ q, G[s].ptr = q := ⟨_, rfl⟩
      have HQQ := Lib.hid hq
      clear e1 e2 hokp hfd hv hb jY hY hW hs hrs hkk hrise hnw hlv hnwe hn hq
      go_enter Try.func92, Try.ntmps92
      go_upto_region 1 with fail
      rw [← HW.out, HYY.out]
      go_wp2_with fail
      refine hfnd.mono ?_
      rintro e w1 ⟨rfl, hb1⟩
      have hbw1 := HB.out.trans (hb1.mono HB.out.size)
      have hv1 := HH.out.on hbw1
      have jY1 := (hb1.block Y (blk_lt HJY.out)).trans HJY.out
      obtain ⟨g, rcap, rfl, hc1, hc2, hp0⟩ := hv1.ptr hlt
      have hm : (rcap : Int) ≤ 9223372036854775807 := by unfold maxLen at hc2; omega
      have a0 : w1.cell? ⟨A, 0, none⟩ = some (.slice (some ⟨g, 0, none⟩) G.length rcap) := cell_blk hv1.ob 0
      have hp1 : w1.cell? ⟨g, s, none⟩ = some (.pointer (some ⟨q, 0, none⟩)) := by rw [← HQQ.out]; exact hp0
      have jq : w1.heap[q]? = some (.cells #[.string G[s].r.key, .slice lad n lcap] 129 (0, 0)) := by rw [← HQQ.out, ← HLV.out]; exact hv1.at' _ (List.getElem_mem hlt)
      have q1 : w1.cell? ⟨q, 1, none⟩ = some (.slice lad n lcap) := cell_blk jq 1
      have m0 : w1.cell? ⟨Y, 0, none⟩ = some (.int .i64 v.ts) := cell_blk jY1 0
      have m1 : w1.cell? ⟨Y, 1, none⟩ = some (.string v.val) := cell_blk jY1 1
      have m2 : w1.cell? ⟨Y, 2, none⟩ = some (.bool v.dead) := cell_blk jY1 2
      have hls1 : w1.ownsRow 0 125 3 (.slice lad n lcap) n (veC G[s].r.list) := by
        have := hv1.ls _ (List.getElem_mem hlt)
        rw [HLV.out, HNN.out] at this
        exact this
      have hn1 : ∀ m, Calls Try.prog 109 #[.slice lad n lcap] (w1.drewN m) fun e w' => e = .returned (.int .i64 nw) ∧ ∃ m', w' = w1.drewN m' := fun m => by
        refine (HNW.out (w1.drewN m) (below_draw hbw1 m)).mono ?_
        rintro e w' ⟨rfl, rfl⟩
        exact ⟨rfl, m, rfl⟩
      have HLS := Lib.hid hls1
      have HB1 := Lib.hid hbw1
      have HV1 := Lib.hid hv1
      have HJQ := Lib.hid jq
      have HJ1 := Lib.hid jY1
      clear hfnd hb1 hv1 jY1 hbw1 hp0 b0 jq hls1 h
      by_cases hge : v.ts ≤ nw
      · have hgd : decide (v.ts ≤ nw) = true := decide_eq_true hge
        have HA : Hid (∀ m, PutAns w A S (G.map Gw.r) k v (.returned (.int .i64 120)) (w1.drewN m)) := by
          intro m
          refine PutAns.same HH.out (below_draw HB1.out m) ?_ ?_
          · rw [HE1.out, if_pos hge]
          · rw [HE2.out, if_pos hge]
        go_wp2
        go_quiet ((go_at_call 109; exact hn1 _))
        go_wp2
        go_ret
        exact HA.out _
      · have hgd : decide (v.ts ≤ nw) = false := decide_eq_false hge
        have hpe : putE (G.map Gw.r) k v = 0 := by rw [HE1.out, if_neg hge]
        have hpr : putR (G.map Gw.r) k v = (G.map Gw.r).set s ⟨k, G[s].r.list ++ [v]⟩ := by rw [HE2.out, if_neg hge]
        have HPE := Lib.hid hpe
        have HPR := Lib.hid hpr
        clear hpe hpr HE1 HE2
        go_wp2
        go_quiet ((go_at_call 109; exact hn1 _))
        have bq := below_draw (Below.refl w1.heap.size w1) nq
        obtain ⟨V, hV⟩ : ∃ V, w1.drewN nq = V := ⟨_, rfl⟩
        rw [hV] at bq ⊢
        have jqV := (bq.block q (blk_lt HJQ.out)).trans HJQ.out
        have jYV := (bq.block Y (blk_lt HJ1.out)).trans HJ1.out
        have q1 : V.cell? ⟨q, 1, none⟩ = some (.slice lad n lcap) := cell_blk jqV 1
        have m0 : V.cell? ⟨Y, 0, none⟩ = some (.int .i64 v.ts) := cell_blk jYV 0
        have m1 : V.cell? ⟨Y, 1, none⟩ = some (.string v.val) := cell_blk jYV 1
        have m2 : V.cell? ⟨Y, 2, none⟩ = some (.bool v.dead) := cell_blk jYV 2
        have hlsV := own_below HLS.out bq
        have hbwV := HB1.out.trans (bq.mono HB1.out.size)
        have hnq : ¬ (Value.slice lad n lcap).ownBlock = some q := fun e => by
          obtain ⟨cs, t⟩ := own_tag hlsV q e
          exact tag_ne t jqV (by decide) rfl
        have hlS : ∀ j, (Value.slice lad n lcap).ownBlock = some j → j < w.heap.size := fun j e => by
          have := HH.out.covl _ (List.getElem_mem hlt) j (by rw [HLV.out]; exact e)
          exact HH.out.lt j this
        have hnYl : ¬ (Value.slice lad n lcap).ownBlock = some Y := fun e => by have z1 := hlS Y e; have z2 := HYY.out; omega
        have hn8 : n < 800000 := by have := hless _ (List.getElem_mem hlt); have := HNN.out; omega
        have HLSV := Lib.hid hlsV
        have HBV := Lib.hid hbwV
        have HJQV := Lib.hid jqV
        have HLB := Lib.hid hlS
        clear hV bq jqV jYV hlsV hbwV hlS hn1 hp1 a0
        go_upto_region 12 with fail
        refine wp_region_once 7 (fun d X9 => Fr V X9 (fun j => (Value.slice lad n lcap).ownBlock = some j) ∧ (d = false → Below V.heap.size V X9)) (fun X9 X' => Below X9.heap.size X9 X') (fun X9 X' => Fr X9 X' (fun j => (Value.slice lad n lcap).ownBlock = some j)) [
          fun v9 _ => v9 = .pointer (some ⟨q, 0, none⟩),
          fun v9 _ => v9 = .pointer (some ⟨q, 0, none⟩),
          fun v9 _ => v9 = .pointer (some ⟨q, 0, none⟩),
          fun v9 _ => v9 = .pointer (some ⟨q, 1, none⟩),
          fun v9 _ => v9 = (.slice lad n lcap),
          fun v9 _ => v9 = .agg #[.int .i64 v.ts, .string v.val, .bool v.dead],
          fun v9 X9 => ∃ Z1, v9 = lv1 Z1 ∧ V.heap.size ≤ Z1 ∧ X9.heap[Z1]? = some (.cells #[.int .i64 v.ts, .string v.val, .bool v.dead] 125 (0, 0)),
          fun v9 X9 => ∃ ad9 cap9, v9 = .slice ad9 (n + 1) cap9 ∧ X9.ownsRow 0 125 3 v9 (n + 1) (veC (G[s].r.list ++ [v])) ∧ (∀ j, (v9).ownBlock = some j → (Value.slice lad n lcap).ownBlock = some j ∨ V.heap.size ≤ j) ∧ Fr V X9 (fun j => (Value.slice lad n lcap).ownBlock = some j),
          fun v9 _ => v9 = .pointer (some ⟨q, 0, none⟩),
          fun v9 _ => v9 = .pointer (some ⟨q, 1, none⟩)]
          (fun _ X8 => ∃ ad9 cap9 X9, X8 = X9.setCell ⟨q, 1, none⟩ (.slice ad9 (n + 1) cap9) ∧ X9.ownsRow 0 125 3 (.slice ad9 (n + 1) cap9) (n + 1) (veC (G[s].r.list ++ [v])) ∧ (∀ j, (Value.slice ad9 (n + 1) cap9).ownBlock = some j → (Value.slice lad n lcap).ownBlock = some j ∨ V.heap.size ≤ j) ∧ Fr V X9 (fun j => (Value.slice lad n lcap).ownBlock = some j)) rfl (by kernel_rfl) (by kernel_rfl) (by kernel_rfl) (by kernel_rfl) ?st ?stm ?g0 (by decide) ?os ?la ?en
        case st => exact ⟨fun _ _ _ _ h => h, fun _ _ _ _ h => h, fun _ _ _ _ h => h, fun _ _ _ _ h => h, fun _ _ _ _ h => h, fun _ _ _ _ h => h, fun _ _ _ hs ⟨Z1, e, z1, z2⟩ => ⟨Z1, e, z1, (hs.block _ (blk_lt z2)).trans z2⟩, fun _ _ _ hs ⟨x1, x2, e, o1, o2, o3⟩ => ⟨x1, x2, e, own_below o1 hs, o2, o3.below hs⟩, fun _ _ _ _ h => h, fun _ _ _ _ h => h, trivial⟩
        case stm => exact ⟨fun _ _ _ _ h => h, fun _ _ _ _ h => h, fun _ _ _ _ h => h, fun _ _ _ _ h => h, fun _ _ _ _ h => h, fun _ _ _ _ h => h, fun _ _ _ hs ⟨Z1, e, z1, z2⟩ => ⟨Z1, e, z1, (hs.block _ (blk_lt z2) (fun e => by have z9 := (HLSV.out.lt _ e).2; omega)).trans z2⟩, fun _ _ _ _ h => h, fun _ _ _ _ h => h, fun _ _ _ _ h => h, trivial⟩
        case g0 => exact ⟨⟨rfl, rfl, rfl, Nat.le_refl _, fun _ _ _ => rfl⟩, fun _ => ⟨rfl, rfl, rfl, Nat.le_refl _, fun _ _ => rfl⟩⟩
        case os =>
          refine ⟨?_, ?_, ?_, ?_, ?_, ?_, ?_, ?_, ?_, ?_, trivial⟩
          · exact ⟨rfl, fun _ ρ X9 d hg ho hc hf hr => Runs.val _ (op_move (show ρ (.tmp 9) = .pointer (some ⟨q, 0, none⟩) from ho 9 rfl)) ⟨hg, Below.refl _ _, rfl⟩, fun e => absurd e (by decide)⟩
          · exact ⟨rfl, fun _ ρ X9 d hg ho hc hf hr => Runs.val _ (op_move (show ρ (.tmp 9) = .pointer (some ⟨q, 0, none⟩) from ho 9 rfl)) ⟨hg, Below.refl _ _, rfl⟩, fun e => absurd e (by decide)⟩
          · exact ⟨rfl, fun _ ρ X9 d hg ho hc hf hr => Runs.val _ (op_nil (show ρ (.tmp 54) = .pointer (some ⟨q, 0, none⟩) from hr 1 54 rfl rfl)) ⟨hg, Below.refl _ _, rfl⟩, fun e => absurd e (by decide)⟩
          · exact ⟨rfl, fun _ ρ X9 d hg ho hc hf hr => Runs.val _ (op_f129_1 (show ρ (.tmp 55) = .pointer (some ⟨q, 0, none⟩) from hr 2 55 rfl rfl)) ⟨hg, Below.refl _ _, rfl⟩, fun e => absurd e (by decide)⟩
          · exact ⟨rfl, fun _ ρ X9 d hg ho hc hf hr => Runs.val _ (op_load127 (show ρ (.tmp 56) = .pointer (some ⟨q, 1, none⟩) from hr 3 56 rfl rfl) (cell_fr hg.1 hnq q1)) ⟨hg, Below.refl _ _, rfl⟩, fun e => absurd e (by decide)⟩
          · exact ⟨rfl, fun _ ρ X9 d hg ho hc hf hr => Runs.val _ (op_load125 (show ρ (.tmp 5) = .pointer (some ⟨Y, 0, none⟩) from ho 5 rfl) (cell_fr hg.1 hnYl m0) (cell_fr hg.1 hnYl m1) (cell_fr hg.1 hnYl m2)) ⟨hg, Below.refl _ _, rfl⟩, fun e => absurd e (by decide)⟩
          · refine ⟨rfl, fun _ ρ X9 d hg ho hc hf hr => ?_, fun e => absurd e (by decide)⟩
            have hb7 : Below X9.heap.size X9 (X9.alloc (.cells #[.int .i64 v.ts, .string v.val, .bool v.dead] 125)) := (Below.refl _ X9).alloc (Nat.le_refl _) _
            exact Runs.val _ (op_s127 (show ρ (.tmp 58) = .agg #[.int .i64 v.ts, .string v.val, .bool v.dead] from hr 5 58 rfl rfl)) ⟨⟨hg.1.below hb7, fun z => (hg.2 z).trans (hb7.mono (hg.2 z).size)⟩, hb7, X9.heap.size, rfl, hg.1.size, heap_alloc_new X9 _⟩
          · refine ⟨rfl, fun e => absurd rfl e, fun _ ρ X9 hg ho hc hf hr => ?_⟩
            obtain ⟨Z1, e, z1, z2⟩ : ∃ Z1, (ρ (.tmp 59)) = lv1 Z1 ∧ V.heap.size ≤ Z1 ∧ X9.heap[Z1]? = some (.cells #[.int .i64 v.ts, .string v.val, .bool v.dead] 125 (0, 0)) := hr 6 59 rfl rfl
            have hbX := hg.2 rfl
            obtain ⟨ad9, cap9, w9, hrun, o9, g9, t9⟩ := run_ve (m := 1) (c := 1) (news := veC [v]) (own_below HLSV.out hbX) (Nat.zero_le _) (.inr ⟨⟨Z1, 0, none⟩, rfl, rfl, fun j u hu => by
              rw [add_at, Nat.zero_add, cell_blk z2]
              simpa [veC] using hu⟩) (veC_one _) (by omega)
            have f9 : Fr X9 w9 (fun j => (Value.slice lad n lcap).ownBlock = some j) := Fr.grown (Fr.refl X9 _) g9 (fun j hj => .inl hj)
            exact Runs.val _ (op_append127 (show ρ (.tmp 57) = (.slice lad n lcap) from hr 4 57 rfl rfl) e hrun) ⟨⟨hg.1.trans f9, fun z => by cases z⟩, f9, ad9, cap9, rfl, by rw [veC_append]; exact o9, fun j e => (by
              rcases t9 with t9 | t9
              · rw [t9] at e; exact .inl e
              · rw [t9] at e; cases e; exact .inr hbX.size), hg.1.trans f9⟩
          · exact ⟨rfl, fun _ ρ X9 d hg ho hc hf hr => Runs.val _ (op_nil (show ρ (.tmp 53) = .pointer (some ⟨q, 0, none⟩) from hr 0 53 rfl rfl)) ⟨hg, Below.refl _ _, rfl⟩, fun e => absurd e (by decide)⟩
          · exact ⟨rfl, fun _ ρ X9 d hg ho hc hf hr => Runs.val _ (op_f129_1 (show ρ (.tmp 61) = .pointer (some ⟨q, 0, none⟩) from hr 8 61 rfl rfl)) ⟨hg, Below.refl _ _, rfl⟩, fun e => absurd e (by decide)⟩
        case la =>
          refine ⟨rfl, fun ρ X9 hg ho hc hf hr => ?_⟩
          obtain ⟨ad9, cap9, e, o1, o2, o3⟩ : ∃ ad9 cap9, (ρ (.tmp 60)) = .slice ad9 (n + 1) cap9 ∧ X9.ownsRow 0 125 3 (ρ (.tmp 60)) (n + 1) (veC (G[s].r.list ++ [v])) ∧ (∀ j, ((ρ (.tmp 60))).ownBlock = some j → (Value.slice lad n lcap).ownBlock = some j ∨ V.heap.size ≤ j) ∧ Fr V X9 (fun j => (Value.slice lad n lcap).ownBlock = some j) := hr 7 60 (by decide) rfl
          rw [e] at o1 o2
          have hq9 := (o3.block q (blk_lt HJQV.out) hnq).trans HJQV.out
          exact Runs.skips (op_store127 (show ρ (.tmp 62) = .pointer (some ⟨q, 1, none⟩) from hr 9 62 (by decide) rfl) e (cell_blk hq9 1) (frozen_blk hq9 1)) ⟨ad9, cap9, X9, rfl, o1, o2, o3⟩
        case en =>
          intro a X9 Xb v9 hF hs hd ho hv9 hr
          obtain ⟨x, hx, hxt⟩ := act_put hs hd ho
          change a = putAll _ x [53, 54, 55, 56, 57, 58, 59, 60, 61, 62] at hx
          simp only [putAll, Act.put, List.setIfInBounds_toArray, List.set_cons_zero, List.set_cons_succ] at hx
          obtain ⟨ad9, cap9, X8, rfl, o1, o2, o3⟩ := hF
          have HA : Hid (PutAns w A S (G.map Gw.r) k v (.returned (.int .i64 0)) (X8.setCell ⟨q, 1, none⟩ (.slice ad9 (n + 1) cap9))) := by
            have bz := HBV.out.size
            have f0 : Fr w X8 (fun j => G[s].lv.ownBlock = some j) := by
              rw [HLV.out]
              exact ⟨o3.os.trans HBV.out.os, o3.tape.trans HBV.out.tape, o3.output.trans HBV.out.output, Nat.le_trans bz o3.size, fun j hj hn => (o3.block j (by omega) hn).trans (HBV.out.block j hj)⟩
            have hok : Okr ((G.map Gw.r).set s ⟨G[s].r.key, G[s].r.list ++ [v]⟩) := by
              rw [HKK.out, ← HPR.out]
              exact HOK.out
            obtain ⟨k1, k2⟩ := HH.out.more hlt f0 (by rw [HNN.out]; exact o1) (fun j e => by rcases o2 j e with q | q; exact .inl (by rw [HLV.out]; exact q); exact .inr (Nat.le_trans bz q)) hok (hless _ (List.getElem_mem hlt))
            rw [HQQ.out] at k1 k2
            refine ⟨by rw [HPE.out], _, ?_, fun j q => q, k2⟩
            rw [HPR.out, ← HKK.out]
            exact ⟨_, _, k1, by rw [List.map_set]⟩
          clear hs hd ho hr hv9 hxt o1 o2 o3
          subst hx
          go_wp2
          go_ret
          exact HA.out
end
end Go.Proofs.Ytcoaahlakkghhaa
/- New; a store that is none; the walks of awake and of VersionNil. -/
namespace Go.Proofs.Ytcoaahlakkghhaa
open Go.RowKit

section
variable {w w' W V X : World} {A : Nat} {S T : Nat → Prop} {R : List Rw} {k : ByteArray} {v : Ve}
theorem put_b (h : Sb w A S R) (k : ByteArray) (v : Ve) (hfew : R.length < 800000) (hless : ∀ r ∈ R, r.list.length < 800000) : Calls Try.prog 92 #[.pointer (some ⟨A, 0, none⟩), .string k, veV v] w fun e w' => PutAns w A S R k v e w' := by
  obtain ⟨G, rv, h, rfl⟩ := h
  rw [List.length_map] at hfew
  exact put_any h k v hfew (fun g hg => hless _ (List.mem_map_of_mem hg))
theorem span_b (h : Sb w A S R) (x y : ByteArray) (t : Int) : Calls Try.prog 49 #[.pointer (some ⟨A, 0, none⟩), .agg #[.string x, .string y], .int .i64 t] w fun e w' => SpanAns w (span R x y t) e w' := by
  obtain ⟨G, rv, h, rfl⟩ := h
  exact span_any h x y t
theorem rows_b (h : Sb w A S R) : Calls Try.prog 35 #[.pointer (some ⟨A, 0, none⟩)] w fun e w' => RowsAns w R e w' := by
  obtain ⟨G, rv, h, rfl⟩ := h
  exact rows_any h
theorem new_any (w : World) : Calls Try.prog 26 #[] w fun e w' => e = .returned (.pointer (some ⟨w.heap.size, 0, none⟩)) ∧ Sb w' w.heap.size (fun k => k = w.heap.size) [] ∧ Below w.heap.size w w' := by
  have hP : Sb (w.alloc (.cells #[.slice none 0 0] 116)) w.heap.size (fun k => k = w.heap.size) [] := by
    refine ⟨[], .slice none 0 0, ⟨heap_alloc_new w _, World.ownsRow_nil _ _ _ _, fun g hg => (by cases hg), fun g hg => (by cases hg), List.Pairwise.nil, rfl, fun k e => (by cases e), fun g hg => (by cases hg), fun g hg => (by cases hg), fun k e => ?_, Nat.zero_le _, fun g hg => (by cases hg), ⟨List.Pairwise.nil, fun r hr => by cases hr⟩⟩, rfl⟩
    rw [show k = w.heap.size from e]
    simp
  have HP := Lib.hid hP
  clear hP
  go_enter Try.func26, Try.ntmps26
  go_wp2
  go_ret
  exact ⟨rfl, HP.out, (Below.refl _ _).alloc (Nat.le_refl _) _⟩
theorem put_nil (w : World) (k : ByteArray) (v : Ve) : Calls Try.prog 92 #[.pointer none, .string k, veV v] w fun e w' => e = .returned (.int .i64 2) ∧ Below w.heap.size w w' := by
  go_enter Try.func92, Try.ntmps92
  go_wp2
  go_ret
  exact ⟨rfl, (Below.refl _ _).alloc (Nat.le_refl _) _⟩
theorem span_nil (w : World) (x y : ByteArray) (t : Int) : Calls Try.prog 49 #[.pointer none, .agg #[.string x, .string y], .int .i64 t] w fun e w' => e = .returned (.slice none 0 0) ∧ Below w.heap.size w w' := by
  go_enter Try.func49, Try.ntmps49
  go_wp2
  refine bodyPost_ret (v := .slice none 0 0) (by simp [results, Try.results49, go_sem]) rfl ?_
  exact ⟨rfl, (Below.refl _ _).alloc (Nat.le_refl _) _⟩
theorem rows_nil (w : World) : Calls Try.prog 35 #[.pointer none] w fun e w' => e = .returned (.slice none 0 0) ∧ w' = w := by
  go_enter Try.func35, Try.ntmps35
  go_wp2
  refine bodyPost_ret (v := .slice none 0 0) (by simp [results, Try.results35, go_sem]) rfl ?_
  exact ⟨rfl, rfl⟩
theorem Sb.step {S' : Nat → Prop} (hlo : ∀ k, S k → w.heap.size ≤ k) (hb : Below w.heap.size w V) (hs : ∀ j, S' j → Gro S V W j) (hf : Fr V W S) : (∀ k, S' k → w.heap.size ≤ k) ∧ Below w.heap.size w W :=
  ⟨fun k q => gro_fresh hlo hb.size k (hs k q), fr_below hlo hb hf⟩
end
end Go.Proofs.Ytcoaahlakkghhaa
/- Arguments opened: a call, a list of calls, a span; each reads behind the call as before. -/
namespace Go.Proofs.Ytcoaahlakkghhaa
open Go.ChangeShapes Go.WideShapes Go.ChangeAt Go.WideMaps Go.WideElems Go.RowKit Go.Joins Go.Deep
open Go.ChangeMaps (open_string)

theorem own : ownKnob Try.prog.godebug = none := by kernel_rfl
theorem laidOut : laidOutB Try.prog = true := by kernel_rfl
theorem cells3 : Try.prog.cellsOf 3 = 1 := by kernel_rfl
theorem cells4 : Try.prog.cellsOf 4 = 1 := by kernel_rfl
theorem cells9 : Try.prog.cellsOf 9 = 1 := by kernel_rfl
theorem cells125 : Try.prog.cellsOf 125 = 3 := by kernel_rfl
theorem cells57 : Try.prog.cellsOf 57 = 2 := by kernel_rfl
theorem cell_lt {w : World} {a : Addr} {v : Value} (h : w.cell? a = some v) : a.block < w.heap.size := by
  rcases Nat.lt_or_ge a.block w.heap.size with h' | h'
  · exact h'
  · have e := Array.getElem?_eq_none h'
    simp [World.cell?, e] at h
/-- A number of the machine. -/
abbrev I64 (n : Int) : Prop := -9223372036854775808 ≤ n ∧ n ≤ 9223372036854775807
section
variable {H : Type} {enc : TypeId × Value → H} {W : World} {fuel : Nat} {cs : List Value} {x : DataW H × List MemPlace}
theorem reach_max {n : Nat} (h : n ≤ reachBytes) : n ≤ maxLen := by
  have hR := reachBytes_lt
  unfold maxLen
  omega
set_option maxRecDepth 100000 in
theorem ve_trod (hl : cs.length = 3) (hf : DataW.trod enc Try.prog W 0 (fun _ => true) true fuel 125 cs = some x) : ∃ v : Ve, cs = [.int .i64 v.ts, .string v.val, .bool v.dead] := by
  obtain ⟨xs, k, hk, hxy, _, hxl, hfl⟩ := DataW.trod_struct Try.underlying125 hf
  match xs, hxl, cs, hl with
  | [y0, y1, y2], _, [v0, v1, v2], _ =>
    have g0 := hfl 0 _ rfl
    have g1 := hfl 1 _ rfl
    have g2 := hfl 2 _ rfl
    simp [cells3, cells9, cells4] at g0 g1 g2
    obtain ⟨k0, f0, _, b0⟩ := DataW.trod_int Try.underlying3 g0
    obtain ⟨s, f1, _, _⟩ := DataW.trod_string Try.underlying9 g1
    obtain ⟨k2, f2, _⟩ := DataW.trod_bool Try.underlying4 g2
    simp at f0 f1 f2
    subst f0 f1 f2
    exact ⟨⟨k0, s, k2⟩, rfl⟩
set_option maxRecDepth 100000 in
theorem span_trod (hl : cs.length = 2) (hf : DataW.trod enc Try.prog W 0 (fun _ => true) true fuel 57 cs = some x) : ∃ s u : ByteArray, cs = [.string s, .string u] ∧ ((∀ n ∈ DataW.weights Try.prog 57 x.1, n ≤ reachBytes) → s.size ≤ maxLen ∧ u.size ≤ maxLen) := by
  obtain ⟨xs, k, hk, hxy, _, hxl, hfl⟩ := DataW.trod_struct Try.underlying57 hf
  match xs, hxl, cs, hl with
  | [y0, y1], _, [v0, v1], _ =>
    have g0 := hfl 0 _ rfl
    have g1 := hfl 1 _ rfl
    simp [cells9] at g0 g1
    obtain ⟨s, f0, e0, _⟩ := DataW.trod_string Try.underlying9 g0
    obtain ⟨u, f1, e1, _⟩ := DataW.trod_string Try.underlying9 g1
    simp at f0 f1
    subst f0 f1
    refine ⟨s, u, rfl, fun h => ?_⟩
    have e0' : y0.1 = _ := congrArg Prod.fst e0
    have e1' : y1.1 = _ := congrArg Prod.fst e1
    have hx : x.1 = .agg [y0.1, y1.1] := by rw [hxy]; rfl
    rw [hx] at h
    have h1 := h s.data.toList.length (by
      simp only [DataW.weights, Try.underlying57, DataW.weightsEach, List.map_cons, List.mem_append]
      rw [e0']
      simp [DataW.weights])
    have h2 := h u.data.toList.length (by
      simp only [DataW.weights, Try.underlying57, DataW.weightsEach, List.map_cons, List.mem_append]
      rw [e1']
      simp [DataW.weights])
    rw [Array.length_toList] at h1 h2
    exact ⟨reach_max h1, reach_max h2⟩
theorem weights_all {P : Program} {e : TypeId} {n : Nat} {d : DataW H} : ∀ {l : List (DataW H)}, d ∈ l → n ∈ d.weights P e → n ∈ DataW.weightsAll P e l
  | [], h, _ => by cases h
  | a :: l, h, hn => by
    simp only [DataW.weightsAll, List.mem_append]
    rcases List.mem_cons.1 h with rfl | h
    · exact .inl hn
    · exact .inr (weights_all h hn)
end
section
variable {H : Type} {enc : TypeId × Value → H}
set_option maxRecDepth 100000 in
theorem open_span {W : World} {base : Nat} {v : Value} {d : DataW H} {p : List MemPlace} (hv : Value.okWide Try.prog W .any base 57 v) (h : DataW.Trod enc Try.prog W 0 (fun _ => true) true 57 v d p) :
    ∃ s u : ByteArray, v = .agg #[.string s, .string u] ∧ ((∀ n ∈ DataW.weights Try.prog 57 d, n ≤ reachBytes) → s.size ≤ maxLen ∧ u.size ≤ maxLen) := by
  obtain ⟨cs, rfl, hsz⟩ := okWide_struct Try.underlying57 hv
  obtain ⟨fuel, hf⟩ := h
  obtain ⟨l⟩ := cs
  have hl : l.length = 2 := hsz.trans cells57
  obtain ⟨s, u, e, hz⟩ := span_trod (cs := l) hl hf
  subst e
  exact ⟨s, u, rfl, hz⟩
end
section
variable {H : Type} {enc : TypeId × Value → H}
theorem again_span {W W' : World} {v : Value} {d : DataW H} {p : List MemPlace} (h : DataW.Trod enc Try.prog W 0 (fun _ => true) true 57 v d p) (hb : Below W.heap.size W W') (hlt : ∀ x ∈ p, x.block < W.heap.size) : DataW.Trod enc Try.prog W' 0 (fun b => decide (b < W.heap.size)) true 57 v d p :=
  Below.trod laidOut (by kernel_rfl) (of_decide_eq_true (by kernel_rfl)) h hb hlt
theorem again_int {W W' : World} {v : Value} {d : DataW H} {p : List MemPlace} (h : DataW.Trod enc Try.prog W 0 (fun _ => true) true 3 v d p) (hb : Below W.heap.size W W') (hlt : ∀ x ∈ p, x.block < W.heap.size) : DataW.Trod enc Try.prog W' 0 (fun b => decide (b < W.heap.size)) true 3 v d p :=
  Below.trod laidOut (by kernel_rfl) (of_decide_eq_true (by kernel_rfl)) h hb hlt
theorem again_string {W W' : World} {v : Value} {d : DataW H} {p : List MemPlace} (h : DataW.Trod enc Try.prog W 0 (fun _ => true) true 9 v d p) (hb : Below W.heap.size W W') (hlt : ∀ x ∈ p, x.block < W.heap.size) : DataW.Trod enc Try.prog W' 0 (fun b => decide (b < W.heap.size)) true 9 v d p :=
  Below.trod laidOut (by kernel_rfl) (of_decide_eq_true (by kernel_rfl)) h hb hlt
end
end Go.Proofs.Ytcoaahlakkghhaa
