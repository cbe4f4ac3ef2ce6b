import Derived.Test.YtkfnphhoebknnaaQSc
import Derived.Test.YtkfnphhoebknnaaQSb
namespace Go.Proofs.Ytkfnphhoebknnaa
open Go.RowKit
theorem apart_set {G : List Gt} {g : Gt} {f : Gt → Value} {m i : Nat} (h : ∀ i j (hi : i < G.length) (hj : j < G.length), i ≠ j → ∀ b, (f G[i]).ownBlock = some b → (f G[j]).ownBlock ≠ some b) (hlt : ∀ x ∈ G, ∀ b, (f x).ownBlock = some b → b < m) (hg : ∀ b, (f g).ownBlock = some b → m ≤ b) : ∀ a b (ha : a < (G.set i g).length) (hb : b < (G.set i g).length), a ≠ b → ∀ k, (f (G.set i g)[a]).ownBlock = some k → (f (G.set i g)[b]).ownBlock ≠ some k := by
  intro a b ha hb hne k q
  rw [List.length_set] at ha hb
  rw [List.getElem_set] at q ⊢
  by_cases e1 : i = a
  · subst e1
    rw [if_pos rfl] at q
    rw [if_neg hne]
    intro z
    have z1 := hlt _ (List.getElem_mem hb) k z
    have z2 := hg k q
    omega
  · rw [if_neg e1] at q
    by_cases e2 : i = b
    · subst e2
      rw [if_pos rfl]
      intro z
      have z1 := hlt _ (List.getElem_mem ha) k q
      have z2 := hg k z
      omega
    · rw [if_neg e2]
      exact h a b ha hb hne k q
theorem flt {α : Type} {f : α → List Value} {c : Nat} (hc : ∀ x, (f x).length = c) : ∀ (L : List α) (k : Nat), (L.flatMap f).take (k * c) = (L.take k).flatMap f
  | [], k => by simp
  | x :: L, 0 => by simp
  | x :: L, k + 1 => by
    rw [List.flatMap_cons, List.take_succ_cons, List.flatMap_cons, Nat.succ_mul, Nat.add_comm, List.take_append, List.take_of_length_le (by rw [hc]; omega), hc, Nat.add_sub_cancel_left, flt hc L k]
theorem fld {α : Type} {f : α → List Value} {c : Nat} (hc : ∀ x, (f x).length = c) : ∀ (L : List α) (k : Nat), (L.flatMap f).drop (k * c) = (L.drop k).flatMap f
  | [], k => by simp
  | x :: L, 0 => by simp
  | x :: L, k + 1 => by
    rw [List.flatMap_cons, List.drop_succ_cons, Nat.succ_mul, Nat.add_comm, List.drop_append, List.drop_of_length_le (by rw [hc]; omega), hc, Nat.add_sub_cancel_left, List.nil_append, fld hc L k]
/-- One table is another one, with lists of its own. -/
theorem Dr.put {w w' : World} {B : Nat} {G : List Gt} {tv : Value} (h : Dr w B G tv) (hB : B ≤ w.heap.size) {i : Nat} (g : Gt) (hf : Fr w w' (fun k => tv.ownBlock = some k)) (hrow : w'.ownsRow 0 54 5 tv G.length ((G.set i g).flatMap gL))
    (hc : w'.ownsRow w.heap.size 65 7 g.2.1 g.1.cols.length (g.1.cols.flatMap colL)) (hi : w'.ownsRow w.heap.size 70 5 g.2.2.1 g.1.ixs.length (g.1.ixs.flatMap ixL)) (hk : w'.ownsRow w.heap.size 73 5 g.2.2.2 g.1.fks.length (g.1.fks.flatMap fkL)) : Dr w' B (G.set i g) tv := by
  have keep : ∀ {e : TypeId} {c n : Nat} {v : Value} {xs : List Value}, w.ownsRow B e c v n xs → (e = 65 ∨ e = 70 ∨ e = 73) → w'.ownsRow B e c v n xs := fun hr he => row_keep hr hf (fun j hj q => by
    obtain ⟨cs, t⟩ := own_tag hr j hj
    obtain ⟨cs2, t2⟩ := own_tag h.row j q
    rw [t2] at t
    simp only [Option.some.injEq, Obj.cells.injEq] at t
    have t3 := t.2.1
    rcases he with rfl | rfl | rfl <;> exact absurd t3 (by decide))
  refine ⟨by rw [List.length_set]; exact own_base hrow (fun k q => (own_ge h.row k q).1), ?_, ?_, ?_, ?_, ?_, ?_⟩
  · intro x hx
    rcases List.mem_or_eq_of_mem_set hx with q | q
    · exact keep (h.c x q) (.inl rfl)
    · rw [q]; exact own_mono hc hB
  · intro x hx
    rcases List.mem_or_eq_of_mem_set hx with q | q
    · exact keep (h.i x q) (.inr (.inl rfl))
    · rw [q]; exact own_mono hi hB
  · intro x hx
    rcases List.mem_or_eq_of_mem_set hx with q | q
    · exact keep (h.k x q) (.inr (.inr rfl))
    · rw [q]; exact own_mono hk hB
  · exact apart_set (f := fun x => x.2.1) h.apc (fun x hx b hb => (own_ge (h.c x hx) b hb).2) (fun b hb => (own_ge hc b hb).1)
  · exact apart_set (f := fun x => x.2.2.1) h.api (fun x hx b hb => (own_ge (h.i x hx) b hb).2) (fun b hb => (own_ge hi b hb).1)
  · exact apart_set (f := fun x => x.2.2.2) h.apk (fun x hx b hb => (own_ge (h.k x hx) b hb).2) (fun b hb => (own_ge hk b hb).1)
/-- Amid one table: its box, the new one's box. -/
structure SeJ (V wr : World) (Q Z : Nat) (tq xz : Array Value) : Prop where
  q : wr.heap[Q]? = some (.cells tq 54 (0, 0))
  z : wr.heap[Z]? = some (.cells xz 54 (0, 0))
  b : Below V.heap.size V wr
theorem keep51 {X X' : World} {B : Nat} {T : Nat → Prop} {cs : Array Value} {e : TypeId} {Z : Nat} (h : X.heap[Z]? = some (.cells cs 54 (0, 0))) (hf : Fr X X' T) (ht : ∀ k, T k → ∃ cs', X.heap[k]? = some (.cells cs' e (0, 0))) (he : e ≠ 54) (_ : B ≤ B) : X'.heap[Z]? = some (.cells cs 54 (0, 0)) := by
  rw [hf.block Z (blk_lt h) (fun q => by
    obtain ⟨cs', t⟩ := ht Z q
    rw [h] at t
    simp only [Option.some.injEq, Obj.cells.injEq] at t
    exact he t.2.1.symm)]
  exact h
theorem tab_put {w : World} {G : List Gt} {TB cap : Nat} {i : Nat} {y : Gt} {us : List Value} (h : w.ownsRow 0 54 5 (.slice (some ⟨TB, 0, none⟩) G.length cap) G.length (G.flatMap gL)) (hi : i < G.length) (hy : gL y = us) : ∃ w', w' = w.setCells TB (i * 5) us ∧ w'.ownsRow 0 54 5 (.slice (some ⟨TB, 0, none⟩) G.length cap) G.length ((G.set i y).flatMap gL) ∧ Fr w w' (fun k => k = TB) := by
  obtain ⟨cur, hg, h1, h2, h3, h4⟩ := row_blk h
  have hus : us.length = 5 := by rw [← hy]; rfl
  have hle : (i + 1) * 5 ≤ G.length * 5 := Nat.mul_le_mul_right 5 hi
  have hle2 : G.length * 5 ≤ cap * 5 := Nat.mul_le_mul_right 5 h1
  obtain ⟨⟨ds, g1, g2⟩, g3, g4, g5, g6, g7⟩ := setCells_gen us (i * 5) w cur hg (by omega)
  refine ⟨_, rfl, ⟨by rw [fl_len gL_len, List.length_set], .inr ⟨TB, cap, ds, rfl, Nat.zero_le _, g1, h1, h2, ?_, ?_⟩⟩, ⟨g5, g6, g7, by omega, fun k _ hk => g3 k hk⟩⟩
  · rw [← Array.length_toList, g2]
    simp only [List.length_append, List.length_take, List.length_drop, Array.length_toList]
    omega
  · have hlen : (cur.toList.take (i * 5)).length = i * 5 := by
      rw [List.length_take, Array.length_toList]
      omega
    have e1 : cur.toList.take (i * 5) = (G.take i).flatMap gL := by
      have := congrArg (List.take (i * 5)) h4
      rw [List.take_take, Nat.min_eq_left (by omega)] at this
      rw [this]
      exact flt gL_len G i
    have e2 : (cur.toList.drop (i * 5 + 5)).take (G.length * 5 - (i * 5 + 5)) = (G.drop (i + 1)).flatMap gL := by
      have := congrArg (List.drop (i * 5 + 5)) h4
      rw [List.drop_take] at this
      rw [this]
      have := fld gL_len G (i + 1)
      rw [Nat.succ_mul] at this
      exact this
    rw [g2, hus, List.take_append, List.take_of_length_le (by rw [List.length_append]; omega), List.length_append, hlen, hus, e2, e1, List.set_eq_take_append_cons_drop, if_pos hi, List.flatMap_append, List.flatMap_cons, hy, List.append_assoc]
theorem seen_set {l : List Tb} {i : Nat} {t : Tb} (hi : i < l.length) (ht : l[i] = t) : ((l.take i).map seenP ++ l.drop i).set i (seenP t) = (l.take (i + 1)).map seenP ++ l.drop (i + 1) := by
  have h1 : ((l.take i).map seenP).length = i := by rw [List.length_map, List.length_take]; omega
  rw [List.set_append_right _ _ (by omega), h1, Nat.sub_self, List.drop_eq_getElem_cons hi, List.set_cons_zero, List.take_succ_eq_append_getElem hi, List.map_append, ht]
  simp
section
variable {w : World}
set_option maxHeartbeats 16000000 in
set_option maxRecDepth 100000 in
theorem refseen_any {s : Sc} {tv : Value} (hL : Lr tbE 5 w s.tabs tv) (hz : Few s.tabs) : Calls Try.prog 13 #[scV s tv] w fun e w' => ∃ G tv', e = .returned (scV s tv') ∧ G.map Prod.fst = s.tabs.map seenP ∧ Dr w' w.heap.size G tv' ∧ Below w.heap.size w w' := by
  obtain ⟨ta, tc, rfl, q0, q1, q2, hX⟩ := hL
  have hL : Lr tbE 5 w s.tabs (.slice ta s.tabs.length tc) := ⟨ta, tc, rfl, q0, q1, q2, hX⟩
  have hmx : (s.tabs.length : Int) ≤ 9223372036854775807 := by unfold maxLen at q2; omega
  obtain ⟨W, hW⟩ : ∃ W, W = (w.alloc (.cells #[.int .i64 s.ver, .int .i64 s.last, .slice ta s.tabs.length tc] 24)).alloc (.cells #[.int .i64 0, .int .i64 0, .slice none 0 0] 24) := ⟨_, rfl⟩
  have hbW : Below w.heap.size w W := by rw [hW]; exact ((Below.refl _ w).alloc (Nat.le_refl _) _).alloc (by simp) _
  obtain ⟨Y0, hY0⟩ : ∃ Y0, w.heap.size = Y0 := ⟨_, rfl⟩
  obtain ⟨Y1, hY1⟩ : ∃ Y1, Y0 + 1 = Y1 := ⟨_, rfl⟩
  have jY0 : W.heap[Y0]? = some (.cells #[.int .i64 s.ver, .int .i64 s.last, .slice ta s.tabs.length tc] 24 (0, 0)) := by
    have := heap_alloc_new w (.cells #[.int .i64 s.ver, .int .i64 s.last, .slice ta s.tabs.length tc] 24)
    rw [hW, ← hY0]
    rw [Below.heap_alloc _ _ _ (by simp only [World.size_alloc]; omega)]
    exact this
  have jY1 : W.heap[Y1]? = some (.cells #[.int .i64 0, .int .i64 0, .slice none 0 0] 24 (0, 0)) := by
    have := heap_alloc_new (w.alloc (.cells #[.int .i64 s.ver, .int .i64 s.last, .slice ta s.tabs.length tc] 24)) (.cells #[.int .i64 0, .int .i64 0, .slice none 0 0] 24)
    simp only [World.size_alloc] at this
    rw [hW, ← hY1, ← hY0]
    exact this
  have hge0 : w.heap.size ≤ Y0 := by omega
  have hge1 : w.heap.size ≤ Y1 := by omega
  have d0 : W.cell? ⟨Y0, 0, none⟩ = some (.int .i64 s.ver) := cell_blk jY0 0
  have d1 : W.cell? ⟨Y0, 1, none⟩ = some (.int .i64 s.last) := cell_blk jY0 1
  have d2 : W.cell? ⟨Y0, 2, none⟩ = some (.slice ta s.tabs.length tc) := cell_blk jY0 2
  have hcp := copy_any (hL.on tbE_held hbW) hz
  have J0 := Lib.hid jY0
  have J1 := Lib.hid jY1
  have HZ := Lib.hid hz
  have GE := Lib.hid (And.intro hge0 hge1)
  have HYY : Hid (Y0 ≠ Y1) := Lib.hid (by omega)
  have HW := Lib.hid hW
  have HBW := Lib.hid hbW
  have HY0 := Lib.hid hY0
  have HY1 := Lib.hid hY1
  clear hW hbW hY0 hY1
  clear jY0 jY1 hX hL hz q0 q1 q2 hge0 hge1
  go_enter Try.func13, Try.ntmps13
  go_upto_region 1 with fail
  rw [← HW.out, HY0.out, HY1.out]
  go_wp2_with (go_at_call 30; refine hcp.mono ?_; rintro e w1 ⟨G0, tv', rfl, hG0, hD0, b1⟩; refine Hid.out ?_)
  refine Lib.hid ?_
  have hGl0 : G0.length = s.tabs.length := by rw [← hG0, List.length_map]
  obtain ⟨tad, tcap, hsh⟩ := own_shape hD0.row
  subst hsh
  have j0 := (b1.block Y0 (blk_lt J0.out)).trans J0.out
  have j1 := (b1.block Y1 (blk_lt J1.out)).trans J1.out
  obtain ⟨X1, e1, jx1, f1⟩ := sets_row j0 (scA s (.slice tad G0.length tcap)) rfl
  have hst : (Instr.storeAt 24 (.pointer (some ⟨Y0, 0, none⟩)) (.agg (scA s (.slice tad G0.length tcap)))).run Try.prog w1 = .ok () X1 := by
    rw [e1]
    exact store_row j0 rfl size24 (by simp [Value.oneCell'])
  have hDX : Dr X1 W.heap.size G0 (.slice tad G0.length tcap) := hD0.keep f1 (fun k hk => .inl (by rw [hk]; exact blk_lt J0.out))
  have JX1 := Lib.hid jx1
  have J1X : Hid (X1.heap[Y1]? = some (.cells #[.int .i64 0, .int .i64 0, .slice none 0 0] 24 (0, 0))) := Lib.hid (by rw [f1.block Y1 (blk_lt j1) (fun q => HYY.out q.symm)]; exact j1)
  have HBX : Hid (Below w.heap.size w X1) := Lib.hid ((bgo HBW.out b1).trans (f1.toBelow (fun k hk q => by have := GE.out; omega) (bgo HBW.out b1).size))
  have HWX : Hid (W.heap.size ≤ X1.heap.size) := Lib.hid (Nat.le_trans b1.size f1.size)
  have HDX := Lib.hid hDX
  have HG0 := Lib.hid hG0
  have HGL := Lib.hid hGl0
  clear hcp d0 d1 d2 hG0 hD0 b1 hGl0 j0 j1 e1 jx1 f1 hDX
  go_wp2_with (refine wpl_store _ _ rfl (by simp [Act.eval]) (by simp [Act.eval]) hst ?_)
  clear hst
  obtain ⟨W0, rfl⟩ : ∃ W0, W0 = W := ⟨_, rfl⟩
  obtain ⟨W, rfl⟩ : ∃ W, W = X1 := ⟨_, rfl⟩
  go_loopw [3] (fun iv wr => ∃ (i : Nat) (G : List Gt), i ≤ s.tabs.length ∧ iv = .int .i64 (i : Int) ∧ G.map Prod.fst = (s.tabs.take i).map seenP ++ s.tabs.drop i ∧ Dr wr W0.heap.size G (.slice tad G.length tcap) ∧ wr.heap[Y0]? = some (.cells (scA s (.slice tad G.length tcap)) 24 (0, 0)) ∧ Below W0.heap.size W wr) (fun iv _ => s.tabs.length - (intOf iv).toNat)
  case atStart => exact ⟨0, G0, Nat.zero_le _, rfl, by rw [HG0.out]; simp, HDX.out, JX1.out, Below.refl _ _⟩
  case round =>
    obtain ⟨i, G, hi, rfl, hG, hD, jV, hb⟩ := hrel
    obtain ⟨V, rfl⟩ : ∃ V, V = wr := ⟨_, rfl⟩
    have hGl : G.length = s.tabs.length := by
      have := congrArg List.length hG
      simp only [List.length_map, List.length_append, List.length_take, List.length_drop] at this
      omega
    have HB := Lib.hid hb
    have HD := Lib.hid hD
    have HG := Lib.hid hG
    have HL := Lib.hid hGl
    have JV := Lib.hid jV
    have HWV : Hid (W0.heap.size ≤ V.heap.size) := Lib.hid (Nat.le_trans HWX.out hb.size)
    have y0 : V.cell? ⟨Y0, 2, none⟩ = some (.slice tad G.length tcap) := cell_blk jV 2
    have hmg : (G.length : Int) ≤ 9223372036854775807 := by rw [hGl]; exact hmx
    by_cases hlt : i < s.tabs.length
    · have hiG : i < G.length := by omega
      have k0 : (0 : Int) ≤ i := by omega
      have k1 : (i : Int) < G.length := by omega
      have HiL := Lib.hid hlt
      obtain ⟨t, ht⟩ : ∃ t, s.tabs[i] = t := ⟨_, rfl⟩
      have HTT := Lib.hid ht
      have hgt : G[i].1 = t := by
        have e0 : (G.map Prod.fst)[i]'(by rw [List.length_map]; exact hiG) = G[i].1 := List.getElem_map ..
        rw [← e0, List.getElem_of_eq hG, List.getElem_append_right (by simp only [List.length_map, List.length_take]; omega), List.getElem_drop]
        simp only [List.length_map, List.length_take, Nat.min_eq_left (Nat.le_of_lt hlt), Nat.sub_self, Nat.add_zero]
        exact ht
      have htf : t.few := by rw [← ht]; exact HZ.out.2 _ (List.getElem_mem hlt)
      have HF := Lib.hid htf
      obtain ⟨g, hg⟩ : ∃ g, G[i] = g := ⟨_, rfl⟩
      have hgm : g ∈ G := by rw [← hg]; exact List.getElem_mem hiG
      rw [hg] at hgt
      have h3 := hD.three hgm
      obtain ⟨_, _, e9, _, _, _, hcs⟩ := Lr.own gL_len hD.row
      obtain ⟨TB, p, cs, ha, hbl, hE, _, hcell⟩ := hcs i hiG
      cases e9
      obtain ⟨g1, cv, iv, kv⟩ := g
      simp only at hgt h3
      subst hgt
      obtain ⟨t, rfl⟩ : ∃ t, t = g1 := ⟨_, rfl⟩
      obtain ⟨ca, cc, rfl, _, _, zc, _⟩ := h3.c
      obtain ⟨ia, ic, rfl, _, _, zi, _⟩ := h3.i
      obtain ⟨ka, kc, rfl, _, _, zk, _⟩ := h3.k
      have hE' : cs = gL (t, .slice ca t.cols.length cc, .slice ia t.ixs.length ic, .slice ka t.fks.length kc) := by rw [← hg]; exact hE
      subst hE'
      subst ha
      have hp : p = 0 := by
        rcases hD.row.2 with ⟨hv, _⟩ | ⟨g', cap', cur, hv, _⟩
        · cases hv
        · cases hv; rfl
      subst hp
      have c0 : V.cell? ⟨TB, i * 5, none⟩ = some (.int .i64 t.id) := by have := hcell 0 _ rfl; simpa using this
      have c1 : V.cell? ⟨TB, i * 5 + 1, none⟩ = some (.string t.nm) := by have := hcell 1 _ rfl; simpa using this
      have c2 : V.cell? ⟨TB, i * 5 + 2, none⟩ = some (.slice ca t.cols.length cc) := by have := hcell 2 _ rfl; simpa using this
      have c3 : V.cell? ⟨TB, i * 5 + 3, none⟩ = some (.slice ia t.ixs.length ic) := by have := hcell 3 _ rfl; simpa using this
      have c4 : V.cell? ⟨TB, i * 5 + 4, none⟩ = some (.slice ka t.fks.length kc) := by have := hcell 4 _ rfl; simpa using this
      obtain ⟨cap, rfl⟩ : ∃ c, c = tcap := ⟨_, rfl⟩
      obtain ⟨cv, hcv⟩ : ∃ v, v = Value.slice ca t.cols.length cc := ⟨_, rfl⟩
      obtain ⟨iv, hiv⟩ : ∃ v, v = Value.slice ia t.ixs.length ic := ⟨_, rfl⟩
      obtain ⟨kv, hkv⟩ : ∃ v, v = Value.slice ka t.fks.length kc := ⟨_, rfl⟩
      obtain ⟨pc, hpc⟩ : ∃ n, t.cols.length = n := ⟨_, rfl⟩
      obtain ⟨pi, hpi⟩ : ∃ n, t.ixs.length = n := ⟨_, rfl⟩
      obtain ⟨pk, hpk⟩ : ∃ n, t.fks.length = n := ⟨_, rfl⟩
      have lpc : (pc : Int) ≤ 9223372036854775807 := by have := htf.1; omega
      have lpi : (pi : Int) ≤ 9223372036854775807 := by have := htf.2.1; omega
      have lpk : (pk : Int) ≤ 9223372036854775807 := by have := htf.2.2; omega
      have HLC := Lib.hid h3.c
      have HLI := Lib.hid h3.i
      have HLK := Lib.hid h3.k
      have Hpc := Lib.hid hpc
      have Hpi := Lib.hid hpi
      have Hpk := Lib.hid hpk
      obtain ⟨V2, hV2⟩ : ∃ V2, V2 = (V.alloc (.cells (tbA t (.slice ca t.cols.length cc) (.slice ia t.ixs.length ic) (.slice ka t.fks.length kc)) 54)).alloc (.cells #[.int .i64 t.id, .string t.nm, .slice none 0 0, .slice none 0 0, .slice none 0 0] 54) := ⟨_, rfl⟩
      obtain ⟨Q, hQ⟩ : ∃ Q, V.heap.size = Q := ⟨_, rfl⟩
      obtain ⟨Z, hZ⟩ : ∃ Z, Q + 1 = Z := ⟨_, rfl⟩
      have jQ : V2.heap[Q]? = some (.cells (tbA t (.slice ca t.cols.length cc) (.slice ia t.ixs.length ic) (.slice ka t.fks.length kc)) 54 (0, 0)) := by
        have := heap_alloc_new V (.cells (tbA t (.slice ca t.cols.length cc) (.slice ia t.ixs.length ic) (.slice ka t.fks.length kc)) 54)
        rw [hV2, ← hQ, Below.heap_alloc _ _ _ (by simp only [World.size_alloc]; omega)]
        exact this
      have jZ : V2.heap[Z]? = some (.cells #[.int .i64 t.id, .string t.nm, .slice none 0 0, .slice none 0 0, .slice none 0 0] 54 (0, 0)) := by
        have := heap_alloc_new (V.alloc (.cells (tbA t (.slice ca t.cols.length cc) (.slice ia t.ixs.length ic) (.slice ka t.fks.length kc)) 54)) (.cells #[.int .i64 t.id, .string t.nm, .slice none 0 0, .slice none 0 0, .slice none 0 0] 54)
        simp only [World.size_alloc] at this
        rw [hV2, ← hZ, ← hQ]
        exact this
      have HZV : Hid (V.heap.size ≤ Z) := Lib.hid (by omega)
      have HQZ : Hid (Q ≠ Z) := Lib.hid (by omega)
      obtain ⟨tq, htq⟩ : ∃ tq, tq = tbA t (.slice ca t.cols.length cc) (.slice ia t.ixs.length ic) (.slice ka t.fks.length kc) := ⟨_, rfl⟩
      have HT2 : Hid (tq[2]? = some (.slice ca pc cc)) := Lib.hid (by rw [htq, ← hpc]; rfl)
      have HT3 : Hid (tq[3]? = some (.slice ia pi ic)) := Lib.hid (by rw [htq, ← hpi]; rfl)
      have HT4 : Hid (tq[4]? = some (.slice ka pk kc)) := Lib.hid (by rw [htq, ← hpk]; rfl)
      rw [← htq] at jQ
      have S0 : Hid (SeJ V V2 Q Z tq #[.int .i64 t.id, .string t.nm, .slice none (seC (t.cols.take 0)).length 0, .slice none 0 0, .slice none 0 0]) := Lib.hid ⟨jQ, jZ, by rw [hV2]; exact bgo (bnew _ _) (bnew _ _)⟩
      have HV2 := Lib.hid hV2
      have HQ := Lib.hid hQ
      have HZZ := Lib.hid hZ
      clear htq hcs hcell hE hbl h3 hg hgm hD hG hGl jV hb ht htf hV2 hQ hZ jQ jZ hcv hiv hkv cv iv kv zc zi zk hpc hpi hpk
      go_upto_region 7 with fail
      rw [← HV2.out, HQ.out, HZZ.out]
      clear c0 c1 c2 c3 c4 y0
      go_wp2
      go_loopw [6] (fun iv wr => ∃ (k : Nat) (oa : Option Addr) (oc : Nat), k ≤ pc ∧ iv = .int .i64 (k : Int) ∧ SeJ V wr Q Z tq #[.int .i64 t.id, .string t.nm, (.slice oa (seC (t.cols.take k)).length oc), (.slice none 0 0), (.slice none 0 0)] ∧ wr.ownsRow V.heap.size 65 7 (.slice oa (seC (t.cols.take k)).length oc) (seC (t.cols.take k)).length ((seC (t.cols.take k)).flatMap colL)) (fun iv _ => pc - (intOf iv).toNat)
      case atStart => exact ⟨0, none, 0, Nat.zero_le _, rfl, S0.out, World.ownsRow_nil _ _ 65 7⟩
      case round =>
        clear S0
        obtain ⟨k, oa, oc, hk, rfl, hS, ho⟩ := hrel
        obtain ⟨U, rfl⟩ : ∃ U, U = wr := ⟨_, rfl⟩
        have HS := Lib.hid hS
        have HO := Lib.hid ho
        obtain ⟨m, hm⟩ : ∃ m, (seC (t.cols.take k)).length = m := ⟨_, rfl⟩
        have hml : m ≤ 1000000 := by
          have q1 : (seC (t.cols.take k)).length ≤ (t.cols.take k).length := List.length_filter_le _ _
          have q2 : (t.cols.take k).length ≤ t.cols.length := by rw [List.length_take]; omega
          have q3 := HF.out.1
          omega
        have HM := Lib.hid hm
        have cq : U.cell? ⟨Q, 2, none⟩ = some (.slice ca pc cc) := (cell_blk hS.q 2).trans HT2.out
        by_cases hltk : k < pc
        · have hkL : k < t.cols.length := by rw [Hpc.out]; exact hltk
          have m0 : (0 : Int) ≤ k := by omega
          have m1 : (k : Int) < pc := by omega
          obtain ⟨_, _, e1, _, _, _, hcs⟩ := HLC.out.on colE_held hS.b
          obtain ⟨b3, o3, cs3, ha, _, hE, _, hcell⟩ := hcs k hkL
          have hE' : cs3 = colL t.cols[k] := hE
          subst hE'
          simp only [Value.slice.injEq] at e1
          obtain ⟨rfl, _, rfl⟩ := e1
          subst ha
          have hnx := seC_next hkL
          obtain ⟨y, hy⟩ : ∃ y, t.cols[k] = y := ⟨_, rfl⟩
          rw [hy] at hcell hnx
          have HNX := Lib.hid hnx
          have d0 : U.cell? ⟨b3, o3 + k * 7, none⟩ = some (.int .i64 y.id) := hcell 0 _ rfl
          have d1 : U.cell? ⟨b3, o3 + k * 7 + 1, none⟩ = some (.string y.nm) := hcell 1 _ rfl
          have d2 : U.cell? ⟨b3, o3 + k * 7 + 2, none⟩ = some (.int .i64 y.kd) := hcell 2 _ rfl
          have d3 : U.cell? ⟨b3, o3 + k * 7 + 3, none⟩ = some (.int .i64 y.st) := hcell 3 _ rfl
          have d4 : U.cell? ⟨b3, o3 + k * 7 + 4, none⟩ = some (.int .i64 y.df.k) := hcell 4 _ rfl
          have d5 : U.cell? ⟨b3, o3 + k * 7 + 5, none⟩ = some (.int .i64 y.df.n) := hcell 5 _ rfl
          have d6 : U.cell? ⟨b3, o3 + k * 7 + 6, none⟩ = some (.string y.df.s) := hcell 6 _ rfl
          obtain ⟨st, hst⟩ : ∃ st, y.st = st := ⟨_, rfl⟩
          rw [hst] at d3 HNX
          clear hcs hcell hE hnx hy
          by_cases q : st = 3
          · subst q
            have HN3 : Hid (seC (t.cols.take (k + 1)) = seC (t.cols.take k) ++ [y]) := Lib.hid (by rw [HNX.out, if_pos rfl])
            have bD : Below U.heap.size U U.drew := bdrew (Below.refl _ _)
            obtain ⟨nad2, ncap2, w2, hrun, r1, r2, r3⟩ := pushC (X := U.drew) (own_mono (own_below ho bD) (Nat.zero_le _)) y (by rw [hm]; exact hml)
            have fU : Fr U w2 (fun j => (Value.slice oa m oc).ownBlock = some j) := by rw [← hm]; exact (Fr.ofBelow _ bD).trans r2
            have tg : ∀ j, (Value.slice oa m oc).ownBlock = some j → ∃ cs', U.heap[j]? = some (.cells cs' 65 (0, 0)) := fun j hj => own_tag ho j (by rw [hm]; exact hj)
            have jz : w2.heap[Z]? = some (.cells #[.int .i64 t.id, .string t.nm, (.slice oa m oc), (.slice none 0 0), (.slice none 0 0)] 54 (0, 0)) := by
              have := keep51 (B := 0) hS.z fU tg (by decide) (Nat.le_refl _)
              rw [← hm]
              exact this
            have jq : w2.heap[Q]? = some (.cells tq 54 (0, 0)) := keep51 (B := 0) hS.q fU tg (by decide) (Nat.le_refl _)
            have bw : Below V.heap.size V w2 := hS.b.trans (fU.toBelow (fun j hj z => by
              have := (own_ge ho j (by rw [hm]; exact z)).1
              omega) hS.b.size)
            have rr : w2.ownsRow V.heap.size 65 7 (.slice nad2 (m + 1) ncap2) (seC (t.cols.take (k + 1))).length ((seC (t.cols.take (k + 1))).flatMap colL) := by
              rw [HN3.out]
              rw [hm] at r1 r3
              refine own_base r1 (fun j hj => ?_)
              rcases r3 j hj with z | z
              · exact (own_ge ho j (by rw [hm]; exact z)).1
              · exact Nat.le_trans (bdrew hS.b).size z
            have hl2 : (seC (t.cols.take (k + 1))).length = m + 1 := by rw [HN3.out, List.length_append, hm]; rfl
            obtain ⟨X1, hX1⟩ : ∃ X1, X1 = w2.setCell ⟨Z, 2, none⟩ (.slice nad2 (m + 1) ncap2) := ⟨_, rfl⟩
            have hZV : V.heap.size ≤ Z := HZV.out
            have hne : Q ≠ Z := HQZ.out
            have SX : Hid (SeJ V X1 Q Z tq #[.int .i64 t.id, .string t.nm, (.slice nad2 (seC (t.cols.take (k + 1))).length ncap2), (.slice none 0 0), (.slice none 0 0)]) := by
              rw [hX1, hl2]
              exact ⟨by rw [set_other _ hne]; exact jq, set_blk jz _, bw.setCell hZV _⟩
            have RX : Hid (X1.ownsRow V.heap.size 65 7 (.slice nad2 (seC (t.cols.take (k + 1))).length ncap2) (seC (t.cols.take (k + 1))).length ((seC (t.cols.take (k + 1))).flatMap colL)) := by
              have q9 := own_off (u := .slice nad2 (m + 1) ncap2) (j := 2) (by decide) jz rr
              rw [hX1]
              rw [hl2] at q9 ⊢
              exact q9
            have c9 : w2.cell? ⟨Z, 2, none⟩ = some (.slice oa m oc) := cell_blk jz 2
            have f9 : w2.frozen? ⟨Z, 2, none⟩ = false := frozen_blk jz 2
            have cz : U.cell? ⟨Z, 2, none⟩ = some (.slice oa m oc) := by rw [← hm]; exact cell_blk hS.z 2
            have cz2 : (U.alloc (.cells #[.int .i64 y.id, .string y.nm, .int .i64 y.kd, .int .i64 3, .int .i64 y.df.k, .int .i64 y.df.n, .string y.df.s] 65)).cell? ⟨Z, 2, none⟩ = some (.slice oa m oc) := cell_on (bnew _ _) cz
            rw [hm] at hrun
            have hrun' : (Builtin.append_ #[42, 42] 42 #[.slice oa m oc, .slice (some ⟨U.heap.size, 0, none⟩) 1 1]).run Try.prog (U.drew.alloc (.cells #[.int .i64 y.id, .string y.nm, .int .i64 y.kd, .int .i64 3, .int .i64 y.df.k, .int .i64 y.df.n, .string y.df.s] 65)) = .ok (.slice nad2 (m + 1) ncap2) w2 := by
              rw [← hst]
              exact hrun
            have HX1 := Lib.hid hX1
            clear hS ho hm bD r1 r2 r3 fU tg jz jq bw rr hl2 hX1 hZV hne hrun hst
            go_upto_region 11 with fail
            go_region_law (refine step_run (.tmp 43) (.tmp 49) rfl rfl hrun' ?_)
            all_goals
              rw [← HX1.out]
              go_wp2
              go_roundw
              case rel => exact ⟨k + 1, nad2, ncap2, hltk, by go_num, SX.out, RX.out⟩
              case measure => simp [intOf]; omega
          · have HN3 : Hid (seC (t.cols.take (k + 1)) = seC (t.cols.take k)) := Lib.hid (by rw [HNX.out, if_neg q])
            clear hS ho hm hst
            go_wp2
            go_roundw
            case rel => exact ⟨k + 1, oa, oc, hltk, by go_num, by rw [HN3.out]; exact HS.out, by rw [HN3.out]; exact HO.out⟩
            case measure => simp [intOf]; omega
        · have m1 : ¬ ((k : Int) < pc) := by omega
          have ei : (t.cols.take k) = t.cols := List.take_of_length_le (by rw [Hpc.out]; omega)
          rw [ei] at hS ho
          obtain ⟨xa, rfl⟩ : ∃ a, a = oa := ⟨_, rfl⟩
          obtain ⟨xc, rfl⟩ : ∃ a, a = oc := ⟨_, rfl⟩
          have S0 : Hid (SeJ V U Q Z tq #[.int .i64 t.id, .string t.nm, .slice xa (seC t.cols).length xc, .slice none (seI (t.ixs.take 0)).length 0, .slice none 0 0]) := Lib.hid hS
          have RC0 := Lib.hid ho
          clear hS ho hm ei HS HO
          go_wp2
          go_loopw [7] (fun iv wr => ∃ (k : Nat) (oa : Option Addr) (oc : Nat), k ≤ pi ∧ iv = .int .i64 (k : Int) ∧ SeJ V wr Q Z tq #[.int .i64 t.id, .string t.nm, .slice xa (seC t.cols).length xc, (.slice oa (seI (t.ixs.take k)).length oc), (.slice none 0 0)] ∧ wr.ownsRow V.heap.size 70 5 (.slice oa (seI (t.ixs.take k)).length oc) (seI (t.ixs.take k)).length ((seI (t.ixs.take k)).flatMap ixL) ∧ wr.ownsRow V.heap.size 65 7 (.slice xa (seC t.cols).length xc) (seC t.cols).length ((seC t.cols).flatMap colL)) (fun iv _ => pi - (intOf iv).toNat)
          case atStart => exact ⟨0, none, 0, Nat.zero_le _, rfl, S0.out, World.ownsRow_nil _ _ 70 5, RC0.out⟩
          case round =>
            clear S0
            obtain ⟨k, oa, oc, hk, rfl, hS, ho, rc⟩ := hrel
            obtain ⟨U, rfl⟩ : ∃ U, U = wr := ⟨_, rfl⟩
            have HS := Lib.hid hS
            have HO := Lib.hid ho
            have RC := Lib.hid rc
            obtain ⟨m, hm⟩ : ∃ m, (seI (t.ixs.take k)).length = m := ⟨_, rfl⟩
            have hml : m ≤ 1000000 := by
              have q1 : (seI (t.ixs.take k)).length ≤ (t.ixs.take k).length := List.length_filter_le _ _
              have q2 : (t.ixs.take k).length ≤ t.ixs.length := by rw [List.length_take]; omega
              have q3 := HF.out.2.1
              omega
            have HM := Lib.hid hm
            have cq : U.cell? ⟨Q, 3, none⟩ = some (.slice ia pi ic) := (cell_blk hS.q 3).trans HT3.out
            by_cases hltk : k < pi
            · have hkL : k < t.ixs.length := by rw [Hpi.out]; exact hltk
              have m0 : (0 : Int) ≤ k := by omega
              have m1 : (k : Int) < pi := by omega
              obtain ⟨_, _, e1, _, _, _, hcs⟩ := HLI.out.on ixE_held hS.b
              obtain ⟨b3, o3, cs3, ha, _, hE, _, hcell⟩ := hcs k hkL
              have hE' : cs3 = ixL t.ixs[k] := hE
              subst hE'
              simp only [Value.slice.injEq] at e1
              obtain ⟨rfl, _, rfl⟩ := e1
              subst ha
              have hnx := seI_next hkL
              obtain ⟨y, hy⟩ : ∃ y, t.ixs[k] = y := ⟨_, rfl⟩
              rw [hy] at hcell hnx
              have HNX := Lib.hid hnx
              have d0 : U.cell? ⟨b3, o3 + k * 5, none⟩ = some (.int .i64 y.id) := hcell 0 _ rfl
              have d1 : U.cell? ⟨b3, o3 + k * 5 + 1, none⟩ = some (.string y.nm) := hcell 1 _ rfl
              have d2 : U.cell? ⟨b3, o3 + k * 5 + 2, none⟩ = some (.int .i64 y.col) := hcell 2 _ rfl
              have d3 : U.cell? ⟨b3, o3 + k * 5 + 3, none⟩ = some (.bool y.uq) := hcell 3 _ rfl
              have d4 : U.cell? ⟨b3, o3 + k * 5 + 4, none⟩ = some (.int .i64 y.st) := hcell 4 _ rfl
              obtain ⟨st, hst⟩ : ∃ st, y.st = st := ⟨_, rfl⟩
              rw [hst] at d4 HNX
              clear hcs hcell hE hnx hy
              by_cases q : st = 3
              · subst q
                have HN3 : Hid (seI (t.ixs.take (k + 1)) = seI (t.ixs.take k) ++ [y]) := Lib.hid (by rw [HNX.out, if_pos rfl])
                have bD : Below U.heap.size U U.drew := bdrew (Below.refl _ _)
                obtain ⟨nad2, ncap2, w2, hrun, r1, r2, r3⟩ := pushI (X := U.drew) (own_mono (own_below ho bD) (Nat.zero_le _)) y (by rw [hm]; exact hml)
                have fU : Fr U w2 (fun j => (Value.slice oa m oc).ownBlock = some j) := by rw [← hm]; exact (Fr.ofBelow _ bD).trans r2
                have tg : ∀ j, (Value.slice oa m oc).ownBlock = some j → ∃ cs', U.heap[j]? = some (.cells cs' 70 (0, 0)) := fun j hj => own_tag ho j (by rw [hm]; exact hj)
                have jz : w2.heap[Z]? = some (.cells #[.int .i64 t.id, .string t.nm, .slice xa (seC t.cols).length xc, (.slice oa m oc), (.slice none 0 0)] 54 (0, 0)) := by
                  have := keep51 (B := 0) hS.z fU tg (by decide) (Nat.le_refl _)
                  rw [← hm]
                  exact this
                have jq : w2.heap[Q]? = some (.cells tq 54 (0, 0)) := keep51 (B := 0) hS.q fU tg (by decide) (Nat.le_refl _)
                have bw : Below V.heap.size V w2 := hS.b.trans (fU.toBelow (fun j hj z => by
                  have := (own_ge ho j (by rw [hm]; exact z)).1
                  omega) hS.b.size)
                have rr : w2.ownsRow V.heap.size 70 5 (.slice nad2 (m + 1) ncap2) (seI (t.ixs.take (k + 1))).length ((seI (t.ixs.take (k + 1))).flatMap ixL) := by
                  rw [HN3.out]
                  rw [hm] at r1 r3
                  refine own_base r1 (fun j hj => ?_)
                  rcases r3 j hj with z | z
                  · exact (own_ge ho j (by rw [hm]; exact z)).1
                  · exact Nat.le_trans (bdrew hS.b).size z
                have hl2 : (seI (t.ixs.take (k + 1))).length = m + 1 := by rw [HN3.out, List.length_append, hm]; rfl
                obtain ⟨X1, hX1⟩ : ∃ X1, X1 = w2.setCell ⟨Z, 3, none⟩ (.slice nad2 (m + 1) ncap2) := ⟨_, rfl⟩
                have hZV : V.heap.size ≤ Z := HZV.out
                have hne : Q ≠ Z := HQZ.out
                have SX : Hid (SeJ V X1 Q Z tq #[.int .i64 t.id, .string t.nm, .slice xa (seC t.cols).length xc, (.slice nad2 (seI (t.ixs.take (k + 1))).length ncap2), (.slice none 0 0)]) := by
                  rw [hX1, hl2]
                  exact ⟨by rw [set_other _ hne]; exact jq, set_blk jz _, bw.setCell hZV _⟩
                have RX : Hid (X1.ownsRow V.heap.size 70 5 (.slice nad2 (seI (t.ixs.take (k + 1))).length ncap2) (seI (t.ixs.take (k + 1))).length ((seI (t.ixs.take (k + 1))).flatMap ixL)) := by
                  have q9 := own_off (u := .slice nad2 (m + 1) ncap2) (j := 3) (by decide) jz rr
                  rw [hX1]
                  rw [hl2] at q9 ⊢
                  exact q9
                have rcX : Hid (X1.ownsRow V.heap.size 65 7 (.slice xa (seC t.cols).length xc) (seC t.cols).length ((seC t.cols).flatMap colL)) := by
                  rw [hX1]
                  exact own_off (by decide) jz (keep_rowB rc fU (fun j hj cs z => by
                    obtain ⟨cs', z2⟩ := tg j hj
                    rw [z2] at z
                    simp only [Option.some.injEq, Obj.cells.injEq] at z
                    exact absurd z.2.1 (by decide)))
                have c9 : w2.cell? ⟨Z, 3, none⟩ = some (.slice oa m oc) := cell_blk jz 3
                have f9 : w2.frozen? ⟨Z, 3, none⟩ = false := frozen_blk jz 3
                have cz : U.cell? ⟨Z, 3, none⟩ = some (.slice oa m oc) := by rw [← hm]; exact cell_blk hS.z 3
                have cz2 : (U.alloc (.cells #[.int .i64 y.id, .string y.nm, .int .i64 y.col, .bool y.uq, .int .i64 3] 70)).cell? ⟨Z, 3, none⟩ = some (.slice oa m oc) := cell_on (bnew _ _) cz
                rw [hm] at hrun
                have hrun' : (Builtin.append_ #[51, 51] 51 #[.slice oa m oc, .slice (some ⟨U.heap.size, 0, none⟩) 1 1]).run Try.prog (U.drew.alloc (.cells #[.int .i64 y.id, .string y.nm, .int .i64 y.col, .bool y.uq, .int .i64 3] 70)) = .ok (.slice nad2 (m + 1) ncap2) w2 := by
                  rw [← hst]
                  exact hrun
                have HX1 := Lib.hid hX1
                clear hS ho hm bD r1 r2 r3 fU tg jz jq bw rr hl2 hX1 hZV hne hrun hst rc
                go_upto_region 16 with fail
                go_region_law (refine step_run (.tmp 67) (.tmp 73) rfl rfl hrun' ?_)
                all_goals
                  rw [← HX1.out]
                  go_wp2
                  go_roundw
                  case rel => exact ⟨k + 1, nad2, ncap2, hltk, by go_num, SX.out, RX.out, rcX.out⟩
                  case measure => simp [intOf]; omega
              · have HN3 : Hid (seI (t.ixs.take (k + 1)) = seI (t.ixs.take k)) := Lib.hid (by rw [HNX.out, if_neg q])
                clear hS ho hm hst rc
                go_wp2
                go_roundw
                case rel => exact ⟨k + 1, oa, oc, hltk, by go_num, by rw [HN3.out]; exact HS.out, by rw [HN3.out]; exact HO.out, RC.out⟩
                case measure => simp [intOf]; omega
            · have m1 : ¬ ((k : Int) < pi) := by omega
              have ei : (t.ixs.take k) = t.ixs := List.take_of_length_le (by rw [Hpi.out]; omega)
              rw [ei] at hS ho
              obtain ⟨ya, rfl⟩ : ∃ a, a = oa := ⟨_, rfl⟩
              obtain ⟨yc, rfl⟩ : ∃ a, a = oc := ⟨_, rfl⟩
              have S0 : Hid (SeJ V U Q Z tq #[.int .i64 t.id, .string t.nm, .slice xa (seC t.cols).length xc, .slice ya (seI t.ixs).length yc, .slice none (seK (t.fks.take 0)).length 0]) := Lib.hid hS
              have RC0 := Lib.hid rc
              have RI0 := Lib.hid ho
              clear hS ho hm ei rc HS HO RC
              go_wp2
              go_loopw [8] (fun iv wr => ∃ (k : Nat) (oa : Option Addr) (oc : Nat), k ≤ pk ∧ iv = .int .i64 (k : Int) ∧ SeJ V wr Q Z tq #[.int .i64 t.id, .string t.nm, .slice xa (seC t.cols).length xc, .slice ya (seI t.ixs).length yc, (.slice oa (seK (t.fks.take k)).length oc)] ∧ wr.ownsRow V.heap.size 73 5 (.slice oa (seK (t.fks.take k)).length oc) (seK (t.fks.take k)).length ((seK (t.fks.take k)).flatMap fkL) ∧ wr.ownsRow V.heap.size 65 7 (.slice xa (seC t.cols).length xc) (seC t.cols).length ((seC t.cols).flatMap colL) ∧ wr.ownsRow V.heap.size 70 5 (.slice ya (seI t.ixs).length yc) (seI t.ixs).length ((seI t.ixs).flatMap ixL)) (fun iv _ => pk - (intOf iv).toNat)
              case atStart => exact ⟨0, none, 0, Nat.zero_le _, rfl, S0.out, World.ownsRow_nil _ _ 73 5, RC0.out, RI0.out⟩
              case round =>
                clear S0
                obtain ⟨k, oa, oc, hk, rfl, hS, ho, rc, ri⟩ := hrel
                obtain ⟨U, rfl⟩ : ∃ U, U = wr := ⟨_, rfl⟩
                have HS := Lib.hid hS
                have HO := Lib.hid ho
                have RC := Lib.hid rc
                have RI := Lib.hid ri
                obtain ⟨m, hm⟩ : ∃ m, (seK (t.fks.take k)).length = m := ⟨_, rfl⟩
                have hml : m ≤ 1000000 := by
                  have q1 : (seK (t.fks.take k)).length ≤ (t.fks.take k).length := List.length_filter_le _ _
                  have q2 : (t.fks.take k).length ≤ t.fks.length := by rw [List.length_take]; omega
                  have q3 := HF.out.2.2
                  omega
                have HM := Lib.hid hm
                have cq : U.cell? ⟨Q, 4, none⟩ = some (.slice ka pk kc) := (cell_blk hS.q 4).trans HT4.out
                by_cases hltk : k < pk
                · have hkL : k < t.fks.length := by rw [Hpk.out]; exact hltk
                  have m0 : (0 : Int) ≤ k := by omega
                  have m1 : (k : Int) < pk := by omega
                  obtain ⟨_, _, e1, _, _, _, hcs⟩ := HLK.out.on fkE_held hS.b
                  obtain ⟨b3, o3, cs3, ha, _, hE, _, hcell⟩ := hcs k hkL
                  have hE' : cs3 = fkL t.fks[k] := hE
                  subst hE'
                  simp only [Value.slice.injEq] at e1
                  obtain ⟨rfl, _, rfl⟩ := e1
                  subst ha
                  have hnx := seK_next hkL
                  obtain ⟨y, hy⟩ : ∃ y, t.fks[k] = y := ⟨_, rfl⟩
                  rw [hy] at hcell hnx
                  have HNX := Lib.hid hnx
                  have d0 : U.cell? ⟨b3, o3 + k * 5, none⟩ = some (.int .i64 y.id) := hcell 0 _ rfl
                  have d1 : U.cell? ⟨b3, o3 + k * 5 + 1, none⟩ = some (.string y.nm) := hcell 1 _ rfl
                  have d2 : U.cell? ⟨b3, o3 + k * 5 + 2, none⟩ = some (.int .i64 y.col) := hcell 2 _ rfl
                  have d3 : U.cell? ⟨b3, o3 + k * 5 + 3, none⟩ = some (.int .i64 y.par) := hcell 3 _ rfl
                  have d4 : U.cell? ⟨b3, o3 + k * 5 + 4, none⟩ = some (.int .i64 y.st) := hcell 4 _ rfl
                  obtain ⟨st, hst⟩ : ∃ st, y.st = st := ⟨_, rfl⟩
                  rw [hst] at d4 HNX
                  clear hcs hcell hE hnx hy
                  by_cases q : st = 3
                  · subst q
                    have HN3 : Hid (seK (t.fks.take (k + 1)) = seK (t.fks.take k) ++ [y]) := Lib.hid (by rw [HNX.out, if_pos rfl])
                    have bD : Below U.heap.size U U.drew := bdrew (Below.refl _ _)
                    obtain ⟨nad2, ncap2, w2, hrun, r1, r2, r3⟩ := pushK (X := U.drew) (own_mono (own_below ho bD) (Nat.zero_le _)) y (by rw [hm]; exact hml)
                    have fU : Fr U w2 (fun j => (Value.slice oa m oc).ownBlock = some j) := by rw [← hm]; exact (Fr.ofBelow _ bD).trans r2
                    have tg : ∀ j, (Value.slice oa m oc).ownBlock = some j → ∃ cs', U.heap[j]? = some (.cells cs' 73 (0, 0)) := fun j hj => own_tag ho j (by rw [hm]; exact hj)
                    have jz : w2.heap[Z]? = some (.cells #[.int .i64 t.id, .string t.nm, .slice xa (seC t.cols).length xc, .slice ya (seI t.ixs).length yc, (.slice oa m oc)] 54 (0, 0)) := by
                      have := keep51 (B := 0) hS.z fU tg (by decide) (Nat.le_refl _)
                      rw [← hm]
                      exact this
                    have jq : w2.heap[Q]? = some (.cells tq 54 (0, 0)) := keep51 (B := 0) hS.q fU tg (by decide) (Nat.le_refl _)
                    have bw : Below V.heap.size V w2 := hS.b.trans (fU.toBelow (fun j hj z => by
                      have := (own_ge ho j (by rw [hm]; exact z)).1
                      omega) hS.b.size)
                    have rr : w2.ownsRow V.heap.size 73 5 (.slice nad2 (m + 1) ncap2) (seK (t.fks.take (k + 1))).length ((seK (t.fks.take (k + 1))).flatMap fkL) := by
                      rw [HN3.out]
                      rw [hm] at r1 r3
                      refine own_base r1 (fun j hj => ?_)
                      rcases r3 j hj with z | z
                      · exact (own_ge ho j (by rw [hm]; exact z)).1
                      · exact Nat.le_trans (bdrew hS.b).size z
                    have hl2 : (seK (t.fks.take (k + 1))).length = m + 1 := by rw [HN3.out, List.length_append, hm]; rfl
                    obtain ⟨X1, hX1⟩ : ∃ X1, X1 = w2.setCell ⟨Z, 4, none⟩ (.slice nad2 (m + 1) ncap2) := ⟨_, rfl⟩
                    have hZV : V.heap.size ≤ Z := HZV.out
                    have hne : Q ≠ Z := HQZ.out
                    have SX : Hid (SeJ V X1 Q Z tq #[.int .i64 t.id, .string t.nm, .slice xa (seC t.cols).length xc, .slice ya (seI t.ixs).length yc, (.slice nad2 (seK (t.fks.take (k + 1))).length ncap2)]) := by
                      rw [hX1, hl2]
                      exact ⟨by rw [set_other _ hne]; exact jq, set_blk jz _, bw.setCell hZV _⟩
                    have RX : Hid (X1.ownsRow V.heap.size 73 5 (.slice nad2 (seK (t.fks.take (k + 1))).length ncap2) (seK (t.fks.take (k + 1))).length ((seK (t.fks.take (k + 1))).flatMap fkL)) := by
                      have q9 := own_off (u := .slice nad2 (m + 1) ncap2) (j := 4) (by decide) jz rr
                      rw [hX1]
                      rw [hl2] at q9 ⊢
                      exact q9
                    have rcX : Hid (X1.ownsRow V.heap.size 65 7 (.slice xa (seC t.cols).length xc) (seC t.cols).length ((seC t.cols).flatMap colL)) := by
                      rw [hX1]
                      exact own_off (by decide) jz (keep_rowB rc fU (fun j hj cs z => by
                        obtain ⟨cs', z2⟩ := tg j hj
                        rw [z2] at z
                        simp only [Option.some.injEq, Obj.cells.injEq] at z
                        exact absurd z.2.1 (by decide)))
                    have riX : Hid (X1.ownsRow V.heap.size 70 5 (.slice ya (seI t.ixs).length yc) (seI t.ixs).length ((seI t.ixs).flatMap ixL)) := by
                      rw [hX1]
                      exact own_off (by decide) jz (keep_rowB ri fU (fun j hj cs z => by
                        obtain ⟨cs', z2⟩ := tg j hj
                        rw [z2] at z
                        simp only [Option.some.injEq, Obj.cells.injEq] at z
                        exact absurd z.2.1 (by decide)))
                    have c9 : w2.cell? ⟨Z, 4, none⟩ = some (.slice oa m oc) := cell_blk jz 4
                    have f9 : w2.frozen? ⟨Z, 4, none⟩ = false := frozen_blk jz 4
                    have cz : U.cell? ⟨Z, 4, none⟩ = some (.slice oa m oc) := by rw [← hm]; exact cell_blk hS.z 4
                    have cz2 : (U.alloc (.cells #[.int .i64 y.id, .string y.nm, .int .i64 y.col, .int .i64 y.par, .int .i64 3] 73)).cell? ⟨Z, 4, none⟩ = some (.slice oa m oc) := cell_on (bnew _ _) cz
                    rw [hm] at hrun
                    have hrun' : (Builtin.append_ #[52, 52] 52 #[.slice oa m oc, .slice (some ⟨U.heap.size, 0, none⟩) 1 1]).run Try.prog (U.drew.alloc (.cells #[.int .i64 y.id, .string y.nm, .int .i64 y.col, .int .i64 y.par, .int .i64 3] 73)) = .ok (.slice nad2 (m + 1) ncap2) w2 := by
                      rw [← hst]
                      exact hrun
                    have HX1 := Lib.hid hX1
                    clear hS ho hm bD r1 r2 r3 fU tg jz jq bw rr hl2 hX1 hZV hne hrun hst rc ri
                    go_upto_region 21 with fail
                    go_region_law (refine step_run (.tmp 91) (.tmp 97) rfl rfl hrun' ?_)
                    all_goals
                      rw [← HX1.out]
                      go_wp2
                      go_roundw
                      case rel => exact ⟨k + 1, nad2, ncap2, hltk, by go_num, SX.out, RX.out, rcX.out, riX.out⟩
                      case measure => simp [intOf]; omega
                  · have HN3 : Hid (seK (t.fks.take (k + 1)) = seK (t.fks.take k)) := Lib.hid (by rw [HNX.out, if_neg q])
                    clear hS ho hm hst rc ri
                    go_wp2
                    go_roundw
                    case rel => exact ⟨k + 1, oa, oc, hltk, by go_num, by rw [HN3.out]; exact HS.out, by rw [HN3.out]; exact HO.out, RC.out, RI.out⟩
                    case measure => simp [intOf]; omega
                · have m1 : ¬ ((k : Int) < pk) := by omega
                  have ei : (t.fks.take k) = t.fks := List.take_of_length_le (by rw [Hpk.out]; omega)
                  rw [ei] at hS ho
                  -- s.Tables[i] = x
                  have q9 := hS.z
                  have hD9 := HD.out.below hS.b
                  obtain ⟨X4, e4, row4, f4⟩ := tab_put (w := U) (us := [.int .i64 t.id, .string t.nm, .slice xa (seC t.cols).length xc, .slice ya (seI t.ixs).length yc, .slice oa (seK t.fks).length oc]) (y := (seenP t, .slice xa (seC t.cols).length xc, .slice ya (seI t.ixs).length yc, .slice oa (seK t.fks).length oc)) (own_mono hD9.row (Nat.zero_le _)) hiG rfl
                  have hst : (Instr.storeAt 54 (.pointer (some ⟨TB, i * 5, none⟩)) (.agg #[.int .i64 t.id, .string t.nm, .slice xa (seC t.cols).length xc, .slice ya (seI t.ixs).length yc, .slice oa (seK t.fks).length oc])).run Try.prog U = .ok () X4 := by
                    rw [e4]
                    refine run_storeAt_mid U TB (i * 5) 54 _ (fun j hj => ?_) size54 (by simp [Value.oneCell'])
                    obtain ⟨cur, hg, g1, g2, g3, g4⟩ := row_blk (own_mono hD9.row (Nat.zero_le _))
                    have hj5 : j < 5 := hj
                    have hle : (i + 1) * 5 ≤ G.length * 5 := Nat.mul_le_mul_right 5 hiG
                    have hle2 : G.length * 5 ≤ cap * 5 := Nat.mul_le_mul_right 5 g1
                    refine ⟨?_, frozen_blk hg _⟩
                    rw [cell_blk hg, Array.getElem?_eq_getElem (by omega)]
                    rfl
                  have fT : Fr V X4 (fun k => (Value.slice (some ⟨TB, 0, none⟩) G.length cap).ownBlock = some k) := (Fr.ofBelow _ hS.b).trans (f4.mono (fun k hk => by rw [hk]; rfl))
                  have up : ∀ {e : TypeId} {c n : Nat} {v : Value} {xs : List Value}, e ≠ 54 → U.ownsRow V.heap.size e c v n xs → X4.ownsRow V.heap.size e c v n xs := fun he q => keep_rowB q f4 (fun k hk cs tg => by
                    obtain ⟨cs2, t2⟩ := own_tag hD9.row TB rfl
                    rw [hk, t2] at tg
                    simp only [Option.some.injEq, Obj.cells.injEq] at tg
                    exact he tg.2.1.symm)
                  have hnew := Dr.put HD.out HWV.out _ fT row4 (up (by decide) rc) (up (by decide) ri) (up (by decide) ho)
                  have HN := Lib.hid hnew
                  have HB2 : Hid (Below W0.heap.size W X4) := HB.out.trans ((hS.b.mono HWV.out).trans (f4.toBelow (fun k hk z => by
                    have := (own_ge hD9.row TB rfl).1
                    omega) (Nat.le_trans HWV.out hS.b.size)))
                  have HG2 : Hid ((G.set i (seenP t, .slice xa (seC t.cols).length xc, .slice ya (seI t.ixs).length yc, .slice oa (seK t.fks).length oc)).map Prod.fst = (s.tabs.take (i + 1)).map seenP ++ s.tabs.drop (i + 1)) := by
                    rw [List.map_set, HG.out]
                    exact Lib.hid (seen_set HiL.out HTT.out)
                  have JY2 : Hid (X4.heap[Y0]? = some (.cells (scA s (.slice (some ⟨TB, 0, none⟩) G.length cap)) 24 (0, 0))) := Lib.hid (by
                    rw [f4.block Y0 (Nat.lt_of_lt_of_le (blk_lt JV.out) hS.b.size) (fun z => by
                      obtain ⟨cs2, t2⟩ := own_tag hD9.row TB rfl
                      rw [← z, hS.b.block Y0 (blk_lt JV.out), JV.out] at t2
                      simp only [Option.some.injEq, Obj.cells.injEq] at t2
                      exact absurd t2.2.1 (by decide)), hS.b.block Y0 (blk_lt JV.out)]
                    exact JV.out)
                  have y0 : U.cell? ⟨Y0, 2, none⟩ = some (.slice (some ⟨TB, 0, none⟩) G.length cap) := cell_blk ((hS.b.block Y0 (blk_lt JV.out)).trans JV.out) 2
                  have hldx := load_row hS.z Try.underlying54 rfl size54
                  clear hS ho hm ei q9 hD9 e4 row4 f4 fT up hnew rc ri
                  go_wp2_with (first | (refine wpl_load _ rfl (by simp [Act.eval, Act.put]) hldx ?_) | (refine wpl_store _ _ rfl (by simp [Act.eval, Act.put]) (by simp [Act.eval, Act.put]) hst ?_))
                  go_roundw
                  case rel => exact ⟨i + 1, _, hlt, by go_num, HG2.out, by rw [List.length_set]; exact HN.out, by rw [List.length_set]; exact JY2.out, HB2.out⟩
                  case measure => simp [intOf]; omega
    · have k1 : ¬ (i : Int) < G.length := by omega
      have hin : i = s.tabs.length := by omega
      have HGE : Hid (G.map Prod.fst = s.tabs.map seenP) := by rw [HG.out, hin, List.take_length, List.drop_length, List.append_nil]; exact Lib.hid rfl
      have j1 : V.heap[Y1]? = some (.cells #[.int .i64 0, .int .i64 0, .slice none 0 0] 24 (0, 0)) := (hb.block Y1 (blk_lt J1.out)).trans J1X.out
      have hld := load_row jV Try.underlying24 rfl size24
      obtain ⟨X4, e4, j4, f4⟩ := sets_row j1 (scA s (.slice tad G.length tcap)) rfl
      have hst : (Instr.storeAt 24 (.pointer (some ⟨Y1, 0, none⟩)) (.agg (scA s (.slice tad G.length tcap)))).run Try.prog V = .ok () X4 := by
        rw [e4]
        exact store_row j1 rfl size24 (by simp [Value.oneCell'])
      have hWs : w.heap.size ≤ W0.heap.size := HBW.out.size
      have bwV : Below w.heap.size w V := HBX.out.trans (hb.mono hWs)
      have HE : Hid (Dr X4 w.heap.size G (.slice tad G.length tcap) ∧ Below w.heap.size w X4) := by
        refine ⟨(hD.keep f4 (fun k hk => .inl (by rw [hk]; exact blk_lt J1.out))).mono hWs, bwV.trans (f4.toBelow (fun k hk q => ?_) bwV.size)⟩
        have := GE.out
        omega
      have J4 := Lib.hid j4
      clear hD hG hGl jV j1 e4 f4 hWs j4 hb hin bwV
      go_wp2_with (first | (refine wpl_load _ rfl (by simp [Act.eval]) hld ?_) | (refine wpl_store _ _ rfl (by simp [Act.eval, Act.put]) (by simp [Act.eval, Act.put]) hst ?_))
      refine bodyPost_ret (results_one rfl rfl (load_var J4.out Try.underlying24 rfl size24)) rfl ?_
      exact ⟨G, _, rfl, HGE.out, HE.out.1, HE.out.2⟩
end
end Go.Proofs.Ytkfnphhoebknnaa
