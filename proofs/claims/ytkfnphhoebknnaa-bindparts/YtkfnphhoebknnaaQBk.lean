import Derived.Test.YtkfnphhoebknnaaQBh
namespace Go.Proofs.Ytkfnphhoebknnaa
open Go.RowKit
abbrev Gt := Tb × Value × Value × Value
abbrev gL (g : Gt) : List Value := tbL g.1 g.2.1 g.2.2.1 g.2.2.2
theorem gL_len (g : Gt) : (gL g).length = 5 := rfl
theorem own_base {w : World} {B : Nat} {e : TypeId} {c n : Nat} {v : Value} {xs : List Value} (h : w.ownsRow 0 e c v n xs) (hb : ∀ k, v.ownBlock = some k → B ≤ k) : w.ownsRow B e c v n xs := by
  rcases h.2 with q | ⟨g, cap, cur, hv, _, rest⟩
  · exact ⟨h.1, .inl q⟩
  · exact ⟨h.1, .inr ⟨g, cap, cur, hv, hb g (by rw [hv]; rfl), rest⟩⟩
theorem own_ge {w : World} {B : Nat} {e : TypeId} {c n : Nat} {v : Value} {xs : List Value} (h : w.ownsRow B e c v n xs) : ∀ k, v.ownBlock = some k → B ≤ k ∧ k < w.heap.size := by
  intro k hk
  exact h.lt k hk
/-- Tables that lie in memory of their own, from B on. -/
structure Dr (w : World) (B : Nat) (G : List Gt) (tv : Value) : Prop where
  row : w.ownsRow B 54 5 tv G.length (G.flatMap gL)
  c : ∀ g ∈ G, w.ownsRow B 65 7 g.2.1 g.1.cols.length (g.1.cols.flatMap colL)
  i : ∀ g ∈ G, w.ownsRow B 70 5 g.2.2.1 g.1.ixs.length (g.1.ixs.flatMap ixL)
  k : ∀ g ∈ G, w.ownsRow B 73 5 g.2.2.2 g.1.fks.length (g.1.fks.flatMap fkL)
  apc : ∀ i j (hi : i < G.length) (hj : j < G.length), i ≠ j → ∀ b, G[i].2.1.ownBlock = some b → G[j].2.1.ownBlock ≠ some b
  api : ∀ i j (hi : i < G.length) (hj : j < G.length), i ≠ j → ∀ b, G[i].2.2.1.ownBlock = some b → G[j].2.2.1.ownBlock ≠ some b
  apk : ∀ i j (hi : i < G.length) (hj : j < G.length), i ≠ j → ∀ b, G[i].2.2.2.ownBlock = some b → G[j].2.2.2.ownBlock ≠ some b
theorem Dr.nil (w : World) (B : Nat) : Dr w B [] (.slice none 0 0) := ⟨World.ownsRow_nil _ _ 54 5, by simp, by simp, by simp, fun i _ hi => by simp at hi, fun i _ hi => by simp at hi, fun i _ hi => by simp at hi⟩
theorem Dr.three {w : World} {B : Nat} {G : List Gt} {tv : Value} (h : Dr w B G tv) {g : Gt} (hg : g ∈ G) : Three w g.1 g.2.1 g.2.2.1 g.2.2.2 := ⟨Lr.own colL_len (h.c g hg), Lr.own ixL_len (h.i g hg), Lr.own fkL_len (h.k g hg)⟩
theorem Dr.reads {w : World} {B : Nat} {G : List Gt} {tv : Value} (h : Dr w B G tv) : Lr tbE 5 w (G.map Prod.fst) tv := by
  obtain ⟨ad, cap, e, h0, h1, h2, h3⟩ := Lr.own gL_len h.row
  refine ⟨ad, cap, by rw [List.length_map]; exact e, h0, by rw [List.length_map]; exact h1, h2, fun i hi => ?_⟩
  rw [List.length_map] at hi
  obtain ⟨b, o, cs, ha, hl, hE, hc, hh⟩ := h3 i hi
  refine ⟨b, o, cs, ha, hl, ?_, hc, hh⟩
  rw [List.getElem_map]
  exact ⟨_, _, _, hE, h.three (List.getElem_mem hi)⟩
theorem Dr.keep {w w' : World} {B : Nat} {G : List Gt} {tv : Value} {T : Nat → Prop} (h : Dr w B G tv) (hf : Fr w w' T) (ht : ∀ k, T k → k < B ∨ ∀ cs e, w.heap[k]? = some (.cells cs e (0, 0)) → e ≠ 54 ∧ e ≠ 65 ∧ e ≠ 70 ∧ e ≠ 73) : Dr w' B G tv := by
  have key : ∀ {e : TypeId} {c n : Nat} {v : Value} {xs : List Value}, w.ownsRow B e c v n xs → (e = 54 ∨ e = 65 ∨ e = 70 ∨ e = 73) → w'.ownsRow B e c v n xs := fun hr he => row_keep hr hf (fun j hj q => by
    obtain ⟨cs, t⟩ := own_tag hr j hj
    have hB := own_ge hr j hj
    rcases ht j q with z | z
    · omega
    · obtain ⟨z1, z2, z3, z4⟩ := z cs _ t
      rcases he with rfl | rfl | rfl | rfl
      · exact z1 rfl
      · exact z2 rfl
      · exact z3 rfl
      · exact z4 rfl)
  exact ⟨key h.row (.inl rfl), fun g hg => key (h.c g hg) (.inr (.inl rfl)), fun g hg => key (h.i g hg) (.inr (.inr (.inl rfl))), fun g hg => key (h.k g hg) (.inr (.inr (.inr rfl))), h.apc, h.api, h.apk⟩
theorem Dr.below {w w' : World} {B : Nat} {G : List Gt} {tv : Value} (h : Dr w B G tv) (hb : Below w.heap.size w w') : Dr w' B G tv := h.keep (T := fun _ => False) (Fr.ofBelow _ hb) (fun _ q => q.elim)
theorem Dr.mono {w : World} {B B' : Nat} {G : List Gt} {tv : Value} (h : Dr w B G tv) (hB : B' ≤ B) : Dr w B' G tv := ⟨own_mono h.row hB, fun g hg => own_mono (h.c g hg) hB, fun g hg => own_mono (h.i g hg) hB, fun g hg => own_mono (h.k g hg) hB, h.apc, h.api, h.apk⟩
/-- A table more. -/
theorem Dr.push {w w' : World} {B : Nat} {G : List Gt} {tv tv' : Value} {T : Nat → Prop} (h : Dr w B G tv) (hB : B ≤ w.heap.size) (hf : Fr w w' T) (hT : ∀ k, T k → k < B ∨ tv.ownBlock = some k ∨ ∀ cs e, w.heap[k]? = some (.cells cs e (0, 0)) → e ≠ 54 ∧ e ≠ 65 ∧ e ≠ 70 ∧ e ≠ 73) (g : Gt)
    (hrow : w'.ownsRow 0 54 5 tv' (G ++ [g]).length ((G ++ [g]).flatMap gL)) (hb : ∀ k, tv'.ownBlock = some k → tv.ownBlock = some k ∨ w.heap.size ≤ k)
    (hc : w'.ownsRow w.heap.size 65 7 g.2.1 g.1.cols.length (g.1.cols.flatMap colL)) (hi : w'.ownsRow w.heap.size 70 5 g.2.2.1 g.1.ixs.length (g.1.ixs.flatMap ixL)) (hk : w'.ownsRow w.heap.size 73 5 g.2.2.2 g.1.fks.length (g.1.fks.flatMap fkL)) : Dr w' B (G ++ [g]) tv' := by
  have keep : ∀ {e : TypeId} {c n : Nat} {v : Value} {xs : List Value}, w.ownsRow B e c v n xs → (e = 65 ∨ e = 70 ∨ e = 73) → w'.ownsRow B e c v n xs := fun hr he => row_keep hr hf (fun j hj q => by
    obtain ⟨cs, t⟩ := own_tag hr j hj
    have hB' := own_ge hr j hj
    rcases hT j q with z | z | z
    · omega
    · obtain ⟨cs2, t2⟩ := own_tag h.row j z
      rw [t2] at t
      simp only [Option.some.injEq, Obj.cells.injEq] at t
      have t3 := t.2.1
      rcases he with rfl | rfl | rfl <;> exact absurd t3 (by decide)
    · obtain ⟨z1, z2, z3, z4⟩ := z cs _ t
      rcases he with rfl | rfl | rfl
      · exact z2 rfl
      · exact z3 rfl
      · exact z4 rfl)
  refine ⟨own_base hrow (fun k q => by
      rcases hb k q with z | z
      · exact (own_ge h.row k z).1
      · exact Nat.le_trans hB z), ?_, ?_, ?_, ?_, ?_, ?_⟩
  · intro x hx
    rcases List.mem_append.1 hx with q | q
    · exact keep (h.c x q) (.inl rfl)
    · rw [List.mem_singleton.1 q]
      exact own_mono hc hB
  · intro x hx
    rcases List.mem_append.1 hx with q | q
    · exact keep (h.i x q) (.inr (.inl rfl))
    · rw [List.mem_singleton.1 q]
      exact own_mono hi hB
  · intro x hx
    rcases List.mem_append.1 hx with q | q
    · exact keep (h.k x q) (.inr (.inr rfl))
    · rw [List.mem_singleton.1 q]
      exact own_mono hk hB
  · intro a b ha hb2 hne k q
    rw [List.length_append, List.length_cons, List.length_nil] at ha hb2
    by_cases ea : a < G.length
    · rw [List.getElem_append_left ea] at q
      by_cases eb : b < G.length
      · rw [List.getElem_append_left eb]
        exact h.apc a b ea eb hne k q
      · have hb3 : b = G.length := by omega
        subst hb3
        rw [List.getElem_concat_length rfl]
        intro z
        have z1 := (own_ge hc k z).1
        have z2 := (own_ge (h.c G[a] (List.getElem_mem ea)) k q).2
        omega
    · have ha3 : a = G.length := by omega
      subst ha3
      rw [List.getElem_concat_length rfl] at q
      have eb : b < G.length := by omega
      rw [List.getElem_append_left eb]
      intro z
      have z1 := (own_ge hc k q).1
      have z2 := (own_ge (h.c G[b] (List.getElem_mem eb)) k z).2
      omega
  · intro a b ha hb2 hne k q
    rw [List.length_append, List.length_cons, List.length_nil] at ha hb2
    by_cases ea : a < G.length
    · rw [List.getElem_append_left ea] at q
      by_cases eb : b < G.length
      · rw [List.getElem_append_left eb]
        exact h.api a b ea eb hne k q
      · have hb3 : b = G.length := by omega
        subst hb3
        rw [List.getElem_concat_length rfl]
        intro z
        have z1 := (own_ge hi k z).1
        have z2 := (own_ge (h.i G[a] (List.getElem_mem ea)) k q).2
        omega
    · have ha3 : a = G.length := by omega
      subst ha3
      rw [List.getElem_concat_length rfl] at q
      have eb : b < G.length := by omega
      rw [List.getElem_append_left eb]
      intro z
      have z1 := (own_ge hi k q).1
      have z2 := (own_ge (h.i G[b] (List.getElem_mem eb)) k z).2
      omega
  · intro a b ha hb2 hne k q
    rw [List.length_append, List.length_cons, List.length_nil] at ha hb2
    by_cases ea : a < G.length
    · rw [List.getElem_append_left ea] at q
      by_cases eb : b < G.length
      · rw [List.getElem_append_left eb]
        exact h.apk a b ea eb hne k q
      · have hb3 : b = G.length := by omega
        subst hb3
        rw [List.getElem_concat_length rfl]
        intro z
        have z1 := (own_ge hk k z).1
        have z2 := (own_ge (h.k G[a] (List.getElem_mem ea)) k q).2
        omega
    · have ha3 : a = G.length := by omega
      subst ha3
      rw [List.getElem_concat_length rfl] at q
      have eb : b < G.length := by omega
      rw [List.getElem_append_left eb]
      intro z
      have z1 := (own_ge hk k q).1
      have z2 := (own_ge (h.k G[b] (List.getElem_mem eb)) k z).2
      omega
end Go.Proofs.Ytkfnphhoebknnaa
namespace Go.Proofs.Ytkfnphhoebknnaa
open Go.RowKit
section
variable {w : World}
/-- How long a table's lists are. -/
def Tb.few (t : Tb) : Prop := t.cols.length ≤ 1000000 ∧ t.ixs.length ≤ 1000000 ∧ t.fks.length ≤ 1000000
theorem own_off {B Y0 : Nat} {X : World} {e : TypeId} {c n : Nat} {v : Value} {xs : List Value} {u : Value} {j : Nat} {cs : Array Value} (he : e ≠ 54) (hj : X.heap[Y0]? = some (.cells cs 54 (0, 0))) (q : X.ownsRow B e c v n xs) : (X.setCell ⟨Y0, j, none⟩ u).ownsRow B e c v n xs :=
  own_like q (fun k hk => set_other _ (fun z => by
    obtain ⟨cs, tg⟩ := own_tag q k hk
    rw [z] at tg
    rw [hj] at tg
    simp only [Option.some.injEq, Obj.cells.injEq] at tg
    exact he tg.2.1.symm))
set_option maxHeartbeats 2000000 in
set_option maxRecDepth 100000 in
theorem cloneT_any {t : Tb} {cv iv kv : Value} (h : Three w t cv iv kv) (hz : t.few) : Calls Try.prog 62 #[tbV t cv iv kv] w fun e w' => ∃ cv' iv' kv', e = .returned (tbV t cv' iv' kv') ∧ w'.ownsRow w.heap.size 65 7 cv' t.cols.length (t.cols.flatMap colL) ∧ w'.ownsRow w.heap.size 70 5 iv' t.ixs.length (t.ixs.flatMap ixL) ∧ w'.ownsRow w.heap.size 73 5 kv' t.fks.length (t.fks.flatMap fkL) ∧ Below w.heap.size w w' := by
  obtain ⟨hc, hi, hk⟩ := h
  obtain ⟨z1, z2, z3⟩ := hz
  obtain ⟨ca, cc, rfl, rc⟩ := hc
  obtain ⟨ia, ic, rfl, ri⟩ := hi
  obtain ⟨ka, kc, rfl, rk⟩ := hk
  have hc : Lr colE 7 w t.cols (.slice ca t.cols.length cc) := ⟨ca, cc, rfl, rc⟩
  have hi : Lr ixE 5 w t.ixs (.slice ia t.ixs.length ic) := ⟨ia, ic, rfl, ri⟩
  have hk : Lr fkE 5 w t.fks (.slice ka t.fks.length kc) := ⟨ka, kc, rfl, rk⟩
  obtain ⟨W, hW⟩ : ∃ W, W = (w.alloc (.cells #[.int .i64 t.id, .string t.nm, .slice ca t.cols.length cc, .slice ia t.ixs.length ic, .slice ka t.fks.length kc] 54)).alloc (.cells #[.int .i64 0, .string ⟨#[]⟩, .slice none 0 0, .slice none 0 0, .slice none 0 0] 54) := ⟨_, rfl⟩
  have hbW : Below w.heap.size w W := by rw [hW]; exact ((Below.refl _ w).alloc (Nat.le_refl _) _).alloc (by simp) _
  obtain ⟨Y0, hY0⟩ : ∃ Y0, w.heap.size = Y0 := ⟨_, rfl⟩
  obtain ⟨Y1, hY1⟩ : ∃ Y1, Y0 + 1 = Y1 := ⟨_, rfl⟩
  have jY0 : W.heap[Y0]? = some (.cells #[.int .i64 t.id, .string t.nm, .slice ca t.cols.length cc, .slice ia t.ixs.length ic, .slice ka t.fks.length kc] 54 (0, 0)) := by
    have := heap_alloc_new w (.cells #[.int .i64 t.id, .string t.nm, .slice ca t.cols.length cc, .slice ia t.ixs.length ic, .slice ka t.fks.length kc] 54)
    rw [hW, ← hY0]
    rw [Below.heap_alloc _ _ _ (by simp only [World.size_alloc]; omega)]
    exact this
  have jY1 : W.heap[Y1]? = some (.cells #[.int .i64 0, .string ⟨#[]⟩, .slice none 0 0, .slice none 0 0, .slice none 0 0] 54 (0, 0)) := by
    have := heap_alloc_new (w.alloc (.cells #[.int .i64 t.id, .string t.nm, .slice ca t.cols.length cc, .slice ia t.ixs.length ic, .slice ka t.fks.length kc] 54)) (.cells #[.int .i64 0, .string ⟨#[]⟩, .slice none 0 0, .slice none 0 0, .slice none 0 0] 54)
    simp only [World.size_alloc] at this
    rw [hW, ← hY1, ← hY0]
    exact this
  have hge0 : w.heap.size ≤ Y0 := by omega
  have hge1 : w.heap.size ≤ Y1 := by omega
  have hne : Y0 ≠ Y1 := by omega
  have h1 := ownC_any (hc.on colE_held hbW) z1
  have HI := Lib.hid hi
  have HK := Lib.hid hk
  have d2 : W.cell? ⟨Y0, 2, none⟩ = some (.slice ca t.cols.length cc) := cell_blk jY0 2
  have J0 := Lib.hid jY0
  have J1 := Lib.hid jY1
  have GE := Lib.hid (And.intro hge0 (And.intro hge1 hne))
  have Z := Lib.hid (And.intro z2 z3)
  have HW := Lib.hid hW
  have HBW := Lib.hid hbW
  have HY0 := Lib.hid hY0
  have HY1 := Lib.hid hY1
  clear hW hbW hY0 hY1
  clear jY0 jY1 hc hi hk rc ri rk z1 z2 z3 hge0 hge1 hne
  go_enter Try.func62, Try.ntmps62
  go_upto_region 1 with fail
  rw [← HW.out, HY0.out, HY1.out]
  go_wp2_with fail
  refine h1.mono ?_
  rintro e w1 ⟨ca', cc', rfl, o1, b1⟩
  have j0 := (b1.block Y0 (blk_lt J0.out)).trans J0.out
  have j1 := (b1.block Y1 (blk_lt J1.out)).trans J1.out
  have e2 : w1.cell? ⟨Y0, 2, none⟩ = some (.slice ca t.cols.length cc) := cell_blk j0 2
  have f2 : w1.frozen? ⟨Y0, 2, none⟩ = false := frozen_blk j0 2
  obtain ⟨X1, hX1⟩ : ∃ X1, X1 = w1.setCell ⟨Y0, 2, none⟩ (.slice ca' t.cols.length cc') := ⟨_, rfl⟩
  have BX1 : Below w.heap.size w X1 := by rw [hX1]; exact (bgo HBW.out b1).setCell GE.out.1 _
  have jX0 : X1.heap[Y0]? = some (.cells #[.int .i64 t.id, .string t.nm, .slice ca' t.cols.length cc', .slice ia t.ixs.length ic, .slice ka t.fks.length kc] 54 (0, 0)) := by rw [hX1]; exact set_blk j0 _
  have jX1 : X1.heap[Y1]? = some (.cells #[.int .i64 0, .string ⟨#[]⟩, .slice none 0 0, .slice none 0 0, .slice none 0 0] 54 (0, 0)) := by rw [hX1, set_other _ (fun q => GE.out.2.2 q.symm)]; exact j1
  have oX1 : X1.ownsRow w.heap.size 65 7 (.slice ca' t.cols.length cc') t.cols.length (t.cols.flatMap colL) := by
    have q := own_mono o1 HBW.out.size
    rw [hX1]
    refine own_like q (fun k hk => set_other _ ?_)
    intro z
    have z1 := (own_ge o1 k hk).1
    rw [z] at z1
    have := blk_lt J0.out
    simp only at z1
    omega
  have h2 := ownI_any (HI.out.on ixE_held BX1) Z.out.1
  have d3 : X1.cell? ⟨Y0, 3, none⟩ = some (.slice ia t.ixs.length ic) := cell_blk jX0 3
  have O1 := Lib.hid oX1
  have BX := Lib.hid BX1
  have J0' := Lib.hid jX0
  have J1' := Lib.hid jX1
  have HX1 := Lib.hid hX1
  clear h1 b1 o1 j0 j1 hX1 BX1 jX0 jX1 oX1 d2
  go_upto_region 2 with fail
  rw [← HX1.out]
  go_wp2_with fail
  refine h2.mono ?_
  rintro e w2 ⟨ia', ic', rfl, o2, b2⟩
  have j0 := (b2.block Y0 (blk_lt J0'.out)).trans J0'.out
  have j1 := (b2.block Y1 (blk_lt J1'.out)).trans J1'.out
  have e3 : w2.cell? ⟨Y0, 3, none⟩ = some (.slice ia t.ixs.length ic) := cell_blk j0 3
  have f3 : w2.frozen? ⟨Y0, 3, none⟩ = false := frozen_blk j0 3
  obtain ⟨X2, hX2⟩ : ∃ X2, X2 = w2.setCell ⟨Y0, 3, none⟩ (.slice ia' t.ixs.length ic') := ⟨_, rfl⟩
  have BX2 : Below w.heap.size w X2 := by rw [hX2]; exact (bgo BX.out b2).setCell GE.out.1 _
  have jX0 : X2.heap[Y0]? = some (.cells #[.int .i64 t.id, .string t.nm, .slice ca' t.cols.length cc', .slice ia' t.ixs.length ic', .slice ka t.fks.length kc] 54 (0, 0)) := by rw [hX2]; exact set_blk j0 _
  have jX1 : X2.heap[Y1]? = some (.cells #[.int .i64 0, .string ⟨#[]⟩, .slice none 0 0, .slice none 0 0, .slice none 0 0] 54 (0, 0)) := by rw [hX2, set_other _ (fun q => GE.out.2.2 q.symm)]; exact j1
  have oX1 : X2.ownsRow w.heap.size 65 7 (.slice ca' t.cols.length cc') t.cols.length (t.cols.flatMap colL) := by
    rw [hX2]
    exact own_off (by decide) j0 (own_below O1.out b2)
  have oX2 : X2.ownsRow w.heap.size 70 5 (.slice ia' t.ixs.length ic') t.ixs.length (t.ixs.flatMap ixL) := by
    rw [hX2]
    exact own_off (by decide) j0 (own_mono o2 BX.out.size)
  have h3 := ownK_any (HK.out.on fkE_held BX2) Z.out.2
  have d4 : X2.cell? ⟨Y0, 4, none⟩ = some (.slice ka t.fks.length kc) := cell_blk jX0 4
  have P1 := Lib.hid oX1
  have P2 := Lib.hid oX2
  have CX := Lib.hid BX2
  have K0 := Lib.hid jX0
  have K1 := Lib.hid jX1
  have HX2 := Lib.hid hX2
  clear h2 b2 o2 j0 j1 hX2 BX2 jX0 jX1 oX1 oX2 d3 e2 f2
  go_upto_region 3 with fail
  rw [← HX2.out]
  clear e3 f3
  go_wp2_with fail
  refine h3.mono ?_
  rintro e w3 ⟨ka', kc', rfl, o3, b3⟩
  have j0 := (b3.block Y0 (blk_lt K0.out)).trans K0.out
  have j1 := (b3.block Y1 (blk_lt K1.out)).trans K1.out
  have e4 : w3.cell? ⟨Y0, 4, none⟩ = some (.slice ka t.fks.length kc) := cell_blk j0 4
  have f4 : w3.frozen? ⟨Y0, 4, none⟩ = false := frozen_blk j0 4
  obtain ⟨X3, hX3⟩ : ∃ X3, X3 = w3.setCell ⟨Y0, 4, none⟩ (.slice ka' t.fks.length kc') := ⟨_, rfl⟩
  have BX3 : Below w.heap.size w X3 := by rw [hX3]; exact (bgo CX.out b3).setCell GE.out.1 _
  have jX0 : X3.heap[Y0]? = some (.cells (tbA t (.slice ca' t.cols.length cc') (.slice ia' t.ixs.length ic') (.slice ka' t.fks.length kc')) 54 (0, 0)) := by rw [hX3]; exact set_blk j0 _
  have jX1 : X3.heap[Y1]? = some (.cells #[.int .i64 0, .string ⟨#[]⟩, .slice none 0 0, .slice none 0 0, .slice none 0 0] 54 (0, 0)) := by rw [hX3, set_other _ (fun q => GE.out.2.2 q.symm)]; exact j1
  have oX1 : X3.ownsRow w.heap.size 65 7 (.slice ca' t.cols.length cc') t.cols.length (t.cols.flatMap colL) := by
    rw [hX3]
    exact own_off (by decide) j0 (own_below P1.out b3)
  have oX2 : X3.ownsRow w.heap.size 70 5 (.slice ia' t.ixs.length ic') t.ixs.length (t.ixs.flatMap ixL) := by
    rw [hX3]
    exact own_off (by decide) j0 (own_below P2.out b3)
  have oX3 : X3.ownsRow w.heap.size 73 5 (.slice ka' t.fks.length kc') t.fks.length (t.fks.flatMap fkL) := by
    rw [hX3]
    exact own_off (by decide) j0 (own_mono o3 CX.out.size)
  have hld := load_row jX0 Try.underlying54 rfl size54
  obtain ⟨X4, e4', j4, f4'⟩ := sets_row jX1 (tbA t (.slice ca' t.cols.length cc') (.slice ia' t.ixs.length ic') (.slice ka' t.fks.length kc')) rfl
  have hst : (Instr.storeAt 54 (.pointer (some ⟨Y1, 0, none⟩)) (.agg (tbA t (.slice ca' t.cols.length cc') (.slice ia' t.ixs.length ic') (.slice ka' t.fks.length kc')))).run Try.prog X3 = .ok () X4 := by
    rw [e4']
    exact store_row jX1 rfl size54 (by simp [Value.oneCell'])
  have kp : ∀ {e : TypeId} {c n : Nat} {v : Value} {xs : List Value}, e ≠ 54 → X3.ownsRow w.heap.size e c v n xs → X4.ownsRow w.heap.size e c v n xs := fun he q => keep_rowB q f4' (fun k hk cs tg => by
    rw [hk, jX1] at tg
    simp only [Option.some.injEq, Obj.cells.injEq] at tg
    exact he tg.2.1.symm)
  have R1 := Lib.hid (kp (by decide) oX1)
  have R2 := Lib.hid (kp (by decide) oX2)
  have R3 := Lib.hid (kp (by decide) oX3)
  have BE : Hid (Below w.heap.size w X4) := BX3.trans (f4'.toBelow (fun k hk q => by rw [q] at hk; exact absurd GE.out.2.1 (by omega)) BX3.size)
  have J4 := Lib.hid j4
  have HX3 := Lib.hid hX3
  clear h3 b3 o3 j0 j1 hX3 BX3 jX0 jX1 oX1 oX2 oX3 d4 e4' f4' kp j4
  go_upto_region 4 with fail
  rw [← HX3.out]
  go_wp2_with (first | (refine wpl_load _ rfl (by simp [Act.eval]) hld ?_) | (refine wpl_store _ _ rfl (by simp [Act.eval, Act.put]) (by simp [Act.eval, Act.put]) hst ?_))
  refine bodyPost_ret (results_one rfl rfl (load_var J4.out Try.underlying54 rfl size54)) rfl ?_
  exact ⟨_, _, _, rfl, R1.out, R2.out, R3.out, BE.out⟩
end
end Go.Proofs.Ytkfnphhoebknnaa
namespace Go.Proofs.Ytkfnphhoebknnaa
open Go.RowKit
section
variable {w : World}
theorem pushT {X : World} {G : List Gt} {v : Value} (ho : X.ownsRow 0 54 5 v G.length (G.flatMap gL)) (t : Tb) {ca ia ka : Option Addr} {cn cc im ic kn kc : Nat} (hz : G.length ≤ 1000000) :
    ∃ ad cap w', (Builtin.append_ #[22, 22] 22 #[v, .slice (some ⟨X.heap.size, 0, none⟩) 1 1]).run Try.prog (X.alloc (.cells (tbA t (.slice ca cn cc) (.slice ia im ic) (.slice ka kn kc)) 54)) = .ok (.slice ad (G.length + 1) cap) w' ∧ w'.ownsRow 0 54 5 (.slice ad (G.length + 1) cap) (G.length + 1) ((G ++ [((t, .slice ca cn cc, .slice ia im ic, .slice ka kn kc) : Gt)]).flatMap gL) ∧ Fr X w' (fun k => v.ownBlock = some k) ∧ (∀ k, (Value.slice ad (G.length + 1) cap).ownBlock = some k → v.ownBlock = some k ∨ X.heap.size ≤ k) := by
  have hal := bnew X (.cells (tbA t (.slice ca cn cc) (.slice ia im ic) (.slice ka kn kc)) 54)
  have hj := heap_alloc_new X (.cells (tbA t (.slice ca cn cc) (.slice ia im ic) (.slice ka kn kc)) 54)
  obtain ⟨ad, cap, w', h1, h2, h3, h4⟩ := run_tb (m := 1) (c := 1) (news := tbL t (.slice ca cn cc) (.slice ia im ic) (.slice ka kn kc)) (own_below ho hal) (Nat.zero_le _) (.inr ⟨_, rfl, rfl, fun j u hu => by
    rw [add_at, Nat.zero_add, cell_blk hj]
    simpa using hu⟩) (fun u hu => by
      simp at hu
      rcases hu with rfl | rfl | rfl | rfl | rfl <;> rfl) (by omega)
  refine ⟨ad, cap, w', h1, by simpa using h2, ?_, ?_⟩
  · refine ((Fr.refl X _).alloc _).grown h3 (fun k hk => .inl hk)
  · intro k hk
    rcases h4 with q | q
    · exact .inl (q.symm.trans hk)
    · rw [hk] at q
      cases q
      exact .inr hal.size
/-- All lists of a schema are of a size that can be copied. -/
def Few (L : List Tb) : Prop := L.length ≤ 1000000 ∧ ∀ t ∈ L, t.few
end
end Go.Proofs.Ytkfnphhoebknnaa
