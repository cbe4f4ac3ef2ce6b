/- A schema with lists of its own, in memory. -/
import Derived.Test.YtongmhfpoopebaaGreatBh
namespace Go.Proofs.YtongmhfpoopebaaGreat
open Go.RowKit
abbrev tbC (t : Tb) (l : List Col) : Tb := ⟨t.id, t.nm, l, t.ixs, t.fks⟩
abbrev tbI (t : Tb) (l : List Ix) : Tb := ⟨t.id, t.nm, t.cols, l, t.fks⟩
abbrev tbK (t : Tb) (l : List Fk) : Tb := ⟨t.id, t.nm, t.cols, t.ixs, l⟩
abbrev Gt := Tb × Value × Value × Value
abbrev gL (g : Gt) : List Value := tbL g.1 g.2.1 g.2.2.1 g.2.2.2
theorem gL_len (g : Gt) : (gL g).length = 5 := rfl
theorem own_base {w : World} {B : Nat} {e : TypeId} {c n : Nat} {v : Value} {xs : List Value} (h : w.ownsRow 0 e c v n xs) (hb : ∀ k, v.ownBlock = some k → B ≤ k) : w.ownsRow B e c v n xs := by
  rcases h.2 with q | ⟨g, cap, cur, hv, _, rest⟩
  · exact ⟨h.1, .inl q⟩
  · exact ⟨h.1, .inr ⟨g, cap, cur, hv, hb g (by rw [hv]; rfl), rest⟩⟩
theorem own_ge {w : World} {B : Nat} {e : TypeId} {c n : Nat} {v : Value} {xs : List Value} (h : w.ownsRow B e c v n xs) : ∀ k, v.ownBlock = some k → B ≤ k ∧ k < w.heap.size := by
  intro k hk
  exact h.lt k hk
/-- Tables that lie in memory of their own, from B on. -/
structure Dr (w : World) (B : Nat) (G : List Gt) (tv : Value) : Prop where
  row : w.ownsRow B 35 5 tv G.length (G.flatMap gL)
  c : ∀ g ∈ G, w.ownsRow B 50 7 g.2.1 g.1.cols.length (g.1.cols.flatMap colL)
  i : ∀ g ∈ G, w.ownsRow B 71 5 g.2.2.1 g.1.ixs.length (g.1.ixs.flatMap ixL)
  k : ∀ g ∈ G, w.ownsRow B 74 5 g.2.2.2 g.1.fks.length (g.1.fks.flatMap fkL)
  apc : ∀ i j (hi : i < G.length) (hj : j < G.length), i ≠ j → ∀ b, G[i].2.1.ownBlock = some b → G[j].2.1.ownBlock ≠ some b
  api : ∀ i j (hi : i < G.length) (hj : j < G.length), i ≠ j → ∀ b, G[i].2.2.1.ownBlock = some b → G[j].2.2.1.ownBlock ≠ some b
  apk : ∀ i j (hi : i < G.length) (hj : j < G.length), i ≠ j → ∀ b, G[i].2.2.2.ownBlock = some b → G[j].2.2.2.ownBlock ≠ some b
theorem Dr.nil (w : World) (B : Nat) : Dr w B [] (.slice none 0 0) := ⟨World.ownsRow_nil _ _ 35 5, by simp, by simp, by simp, fun i _ hi => by simp at hi, fun i _ hi => by simp at hi, fun i _ hi => by simp at hi⟩
theorem Dr.three {w : World} {B : Nat} {G : List Gt} {tv : Value} (h : Dr w B G tv) {g : Gt} (hg : g ∈ G) : Three w g.1 g.2.1 g.2.2.1 g.2.2.2 := ⟨Lr.own colL_len (h.c g hg), Lr.own ixL_len (h.i g hg), Lr.own fkL_len (h.k g hg)⟩
theorem Dr.reads {w : World} {B : Nat} {G : List Gt} {tv : Value} (h : Dr w B G tv) : Lr tbE 5 w (G.map Prod.fst) tv := by
  obtain ⟨ad, cap, e, h0, h1, h2, h3⟩ := Lr.own gL_len h.row
  refine ⟨ad, cap, by rw [List.length_map]; exact e, h0, by rw [List.length_map]; exact h1, h2, fun i hi => ?_⟩
  rw [List.length_map] at hi
  obtain ⟨b, o, cs, ha, hl, hE, hc, hh⟩ := h3 i hi
  refine ⟨b, o, cs, ha, hl, ?_, hc, hh⟩
  rw [List.getElem_map]
  exact ⟨_, _, _, hE, h.three (List.getElem_mem hi)⟩
theorem Dr.keep {w w' : World} {B : Nat} {G : List Gt} {tv : Value} {T : Nat → Prop} (h : Dr w B G tv) (hf : Fr w w' T) (ht : ∀ k, T k → k < B ∨ ∀ cs e, w.heap[k]? = some (.cells cs e (0, 0)) → e ≠ 35 ∧ e ≠ 50 ∧ e ≠ 71 ∧ e ≠ 74) : Dr w' B G tv := by
  have key : ∀ {e : TypeId} {c n : Nat} {v : Value} {xs : List Value}, w.ownsRow B e c v n xs → (e = 35 ∨ e = 50 ∨ e = 71 ∨ e = 74) → w'.ownsRow B e c v n xs := fun hr he => row_keep hr hf (fun j hj q => by
    obtain ⟨cs, t⟩ := own_tag hr j hj
    have hB := own_ge hr j hj
    rcases ht j q with z | z
    · omega
    · obtain ⟨z1, z2, z3, z4⟩ := z cs _ t
      rcases he with rfl | rfl | rfl | rfl
      · exact z1 rfl
      · exact z2 rfl
      · exact z3 rfl
      · exact z4 rfl)
  exact ⟨key h.row (.inl rfl), fun g hg => key (h.c g hg) (.inr (.inl rfl)), fun g hg => key (h.i g hg) (.inr (.inr (.inl rfl))), fun g hg => key (h.k g hg) (.inr (.inr (.inr rfl))), h.apc, h.api, h.apk⟩
theorem Dr.below {w w' : World} {B : Nat} {G : List Gt} {tv : Value} (h : Dr w B G tv) (hb : Below w.heap.size w w') : Dr w' B G tv := h.keep (T := fun _ => False) (Fr.ofBelow _ hb) (fun _ q => q.elim)
theorem Dr.mono {w : World} {B B' : Nat} {G : List Gt} {tv : Value} (h : Dr w B G tv) (hB : B' ≤ B) : Dr w B' G tv := ⟨own_mono h.row hB, fun g hg => own_mono (h.c g hg) hB, fun g hg => own_mono (h.i g hg) hB, fun g hg => own_mono (h.k g hg) hB, h.apc, h.api, h.apk⟩
/-- One table's list is another one. -/
theorem Dr.setC {w w' : World} {B A : Nat} {G : List Gt} {tv : Value} {T : Nat → Prop} {cA : Array Value} (h : Dr w B G tv) {i : Nat} (hi : i < G.length) (hA : w.heap[A]? = some (.cells cA 24 (0, 0))) (hB : B ≤ w.heap.size) {l' : List Col} {v' : Value} (hf : Fr w w' T) (hT : ∀ k, T k → k = A ∨ tv.ownBlock = some k ∨ G[i].2.1.ownBlock = some k)
    (hrow : w'.ownsRow 0 35 5 tv G.length ((G.set i (tbC G[i].1 l', v', G[i].2.2.1, G[i].2.2.2)).flatMap gL)) (hc : w'.ownsRow 0 50 7 v' l'.length (l'.flatMap colL)) (hb : ∀ k, v'.ownBlock = some k → G[i].2.1.ownBlock = some k ∨ w.heap.size ≤ k) : Dr w' B (G.set i (tbC G[i].1 l', v', G[i].2.2.1, G[i].2.2.2)) tv := by
  have keep : ∀ {e : TypeId} {c n : Nat} {v : Value} {xs : List Value}, w.ownsRow B e c v n xs → e ≠ 24 → e ≠ 35 → e ≠ 50 → w'.ownsRow B e c v n xs := fun hr h1 h2 h3 => row_keep hr hf (fun b hb' z => by
    obtain ⟨cs, t⟩ := own_tag hr b hb'
    rcases hT b z with z | z | z
    · rw [z, hA] at t
      simp only [Option.some.injEq, Obj.cells.injEq] at t
      exact h1 t.2.1.symm
    · obtain ⟨cs2, t2⟩ := own_tag h.row b z
      rw [t2] at t
      simp only [Option.some.injEq, Obj.cells.injEq] at t
      exact h2 t.2.1.symm
    · obtain ⟨cs2, t2⟩ := own_tag (h.c G[i] (List.getElem_mem hi)) b z
      rw [t2] at t
      simp only [Option.some.injEq, Obj.cells.injEq] at t
      exact h3 t.2.1.symm)
  refine ⟨by rw [List.length_set]; exact own_base hrow (fun k hk => (own_ge h.row k hk).1), ?_, ?_, ?_, ?_, ?_, ?_⟩
  · exact fun x hx => by
        obtain ⟨j, hj, ej⟩ := List.getElem_of_mem hx
        rw [List.length_set] at hj
        by_cases q : i = j
        · subst q
          rw [List.getElem_set_self] at ej
          subst ej
          exact own_base hc (fun b hb' => by
            rcases hb b hb' with z | z
            · exact (own_ge (h.c G[i] (List.getElem_mem hi)) b z).1
            · exact Nat.le_trans hB z)
        · rw [List.getElem_set_ne q] at ej
          subst ej
          refine row_keep (h.c G[j] (List.getElem_mem hj)) hf (fun b hb' z => ?_)
          rcases hT b z with z | z | z
          · rw [z] at hb'
            obtain ⟨cs, t⟩ := own_tag (h.c G[j] (List.getElem_mem hj)) A hb'
            rw [hA] at t
            simp only [Option.some.injEq, Obj.cells.injEq] at t
            exact absurd t.2.1 (by decide)
          · obtain ⟨cs, t⟩ := own_tag (h.c G[j] (List.getElem_mem hj)) b hb'
            obtain ⟨cs2, t2⟩ := own_tag h.row b z
            rw [t2] at t
            simp only [Option.some.injEq, Obj.cells.injEq] at t
            exact absurd t.2.1 (by decide)
          · exact h.apc i j hi hj q b z hb'
  · exact fun x hx => by
        rcases List.mem_or_eq_of_mem_set hx with q | q
        · exact keep (h.i x q) (by decide) (by decide) (by decide)
        · subst q
          exact keep (h.i G[i] (List.getElem_mem hi)) (by decide) (by decide) (by decide)
  · exact fun x hx => by
        rcases List.mem_or_eq_of_mem_set hx with q | q
        · exact keep (h.k x q) (by decide) (by decide) (by decide)
        · subst q
          exact keep (h.k G[i] (List.getElem_mem hi)) (by decide) (by decide) (by decide)
  · exact fun a b ha hb2 hne k hk => by
        rw [List.length_set] at ha hb2
        rw [List.getElem_set] at hk
        rw [List.getElem_set]
        by_cases q1 : i = a
        · subst q1
          rw [if_pos rfl] at hk
          rw [if_neg hne]
          rcases hb k hk with z | z
          · exact h.apc i b hi hb2 hne k z
          · intro q
            have := (own_ge (h.c G[b] (List.getElem_mem hb2)) k q).2
            omega
        · rw [if_neg q1] at hk
          by_cases q2 : i = b
          · subst q2
            rw [if_pos rfl]
            intro q
            rcases hb k q with z | z
            · exact h.apc i a hi ha q1 k z hk
            · have := (own_ge (h.c G[a] (List.getElem_mem ha)) k hk).2
              omega
          · rw [if_neg q2]
            exact h.apc a b ha hb2 hne k hk
  · exact fun a b ha hb2 hne k hk => by
        rw [List.length_set] at ha hb2
        have hk' : G[a].2.2.1.ownBlock = some k := by
          rw [List.getElem_set] at hk
          split at hk
          · rename_i q; subst q; exact hk
          · exact hk
        have := h.api a b ha hb2 hne k hk'
        rw [List.getElem_set]
        split
        · rename_i q; subst q; exact this
        · exact this
  · exact fun a b ha hb2 hne k hk => by
        rw [List.length_set] at ha hb2
        have hk' : G[a].2.2.2.ownBlock = some k := by
          rw [List.getElem_set] at hk
          split at hk
          · rename_i q; subst q; exact hk
          · exact hk
        have := h.apk a b ha hb2 hne k hk'
        rw [List.getElem_set]
        split
        · rename_i q; subst q; exact this
        · exact this
/-- One table's list is another one. -/
theorem Dr.setI {w w' : World} {B A : Nat} {G : List Gt} {tv : Value} {T : Nat → Prop} {cA : Array Value} (h : Dr w B G tv) {i : Nat} (hi : i < G.length) (hA : w.heap[A]? = some (.cells cA 24 (0, 0))) (hB : B ≤ w.heap.size) {l' : List Ix} {v' : Value} (hf : Fr w w' T) (hT : ∀ k, T k → k = A ∨ tv.ownBlock = some k ∨ G[i].2.2.1.ownBlock = some k)
    (hrow : w'.ownsRow 0 35 5 tv G.length ((G.set i (tbI G[i].1 l', G[i].2.1, v', G[i].2.2.2)).flatMap gL)) (hc : w'.ownsRow 0 71 5 v' l'.length (l'.flatMap ixL)) (hb : ∀ k, v'.ownBlock = some k → G[i].2.2.1.ownBlock = some k ∨ w.heap.size ≤ k) : Dr w' B (G.set i (tbI G[i].1 l', G[i].2.1, v', G[i].2.2.2)) tv := by
  have keep : ∀ {e : TypeId} {c n : Nat} {v : Value} {xs : List Value}, w.ownsRow B e c v n xs → e ≠ 24 → e ≠ 35 → e ≠ 71 → w'.ownsRow B e c v n xs := fun hr h1 h2 h3 => row_keep hr hf (fun b hb' z => by
    obtain ⟨cs, t⟩ := own_tag hr b hb'
    rcases hT b z with z | z | z
    · rw [z, hA] at t
      simp only [Option.some.injEq, Obj.cells.injEq] at t
      exact h1 t.2.1.symm
    · obtain ⟨cs2, t2⟩ := own_tag h.row b z
      rw [t2] at t
      simp only [Option.some.injEq, Obj.cells.injEq] at t
      exact h2 t.2.1.symm
    · obtain ⟨cs2, t2⟩ := own_tag (h.i G[i] (List.getElem_mem hi)) b z
      rw [t2] at t
      simp only [Option.some.injEq, Obj.cells.injEq] at t
      exact h3 t.2.1.symm)
  refine ⟨by rw [List.length_set]; exact own_base hrow (fun k hk => (own_ge h.row k hk).1), ?_, ?_, ?_, ?_, ?_, ?_⟩
  · exact fun x hx => by
        rcases List.mem_or_eq_of_mem_set hx with q | q
        · exact keep (h.c x q) (by decide) (by decide) (by decide)
        · subst q
          exact keep (h.c G[i] (List.getElem_mem hi)) (by decide) (by decide) (by decide)
  · exact fun x hx => by
        obtain ⟨j, hj, ej⟩ := List.getElem_of_mem hx
        rw [List.length_set] at hj
        by_cases q : i = j
        · subst q
          rw [List.getElem_set_self] at ej
          subst ej
          exact own_base hc (fun b hb' => by
            rcases hb b hb' with z | z
            · exact (own_ge (h.i G[i] (List.getElem_mem hi)) b z).1
            · exact Nat.le_trans hB z)
        · rw [List.getElem_set_ne q] at ej
          subst ej
          refine row_keep (h.i G[j] (List.getElem_mem hj)) hf (fun b hb' z => ?_)
          rcases hT b z with z | z | z
          · rw [z] at hb'
            obtain ⟨cs, t⟩ := own_tag (h.i G[j] (List.getElem_mem hj)) A hb'
            rw [hA] at t
            simp only [Option.some.injEq, Obj.cells.injEq] at t
            exact absurd t.2.1 (by decide)
          · obtain ⟨cs, t⟩ := own_tag (h.i G[j] (List.getElem_mem hj)) b hb'
            obtain ⟨cs2, t2⟩ := own_tag h.row b z
            rw [t2] at t
            simp only [Option.some.injEq, Obj.cells.injEq] at t
            exact absurd t.2.1 (by decide)
          · exact h.api i j hi hj q b z hb'
  · exact fun x hx => by
        rcases List.mem_or_eq_of_mem_set hx with q | q
        · exact keep (h.k x q) (by decide) (by decide) (by decide)
        · subst q
          exact keep (h.k G[i] (List.getElem_mem hi)) (by decide) (by decide) (by decide)
  · exact fun a b ha hb2 hne k hk => by
        rw [List.length_set] at ha hb2
        have hk' : G[a].2.1.ownBlock = some k := by
          rw [List.getElem_set] at hk
          split at hk
          · rename_i q; subst q; exact hk
          · exact hk
        have := h.apc a b ha hb2 hne k hk'
        rw [List.getElem_set]
        split
        · rename_i q; subst q; exact this
        · exact this
  · exact fun a b ha hb2 hne k hk => by
        rw [List.length_set] at ha hb2
        rw [List.getElem_set] at hk
        rw [List.getElem_set]
        by_cases q1 : i = a
        · subst q1
          rw [if_pos rfl] at hk
          rw [if_neg hne]
          rcases hb k hk with z | z
          · exact h.api i b hi hb2 hne k z
          · intro q
            have := (own_ge (h.i G[b] (List.getElem_mem hb2)) k q).2
            omega
        · rw [if_neg q1] at hk
          by_cases q2 : i = b
          · subst q2
            rw [if_pos rfl]
            intro q
            rcases hb k q with z | z
            · exact h.api i a hi ha q1 k z hk
            · have := (own_ge (h.i G[a] (List.getElem_mem ha)) k hk).2
              omega
          · rw [if_neg q2]
            exact h.api a b ha hb2 hne k hk
  · exact fun a b ha hb2 hne k hk => by
        rw [List.length_set] at ha hb2
        have hk' : G[a].2.2.2.ownBlock = some k := by
          rw [List.getElem_set] at hk
          split at hk
          · rename_i q; subst q; exact hk
          · exact hk
        have := h.apk a b ha hb2 hne k hk'
        rw [List.getElem_set]
        split
        · rename_i q; subst q; exact this
        · exact this
/-- One table's list is another one. -/
theorem Dr.setK {w w' : World} {B A : Nat} {G : List Gt} {tv : Value} {T : Nat → Prop} {cA : Array Value} (h : Dr w B G tv) {i : Nat} (hi : i < G.length) (hA : w.heap[A]? = some (.cells cA 24 (0, 0))) (hB : B ≤ w.heap.size) {l' : List Fk} {v' : Value} (hf : Fr w w' T) (hT : ∀ k, T k → k = A ∨ tv.ownBlock = some k ∨ G[i].2.2.2.ownBlock = some k)
    (hrow : w'.ownsRow 0 35 5 tv G.length ((G.set i (tbK G[i].1 l', G[i].2.1, G[i].2.2.1, v')).flatMap gL)) (hc : w'.ownsRow 0 74 5 v' l'.length (l'.flatMap fkL)) (hb : ∀ k, v'.ownBlock = some k → G[i].2.2.2.ownBlock = some k ∨ w.heap.size ≤ k) : Dr w' B (G.set i (tbK G[i].1 l', G[i].2.1, G[i].2.2.1, v')) tv := by
  have keep : ∀ {e : TypeId} {c n : Nat} {v : Value} {xs : List Value}, w.ownsRow B e c v n xs → e ≠ 24 → e ≠ 35 → e ≠ 74 → w'.ownsRow B e c v n xs := fun hr h1 h2 h3 => row_keep hr hf (fun b hb' z => by
    obtain ⟨cs, t⟩ := own_tag hr b hb'
    rcases hT b z with z | z | z
    · rw [z, hA] at t
      simp only [Option.some.injEq, Obj.cells.injEq] at t
      exact h1 t.2.1.symm
    · obtain ⟨cs2, t2⟩ := own_tag h.row b z
      rw [t2] at t
      simp only [Option.some.injEq, Obj.cells.injEq] at t
      exact h2 t.2.1.symm
    · obtain ⟨cs2, t2⟩ := own_tag (h.k G[i] (List.getElem_mem hi)) b z
      rw [t2] at t
      simp only [Option.some.injEq, Obj.cells.injEq] at t
      exact h3 t.2.1.symm)
  refine ⟨by rw [List.length_set]; exact own_base hrow (fun k hk => (own_ge h.row k hk).1), ?_, ?_, ?_, ?_, ?_, ?_⟩
  · exact fun x hx => by
        rcases List.mem_or_eq_of_mem_set hx with q | q
        · exact keep (h.c x q) (by decide) (by decide) (by decide)
        · subst q
          exact keep (h.c G[i] (List.getElem_mem hi)) (by decide) (by decide) (by decide)
  · exact fun x hx => by
        rcases List.mem_or_eq_of_mem_set hx with q | q
        · exact keep (h.i x q) (by decide) (by decide) (by decide)
        · subst q
          exact keep (h.i G[i] (List.getElem_mem hi)) (by decide) (by decide) (by decide)
  · exact fun x hx => by
        obtain ⟨j, hj, ej⟩ := List.getElem_of_mem hx
        rw [List.length_set] at hj
        by_cases q : i = j
        · subst q
          rw [List.getElem_set_self] at ej
          subst ej
          exact own_base hc (fun b hb' => by
            rcases hb b hb' with z | z
            · exact (own_ge (h.k G[i] (List.getElem_mem hi)) b z).1
            · exact Nat.le_trans hB z)
        · rw [List.getElem_set_ne q] at ej
          subst ej
          refine row_keep (h.k G[j] (List.getElem_mem hj)) hf (fun b hb' z => ?_)
          rcases hT b z with z | z | z
          · rw [z] at hb'
            obtain ⟨cs, t⟩ := own_tag (h.k G[j] (List.getElem_mem hj)) A hb'
            rw [hA] at t
            simp only [Option.some.injEq, Obj.cells.injEq] at t
            exact absurd t.2.1 (by decide)
          · obtain ⟨cs, t⟩ := own_tag (h.k G[j] (List.getElem_mem hj)) b hb'
            obtain ⟨cs2, t2⟩ := own_tag h.row b z
            rw [t2] at t
            simp only [Option.some.injEq, Obj.cells.injEq] at t
            exact absurd t.2.1 (by decide)
          · exact h.apk i j hi hj q b z hb'
  · exact fun a b ha hb2 hne k hk => by
        rw [List.length_set] at ha hb2
        have hk' : G[a].2.1.ownBlock = some k := by
          rw [List.getElem_set] at hk
          split at hk
          · rename_i q; subst q; exact hk
          · exact hk
        have := h.apc a b ha hb2 hne k hk'
        rw [List.getElem_set]
        split
        · rename_i q; subst q; exact this
        · exact this
  · exact fun a b ha hb2 hne k hk => by
        rw [List.length_set] at ha hb2
        have hk' : G[a].2.2.1.ownBlock = some k := by
          rw [List.getElem_set] at hk
          split at hk
          · rename_i q; subst q; exact hk
          · exact hk
        have := h.api a b ha hb2 hne k hk'
        rw [List.getElem_set]
        split
        · rename_i q; subst q; exact this
        · exact this
  · exact fun a b ha hb2 hne k hk => by
        rw [List.length_set] at ha hb2
        rw [List.getElem_set] at hk
        rw [List.getElem_set]
        by_cases q1 : i = a
        · subst q1
          rw [if_pos rfl] at hk
          rw [if_neg hne]
          rcases hb k hk with z | z
          · exact h.apk i b hi hb2 hne k z
          · intro q
            have := (own_ge (h.k G[b] (List.getElem_mem hb2)) k q).2
            omega
        · rw [if_neg q1] at hk
          by_cases q2 : i = b
          · subst q2
            rw [if_pos rfl]
            intro q
            rcases hb k q with z | z
            · exact h.apk i a hi ha q1 k z hk
            · have := (own_ge (h.k G[a] (List.getElem_mem ha)) k hk).2
              omega
          · rw [if_neg q2]
            exact h.apk a b ha hb2 hne k hk
/-- A table more. -/
theorem Dr.push {w w' : World} {B : Nat} {G : List Gt} {tv tv' : Value} {T : Nat → Prop} (h : Dr w B G tv) (hB : B ≤ w.heap.size) (hf : Fr w w' T) (hT : ∀ k, T k → k < B ∨ tv.ownBlock = some k ∨ ∀ cs e, w.heap[k]? = some (.cells cs e (0, 0)) → e ≠ 35 ∧ e ≠ 50 ∧ e ≠ 71 ∧ e ≠ 74) (g : Gt)
    (hrow : w'.ownsRow 0 35 5 tv' (G ++ [g]).length ((G ++ [g]).flatMap gL)) (hb : ∀ k, tv'.ownBlock = some k → tv.ownBlock = some k ∨ w.heap.size ≤ k)
    (hc : w'.ownsRow w.heap.size 50 7 g.2.1 g.1.cols.length (g.1.cols.flatMap colL)) (hi : w'.ownsRow w.heap.size 71 5 g.2.2.1 g.1.ixs.length (g.1.ixs.flatMap ixL)) (hk : w'.ownsRow w.heap.size 74 5 g.2.2.2 g.1.fks.length (g.1.fks.flatMap fkL)) : Dr w' B (G ++ [g]) tv' := by
  have keep : ∀ {e : TypeId} {c n : Nat} {v : Value} {xs : List Value}, w.ownsRow B e c v n xs → (e = 50 ∨ e = 71 ∨ e = 74) → w'.ownsRow B e c v n xs := fun hr he => row_keep hr hf (fun j hj q => by
    obtain ⟨cs, t⟩ := own_tag hr j hj
    have hB' := own_ge hr j hj
    rcases hT j q with z | z | z
    · omega
    · obtain ⟨cs2, t2⟩ := own_tag h.row j z
      rw [t2] at t
      simp only [Option.some.injEq, Obj.cells.injEq] at t
      have t3 := t.2.1
      rcases he with rfl | rfl | rfl <;> exact absurd t3 (by decide)
    · obtain ⟨z1, z2, z3, z4⟩ := z cs _ t
      rcases he with rfl | rfl | rfl
      · exact z2 rfl
      · exact z3 rfl
      · exact z4 rfl)
  refine ⟨own_base hrow (fun k q => by
      rcases hb k q with z | z
      · exact (own_ge h.row k z).1
      · exact Nat.le_trans hB z), ?_, ?_, ?_, ?_, ?_, ?_⟩
  · intro x hx
    rcases List.mem_append.1 hx with q | q
    · exact keep (h.c x q) (.inl rfl)
    · rw [List.mem_singleton.1 q]
      exact own_mono hc hB
  · intro x hx
    rcases List.mem_append.1 hx with q | q
    · exact keep (h.i x q) (.inr (.inl rfl))
    · rw [List.mem_singleton.1 q]
      exact own_mono hi hB
  · intro x hx
    rcases List.mem_append.1 hx with q | q
    · exact keep (h.k x q) (.inr (.inr rfl))
    · rw [List.mem_singleton.1 q]
      exact own_mono hk hB
  · intro a b ha hb2 hne k q
    rw [List.length_append, List.length_cons, List.length_nil] at ha hb2
    by_cases ea : a < G.length
    · rw [List.getElem_append_left ea] at q
      by_cases eb : b < G.length
      · rw [List.getElem_append_left eb]
        exact h.apc a b ea eb hne k q
      · have hb3 : b = G.length := by omega
        subst hb3
        rw [List.getElem_concat_length rfl]
        intro z
        have z1 := (own_ge hc k z).1
        have z2 := (own_ge (h.c G[a] (List.getElem_mem ea)) k q).2
        omega
    · have ha3 : a = G.length := by omega
      subst ha3
      rw [List.getElem_concat_length rfl] at q
      have eb : b < G.length := by omega
      rw [List.getElem_append_left eb]
      intro z
      have z1 := (own_ge hc k q).1
      have z2 := (own_ge (h.c G[b] (List.getElem_mem eb)) k z).2
      omega
  · intro a b ha hb2 hne k q
    rw [List.length_append, List.length_cons, List.length_nil] at ha hb2
    by_cases ea : a < G.length
    · rw [List.getElem_append_left ea] at q
      by_cases eb : b < G.length
      · rw [List.getElem_append_left eb]
        exact h.api a b ea eb hne k q
      · have hb3 : b = G.length := by omega
        subst hb3
        rw [List.getElem_concat_length rfl]
        intro z
        have z1 := (own_ge hi k z).1
        have z2 := (own_ge (h.i G[a] (List.getElem_mem ea)) k q).2
        omega
    · have ha3 : a = G.length := by omega
      subst ha3
      rw [List.getElem_concat_length rfl] at q
      have eb : b < G.length := by omega
      rw [List.getElem_append_left eb]
      intro z
      have z1 := (own_ge hi k q).1
      have z2 := (own_ge (h.i G[b] (List.getElem_mem eb)) k z).2
      omega
  · intro a b ha hb2 hne k q
    rw [List.length_append, List.length_cons, List.length_nil] at ha hb2
    by_cases ea : a < G.length
    · rw [List.getElem_append_left ea] at q
      by_cases eb : b < G.length
      · rw [List.getElem_append_left eb]
        exact h.apk a b ea eb hne k q
      · have hb3 : b = G.length := by omega
        subst hb3
        rw [List.getElem_concat_length rfl]
        intro z
        have z1 := (own_ge hk k z).1
        have z2 := (own_ge (h.k G[a] (List.getElem_mem ea)) k q).2
        omega
    · have ha3 : a = G.length := by omega
      subst ha3
      rw [List.getElem_concat_length rfl] at q
      have eb : b < G.length := by omega
      rw [List.getElem_append_left eb]
      intro z
      have z1 := (own_ge hk k q).1
      have z2 := (own_ge (h.k G[b] (List.getElem_mem eb)) k z).2
      omega
end Go.Proofs.YtongmhfpoopebaaGreat
