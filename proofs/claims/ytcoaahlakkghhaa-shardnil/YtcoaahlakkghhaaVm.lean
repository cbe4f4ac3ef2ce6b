/- slices.Insert at a row of pointers, whatever room there is. -/
import Derived.Test.YtcoaahlakkghhaaVl
namespace Go.Proofs.Ytcoaahlakkghhaa
open Go.RowKit

theorem setCells_fix (b : Nat) : ∀ (vs : List Value) (o : Nat) (w : World), (w.setCells b o vs).os = w.os ∧ (w.setCells b o vs).tape = w.tape ∧ (w.setCells b o vs).output = w.output ∧ (w.setCells b o vs).heap.size = w.heap.size
  | [], _, _ => ⟨rfl, rfl, rfl, rfl⟩
  | v :: r, o, w => by
    obtain ⟨h1, h2, h3, h4⟩ := setCells_fix b r (o + 1) (w.setCell ⟨b, o, none⟩ v)
    exact ⟨h1, h2, h3, h4.trans (by simp [World.setCell])⟩
theorem setCells_other (b : Nat) : ∀ (vs : List Value) (o : Nat) (w : World) (k : Nat), k ≠ b → (w.setCells b o vs).heap[k]? = w.heap[k]?
  | [], _, _, _, _ => rfl
  | v :: r, o, _, k, h => (setCells_other b r (o + 1) _ k h).trans (set_other (a := ⟨b, o, none⟩) v h)
theorem setCells_blk (b : Nat) {t : TypeId} {fr : Nat × Nat} : ∀ (vs : List Value) (o : Nat) (w : World) (cur : Array Value), w.heap[b]? = some (.cells cur t fr) → ∃ cur', (w.setCells b o vs).heap[b]? = some (.cells cur' t fr) ∧ cur'.size = cur.size
  | [], _, _, cur, h => ⟨cur, h, rfl⟩
  | v :: r, o, w, cur, h => by
    obtain ⟨c, h1, h2⟩ := setCells_blk b r (o + 1) _ _ (set_blk (i := o) h v)
    exact ⟨c, h1, h2.trans (by simp)⟩
theorem setCells_fr (b o : Nat) (vs : List Value) (w : World) {S : Nat → Prop} (h : S b) : Fr w (w.setCells b o vs) S := by
  obtain ⟨h1, h2, h3, h4⟩ := setCells_fix b vs o w
  exact ⟨h1, h2, h3, by rw [h4]; exact Nat.le_refl _, fun k _ hk => setCells_other b vs o w k (fun e => hk (e ▸ h))⟩
theorem inn_get {α : Type} (l : List α) (i : Nat) (x : α) (hi : i ≤ l.length) (j : Nat) : (inn l i x)[j]? = if j < i then l[j]? else if j = i then some x else l[j - 1]? := by
  unfold inn
  by_cases h1 : j < i
  · rw [if_pos h1, List.getElem?_append_left (by simp; omega), List.getElem?_take, if_pos h1]
  · rw [if_neg h1, List.getElem?_append_right (by simp; omega), List.length_take, Nat.min_eq_left hi]
    by_cases h2 : j = i
    · subst h2
      simp
    · rw [if_neg h2, show j - i = (j - 1 - i) + 1 by omega, List.getElem?_cons_succ, List.getElem?_drop]
      congr 1
      omega
theorem inn_len {α : Type} (l : List α) (i : Nat) (x : α) (hi : i ≤ l.length) : (inn l i x).length = l.length + 1 := by
  unfold inn
  simp only [List.length_append, List.length_cons, List.length_take, List.length_drop]
  omega
section
variable {w w' W V : World} {g i n : Nat} {xs : List Value} {x : Value}
theorem two_cells (hl : xs.length = n) (hi : i ≤ n) (h1 : ∀ j, j < i → W.cell? ⟨g, j, none⟩ = xs[j]?) {U : World} (hU : ∀ j, U.cell? ⟨g, j, none⟩ = if j = i then some x else if i < j ∧ j < n + 1 then xs[j - 1]? else W.cell? ⟨g, j, none⟩) : ∀ j, j < n + 1 → U.cell? ⟨g, j, none⟩ = (inn xs i x)[j]? := by
  intro j hj
  rw [hU j, inn_get xs i x (by omega)]
  by_cases h3 : j < i
  · rw [if_neg (by omega), if_neg (by omega), if_pos h3]
    exact h1 j h3
  · rw [if_neg h3]
    by_cases h4 : j = i
    · rw [if_pos h4, if_pos h4]
    · rw [if_neg h4, if_neg h4, if_pos (by omega)]
theorem set_in {U : World} {b o : Nat} {vs : List Value} (h : ∀ j, j < vs.length → (U.cell? ⟨b, o + j, none⟩).isSome = true) (j : Nat) : (U.setCells b o vs).cell? ⟨b, j, none⟩ = if o ≤ j ∧ j < o + vs.length then vs[j - o]? else U.cell? ⟨b, j, none⟩ := by
  by_cases hin : o ≤ j ∧ j < o + vs.length
  · have := World.cell?_setCells_in b vs o U h (j - o) (by omega)
    rw [show o + (j - o) = j by omega] at this
    rw [this, if_pos hin, List.getElem?_eq_getElem (by omega)]
  · rw [if_neg hin]
    exact World.cell?_setCells_out b vs o U ⟨b, j, none⟩ (fun _ _ => by show j < o ∨ o + vs.length ≤ j; omega)
theorem row_of {t : TypeId} {cur : Array Value} {cap : Nat} (hb : W.heap[g]? = some (.cells cur t (0, 0))) (hc : cur.size = cap) (hn : n ≤ cap) (hm : cap ≤ maxLen) (hl : xs.length = n) (h : ∀ j, j < n → W.cell? ⟨g, j, none⟩ = xs[j]?) : W.ownsRow 0 t 1 (.slice (some ⟨g, 0, none⟩) n cap) n xs := by
  refine ⟨by omega, .inr ⟨g, cap, cur, rfl, Nat.zero_le _, hb, hn, hm, by omega, ?_⟩⟩
  rw [Nat.mul_one]
  refine List.ext_getElem? (fun j => ?_)
  rw [List.getElem?_take]
  by_cases hj : j < n
  · rw [if_pos hj, ← h j hj, cell_blk hb, Array.getElem?_toList]
  · rw [if_neg hj, List.getElem?_eq_none (by omega)]
def InsAns (w : World) (rv : Value) (n : Nat) (ys : List Value) (e : Ending) (w' : World) : Prop := ∃ ad cap, e = .returned (.slice ad (n + 1) cap) ∧ w'.ownsRow 0 126 1 (.slice ad (n + 1) cap) (n + 1) ys ∧ Fr w w' (fun k => rv.ownBlock = some k) ∧ (∀ k, (Value.slice ad (n + 1) cap).ownBlock = some k → rv.ownBlock = some k ∨ w.heap.size ≤ k)
set_option maxHeartbeats 1000000 in
theorem insert_any {rv : Value} {vb : Nat} (h : w.ownsRow 0 126 1 rv n xs) (h1c : ∀ v ∈ xs, v.oneCell' = true) (hi : i ≤ n) (hn : n ≤ 800000) (h1v : x.oneCell' = true) (hv : w.heap[vb]? = some (.cells #[x] 126 (0, 0))) (hvb : rv.ownBlock ≠ some vb) :
    Calls Try.prog 108 #[rv, .int .i64 (i : Int), .slice (some ⟨vb, 0, none⟩) 1 1] w fun e w' => InsAns w rv n (inn xs i x) e w' := by
  have hxl : xs.length = n := by have := h.1; omega
  by_cases he : i = n
  · subst he
    obtain ⟨ad, cap, w', hrun, ho, hg, hat⟩ := run_pt (m := 1) (c := 1) (news := [x]) h (Nat.zero_le _) (.inr ⟨⟨vb, 0, none⟩, rfl, rfl, fun j u hu => by
      rw [add_at, Nat.zero_add, cell_blk hv]
      simpa using hu⟩) (fun u hu => by rw [List.mem_singleton.1 hu]; exact h1v) (by omega)
    have hin : inn xs i x = xs ++ [x] := by
      unfold inn
      rw [List.take_of_length_le (by omega), List.drop_eq_nil_of_le (by omega)]
    have HA : Hid (InsAns w rv i (inn xs i x) (.returned (.slice ad (i + 1) cap)) w') := by
      rw [hin]
      refine ⟨ad, cap, rfl, ho, Fr.grown (Fr.refl w _) hg (fun k hk => .inl hk), fun k hk => ?_⟩
      rcases hat with e | e
      · rw [e] at hk
        exact .inl hk
      · rw [e] at hk
        cases hk
        exact .inr (Nat.le_refl _)
    obtain ⟨rad, rcap, rfl⟩ := own_shape h
    have hrc : (i : Int) ≤ (rcap : Int) ∧ (rcap : Int) ≤ 9223372036854775807 := by
      rcases h.2 with ⟨hv, h0⟩ | ⟨g, cap, cur, hv, _, _, z1, z2, _⟩
      · simp only [Value.slice.injEq] at hv
        obtain ⟨_, z, rfl⟩ := hv
        omega
      · cases hv
        unfold maxLen at z2
        omega
    obtain ⟨hr1, hr2⟩ := hrc
    have i0 : (0 : Int) ≤ (i : Int) := by omega
    obtain ⟨ad', cap', hsl⟩ : ∃ ad' cap', ∀ X : World, (Instr.sliceAt 114 (.slice rad i rcap) (some (.int .i64 (i : Int))) none none).run Try.prog X = .ok (.slice ad' 0 cap') X := by
      by_cases z : rcap = i
      · refine ⟨rad, 0, fun X => ?_⟩
        subst z
        cases rad <;> go_simp
      · rcases h.2 with ⟨hv, h0⟩ | ⟨g, cap, cur, hv, _⟩
        · simp only [Value.slice.injEq] at hv
          omega
        · cases hv
          refine ⟨some ((⟨g, 0, none⟩ : Addr).add i), rcap - i, fun X => ?_⟩
          have z2 : ¬ rcap = i := z
          go_simp
    clear hat hg ho hin h hxl
    go_enter Try.func108, Try.ntmps108
    go_wp2_with (at_builtin; refine wpl_run2 _ _ rfl (by simp [Act.eval]) (by simp [Act.eval]) hrun ?_)
    refine bodyPost_ret (v := .slice ad (i + 1) cap) (by simp [results, Try.results108, go_sem]) rfl ?_
    exact HA.out
  · have hlt : i < n := by omega
    rcases h.2 with ⟨hv0, h0⟩ | ⟨g, cap, cur, hv0, _, hg, z1, z2, z3, z4⟩
    · omega
    · subst hv0
      have hcell := fun j (hj : j < n) => h.cellAt j (by omega)
      have hcs : ∀ j v, xs[j]? = some v → w.cell? ⟨g, j, none⟩ = some v := fun j v hj => by
        have := (List.getElem?_eq_some_iff.1 hj).1
        rw [hcell j (by omega)]
        exact hj
      have hgv : vb ≠ g := fun e => hvb (by rw [e]; rfl)
      by_cases hroom : n + 1 ≤ cap
      · have hsp : ∀ j, j < n + 1 → (w.cell? ⟨g, j, none⟩).isSome = true := fun j hj => by
          rw [cell_blk hg, Array.getElem?_eq_getElem (by omega)]
          rfl
        refine (ins_shift g n cap i vb xs x cur.size hlt hroom (by unfold maxLen at z2; omega) hgv hxl hcs hsp (fun j => frozen_blk hg j) hv h1c h1v (by simp [World.shape?, hg]) (by omega)).mono ?_
        rintro e w' ⟨rfl, rfl⟩
        have hg0 : w.drew.heap[g]? = some (.cells cur 126 (0, 0)) := hg
        obtain ⟨c1, b1, s1⟩ := setCells_blk g (xs.drop i) (i + 1) w.drew cur hg0
        obtain ⟨c2, b2, s2⟩ := setCells_blk g [x] i _ c1 b1
        have hdl : (xs.drop i).length = n - i := by rw [List.length_drop, hxl]
        have hU : ∀ j, ((w.drew.setCells g (i + 1) (xs.drop i)).setCells g i [x]).cell? ⟨g, j, none⟩ = if j = i then some x else if i < j ∧ j < n + 1 then xs[j - 1]? else w.cell? ⟨g, j, none⟩ := by
          intro j
          rw [set_in (U := w.drew.setCells g (i + 1) (xs.drop i)) (fun k hk => by
            simp at hk
            rw [cell_blk b1, Array.getElem?_eq_getElem (by omega)]
            rfl)]
          by_cases q : j = i
          · rw [if_pos q, if_pos (by simp; omega)]
            subst q
            simp
          · rw [if_neg q, if_neg (by simp; omega), set_in (U := w.drew) (fun k hk => hsp _ (by rw [hdl] at hk; omega))]
            by_cases q2 : i < j ∧ j < n + 1
            · rw [if_pos q2, if_pos (by rw [hdl]; omega), List.getElem?_drop]
              congr 1
              omega
            · rw [if_neg q2, if_neg (by rw [hdl]; omega)]
              rfl
        refine ⟨_, cap, rfl, row_of b2 (by omega) hroom z2 (by rw [inn_len xs i x (by omega), hxl]) (two_cells hxl (by omega) (fun j hj => hcell j (by omega)) hU), ?_, fun k hk => .inl hk⟩
        have f1 : Fr w w.drew (fun k => (Value.slice (some ⟨g, 0, none⟩) n cap).ownBlock = some k) := ⟨rfl, rfl, rfl, Nat.le_refl _, fun _ _ _ => rfl⟩
        exact (f1.trans (setCells_fr g (i + 1) (xs.drop i) w.drew (S := fun k => (Value.slice (some ⟨g, 0, none⟩) n cap).ownBlock = some k) rfl)).trans (setCells_fr g i [x] _ (S := fun k => (Value.slice (some ⟨g, 0, none⟩) n cap).ownBlock = some k) rfl)
      · refine (ins_grow g n cap i vb xs x hlt z1 (by omega) (by omega) hxl hcs hv h1c h1v).mono ?_
        rintro e w' ⟨K, ROW, k1, k2, k3, k4, rfl, rfl⟩
        obtain ⟨N, hN⟩ : ∃ N, w.heap.size = N := ⟨_, rfl⟩
        rw [hN]
        have hb0 : (w.alloc (.cells ROW 126)).drew.heap[N]? = some (.cells ROW 126 (0, 0)) := by rw [← hN]; exact heap_alloc_new w _
        obtain ⟨c1, b1, s1⟩ := setCells_blk N [x] i _ ROW hb0
        have b1' : ((w.alloc (.cells ROW 126)).drew.setCells N i [x]).drew.heap[N]? = some (.cells c1 126 (0, 0)) := b1
        obtain ⟨c2, b2, s2⟩ := setCells_blk N (xs.drop i) (i + 1) _ c1 b1'
        have hdl : (xs.drop i).length = n - i := by rw [List.length_drop, hxl]
        have hs0 : ∀ j, j < n + 1 → ((w.alloc (.cells ROW 126)).drew.cell? ⟨N, j, none⟩).isSome = true := fun j hj => by
          rw [cell_blk hb0, Array.getElem?_eq_getElem (by omega)]
          rfl
        have hU : ∀ j, (((w.alloc (.cells ROW 126)).drew.setCells N i [x]).drew.setCells N (i + 1) (xs.drop i)).cell? ⟨N, j, none⟩ = if j = i then some x else if i < j ∧ j < n + 1 then xs[j - 1]? else (w.alloc (.cells ROW 126)).drew.cell? ⟨N, j, none⟩ := by
          intro j
          rw [set_in (U := ((w.alloc (.cells ROW 126)).drew.setCells N i [x]).drew) (fun k hk => by
            rw [hdl] at hk
            rw [cell_blk b1', Array.getElem?_eq_getElem (by omega)]
            rfl)]
          by_cases q2 : i < j ∧ j < n + 1
          · rw [if_pos (by rw [hdl]; omega), if_neg (by omega), if_pos q2, List.getElem?_drop]
            congr 1
            omega
          · rw [if_neg (by rw [hdl]; omega), if_neg q2]
            show ((w.alloc (.cells ROW 126)).drew.setCells N i [x]).cell? ⟨N, j, none⟩ = _
            rw [set_in (U := (w.alloc (.cells ROW 126)).drew) (fun k hk => hs0 _ (by simp at hk; omega))]
            by_cases q : j = i
            · rw [if_pos q, if_pos (by simp; omega)]
              subst q
              simp
            · rw [if_neg q, if_neg (by simp; omega)]
        refine ⟨_, K, rfl, row_of b2 (by omega) k1 k2 (by rw [inn_len xs i x (by omega), hxl]) (two_cells hxl (by omega) (fun j hj => ?_) hU), ?_, fun k hk => ?_⟩
        · rw [cell_blk hb0]
          have hj2 : xs[j]? = some xs[j] := List.getElem?_eq_getElem (by omega)
          rw [hj2]
          exact k4 j _ hj hj2
        · have f0 : Fr w (w.alloc (.cells ROW 126)).drew (fun k => (Value.slice (some ⟨g, 0, none⟩) n cap).ownBlock = some k) := ((Fr.refl w _).alloc _).drewN 1
          have f1 := f0.step (setCells_fr N i [x] (w.alloc (.cells ROW 126)).drew (S := fun k => k = N) rfl) (fun k e => .inr (by have e' : k = N := e; omega))
          have f2 := (f1.drewN 1).step (setCells_fr N (i + 1) (xs.drop i) ((w.alloc (.cells ROW 126)).drew.setCells N i [x]).drew (S := fun k => k = N) rfl) (fun k e => .inr (by have e' : k = N := e; omega))
          exact f2
        · have e : N = k := by
            simp only [Value.ownBlock, Option.some.injEq] at hk
            exact hk
          exact .inr (by rw [← e, hN]; exact Nat.le_refl _)
end
end Go.Proofs.Ytcoaahlakkghhaa
