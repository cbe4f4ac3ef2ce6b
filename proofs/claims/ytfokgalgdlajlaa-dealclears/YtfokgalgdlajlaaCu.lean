/- The parts of an effect in memory. -/
import Derived.Test.YtfokgalgdlajlaaCt
import Derived.Test.YtfokgalgdlajlaaCk
namespace Go.Proofs.Ytfokgalgdlajlaa
open Go.RowKit
/-- A part, plain. -/
structure PP where
  sh : Int
  R : List Rd
  W : List Wr
structure PtIn (B : Nat) (X : World) (g : Gp) (q : PP) : Prop where
  sh : g.sh = q.sh
  r : RdRow B X q.R (.slice g.r.a g.r.n g.r.c)
  w : X.ownsRow B 69 3 (.slice g.w.a g.w.n g.w.c) q.W.length (q.W.flatMap wrL)
  rn : q.R = [] → g.r = .nil
  wn : q.W = [] → g.w = .nil
/-- The parts so far, with what each of them holds. -/
structure PS (B : Nat) (X : World) (Pb : Nat) (Ls : List PP) (L : List Gp) (v : Value) : Prop where
  pv : Pv B X Pb L v
  ne : v.ownBlock ≠ some Pb
  ln : L.length = Ls.length
  pt : ∀ i (h : i < L.length) (h' : i < Ls.length), PtIn B X L[i] Ls[i]
section
variable {B Pb : Nat} {X X' : World} {g : Gp} {q : PP} {L : List Gp} {Ls : List PP} {v : Value}
theorem PtIn.on (h : PtIn B X g q) (hb : Below X.heap.size X X') : PtIn B X' g q := ⟨h.sh, h.r.on hb, own_below h.w hb, h.rn, h.wn⟩
theorem PtIn.tag (h : PtIn B X g q) {T : Nat → Prop} (hf : Fr X X' T) (ht : ∀ k, T k → ∃ cs e, X.heap[k]? = some (.cells cs e (0, 0)) ∧ e ≠ 67 ∧ e ≠ 64 ∧ e ≠ 69) : PtIn B X' g q := by
  have kp : ∀ {e : TypeId} {m n : Nat} {v : Value} {xs : List Value}, (e = 67 ∨ e = 64 ∨ e = 69) → X.ownsRow B e m v n xs → X'.ownsRow B e m v n xs := fun he hr => keep_rowB hr hf fun k hk cs hc => by
    obtain ⟨cs', e', h1, h2, h3, h4⟩ := ht k hk
    rw [h1] at hc
    simp only [Option.some.injEq, Obj.cells.injEq] at hc
    rcases he with rfl | rfl | rfl
    · exact h2 hc.2.1
    · exact h3 hc.2.1
    · exact h4 hc.2.1
  obtain ⟨K, k1, k2, k3⟩ := h.r
  exact ⟨h.sh, ⟨K, k1, kp (.inl rfl) k2, fun g hg => kp (.inr (.inl rfl)) (k3 g hg)⟩, kp (.inr (.inr rfl)) h.w, h.rn, h.wn⟩
theorem PtIn.new (B : Nat) (X : World) (t : Int) : PtIn B X (newP t) ⟨t, [], []⟩ := ⟨rfl, ⟨[], rfl, World.ownsRow_nil _ _ _ _, fun g hg => by cases hg⟩, World.ownsRow_nil _ _ _ _, fun _ => rfl, fun _ => rfl⟩
theorem PS.on (h : PS B X Pb Ls L v) (hb : Below X.heap.size X X') : PS B X' Pb Ls L v := ⟨h.pv.on hb, h.ne, h.ln, fun i h1 h2 => (h.pt i h1 h2).on hb⟩
theorem PS.new {t : Int} {g cap : Nat} (h : PS B X Pb Ls L v) (hp : Pv B X' Pb (L ++ [newP t]) (.slice (some ⟨g, 0, none⟩) (L.length + 1) cap)) (hg : g ≠ Pb) (hf : Fr X X' (fun k => k = Pb ∨ v.ownBlock = some k)) : PS B X' Pb (Ls ++ [⟨t, [], []⟩]) (L ++ [newP t]) (.slice (some ⟨g, 0, none⟩) (L.length + 1) cap) := by
  refine ⟨hp, fun q => hg (by simpa [Value.ownBlock] using q), by rw [List.length_append, List.length_append, h.ln]; rfl, fun i h1 h2 => ?_⟩
  rw [List.length_append, List.length_singleton] at h1
  rcases Nat.lt_or_ge i L.length with q | q
  · rw [List.getElem_append_left q, List.getElem_append_left (by rw [← h.ln]; exact q)]
    refine (h.pt i q (by rw [← h.ln]; exact q)).tag hf fun k hk => ?_
    rcases hk with rfl | hk
    · exact ⟨_, _, h.pv.blk, by decide, by decide, by decide⟩
    · obtain ⟨cs, t9⟩ := own_tag h.pv.row k hk
      exact ⟨_, _, t9, by decide, by decide, by decide⟩
  · obtain rfl : i = L.length := by omega
    rw [List.getElem_append_right (Nat.le_refl _)]
    have e2 : (Ls ++ [(⟨t, [], []⟩ : PP)])[L.length]'h2 = ⟨t, [], []⟩ := by
      rw [List.getElem_append_right (by rw [h.ln]; exact Nat.le_refl _)]
      simp [h.ln]
    rw [e2]
    simp only [Nat.sub_self, List.getElem_singleton]
    exact PtIn.new B X' t
end
def Gp.withR (g : Gp) (u : Sv) : Gp := { g with r := u }
def Gp.withW (g : Gp) (u : Sv) : Gp := { g with w := u }
/-- Amid 'p.reads = append(p.reads, x)', where p.reads is none. -/
def Pr (B : Nat) (V : World) (g cap : Nat) (L : List Gp) (k : Nat) (p : Gp) (R : List Rd) (f : Bool) (X : World) : Prop := ∃ u : Sv, Fr V X (fun k => k = g) ∧ X.ownsRow B 84 3 (.slice (some ⟨g, 0, none⟩) L.length cap) L.length ((L.set k (p.withR u)).flatMap gpL) ∧ (f = false → u = p.r) ∧ (f = true → RdRow V.heap.size X R (.slice u.a u.n u.c))
def Pww (B : Nat) (V : World) (g cap : Nat) (L : List Gp) (k : Nat) (p : Gp) (W : List Wr) (f : Bool) (X : World) : Prop := ∃ u : Sv, Fr V X (fun k => k = g) ∧ X.ownsRow B 84 3 (.slice (some ⟨g, 0, none⟩) L.length cap) L.length ((L.set k (p.withW u)).flatMap gpL) ∧ (f = false → u = p.w) ∧ (f = true → X.ownsRow V.heap.size 69 3 (.slice u.a u.n u.c) W.length (W.flatMap wrL))
section
variable {B g cap k : Nat} {V X X' : World} {L : List Gp} {p : Gp} {R : List Rd} {W : List Wr} {f : Bool}
theorem Pr.fr (h : Pr B V g cap L k p R f X) : Fr V X (fun k => k = g) := by
  obtain ⟨u, h1, _⟩ := h
  exact h1
theorem Pww.fr (h : Pww B V g cap L k p W f X) : Fr V X (fun k => k = g) := by
  obtain ⟨u, h1, _⟩ := h
  exact h1
theorem Pr.below (h : Pr B V g cap L k p R f X) (hb : Below X.heap.size X X') : Pr B V g cap L k p R f X' := by
  obtain ⟨u, h1, h2, h3, h4⟩ := h
  exact ⟨u, h1.trans (Fr.ofBelow _ hb), own_below h2 hb, h3, fun e => (h4 e).on hb⟩
theorem Pww.below (h : Pww B V g cap L k p W f X) (hb : Below X.heap.size X X') : Pww B V g cap L k p W f X' := by
  obtain ⟨u, h1, h2, h3, h4⟩ := h
  exact ⟨u, h1.trans (Fr.ofBelow _ hb), own_below h2 hb, h3, fun e => own_below (h4 e) hb⟩
theorem Pr.cell (h : Pr B V g cap L k p R false X) (hk : k < L.length) : X.cell? ⟨g, k * 3 + 1, none⟩ = some (.slice p.r.a p.r.n p.r.c) ∧ ∀ j, X.frozen? ⟨g, j, none⟩ = false := by
  obtain ⟨u, h1, h2, h3, h4⟩ := h
  obtain rfl := h3 rfl
  have hs : k < (L.set k (p.withR p.r)).length := by rw [List.length_set]; exact hk
  obtain ⟨cs, t⟩ := own_tag h2 g rfl
  refine ⟨?_, fun j => frozen_blk t _⟩
  rw [(own_mono h2 (Nat.zero_le _)).cellAt (k * 3 + 1) (by
    have : (k + 1) * 3 ≤ L.length * 3 := Nat.mul_le_mul_right 3 (by omega)
    omega), fl_get gpL_len _ k hs 1 (by decide), List.getElem_set_self]
  rfl
theorem Pww.cell (h : Pww B V g cap L k p W false X) (hk : k < L.length) : X.cell? ⟨g, k * 3 + 2, none⟩ = some (.slice p.w.a p.w.n p.w.c) ∧ ∀ j, X.frozen? ⟨g, j, none⟩ = false := by
  obtain ⟨u, h1, h2, h3, h4⟩ := h
  obtain rfl := h3 rfl
  have hs : k < (L.set k (p.withW p.w)).length := by rw [List.length_set]; exact hk
  obtain ⟨cs, t⟩ := own_tag h2 g rfl
  refine ⟨?_, fun j => frozen_blk t _⟩
  rw [(own_mono h2 (Nat.zero_le _)).cellAt (k * 3 + 2) (by
    have : (k + 1) * 3 ≤ L.length * 3 := Nat.mul_le_mul_right 3 (by omega)
    omega), fl_get gpL_len _ k hs 2 (by decide), List.getElem_set_self]
  rfl
theorem Pr.st (h : Pr B V g cap L k p R false X) (hk : k < L.length) (hg : g < V.heap.size) (u : Sv) (hr : RdRow V.heap.size X R (.slice u.a u.n u.c)) : Pr B V g cap L k p R true (X.setCell ⟨g, k * 3 + 1, none⟩ (.slice u.a u.n u.c)) := by
  obtain ⟨u0, h1, h2, h3, h4⟩ := h
  have hf : Fr X (X.setCell ⟨g, k * 3 + 1, none⟩ (.slice u.a u.n u.c)) (fun k => k = g) := (Fr.refl X (fun k => k = g)).set (a := ⟨g, k * 3 + 1, none⟩) (.inl rfl) _
  refine ⟨u, h1.trans hf, ?_, fun e => (by cases e), fun _ => hr.fr hf hg⟩
  have h9 := row_setc h2 (k * 3 + 1) (.slice u.a u.n u.c)
  rw [fl_set gpL_len _ k (by rw [List.length_set]; exact hk) 1 _ (p.withR u) (by decide) (by rw [List.getElem_set_self]; rfl), List.set_set] at h9
  exact h9
theorem Pww.st (h : Pww B V g cap L k p W false X) (hk : k < L.length) (hg : g < V.heap.size) (u : Sv) (hr : X.ownsRow V.heap.size 69 3 (.slice u.a u.n u.c) W.length (W.flatMap wrL)) : Pww B V g cap L k p W true (X.setCell ⟨g, k * 3 + 2, none⟩ (.slice u.a u.n u.c)) := by
  obtain ⟨u0, h1, h2, h3, h4⟩ := h
  have hf : Fr X (X.setCell ⟨g, k * 3 + 2, none⟩ (.slice u.a u.n u.c)) (fun k => k = g) := (Fr.refl X (fun k => k = g)).set (a := ⟨g, k * 3 + 2, none⟩) (.inl rfl) _
  refine ⟨u, h1.trans hf, ?_, fun e => (by cases e), fun _ => row_keep hr hf (fun i hi q => by
    have := (hr.lt i hi).1
    have q' : i = g := q
    omega)⟩
  have h9 := row_setc h2 (k * 3 + 2) (.slice u.a u.n u.c)
  rw [fl_set gpL_len _ k (by rw [List.length_set]; exact hk) 2 _ (p.withW u) (by decide) (by rw [List.getElem_set_self]; rfl), List.set_set] at h9
  exact h9
end
section
variable {B Pb g cap k : Nat} {V X : World} {L : List Gp} {Ls : List PP} {R : List Rd} {W : List Wr}
theorem PS.setR (h : PS B V Pb Ls L (.slice (some ⟨g, 0, none⟩) L.length cap)) (hB : B ≤ V.heap.size) (hk : k < L.length) (hk' : k < Ls.length) (hX : Pr B V g cap L k L[k] R true X) (hR : R ≠ []) : ∃ L', L'.length = L.length ∧ PS B X Pb (Ls.set k { Ls[k] with R := R }) L' (.slice (some ⟨g, 0, none⟩) L.length cap) := by
  obtain ⟨u, h1, h2, _, h4⟩ := hX
  have hgP : g ≠ Pb := fun q => h.ne (by rw [q]; rfl)
  obtain ⟨cs, t9⟩ := own_tag h.pv.row g rfl
  have tg : ∀ {g9 : Gp} {q : PP}, PtIn B V g9 q → PtIn B X g9 q := fun hp => hp.tag h1 fun j hj => by
    have hj' : j = g := hj
    subst hj'
    exact ⟨_, _, t9, by decide, by decide, by decide⟩
  refine ⟨L.set k (L[k].withR u), List.length_set .., ⟨(h1.block Pb (blk_lt h.pv.blk) (fun q => hgP q.symm)).trans h.pv.blk, by rw [List.length_set]; exact h2, by rw [List.length_set]; exact h.pv.few, fun i j hi hj hij => ?_⟩, h.ne, by rw [List.length_set, List.length_set]; exact h.ln, fun i hi hi' => ?_⟩
  · rw [List.length_set] at hi hj
    have e : ∀ (m : Nat) (hm : m < L.length) (hm' : m < (L.set k (L[k].withR u)).length), ((L.set k (L[k].withR u))[m]'hm').sh = (L[m]).sh := fun m hm hm' => by
      rw [List.getElem_set]
      split
      · rename_i q
        subst q
        rfl
      · rfl
    rw [e i hi, e j hj]
    exact h.pv.rise i j hi hj hij
  · rw [List.length_set] at hi hi'
    by_cases e : k = i
    · subst e
      rw [List.getElem_set_self, List.getElem_set_self]
      have h5 := tg (h.pt k hi hi')
      exact ⟨h5.sh, (h4 rfl).mono hB, h5.w, fun e => absurd e hR, h5.wn⟩
    · rw [List.getElem_set_ne e, List.getElem_set_ne e]
      exact tg (h.pt i hi hi')
theorem PS.setW (h : PS B V Pb Ls L (.slice (some ⟨g, 0, none⟩) L.length cap)) (hB : B ≤ V.heap.size) (hk : k < L.length) (hk' : k < Ls.length) (hX : Pww B V g cap L k L[k] W true X) (hW : W ≠ []) : ∃ L', L'.length = L.length ∧ PS B X Pb (Ls.set k { Ls[k] with W := W }) L' (.slice (some ⟨g, 0, none⟩) L.length cap) := by
  obtain ⟨u, h1, h2, _, h4⟩ := hX
  have hgP : g ≠ Pb := fun q => h.ne (by rw [q]; rfl)
  obtain ⟨cs, t9⟩ := own_tag h.pv.row g rfl
  have tg : ∀ {g9 : Gp} {q : PP}, PtIn B V g9 q → PtIn B X g9 q := fun hp => hp.tag h1 fun j hj => by
    have hj' : j = g := hj
    subst hj'
    exact ⟨_, _, t9, by decide, by decide, by decide⟩
  refine ⟨L.set k (L[k].withW u), List.length_set .., ⟨(h1.block Pb (blk_lt h.pv.blk) (fun q => hgP q.symm)).trans h.pv.blk, by rw [List.length_set]; exact h2, by rw [List.length_set]; exact h.pv.few, fun i j hi hj hij => ?_⟩, h.ne, by rw [List.length_set, List.length_set]; exact h.ln, fun i hi hi' => ?_⟩
  · rw [List.length_set] at hi hj
    have e : ∀ (m : Nat) (hm : m < L.length) (hm' : m < (L.set k (L[k].withW u)).length), ((L.set k (L[k].withW u))[m]'hm').sh = (L[m]).sh := fun m hm hm' => by
      rw [List.getElem_set]
      split
      · rename_i q
        subst q
        rfl
      · rfl
    rw [e i hi, e j hj]
    exact h.pv.rise i j hi hj hij
  · rw [List.length_set] at hi hi'
    by_cases e : k = i
    · subst e
      rw [List.getElem_set_self, List.getElem_set_self]
      have h5 := tg (h.pt k hi hi')
      exact ⟨h5.sh, h5.r, own_mono (h4 rfl) hB, h5.rn, fun e => absurd e hW⟩
    · rw [List.getElem_set_ne e, List.getElem_set_ne e]
      exact tg (h.pt i hi hi')
end
end Go.Proofs.Ytfokgalgdlajlaa
