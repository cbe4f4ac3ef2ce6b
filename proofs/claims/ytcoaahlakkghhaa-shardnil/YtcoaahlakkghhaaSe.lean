/- A shard, plain and in memory. -/
import Derived.Test.YtcoaahlakkghhaaSd
import Derived.Test.YtcoaahlakkghhaaVp
import Derived.Test.YtcoaahlakkghhaaVj
namespace Go.Proofs.Ytcoaahlakkghhaa
open Go.RowKit
/-! ### Rows of things of c cells -/
section
variable {α : Type} {f : α → List Value} {c : Nat} {w w' : World} {B : Nat} {T : TypeId} {v : Value} {L : List α}
theorem fl_len (hc : ∀ x, (f x).length = c) : ∀ L : List α, (L.flatMap f).length = L.length * c
  | [] => by simp
  | x :: L => by
    rw [List.flatMap_cons, List.length_append, hc, fl_len hc L, List.length_cons, Nat.succ_mul]
    omega
theorem fl_get (hc : ∀ x, (f x).length = c) : ∀ (L : List α) (k : Nat) (hk : k < L.length) (j : Nat), j < c → (L.flatMap f)[k * c + j]? = (f L[k])[j]?
  | x :: L, 0, _, j, hj => by
    rw [List.flatMap_cons, Nat.zero_mul, Nat.zero_add, List.getElem?_append_left (by rw [hc]; exact hj)]
    rfl
  | x :: L, k + 1, hk, j, hj => by
    have e : (k + 1) * c + j = (f x).length + (k * c + j) := by rw [hc, Nat.succ_mul]; omega
    rw [List.flatMap_cons, e, List.getElem?_append_right (by omega), Nat.add_sub_cancel_left]
    exact fl_get hc L k (by simpa using hk) j hj
theorem Lr.own (hc : ∀ x, (f x).length = c) (h : w.ownsRow B T c v L.length (L.flatMap f)) : Lr (fun _ x cs => cs = f x) c w L v := by
  have h' := own_mono h (Nat.zero_le B)
  rcases h.2 with ⟨hv, hz⟩ | ⟨g, cap, cur, hv, hg, hcc, h1, h2, hr⟩
  · exact ⟨none, 0, by rw [hv, hz], fun _ => rfl, by omega, Nat.zero_le _, fun i hi => by omega⟩
  · subst hv
    refine ⟨_, cap, rfl, fun q => (by cases q), h1, h2, fun i hi => ⟨g, 0, f L[i], rfl, blk_lt hcc, rfl, hc _, fun j u hu => ?_⟩⟩
    have hj : j < c := by
      have := (List.getElem?_eq_some_iff.1 hu).1
      rwa [hc] at this
    have hlt : i * c + j < L.length * c := by
      have : (i + 1) * c ≤ L.length * c := Nat.mul_le_mul_right c hi
      rw [Nat.succ_mul] at this
      omega
    rw [Nat.zero_add, h'.cellAt _ hlt, fl_get hc L i hi j hj]
    exact hu
end
theorem snL_len (x : Sn) : (snL x).length = 2 := rfl
theorem wrL_len (x : Wr) : (wrL x).length = 3 := rfl
theorem rcL_len (x : Rc) : (rcL x).length = 4 := rfl
theorem tdL_len (x : Td) : (tdL x).length = 3 := rfl
theorem smL_len (x : Sm) : (smL x).length = 2 := rfl
/-! ### Plain -/
structure Sh where
  rows : List Rw
  locks : List Lk
  recs : List Rc
  over : List Td
  high : Int
def Sh.nil : Sh := ⟨[], [], [], [], 0⟩
def recOf (R : List Rc) (t : Td) : Option Int := (R.find? fun r => decide (r.1 = t)).map Prod.snd
def lockI (L : List Lk) (t : Td) : Int := fidx (fun l => decide (l.txn = t)) L
theorem recOf_snoc (R : List Rc) (t : Td) (n : Int) (h : recOf R t = none) (x : Td) : recOf (R ++ [(t, n)]) x = if x = t then some n else recOf R x := by
  unfold recOf at h ⊢
  rw [List.find?_append]
  by_cases e : x = t
  · subst e
    rw [if_pos rfl]
    rw [Option.map_eq_none_iff] at h
    rw [h]
    simp
  · rw [if_neg e]
    have : [(t, n)].find? (fun r => decide (r.1 = x)) = none := by
      have e' : ¬ t = x := fun q => e q.symm
      simp [e']
    rw [this, Option.or_none]
/-! ### In memory -/
abbrev Gl := Lk × Value × Value
def glL (g : Gl) : List Value := [.int .i64 g.1.txn.1, .int .i64 g.1.txn.2.1, .int .i64 g.1.txn.2.2, .int .i64 g.1.home, .int .i64 g.1.til, g.2.1, g.2.2]
theorem glL_len (g : Gl) : (glL g).length = 7 := rfl
structure Sx (w : World) (A : Nat) (S1 S2 : Nat → Prop) (s : Sh) (P M N : Nat) (G : List Gl) (lv rv ov : Value) : Prop where
  ob : w.heap[A]? = some (.cells #[.pointer (some ⟨P, 0, none⟩), lv, rv, .map (some M), ov, .map (some N), .int .i64 s.high] 92 (0, 0))
  st : Sb w P S1 s.rows
  lks : w.ownsRow 0 68 7 lv G.length (G.flatMap glL)
  gl : G.map Prod.fst = s.locks
  sp : ∀ g ∈ G, w.ownsRow 0 57 2 g.2.1 g.1.spans.length (g.1.spans.flatMap snL)
  wr : ∀ g ∈ G, w.ownsRow 0 55 3 g.2.2 g.1.writes.length (g.1.writes.flatMap wrL)
  rcs : w.ownsRow 0 101 4 rv s.recs.length (s.recs.flatMap rcL)
  ovs : w.ownsRow 0 37 3 ov s.over.length (s.over.flatMap tdL)
  tm : Mt w M s.recs.length (fun t => (recOf s.recs t).map (fun n => .int .i64 n))
  en : Mt w N s.over.length (fun t => if t ∈ s.over then some (.agg #[]) else none)
  mn : M ≠ N
  cA : S2 A
  cM : S2 M
  cN : S2 N
  cl : ∀ k, lv.ownBlock = some k → S2 k
  cr : ∀ k, rv.ownBlock = some k → S2 k
  co : ∀ k, ov.ownBlock = some k → S2 k
  cs : ∀ g ∈ G, ∀ k, g.2.1.ownBlock = some k → S2 k
  cw : ∀ g ∈ G, ∀ k, g.2.2.ownBlock = some k → S2 k
  lt : ∀ k, S2 k → k < w.heap.size
  off : ∀ k, S1 k → ¬ S2 k
  fl : G.length ≤ 800000
  fr : s.recs.length ≤ 800000
  fo : s.over.length ≤ 800000
section
variable {w w' : World} {A : Nat} {S1 S2 T : Nat → Prop} {s : Sh} {P M N : Nat} {G : List Gl} {lv rv ov : Value}
theorem Sx.stays (h : Sx w A S1 S2 s P M N G lv rv ov) (hf : Fr w w' T) (h1 : ∀ k, S1 k → ¬ T k) (h2 : ∀ k, S2 k → ¬ T k) : Sx w' A S1 S2 s P M N G lv rv ov where
  ob := (hf.block A (h.lt A h.cA) (h2 A h.cA)).trans h.ob
  st := h.st.stays hf h1
  lks := row_keep h.lks hf (fun j hj => h2 j (h.cl j hj))
  gl := h.gl
  sp := fun g hg => row_keep (h.sp g hg) hf (fun j hj => h2 j (h.cs g hg j hj))
  wr := fun g hg => row_keep (h.wr g hg) hf (fun j hj => h2 j (h.cw g hg j hj))
  rcs := row_keep h.rcs hf (fun j hj => h2 j (h.cr j hj))
  ovs := row_keep h.ovs hf (fun j hj => h2 j (h.co j hj))
  tm := h.tm.like (hf.block M (h.lt M h.cM) (h2 M h.cM))
  en := h.en.like (hf.block N (h.lt N h.cN) (h2 N h.cN))
  mn := h.mn
  cA := h.cA
  cM := h.cM
  cN := h.cN
  cl := h.cl
  cr := h.cr
  co := h.co
  cs := h.cs
  cw := h.cw
  lt := fun k hk => Nat.lt_of_lt_of_le (h.lt k hk) hf.size
  off := h.off
  fl := h.fl
  fr := h.fr
  fo := h.fo
theorem Sx.on (h : Sx w A S1 S2 s P M N G lv rv ov) (hb : Below w.heap.size w w') : Sx w' A S1 S2 s P M N G lv rv ov := h.stays (Fr.ofBelow (fun _ => False) hb) (fun _ _ q => q) (fun _ _ q => q)
theorem Sx.locks (h : Sx w A S1 S2 s P M N G lv rv ov) : Lr lkE 7 w s.locks lv := by
  obtain ⟨ad, cap, e, h0, h1, h2, h3⟩ := Lr.own (f := glL) glL_len h.lks
  have hl : G.length = s.locks.length := by rw [← h.gl, List.length_map]
  refine ⟨ad, cap, by rw [e, hl], h0, by omega, h2, fun i hi => ?_⟩
  obtain ⟨b, o, cs, ha, hb, hE, hc, hh⟩ := h3 i (by omega)
  have hg : G[i]'(by omega) ∈ G := List.getElem_mem _
  have hx : s.locks[i] = (G[i]'(by omega)).1 := by
    have : s.locks[i] = (G.map Prod.fst)[i]'(by rw [h.gl]; exact hi) := by simp only [h.gl]
    rw [this, List.getElem_map]
  have hE' : cs = glL (G[i]'(by omega)) := hE
  obtain ⟨sa, sc, e1⟩ := own_shape (h.sp _ hg)
  obtain ⟨wa, wc, e2⟩ := own_shape (h.wr _ hg)
  refine ⟨b, o, cs, ha, hb, ⟨sa, sc, wa, wc, ?_, ?_, ?_⟩, hc, hh⟩
  · rw [hE', hx]
    unfold glL
    rw [e1, e2]
  · rw [hx, ← e1]
    exact Lr.own snL_len (h.sp _ hg)
  · rw [hx, ← e2]
    exact Lr.own wrL_len (h.wr _ hg)
theorem Sx.shape (h : Sx w A S1 S2 s P M N G lv rv ov) : ∃ ad cap, lv = .slice ad G.length cap := own_shape h.lks
end
/-- A shard at A, in the blocks S. -/
def Sy (w : World) (A : Nat) (S : Nat → Prop) (s : Sh) : Prop := ∃ S1 S2 P M N G lv rv ov, Sx w A S1 S2 s P M N G lv rv ov ∧ ∀ k, S k ↔ S1 k ∨ S2 k
section
variable {w w' : World} {A : Nat} {S T : Nat → Prop} {s : Sh}
theorem Sy.stays (h : Sy w A S s) (hf : Fr w w' T) (hd : ∀ k, S k → ¬ T k) : Sy w' A S s := by
  obtain ⟨S1, S2, P, M, N, G, lv, rv, ov, h, hS⟩ := h
  exact ⟨S1, S2, P, M, N, G, lv, rv, ov, h.stays hf (fun k hk => hd k ((hS k).2 (.inl hk))) (fun k hk => hd k ((hS k).2 (.inr hk))), hS⟩
theorem Sy.on (h : Sy w A S s) (hb : Below w.heap.size w w') : Sy w' A S s := h.stays (Fr.ofBelow (fun _ => False) hb) (fun _ _ q => q)
theorem Sy.lt (h : Sy w A S s) : ∀ k, S k → k < w.heap.size := by
  obtain ⟨S1, S2, P, M, N, G, lv, rv, ov, h, hS⟩ := h
  intro k hk
  rcases (hS k).1 hk with q | q
  · exact h.st.lt k q
  · exact h.lt k q
end
end Go.Proofs.Ytcoaahlakkghhaa
