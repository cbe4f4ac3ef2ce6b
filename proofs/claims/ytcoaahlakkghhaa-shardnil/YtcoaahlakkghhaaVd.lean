/- A store in memory: rows behind pointers, each with its versions; the walks of place, find, newest, Newest and at. -/
import Derived.Test.YtcoaahlakkghhaaVc
namespace Go.Proofs.Ytcoaahlakkghhaa
open Go.RowKit

def veC (l : List Ve) : List Value := l.flatMap fun v => [.int .i64 v.ts, .string v.val, .bool v.dead]
theorem veC_cons (v : Ve) (L : List Ve) : veC (v :: L) = .int .i64 v.ts :: .string v.val :: .bool v.dead :: veC L := by simp [veC]
theorem veC_append (a b : List Ve) : veC (a ++ b) = veC a ++ veC b := by simp [veC]
theorem veC_len (L : List Ve) : (veC L).length = L.length * 3 := by
  induction L with
  | nil => rfl
  | cons l L ih => rw [veC_cons]; simp [ih]; omega
theorem veC_get (L : List Ve) : ∀ (k : Nat) (h : k < L.length), (veC L)[k * 3]? = some (.int .i64 L[k].ts) ∧ (veC L)[k * 3 + 1]? = some (.string L[k].val) ∧ (veC L)[k * 3 + 2]? = some (.bool L[k].dead) := by
  induction L with
  | nil => intro k h; simp at h
  | cons l L ih =>
    intro k h
    rw [veC_cons]
    cases k with
    | zero => simp
    | succ k =>
      have := ih k (by simpa using h)
      have e : (k + 1) * 3 = k * 3 + 3 := by omega
      rw [e]
      simpa using this
theorem veC_one (L : List Ve) : ∀ u ∈ veC L, u.oneCell' = true := by
  intro u hu
  obtain ⟨f, _, hf⟩ := List.mem_flatMap.1 hu
  simp at hf
  rcases hf with rfl | rfl | rfl <;> rfl
/-- A row, where it lies, and its slice. -/
structure Gw where
  r : Rw
  ptr : Nat
  lv : Value
abbrev gP (g : Gw) : Value := .pointer (some ⟨g.ptr, 0, none⟩)
/-- Slices of two rows lie apart. -/
def Off (a b : Value) : Prop := ∀ k, a.ownBlock = some k → b.ownBlock ≠ some k
/-- The program's store at A; S are the blocks that it writes. -/
structure Sv (w : World) (A : Nat) (S : Nat → Prop) (G : List Gw) (rv : Value) : Prop where
  ob : w.heap[A]? = some (.cells #[rv] 116 (0, 0))
  rows : w.ownsRow 0 126 1 rv G.length (G.map gP)
  at' : ∀ g ∈ G, w.heap[g.ptr]? = some (.cells #[.string g.r.key, g.lv] 129 (0, 0))
  ls : ∀ g ∈ G, w.ownsRow 0 125 3 g.lv g.r.list.length (veC g.r.list)
  apart : G.Pairwise (fun a b => a.ptr ≠ b.ptr ∧ Off a.lv b.lv)
  covA : S A
  cov : ∀ k, rv.ownBlock = some k → S k
  covp : ∀ g ∈ G, S g.ptr
  covl : ∀ g ∈ G, ∀ k, g.lv.ownBlock = some k → S k
  lt : ∀ k, S k → k < w.heap.size
  few : G.length ≤ 800000
  less : ∀ g ∈ G, g.r.list.length ≤ 800000
  ok : Okr (G.map Gw.r)
def Sb (w : World) (A : Nat) (S : Nat → Prop) (R : List Rw) : Prop := ∃ G rv, Sv w A S G rv ∧ G.map Gw.r = R
section
variable {w w' W V : World} {A : Nat} {S T : Nat → Prop} {G : List Gw} {rv : Value} {R : List Rw}
theorem Sv.stays (h : Sv w A S G rv) (hf : Fr w w' T) (hd : ∀ k, S k → ¬ T k) : Sv w' A S G rv :=
  ⟨(hf.block A (h.lt A h.covA) (hd A h.covA)).trans h.ob, row_keep h.rows hf (fun j hj => hd j (h.cov j hj)), fun g hg => (hf.block _ (h.lt _ (h.covp g hg)) (hd _ (h.covp g hg))).trans (h.at' g hg),
   fun g hg => row_keep (h.ls g hg) hf (fun j hj => hd j (h.covl g hg j hj)), h.apart, h.covA, h.cov, h.covp, h.covl, fun k hk => Nat.lt_of_lt_of_le (h.lt k hk) hf.size, h.few, h.less, h.ok⟩
theorem Sv.on (h : Sv w A S G rv) (hb : Below w.heap.size w w') : Sv w' A S G rv := h.stays (Fr.ofBelow (fun _ => False) hb) (fun _ _ q => q)
theorem Sb.stays (h : Sb w A S R) (hf : Fr w w' T) (hd : ∀ k, S k → ¬ T k) : Sb w' A S R := by
  obtain ⟨G, rv, h, e⟩ := h
  exact ⟨G, rv, h.stays hf hd, e⟩
theorem Sb.on (h : Sb w A S R) (hb : Below w.heap.size w w') : Sb w' A S R := h.stays (Fr.ofBelow (fun _ => False) hb) (fun _ _ q => q)
theorem Sb.lt (h : Sb w A S R) : ∀ k, S k → k < w.heap.size := by
  obtain ⟨_, _, h, _⟩ := h
  exact h.lt
theorem Sb.ok (h : Sb w A S R) : Okr R := by
  obtain ⟨_, _, h, e⟩ := h
  rw [← e]
  exact h.ok
theorem Sb.few (h : Sb w A S R) : R.length ≤ 800000 := by
  obtain ⟨_, _, h, e⟩ := h
  rw [← e, List.length_map]
  exact h.few
/-- The i-th row's pointer. -/
theorem Sv.ptr (h : Sv w A S G rv) {i : Nat} (hi : i < G.length) : ∃ g cap, rv = .slice (some ⟨g, 0, none⟩) G.length cap ∧ G.length ≤ cap ∧ cap ≤ maxLen ∧ w.cell? ⟨g, i, none⟩ = some (gP G[i]) := by
  have h' := h.rows
  rcases h.rows.2 with ⟨hv, h0⟩ | ⟨g, cap, cur, hv, hg, hc, h1, h2, hr⟩
  · omega
  · subst hv
    refine ⟨g, cap, rfl, h1, h2, ?_⟩
    have := h'.cellAt i (by simpa using hi)
    rw [this, List.getElem?_map, List.getElem?_eq_getElem hi]
    rfl
theorem Sv.shape (h : Sv w A S G rv) : ∃ ad cap, rv = .slice ad G.length cap ∧ G.length ≤ cap ∧ cap ≤ maxLen ∧ (ad = none → G = []) := by
  rcases h.rows.2 with ⟨hv, h0⟩ | ⟨g, cap, cur, hv, hg, hc, h1, h2, hr⟩
  · exact ⟨none, 0, by rw [hv, h0], by omega, Nat.zero_le _, fun _ => List.eq_nil_of_length_eq_zero h0⟩
  · exact ⟨_, cap, hv, h1, h2, fun q => by cases q⟩
/-- The cells of a version. -/
theorem ve_cells {l : List Ve} {v : Value} (h : w.ownsRow 0 125 3 v l.length (veC l)) {k : Nat} (hk : k < l.length) : ∃ g cap, v = .slice (some ⟨g, 0, none⟩) l.length cap ∧ l.length ≤ cap ∧ cap ≤ maxLen ∧ w.cell? ⟨g, k * 3, none⟩ = some (.int .i64 l[k].ts) ∧ w.cell? ⟨g, k * 3 + 1, none⟩ = some (.string l[k].val) ∧ w.cell? ⟨g, k * 3 + 2, none⟩ = some (.bool l[k].dead) := by
  have h' := h
  rcases h.2 with ⟨hv, h0⟩ | ⟨g, cap, cur, hv, hg, hc, h1, h2, hr⟩
  · omega
  · subst hv
    obtain ⟨a, b, c⟩ := veC_get l k hk
    exact ⟨g, cap, rfl, h1, h2, (h'.cellAt _ (by omega)).trans a, (h'.cellAt _ (by omega)).trans b, (h'.cellAt _ (by omega)).trans c⟩
def pF (G : List Gw) (k : ByteArray) (i : Nat) : Bool := match G[i]? with
  | some g => !decide (cb g.r.key k < 0)
  | none => true
set_option maxHeartbeats 1000000 in
set_option maxRecDepth 100000 in
theorem place_f (h : Sv w A S G rv) {Y Z : Nat} {k : ByteArray} (hY : w.cell? ⟨Y, 0, none⟩ = some (.pointer (some ⟨A, 0, none⟩))) (hZ : w.cell? ⟨Z, 0, none⟩ = some (.string k)) {i : Nat} (hi : i < G.length) :
    Calls Try.prog 97 #[.int .i64 (i : Int), .pointer (some ⟨Y, 0, none⟩), .pointer (some ⟨Z, 0, none⟩)] w fun e w' => e = .returned (.bool (pF G k i)) ∧ ∃ m, w' = w.drewN m := by
  obtain ⟨g, cap, rfl, hc1, hc2, hp0⟩ := h.ptr hi
  have hm : (cap : Int) ≤ 9223372036854775807 := by unfold maxLen at hc2; omega
  have a0 : w.cell? ⟨A, 0, none⟩ = some (.slice (some ⟨g, 0, none⟩) G.length cap) := cell_blk h.ob 0
  have r0 : w.cell? ⟨G[i].ptr, 0, none⟩ = some (.string G[i].r.key) := cell_blk (h.at' _ (List.getElem_mem hi)) 0
  have hpf : pF G k i = !decide (cb G[i].r.key k < 0) := by unfold pF; rw [List.getElem?_eq_getElem hi]
  have hle := less_eq G[i].r.key k
  rw [hpf]
  obtain ⟨q, hq⟩ : ∃ q, G[i].ptr = q := ⟨_, rfl⟩
  obtain ⟨kk, hkk⟩ : ∃ kk, G[i].r.key = kk := ⟨_, rfl⟩
  rw [hkk] at hle r0 ⊢
  have hp : w.cell? ⟨g, i, none⟩ = some (.pointer (some ⟨G[i].ptr, 0, none⟩)) := hp0
  clear hp0
  rw [hq] at hp r0
  have i0 : (0 : Int) ≤ (i : Int) := by omega
  have i1 : (i : Int) < (G.length : Int) := by omega
  clear h hpf hkk hq
  go_enter Try.func97, Try.ntmps97
  go_wp2
  go_quiet (fail)
  go_wp2
  go_ret
  exact ⟨by simp, _, rfl⟩
end
end Go.Proofs.Ytcoaahlakkghhaa
