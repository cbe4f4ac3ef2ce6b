/- The walk of sort.Search, at two functions. -/
import Derived.Test.YtcoaahlakkghhaaGa
import Derived.Laws.EntriesVeiled
import Derived.Lib.SmallJoins
import Derived.Deep.DeepCutAuto
namespace Go.Proofs.Ytcoaahlakkghhaa
open Go.RowKit

def SearchAns (n : Nat) (p : Nat → Bool) (w : World) (e : Ending) (w' : World) : Prop := ∃ s : Nat, e = .returned (.int .i64 (s : Int)) ∧ s ≤ n ∧ (∀ i, i < s → p i = false) ∧ (∀ i, s ≤ i → i < n → p i = true) ∧ ∃ m, w' = w.drewN m
theorem SearchAns.mk {n : Nat} {p : Nat → Bool} {w : World} {s m : Nat} (h1 : s ≤ n) (h2 : ∀ i, i < s → p i = false) (h3 : ∀ i, s ≤ i → i < n → p i = true) : SearchAns n p w (.returned (.int .i64 (s : Int))) (w.drewN m) := ⟨s, rfl, h1, h2, h3, m, rfl⟩
def SI (n : Nat) (p : Nat → Bool) (w : World) (iv jv : Value) (wr : World) : Prop := ∃ i j m : Nat, iv = .int .i64 (i : Int) ∧ jv = .int .i64 (j : Int) ∧ i ≤ j ∧ j ≤ n ∧ (∀ k, k < i → p k = false) ∧ (∀ k, j ≤ k → k < n → p k = true) ∧ wr = w.drewN m
section
variable {w : World} {n : Nat} {p : Nat → Bool} {c1 c2 : Value}
theorem half (i j : Nat) (h : i < j) : i ≤ (i + j) / 2 ∧ (i + j) / 2 < j := by omega
set_option maxHeartbeats 1000000 in
set_option maxRecDepth 100000 in
theorem search_35 (hn : n ≤ 900000) (hf : ∀ m i : Nat, i < n → Calls Try.prog 97 #[.int .i64 (i : Int), c1, c2] (w.drewN m) fun e w' => e = .returned (.bool (p i)) ∧ ∃ m', w' = w.drewN m') (hm : ∀ a b, a ≤ b → b < n → p a = true → p b = true) :
    Calls Try.prog 96 #[.int .i64 (n : Int), .func (.func 97) #[] #[c1, c2]] w fun e w' => SearchAns n p w e w' := by
  go_enter Try.func96, Try.ntmps96
  go_wp2
  go_loopw [5, 6] (fun iv jv wr => SI n p w iv jv wr) (fun iv jv _ => (intOf jv).toNat - (intOf iv).toNat)
  case atStart => exact ⟨0, n, 0, rfl, rfl, Nat.zero_le _, Nat.le_refl _, fun k hk => by omega, fun k h1 h2 => by omega, rfl⟩
  case round =>
    obtain ⟨i, j, m, rfl, rfl, hij, hjn, h1, h2, rfl⟩ := hrel
    by_cases hlt : i < j
    · have k1 : (i : Int) < j := by omega
      obtain ⟨q1, q2⟩ := half i j hlt
      obtain ⟨h, hh⟩ : ∃ h, (i + j) / 2 = h := ⟨_, rfl⟩
      rw [hh] at q1 q2
      have hc := hf m h (by omega)
      have hI : ((i : Int) + (j : Int)) / 2 = (h : Int) := by omega
      have hlo : p h = false → ∀ k, k < h + 1 → p k = false := fun hp k hk => by
        cases hq : p k with
        | false => rfl
        | true =>
          have := hm k h (by omega) (by omega) hq
          rw [hp] at this
          cases this
      have hhi : p h = true → ∀ k, h ≤ k → k < n → p k = true := fun hp k h3 h4 => hm h k h3 h4 hp
      have HLO := Lib.hid hlo
      have HHI := Lib.hid hhi
      have H1 := Lib.hid h1
      have H2 := Lib.hid h2
      clear hlo hhi h1 h2 hh hf hm
      cases hp : p h with
      | true =>
        rw [hp] at hc
        go_wp2_with fail
        refine hc.mono ?_
        rintro e w' ⟨rfl, m', rfl⟩
        go_wp2
        exact ⟨⟨i, h, m', rfl, rfl, q1, by omega, H1.out, HHI.out hp, rfl⟩, by simp [intOf]; omega⟩
      | false =>
        rw [hp] at hc
        go_wp2_with fail
        refine hc.mono ?_
        rintro e w' ⟨rfl, m', rfl⟩
        go_wp2
        exact ⟨⟨h + 1, j, m', by go_num, rfl, by omega, by omega, HLO.out hp, H2.out, rfl⟩, by simp [intOf]; omega⟩
    · have k1 : ¬ (i : Int) < j := by omega
      have e : i = j := by omega
      subst e
      have H1 := Lib.hid h1
      have H2 := Lib.hid h2
      clear h1 h2 hf hm
      go_wp2
      go_ret
      exact SearchAns.mk (by omega) H1.out H2.out
set_option maxHeartbeats 1000000 in
set_option maxRecDepth 100000 in
theorem search_36 (hn : n ≤ 900000) (hf : ∀ m i : Nat, i < n → Calls Try.prog 98 #[.int .i64 (i : Int), c1, c2] (w.drewN m) fun e w' => e = .returned (.bool (p i)) ∧ ∃ m', w' = w.drewN m') (hm : ∀ a b, a ≤ b → b < n → p a = true → p b = true) :
    Calls Try.prog 96 #[.int .i64 (n : Int), .func (.func 98) #[] #[c1, c2]] w fun e w' => SearchAns n p w e w' := by
  go_enter Try.func96, Try.ntmps96
  go_wp2
  go_loopw [5, 6] (fun iv jv wr => SI n p w iv jv wr) (fun iv jv _ => (intOf jv).toNat - (intOf iv).toNat)
  case atStart => exact ⟨0, n, 0, rfl, rfl, Nat.zero_le _, Nat.le_refl _, fun k hk => by omega, fun k h1 h2 => by omega, rfl⟩
  case round =>
    obtain ⟨i, j, m, rfl, rfl, hij, hjn, h1, h2, rfl⟩ := hrel
    by_cases hlt : i < j
    · have k1 : (i : Int) < j := by omega
      obtain ⟨q1, q2⟩ := half i j hlt
      obtain ⟨h, hh⟩ : ∃ h, (i + j) / 2 = h := ⟨_, rfl⟩
      rw [hh] at q1 q2
      have hc := hf m h (by omega)
      have hI : ((i : Int) + (j : Int)) / 2 = (h : Int) := by omega
      have hlo : p h = false → ∀ k, k < h + 1 → p k = false := fun hp k hk => by
        cases hq : p k with
        | false => rfl
        | true =>
          have := hm k h (by omega) (by omega) hq
          rw [hp] at this
          cases this
      have hhi : p h = true → ∀ k, h ≤ k → k < n → p k = true := fun hp k h3 h4 => hm h k h3 h4 hp
      have HLO := Lib.hid hlo
      have HHI := Lib.hid hhi
      have H1 := Lib.hid h1
      have H2 := Lib.hid h2
      clear hlo hhi h1 h2 hh hf hm
      cases hp : p h with
      | true =>
        rw [hp] at hc
        go_wp2_with fail
        refine hc.mono ?_
        rintro e w' ⟨rfl, m', rfl⟩
        go_wp2
        exact ⟨⟨i, h, m', rfl, rfl, q1, by omega, H1.out, HHI.out hp, rfl⟩, by simp [intOf]; omega⟩
      | false =>
        rw [hp] at hc
        go_wp2_with fail
        refine hc.mono ?_
        rintro e w' ⟨rfl, m', rfl⟩
        go_wp2
        exact ⟨⟨h + 1, j, m', by go_num, rfl, by omega, by omega, HLO.out hp, H2.out, rfl⟩, by simp [intOf]; omega⟩
    · have k1 : ¬ (i : Int) < j := by omega
      have e : i = j := by omega
      subst e
      have H1 := Lib.hid h1
      have H2 := Lib.hid h2
      clear h1 h2 hf hm
      go_wp2
      go_ret
      exact SearchAns.mk (by omega) H1.out H2.out
end
end Go.Proofs.Ytcoaahlakkghhaa
/- A store in memory: rows behind pointers, each with its versions; the walks of place, find, newest, Newest and at. -/
namespace Go.Proofs.Ytcoaahlakkghhaa
open Go.RowKit

def veC (l : List Ve) : List Value := l.flatMap fun v => [.int .i64 v.ts, .string v.val, .bool v.dead]
theorem veC_cons (v : Ve) (L : List Ve) : veC (v :: L) = .int .i64 v.ts :: .string v.val :: .bool v.dead :: veC L := by simp [veC]
theorem veC_append (a b : List Ve) : veC (a ++ b) = veC a ++ veC b := by simp [veC]
theorem veC_len (L : List Ve) : (veC L).length = L.length * 3 := by
  induction L with
  | nil => rfl
  | cons l L ih => rw [veC_cons]; simp [ih]; omega
theorem veC_get (L : List Ve) : ∀ (k : Nat) (h : k < L.length), (veC L)[k * 3]? = some (.int .i64 L[k].ts) ∧ (veC L)[k * 3 + 1]? = some (.string L[k].val) ∧ (veC L)[k * 3 + 2]? = some (.bool L[k].dead) := by
  induction L with
  | nil => intro k h; simp at h
  | cons l L ih =>
    intro k h
    rw [veC_cons]
    cases k with
    | zero => simp
    | succ k =>
      have := ih k (by simpa using h)
      have e : (k + 1) * 3 = k * 3 + 3 := by omega
      rw [e]
      simpa using this
theorem veC_one (L : List Ve) : ∀ u ∈ veC L, u.oneCell' = true := by
  intro u hu
  obtain ⟨f, _, hf⟩ := List.mem_flatMap.1 hu
  simp at hf
  rcases hf with rfl | rfl | rfl <;> rfl
/-- A row, where it lies, and its slice. -/
structure Gw where
  r : Rw
  ptr : Nat
  lv : Value
abbrev gP (g : Gw) : Value := .pointer (some ⟨g.ptr, 0, none⟩)
/-- Slices of two rows lie apart. -/
def Off (a b : Value) : Prop := ∀ k, a.ownBlock = some k → b.ownBlock ≠ some k
/-- The program's store at A; S are the blocks that it writes. -/
structure Sv (w : World) (A : Nat) (S : Nat → Prop) (G : List Gw) (rv : Value) : Prop where
  ob : w.heap[A]? = some (.cells #[rv] 116 (0, 0))
  rows : w.ownsRow 0 126 1 rv G.length (G.map gP)
  at' : ∀ g ∈ G, w.heap[g.ptr]? = some (.cells #[.string g.r.key, g.lv] 129 (0, 0))
  ls : ∀ g ∈ G, w.ownsRow 0 125 3 g.lv g.r.list.length (veC g.r.list)
  apart : G.Pairwise (fun a b => a.ptr ≠ b.ptr ∧ Off a.lv b.lv)
  covA : S A
  cov : ∀ k, rv.ownBlock = some k → S k
  covp : ∀ g ∈ G, S g.ptr
  covl : ∀ g ∈ G, ∀ k, g.lv.ownBlock = some k → S k
  lt : ∀ k, S k → k < w.heap.size
  few : G.length ≤ 800000
  less : ∀ g ∈ G, g.r.list.length ≤ 800000
  ok : Okr (G.map Gw.r)
def Sb (w : World) (A : Nat) (S : Nat → Prop) (R : List Rw) : Prop := ∃ G rv, Sv w A S G rv ∧ G.map Gw.r = R
section
variable {w w' W V : World} {A : Nat} {S T : Nat → Prop} {G : List Gw} {rv : Value} {R : List Rw}
theorem Sv.stays (h : Sv w A S G rv) (hf : Fr w w' T) (hd : ∀ k, S k → ¬ T k) : Sv w' A S G rv :=
  ⟨(hf.block A (h.lt A h.covA) (hd A h.covA)).trans h.ob, row_keep h.rows hf (fun j hj => hd j (h.cov j hj)), fun g hg => (hf.block _ (h.lt _ (h.covp g hg)) (hd _ (h.covp g hg))).trans (h.at' g hg),
   fun g hg => row_keep (h.ls g hg) hf (fun j hj => hd j (h.covl g hg j hj)), h.apart, h.covA, h.cov, h.covp, h.covl, fun k hk => Nat.lt_of_lt_of_le (h.lt k hk) hf.size, h.few, h.less, h.ok⟩
theorem Sv.on (h : Sv w A S G rv) (hb : Below w.heap.size w w') : Sv w' A S G rv := h.stays (Fr.ofBelow (fun _ => False) hb) (fun _ _ q => q)
theorem Sb.stays (h : Sb w A S R) (hf : Fr w w' T) (hd : ∀ k, S k → ¬ T k) : Sb w' A S R := by
  obtain ⟨G, rv, h, e⟩ := h
  exact ⟨G, rv, h.stays hf hd, e⟩
theorem Sb.on (h : Sb w A S R) (hb : Below w.heap.size w w') : Sb w' A S R := h.stays (Fr.ofBelow (fun _ => False) hb) (fun _ _ q => q)
theorem Sb.lt (h : Sb w A S R) : ∀ k, S k → k < w.heap.size := by
  obtain ⟨_, _, h, _⟩ := h
  exact h.lt
theorem Sb.ok (h : Sb w A S R) : Okr R := by
  obtain ⟨_, _, h, e⟩ := h
  rw [← e]
  exact h.ok
theorem Sb.few (h : Sb w A S R) : R.length ≤ 800000 := by
  obtain ⟨_, _, h, e⟩ := h
  rw [← e, List.length_map]
  exact h.few
/-- The i-th row's pointer. -/
theorem Sv.ptr (h : Sv w A S G rv) {i : Nat} (hi : i < G.length) : ∃ g cap, rv = .slice (some ⟨g, 0, none⟩) G.length cap ∧ G.length ≤ cap ∧ cap ≤ maxLen ∧ w.cell? ⟨g, i, none⟩ = some (gP G[i]) := by
  have h' := h.rows
  rcases h.rows.2 with ⟨hv, h0⟩ | ⟨g, cap, cur, hv, hg, hc, h1, h2, hr⟩
  · omega
  · subst hv
    refine ⟨g, cap, rfl, h1, h2, ?_⟩
    have := h'.cellAt i (by simpa using hi)
    rw [this, List.getElem?_map, List.getElem?_eq_getElem hi]
    rfl
theorem Sv.shape (h : Sv w A S G rv) : ∃ ad cap, rv = .slice ad G.length cap ∧ G.length ≤ cap ∧ cap ≤ maxLen ∧ (ad = none → G = []) := by
  rcases h.rows.2 with ⟨hv, h0⟩ | ⟨g, cap, cur, hv, hg, hc, h1, h2, hr⟩
  · exact ⟨none, 0, by rw [hv, h0], by omega, Nat.zero_le _, fun _ => List.eq_nil_of_length_eq_zero h0⟩
  · exact ⟨_, cap, hv, h1, h2, fun q => by cases q⟩
/-- The cells of a version. -/
theorem ve_cells {l : List Ve} {v : Value} (h : w.ownsRow 0 125 3 v l.length (veC l)) {k : Nat} (hk : k < l.length) : ∃ g cap, v = .slice (some ⟨g, 0, none⟩) l.length cap ∧ l.length ≤ cap ∧ cap ≤ maxLen ∧ w.cell? ⟨g, k * 3, none⟩ = some (.int .i64 l[k].ts) ∧ w.cell? ⟨g, k * 3 + 1, none⟩ = some (.string l[k].val) ∧ w.cell? ⟨g, k * 3 + 2, none⟩ = some (.bool l[k].dead) := by
  have h' := h
  rcases h.2 with ⟨hv, h0⟩ | ⟨g, cap, cur, hv, hg, hc, h1, h2, hr⟩
  · omega
  · subst hv
    obtain ⟨a, b, c⟩ := veC_get l k hk
    exact ⟨g, cap, rfl, h1, h2, (h'.cellAt _ (by omega)).trans a, (h'.cellAt _ (by omega)).trans b, (h'.cellAt _ (by omega)).trans c⟩
def pF (G : List Gw) (k : ByteArray) (i : Nat) : Bool := match G[i]? with
  | some g => !decide (cb g.r.key k < 0)
  | none => true
set_option maxHeartbeats 1000000 in
set_option maxRecDepth 100000 in
theorem place_f (h : Sv w A S G rv) {Y Z : Nat} {k : ByteArray} (hY : w.cell? ⟨Y, 0, none⟩ = some (.pointer (some ⟨A, 0, none⟩))) (hZ : w.cell? ⟨Z, 0, none⟩ = some (.string k)) {i : Nat} (hi : i < G.length) :
    Calls Try.prog 97 #[.int .i64 (i : Int), .pointer (some ⟨Y, 0, none⟩), .pointer (some ⟨Z, 0, none⟩)] w fun e w' => e = .returned (.bool (pF G k i)) ∧ ∃ m, w' = w.drewN m := by
  obtain ⟨g, cap, rfl, hc1, hc2, hp0⟩ := h.ptr hi
  have hm : (cap : Int) ≤ 9223372036854775807 := by unfold maxLen at hc2; omega
  have a0 : w.cell? ⟨A, 0, none⟩ = some (.slice (some ⟨g, 0, none⟩) G.length cap) := cell_blk h.ob 0
  have r0 : w.cell? ⟨G[i].ptr, 0, none⟩ = some (.string G[i].r.key) := cell_blk (h.at' _ (List.getElem_mem hi)) 0
  have hpf : pF G k i = !decide (cb G[i].r.key k < 0) := by unfold pF; rw [List.getElem?_eq_getElem hi]
  have hle := less_eq G[i].r.key k
  rw [hpf]
  obtain ⟨q, hq⟩ : ∃ q, G[i].ptr = q := ⟨_, rfl⟩
  obtain ⟨kk, hkk⟩ : ∃ kk, G[i].r.key = kk := ⟨_, rfl⟩
  rw [hkk] at hle r0 ⊢
  have hp : w.cell? ⟨g, i, none⟩ = some (.pointer (some ⟨G[i].ptr, 0, none⟩)) := hp0
  clear hp0
  rw [hq] at hp r0
  have i0 : (0 : Int) ≤ (i : Int) := by omega
  have i1 : (i : Int) < (G.length : Int) := by omega
  clear h hpf hkk hq
  go_enter Try.func97, Try.ntmps97
  go_wp2
  go_quiet (fail)
  go_wp2
  go_ret
  exact ⟨by simp, _, rfl⟩
end
end Go.Proofs.Ytcoaahlakkghhaa
/- The walks of place, find, newest and at. -/
namespace Go.Proofs.Ytcoaahlakkghhaa
open Go.RowKit

section
variable {w w' W V : World} {A : Nat} {S T : Nat → Prop} {G : List Gw} {rv : Value} {R : List Rw}
theorem pF_mono (h : Sv w A S G rv) (k : ByteArray) : ∀ a b, a ≤ b → b < G.length → pF G k a = true → pF G k b = true := by
  intro a b hab hb ha
  unfold pF at *
  rw [List.getElem?_eq_getElem (by omega)] at ha ⊢
  simp only at ha ⊢
  by_cases e : a = b
  · subst e
    exact ha
  · have hs := List.pairwise_iff_getElem.1 h.ok.sorted a b (by rw [List.length_map]; omega) (by rw [List.length_map]; omega) (by omega)
    simp only [List.getElem_map] at hs
    simp only [Bool.not_eq_true', decide_eq_false_iff_not] at ha ⊢
    intro q
    have := cb_lt hs (by omega : cb G[b].r.key k ≤ 0)
    exact ha this
theorem pF_place {k : ByteArray} {s : Nat} (hs : s ≤ G.length) (h1 : ∀ i, i < s → pF G k i = false) (h2 : ∀ i, s ≤ i → i < G.length → pF G k i = true) : place (G.map Gw.r) k = s := by
  refine place_is (by rw [List.length_map]; exact hs) (fun i hi q => ?_) (fun hi => ?_)
  · have := h1 i q
    unfold pF at this
    rw [List.length_map] at hi
    rw [List.getElem?_eq_getElem hi] at this
    simpa using this
  · rw [List.length_map] at hi
    have := h2 s (Nat.le_refl _) hi
    unfold pF at this
    rw [List.getElem?_eq_getElem hi] at this
    simpa using this
theorem below2 (w : World) (a b : Obj) : Below w.heap.size w ((w.alloc a).alloc b) := by
  have h := (Below.refl _ w).alloc (Nat.le_refl _) a
  exact h.trans (((Below.refl _ (w.alloc a)).alloc (Nat.le_refl _) b).mono h.size)
set_option maxHeartbeats 2000000 in
set_option maxRecDepth 100000 in
theorem place_any (h : Sv w A S G rv) (k : ByteArray) : Calls Try.prog 80 #[.pointer (some ⟨A, 0, none⟩), .string k] w fun e w' => e = .returned (.int .i64 (place (G.map Gw.r) k : Int)) ∧ Below w.heap.size w w' := by
  obtain ⟨ad, cap, rfl, hc1, hc2, _⟩ := h.shape
  obtain ⟨W, hW⟩ : ∃ W, W = (w.alloc (.cells #[.pointer (some ⟨A, 0, none⟩)] 87)).alloc (.cells #[.string k] 9) := ⟨_, rfl⟩
  have hb : Below w.heap.size w W := by rw [hW]; exact below2 w _ _
  have hy : W.cell? ⟨w.heap.size, 0, none⟩ = some (.pointer (some ⟨A, 0, none⟩)) := by
    rw [hW]
    refine cell_blk (cs := #[.pointer (some ⟨A, 0, none⟩)]) (t := 87) (fr := (0, 0)) ?_ 0
    rw [Below.heap_alloc _ _ _ (by simp)]
    exact heap_alloc_new w _
  have hz : W.cell? ⟨w.heap.size + 1, 0, none⟩ = some (.string k) := by
    rw [hW]
    refine cell_blk (cs := #[.string k]) (t := 9) (fr := (0, 0)) ?_ 0
    have := heap_alloc_new (w.alloc (.cells #[.pointer (some ⟨A, 0, none⟩)] 87)) (.cells #[.string k] 9)
    simpa using this
  have hv := h.on hb
  have a0 : W.cell? ⟨A, 0, none⟩ = some (.slice ad G.length cap) := cell_blk hv.ob 0
  have hs := search_35 (w := W) (n := G.length) (p := pF G k) (c1 := .pointer (some ⟨w.heap.size, 0, none⟩)) (c2 := .pointer (some ⟨w.heap.size + 1, 0, none⟩)) (by have := h.few; omega) (fun m i hi => by
    refine (place_f (hv.on (below_draw (Below.refl _ W) m)) hy hz hi).mono ?_
    rintro e w' ⟨rfl, m', rfl⟩
    exact ⟨rfl, _, World.drewN_drewN ..⟩) (pF_mono hv k)
  have HW := Lib.hid hW
  have HB := Lib.hid hb
  clear hv hW hb h
  go_enter Try.func80, Try.ntmps80
  go_upto_region 1 with fail
  rw [← HW.out]
  go_wp2_with fail
  refine hs.mono ?_
  rintro e w' ⟨s, rfl, h1, h2, h3, m, rfl⟩
  have HP := Lib.hid (pF_place h1 h2 h3)
  clear h1 h2 h3 hs
  go_wp2
  go_ret
  rw [HP.out]
  exact ⟨rfl, below_draw HB.out m⟩
end
end Go.Proofs.Ytcoaahlakkghhaa
/- The walks of find, newest and at. -/
namespace Go.Proofs.Ytcoaahlakkghhaa
open Go.RowKit

def fd (R : List Rw) (k : ByteArray) : Bool := match R[place R k]? with
  | some r => decide (r.key = k)
  | none => false
section
variable {w w' W V : World} {A : Nat} {S T : Nat → Prop} {G : List Gw} {rv : Value} {R : List Rw}
set_option maxHeartbeats 2000000 in
set_option maxRecDepth 100000 in
theorem find_any (h : Sv w A S G rv) (k : ByteArray) : Calls Try.prog 107 #[.pointer (some ⟨A, 0, none⟩), .string k] w fun e w' => e = .returned (.tuple #[.int .i64 (place (G.map Gw.r) k : Int), .bool (fd (G.map Gw.r) k)]) ∧ Below w.heap.size w w' := by
  have hp := place_any h k
  have hle := place_le (G.map Gw.r) k
  rw [List.length_map] at hle
  obtain ⟨s, hs⟩ : ∃ s, place (G.map Gw.r) k = s := ⟨_, rfl⟩
  rw [hs] at hp hle ⊢
  by_cases hlt : s < G.length
  · have hfd : fd (G.map Gw.r) k = decide (G[s].r.key = k) := by unfold fd; rw [hs, List.getElem?_map, List.getElem?_eq_getElem hlt]; rfl
    rw [hfd]
    have s0 : (0 : Int) ≤ (s : Int) := by omega
    have s1 : (s : Int) < (G.length : Int) := by omega
    have sd : decide ((s : Int) < (G.length : Int)) = true := decide_eq_true s1
    have hse := same_eq G[s].r.key k
    obtain ⟨kk, hkk⟩ : ∃ kk, G[s].r.key = kk := ⟨_, rfl⟩
    rw [hkk] at hse ⊢
    have HKK := Lib.hid hkk
    clear hs hfd hkk
    go_enter Try.func107, Try.ntmps107
    go_wp2_with fail
    refine hp.mono ?_
    rintro e w1 ⟨rfl, hb1⟩
    have hv := h.on hb1
    obtain ⟨g, cap, rfl, hc1, hc2, hp0⟩ := hv.ptr hlt
    have hm : (cap : Int) ≤ 9223372036854775807 := by unfold maxLen at hc2; omega
    have a0 : w1.cell? ⟨A, 0, none⟩ = some (.slice (some ⟨g, 0, none⟩) G.length cap) := cell_blk hv.ob 0
    have r0 : w1.cell? ⟨G[s].ptr, 0, none⟩ = some (.string kk) := by rw [← HKK.out]; exact cell_blk (hv.at' _ (List.getElem_mem hlt)) 0
    have hp1 : w1.cell? ⟨g, s, none⟩ = some (.pointer (some ⟨G[s].ptr, 0, none⟩)) := hp0
    clear hp0
    obtain ⟨q, hq⟩ : ∃ q, G[s].ptr = q := ⟨_, rfl⟩
    rw [hq] at hp1 r0
    have HB := Lib.hid hb1
    have HSE := Lib.hid hse
    clear hv hb1 hp h hq hse
    go_wp2
    go_quiet (fail)
    go_wp2
    refine bodyPost_ret (v := .tuple #[.int .i64 (s : Int), .bool (kk.toList == k.toList)]) (by simp [results, Try.results107, go_sem]) rfl ?_
    rw [HSE.out]
    exact ⟨rfl, below_draw HB.out _⟩
  · have hfd : fd (G.map Gw.r) k = false := by unfold fd; rw [hs, List.getElem?_map, List.getElem?_eq_none (by omega)]; rfl
    rw [hfd]
    have s1 : ¬ (s : Int) < (G.length : Int) := by omega
    have sd : decide ((s : Int) < (G.length : Int)) = false := decide_eq_false s1
    clear hs hfd
    go_enter Try.func107, Try.ntmps107
    go_wp2_with fail
    refine hp.mono ?_
    rintro e w1 ⟨rfl, hb1⟩
    have hv := h.on hb1
    obtain ⟨ad, cap, rfl, hc1, hc2, _⟩ := hv.shape
    have a0 : w1.cell? ⟨A, 0, none⟩ = some (.slice ad G.length cap) := cell_blk hv.ob 0
    have HB := Lib.hid hb1
    clear hv hb1 hp h
    go_wp2
    go_quiet (fail)
    go_wp2
    refine bodyPost_ret (v := .tuple #[.int .i64 (s : Int), .bool false]) (by simp [results, Try.results107, go_sem]) rfl ?_
    exact ⟨rfl, below_draw HB.out _⟩
theorem newest_any {l : List Ve} {v : Value} (hl : w.ownsRow 0 125 3 v l.length (veC l)) (hne : l ≠ []) (hz : l.length ≤ 900000) : Calls Try.prog 109 #[v] w fun e w' => e = .returned (.int .i64 (newest l)) ∧ w' = w := by
  have hpos : 0 < l.length := List.length_pos_iff.2 hne
  obtain ⟨g, cap, rfl, hc1, hc2, c0, c1, c2⟩ := ve_cells hl (k := l.length - 1) (by omega)
  clear c1 c2
  have hn : newest l = (l[l.length - 1]'(by omega)).ts := by
    unfold newest
    rw [List.getLast?_eq_some_getLast hne, List.getLast_eq_getElem]
  rw [hn]
  obtain ⟨t, ht⟩ : ∃ t, (l[l.length - 1]'(by omega)).ts = t := ⟨_, rfl⟩
  rw [ht] at c0 ⊢
  obtain ⟨n, hnn⟩ : ∃ n, l.length = n + 1 := ⟨l.length - 1, by omega⟩
  rw [hnn, show n + 1 - 1 = n by omega] at c0
  rw [hnn] at hz ⊢
  have hm : (cap : Int) ≤ 9223372036854775807 := by unfold maxLen at hc2; omega
  have n0 : (0 : Int) ≤ (n : Int) := by omega
  have n1 : (n : Int) < ((n + 1 : Nat) : Int) := by omega
  have e1 : (((n + 1 : Nat) : Int) - 1) = (n : Int) := by omega
  clear hl ht hnn hn hne hpos hc1
  go_enter Try.func109, Try.ntmps109
  go_wp2
  go_ret
  exact ⟨rfl, rfl⟩
end
end Go.Proofs.Ytcoaahlakkghhaa
/- The walks of at, of Newest, of slices.Clone at versions. -/
namespace Go.Proofs.Ytcoaahlakkghhaa
open Go.RowKit

abbrev noT : ByteArray := ⟨#[]⟩
abbrev veV (v : Ve) : Value := .agg #[.int .i64 v.ts, .string v.val, .bool v.dead]
def tF (l : List Ve) (t : Int) (i : Nat) : Bool := match l[i]? with
  | some v => decide (t < v.ts)
  | none => true
def atV : Option Ve → Value
  | some v => .tuple #[veV v, .bool true]
  | none => .tuple #[.agg #[.int .i64 0, .string noT, .bool false], .bool false]
theorem tF_mono {l : List Ve} (h : l.Pairwise (fun a b => a.ts < b.ts)) (t : Int) : ∀ a b, a ≤ b → b < l.length → tF l t a = true → tF l t b = true := by
  intro a b hab hb ha
  unfold tF at *
  rw [List.getElem?_eq_getElem (by omega)] at ha ⊢
  simp only [decide_eq_true_eq] at ha ⊢
  by_cases e : a = b
  · subst e
    exact ha
  · have := List.pairwise_iff_getElem.1 h a b (by omega) hb (by omega)
    omega
theorem tF_tops {l : List Ve} {t : Int} {s : Nat} (hs : s ≤ l.length) (h1 : ∀ i, i < s → tF l t i = false) (h2 : ∀ i, s ≤ i → i < l.length → tF l t i = true) : tops l t = if s = 0 then none else l[s - 1]? := by
  unfold tops
  have e : l.filter (fun v => decide (v.ts ≤ t)) = l.take s := by
    have e0 : l = l.take s ++ l.drop s := (List.take_append_drop s l).symm
    rw [e0, List.filter_append, ← e0]
    have a1 : (l.take s).filter (fun v => decide (v.ts ≤ t)) = l.take s := by
      refine List.filter_eq_self.2 (fun v hv => ?_)
      obtain ⟨i, hi, e⟩ := List.getElem_of_mem hv
      rw [List.length_take] at hi
      rw [List.getElem_take] at e
      have := h1 i (by omega)
      unfold tF at this
      rw [List.getElem?_eq_getElem (by omega), e] at this
      simp only [decide_eq_false_iff_not] at this
      simp only [decide_eq_true_eq]
      omega
    have a2 : (l.drop s).filter (fun v => decide (v.ts ≤ t)) = [] := by
      refine List.filter_eq_nil_iff.2 (fun v hv => ?_)
      obtain ⟨i, hi, e⟩ := List.getElem_of_mem hv
      rw [List.length_drop] at hi
      rw [List.getElem_drop] at e
      have := h2 (s + i) (by omega) (by omega)
      unfold tF at this
      rw [List.getElem?_eq_getElem (by omega), e] at this
      simp only [decide_eq_true_eq] at this ⊢
      omega
    rw [a1, a2, List.append_nil]
  rw [e]
  by_cases z : s = 0
  · subst z
    simp
  · rw [if_neg z, List.getLast?_eq_getElem?, List.length_take, List.getElem?_take, if_pos (by omega)]
    congr 1
    omega
section
variable {w w' W V : World} {A : Nat} {S T : Nat → Prop} {G : List Gw} {rv : Value} {R : List Rw}
theorem at_f {l : List Ve} {v : Value} (hl : w.ownsRow 0 125 3 v l.length (veC l)) {Y Z : Nat} {t : Int} (hY : w.cell? ⟨Y, 0, none⟩ = some v) (hZ : w.cell? ⟨Z, 0, none⟩ = some (.int .i64 t)) {i : Nat} (hi : i < l.length) :
    Calls Try.prog 98 #[.int .i64 (i : Int), .pointer (some ⟨Y, 0, none⟩), .pointer (some ⟨Z, 0, none⟩)] w fun e w' => e = .returned (.bool (tF l t i)) ∧ ∃ m, w' = w.drewN m := by
  obtain ⟨g, cap, rfl, hc1, hc2, c0, c1, c2⟩ := ve_cells hl hi
  have hpf : tF l t i = decide (t < l[i].ts) := by unfold tF; rw [List.getElem?_eq_getElem hi]
  rw [hpf]
  obtain ⟨x, hx⟩ : ∃ x, l[i].ts = x := ⟨_, rfl⟩
  rw [hx] at c0 ⊢
  have hm : (cap : Int) ≤ 9223372036854775807 := by unfold maxLen at hc2; omega
  have i0 : (0 : Int) ≤ (i : Int) := by omega
  have i1 : (i : Int) < (l.length : Int) := by omega
  clear hl hpf hx c1 c2
  go_enter Try.func98, Try.ntmps98
  go_wp2
  go_quiet (fail)
  go_wp2
  go_ret
  exact ⟨by simp, _, rfl⟩
theorem below3 (w : World) (a b c : Obj) : Below w.heap.size w (((w.alloc a).alloc b).alloc c) := by
  have h := below2 w a b
  exact h.trans (((Below.refl _ ((w.alloc a).alloc b)).alloc (Nat.le_refl _) c).mono h.size)
set_option maxHeartbeats 2000000 in
set_option maxRecDepth 100000 in
theorem at_any {l : List Ve} {v : Value} (hl : w.ownsRow 0 125 3 v l.length (veC l)) (hr : l.Pairwise (fun a b => a.ts < b.ts)) (hz : l.length ≤ 900000) (t : Int) : Calls Try.prog 81 #[v, .int .i64 t] w fun e w' => e = .returned (atV (tops l t)) ∧ Below w.heap.size w w' := by
  obtain ⟨ad, cap, rfl⟩ := own_shape hl
  obtain ⟨W, hW⟩ : ∃ W, W = ((w.alloc (.cells #[.slice ad l.length cap] 127)).alloc (.cells #[.int .i64 t] 3)).alloc (.cells #[.int .i64 0, .string noT, .bool false] 125) := ⟨_, rfl⟩
  have hb : Below w.heap.size w W := by rw [hW]; exact below3 w _ _ _
  have jy : W.heap[w.heap.size]? = some (.cells #[.slice ad l.length cap] 127 (0, 0)) := by
    rw [hW, Below.heap_alloc _ _ _ (by simp; omega), Below.heap_alloc _ _ _ (by simp)]
    exact heap_alloc_new w _
  have jz : W.heap[w.heap.size + 1]? = some (.cells #[.int .i64 t] 3 (0, 0)) := by
    rw [hW, Below.heap_alloc _ _ _ (by simp)]
    have := heap_alloc_new (w.alloc (.cells #[.slice ad l.length cap] 127)) (.cells #[.int .i64 t] 3)
    simpa using this
  have jx : W.heap[w.heap.size + 1 + 1]? = some (.cells #[.int .i64 0, .string noT, .bool false] 125 (0, 0)) := by
    rw [hW]
    have := heap_alloc_new ((w.alloc (.cells #[.slice ad l.length cap] 127)).alloc (.cells #[.int .i64 t] 3)) (.cells #[.int .i64 0, .string noT, .bool false] 125)
    simpa using this
  have hl1 := own_below hl hb
  have hs := search_36 (w := W) (n := l.length) (p := tF l t) (c1 := .pointer (some ⟨w.heap.size, 0, none⟩)) (c2 := .pointer (some ⟨w.heap.size + 1, 0, none⟩)) hz (fun m i hi => by
    refine (at_f (own_below hl1 (below_draw (Below.refl _ W) m)) (cell_blk jy 0) (cell_blk jz 0) hi).mono ?_
    rintro e w' ⟨rfl, m', rfl⟩
    exact ⟨rfl, _, World.drewN_drewN ..⟩) (tF_mono hr t)
  obtain ⟨n, hn⟩ : ∃ n, w.heap.size = n := ⟨_, rfl⟩
  rw [hn] at jy jz jx hs
  have y0 : W.cell? ⟨n, 0, none⟩ = some (.slice ad l.length cap) := cell_blk jy 0
  have HW := Lib.hid hW
  have HB := Lib.hid hb
  have HN := Lib.hid hn
  have HL := Lib.hid hl1
  have HJX := Lib.hid jx
  have HJY := Lib.hid jy
  clear hW hb hn hl1 hl jy jz jx
  go_enter Try.func81, Try.ntmps81
  go_upto_region 1 with fail
  rw [← HW.out, HN.out]
  go_wp2_with fail
  refine hs.mono ?_
  rintro e w' ⟨s, rfl, h1, h2, h3, m, rfl⟩
  have htp := tF_tops h1 h2 h3
  have bm := below_draw (Below.refl W.heap.size W) m
  have jx1 : (W.drewN m).heap[n + 1 + 1]? = _ := (bm.block _ (blk_lt HJX.out)).trans HJX.out
  have jy1 : (W.drewN m).heap[n]? = _ := (bm.block _ (blk_lt HJY.out)).trans HJY.out
  have x0 : (W.drewN m).cell? ⟨n + 1 + 1, 0, none⟩ = some (.int .i64 0) := cell_blk jx1 0
  have x1 : (W.drewN m).cell? ⟨n + 1 + 1, 1, none⟩ = some (.string noT) := cell_blk jx1 1
  have x2 : (W.drewN m).cell? ⟨n + 1 + 1, 2, none⟩ = some (.bool false) := cell_blk jx1 2
  have z0 : (W.drewN m).frozen? ⟨n + 1 + 1, 0, none⟩ = false := frozen_blk jx1 0
  have z1 : (W.drewN m).frozen? ⟨n + 1 + 1, 1, none⟩ = false := frozen_blk jx1 1
  have z2 : (W.drewN m).frozen? ⟨n + 1 + 1, 2, none⟩ = false := frozen_blk jx1 2
  have y1 : (W.drewN m).cell? ⟨n, 0, none⟩ = some (.slice ad l.length cap) := cell_blk jy1 0
  have hbm : Below w.heap.size w (W.drewN m) := below_draw HB.out m
  have HBM := Lib.hid hbm
  have HL1 := Lib.hid (own_below HL.out bm)
  clear y0 h2 h3 hs HW HB jy1
  obtain ⟨V, hV⟩ : ∃ V, W.drewN m = V := ⟨_, rfl⟩
  rw [hV] at x0 x1 x2 z0 z1 z2 y1 HBM HL1 jx1 ⊢
  by_cases hs0 : s = 0
  · rw [if_pos hs0] at htp
    have HT := Lib.hid htp
    subst hs0
    clear htp bm hV hbm HJX HJY HL jx1
    go_wp2
    refine bodyPost_ret (v := .tuple #[.agg #[.int .i64 0, .string noT, .bool false], .bool false]) (by simp [results, Try.results81, go_sem, *]) rfl ?_
    rw [HT.out]
    refine ⟨rfl, ?_⟩
    have hf : Fr V (((V.setCell ⟨n + 1 + 1, 0, none⟩ (.int .i64 0)).setCell ⟨n + 1 + 1, 1, none⟩ (.string noT)).setCell ⟨n + 1 + 1, 2, none⟩ (.bool false)) (fun k => k = n + 1 + 1) := Fr.set (a := ⟨n + 1 + 1, 2, none⟩) (Fr.set (a := ⟨n + 1 + 1, 1, none⟩) (Fr.set (a := ⟨n + 1 + 1, 0, none⟩) (Fr.refl V (fun k => k = n + 1 + 1)) (Or.inl rfl) _) (Or.inl rfl) _) (Or.inl rfl) _
    exact HBM.out.trans (hf.toBelow (fun k hk e => by have e' : k = n + 1 + 1 := e; have := HN.out; omega) HBM.out.size)
  · rw [if_neg hs0, List.getElem?_eq_getElem (by omega)] at htp
    obtain ⟨g, cap', e, hc1, hc2, c0, c1, c2⟩ := ve_cells HL1.out (k := s - 1) (by omega)
    cases e
    obtain ⟨u, hu⟩ : ∃ u, (l[s - 1]'(by omega)) = u := ⟨_, rfl⟩
    rw [hu] at c0 c1 c2 htp
    obtain ⟨s', hs'⟩ : ∃ s', s = s' + 1 := ⟨s - 1, by omega⟩
    subst hs'
    rw [show s' + 1 - 1 = s' by omega] at c0 c1 c2
    have HT := Lib.hid htp
    have hm : (cap : Int) ≤ 9223372036854775807 := by unfold maxLen at hc2; omega
    have n0 : (0 : Int) ≤ (s' : Int) := by omega
    have n1 : (s' : Int) < (l.length : Int) := by omega
    have e1 : (((s' + 1 : Nat) : Int) - 1) = (s' : Int) := by omega
    clear htp bm hV hbm HJX HJY HL hu HL1
    go_wp2
    refine bodyPost_ret (v := .tuple #[veV u, .bool true]) (by simp [results, Try.results81, go_sem, *]) rfl ?_
    rw [HT.out]
    refine ⟨rfl, ?_⟩
    have hf : Fr V (((V.setCell ⟨n + 1 + 1, 0, none⟩ (.int .i64 u.ts)).setCell ⟨n + 1 + 1, 1, none⟩ (.string u.val)).setCell ⟨n + 1 + 1, 2, none⟩ (.bool u.dead)) (fun k => k = n + 1 + 1) := Fr.set (a := ⟨n + 1 + 1, 2, none⟩) (Fr.set (a := ⟨n + 1 + 1, 1, none⟩) (Fr.set (a := ⟨n + 1 + 1, 0, none⟩) (Fr.refl V (fun k => k = n + 1 + 1)) (Or.inl rfl) _) (Or.inl rfl) _) (Or.inl rfl) _
    exact HBM.out.trans (hf.toBelow (fun k hk e => by have e' : k = n + 1 + 1 := e; have := HN.out; omega) HBM.out.size)
end
end Go.Proofs.Ytcoaahlakkghhaa
