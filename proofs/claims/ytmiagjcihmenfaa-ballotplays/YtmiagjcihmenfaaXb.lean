/- The program's list of entries in memory. -/
import Derived.Test.YtmiagjcihmenfaaXa
import Derived.ArgAppend
namespace Go.Proofs.Ytmiagjcihmenfaa
open Go.RowKit

theorem setCells_fix (b : Nat) : ∀ (vs : List Value) (o : Nat) (w : World), (w.setCells b o vs).os = w.os ∧ (w.setCells b o vs).tape = w.tape ∧ (w.setCells b o vs).output = w.output ∧ (w.setCells b o vs).heap.size = w.heap.size
  | [], _, _ => ⟨rfl, rfl, rfl, rfl⟩
  | v :: r, o, w => by
    obtain ⟨h1, h2, h3, h4⟩ := setCells_fix b r (o + 1) (w.setCell ⟨b, o, none⟩ v)
    exact ⟨h1, h2, h3, h4.trans (by simp [World.setCell])⟩
theorem setCells_other (b : Nat) : ∀ (vs : List Value) (o : Nat) (w : World) (k : Nat), k ≠ b → (w.setCells b o vs).heap[k]? = w.heap[k]?
  | [], _, _, _, _ => rfl
  | v :: r, o, _, k, h => (setCells_other b r (o + 1) _ k h).trans (set_other (a := ⟨b, o, none⟩) v h)
theorem setCells_blk (b : Nat) {t : TypeId} {fr : Nat × Nat} : ∀ (vs : List Value) (o : Nat) (w : World) (cur : Array Value), w.heap[b]? = some (.cells cur t fr) → ∃ cur', (w.setCells b o vs).heap[b]? = some (.cells cur' t fr) ∧ cur'.size = cur.size
  | [], _, _, cur, h => ⟨cur, h, rfl⟩
  | v :: r, o, w, cur, h => by
    obtain ⟨c, h1, h2⟩ := setCells_blk b r (o + 1) _ _ (set_blk (i := o) h v)
    exact ⟨c, h1, h2.trans (by simp)⟩
theorem setCells_fr (b o : Nat) (vs : List Value) (w : World) {S : Nat → Prop} (h : S b) : Fr w (w.setCells b o vs) S := by
  obtain ⟨h1, h2, h3, h4⟩ := setCells_fix b vs o w
  exact ⟨h1, h2, h3, by rw [h4]; exact Nat.le_refl _, fun k _ hk => setCells_other b vs o w k (fun e => hk (e ▸ h))⟩

/-- The block that a list may write. -/
def lgB : Value → Option Nat
  | .slice (some a) _ (_ + 1) => some a.block
  | _ => none
/-- The entries L lie where v leads to, in a block of their own. -/
def Lg (w : World) (L : List En) (v : Value) : Prop := (L = [] ∧ ∃ ad, v = .slice ad 0 0) ∨
  ∃ g o cap cur, v = .slice (some ⟨g, o, none⟩) L.length cap ∧ 0 < cap ∧ L.length ≤ cap ∧ cap ≤ maxLen ∧ w.heap[g]? = some (.cells cur 49 (0, 0)) ∧ cur.size = o + cap * 4 ∧ ∀ j, j < L.length * 4 → w.cell? ⟨g, o + j, none⟩ = (enC L)[j]?
section
variable {w w' : World} {L M : List En} {v : Value} {S : Nat → Prop}
theorem lgB_pos {g o n cap : Nat} (h : 0 < cap) : lgB (.slice (some ⟨g, o, none⟩) n cap) = some g := by
  obtain ⟨c, rfl⟩ : ∃ c, cap = c + 1 := ⟨cap - 1, by omega⟩
  rfl
theorem lgB_zero (ad : Option Addr) (n : Nat) : lgB (.slice ad n 0) = none := by cases ad <;> rfl
theorem Lg.shape (h : Lg w L v) : ∃ ad cap, v = .slice ad L.length cap ∧ L.length ≤ cap ∧ cap ≤ maxLen := by
  rcases h with ⟨rfl, ad, rfl⟩ | ⟨g, o, cap, cur, rfl, h0, h1, h2, _⟩
  · exact ⟨ad, 0, rfl, Nat.le_refl _, Nat.zero_le _⟩
  · exact ⟨_, cap, rfl, h1, h2⟩
theorem Lg.lt (h : Lg w L v) : ∀ k, lgB v = some k → k < w.heap.size := by
  intro k hk
  rcases h with ⟨rfl, ad, rfl⟩ | ⟨g, o, cap, cur, rfl, h0, h1, h2, h3, _⟩
  · rw [lgB_zero] at hk; cases hk
  · rw [lgB_pos h0] at hk
    cases hk
    exact blk_lt h3
theorem Lg.tag (h : Lg w L v) : ∀ k, lgB v = some k → ∃ cur, w.heap[k]? = some (.cells cur 49 (0, 0)) := by
  intro k hk
  rcases h with ⟨rfl, ad, rfl⟩ | ⟨g, o, cap, cur, rfl, h0, h1, h2, h3, _⟩
  · rw [lgB_zero] at hk; cases hk
  · rw [lgB_pos h0] at hk
    cases hk
    exact ⟨_, h3⟩
theorem Lg.like (h : Lg w L v) (hb : ∀ k, lgB v = some k → w'.heap[k]? = w.heap[k]?) : Lg w' L v := by
  rcases h with ⟨rfl, ad, rfl⟩ | ⟨g, o, cap, cur, rfl, h0, h1, h2, h3, h4, h5⟩
  · exact .inl ⟨rfl, ad, rfl⟩
  · have e := hb g (lgB_pos h0)
    exact .inr ⟨g, o, cap, cur, rfl, h0, h1, h2, e.trans h3, h4, fun j hj => (World.cell?_of_block e).trans (h5 j hj)⟩
theorem Lg.on (h : Lg w L v) (hb : Below w.heap.size w w') : Lg w' L v := h.like (fun k hk => hb.block k (h.lt k hk))
theorem Lg.nil (w : World) : Lg w [] (.slice none 0 0) := .inl ⟨rfl, _, rfl⟩
theorem Lg.own {B : Nat} (h : w.ownsRow B 49 4 v L.length (enC L)) : Lg w L v := by
  have h' := h
  rcases h.2 with ⟨hv, h0⟩ | ⟨g, cap, cur, hv, hg, hc, h1, h2, h3, h4⟩
  · exact .inl ⟨List.eq_nil_of_length_eq_zero h0, _, hv⟩
  · subst hv
    by_cases hz : cap = 0
    · subst hz
      have e : L = [] := List.eq_nil_of_length_eq_zero (by omega)
      subst e
      exact .inl ⟨rfl, _, rfl⟩
    · refine .inr ⟨g, 0, cap, cur, rfl, by omega, h1, h2, hc, by omega, fun j hj => ?_⟩
      rw [Nat.zero_add]
      exact h'.cellAt j (by omega)
/-- What stands there, cell by cell. -/
theorem Lg.get (h : Lg w L v) {i : Nat} (hi : i < L.length) : ∃ g o cap, v = .slice (some ⟨g, o, none⟩) L.length cap ∧ w.cell? ⟨g, o + i * 4, none⟩ = some (.int .i64 L[i].term) ∧ w.cell? ⟨g, o + i * 4 + 1, none⟩ = some (.int .i64 L[i].at') ∧ w.cell? ⟨g, o + i * 4 + 2, none⟩ = some (.int .i64 L[i].born) ∧ w.cell? ⟨g, o + i * 4 + 3, none⟩ = some (.string L[i].text) := by
  rcases h with ⟨rfl, ad, rfl⟩ | ⟨g, o, cap, cur, rfl, h0, h1, h2, h3, h4, h5⟩
  · simp at hi
  · obtain ⟨a, b, c, d⟩ := enC_get L i hi
    refine ⟨g, o, cap, rfl, (h5 _ (by omega)).trans a, ?_, ?_, ?_⟩
    · rw [Nat.add_assoc]; exact (h5 _ (by omega)).trans b
    · rw [Nat.add_assoc]; exact (h5 _ (by omega)).trans c
    · rw [Nat.add_assoc]; exact (h5 _ (by omega)).trans d
/-- A part of it, read. -/
theorem Lg.src (h : Lg w L v) : ∃ ad cap, v = .slice ad L.length cap ∧ (∀ a, ad = some a → ∀ j u, (enC L)[j]? = some u → w.cell? (a.add j) = some u) ∧ (ad = none → L = [] ∧ cap = 0) := by
  rcases h with ⟨rfl, ad, rfl⟩ | ⟨g, o, cap, cur, rfl, h0, h1, h2, h3, h4, h5⟩
  · exact ⟨ad, 0, rfl, fun a _ j u hu => by simp [enC] at hu, fun _ => ⟨rfl, rfl⟩⟩
  · refine ⟨_, cap, rfl, fun a ha j u hu => ?_, fun q => by cases q⟩
    cases ha
    have hj : j < L.length * 4 := by
      have := (List.getElem?_eq_some_iff.1 hu).1
      rwa [enC_len] at this
    rw [add_at, h5 j hj, hu]
end
/-- append puts nothing. -/
theorem append_none (w : World) (ad ad2 : Option Addr) (n cap cap2 : Nat) (hle : n ≤ cap) : (Builtin.append_ #[32, 32] 32 #[.slice ad n cap, .slice ad2 0 cap2]).run Try.prog w = .ok (.slice ad n cap) w := by
  obtain ⟨i0, hi, hz0, hz1, hz2⟩ := info_parts infoEn
  cases ad2 with
  | none => cases ad <;> simp [Builtin.append_, run_underlying Try.underlying32, sizeOf, typeInfo, hi, Builtin.lenOf, hle, Builtin.firstCells, storeCells]
  | some a =>
    have hfc := run_firstCells_some (P := Try.prog) w i0.size 0 a 0 cap2 [] (by simp) (fun j u hu => by simp at hu)
    cases ad <;> simp [Builtin.append_, run_underlying Try.underlying32, sizeOf, typeInfo, hi, Builtin.lenOf, hle, hfc, storeCells]
section
variable {w w' : World} {L M : List En} {v : Value} {S : Nat → Prop}
theorem Lg.append {ad2 : Option Addr} {cap2 : Nat} (h : Lg w L v) (hs : (ad2 = none ∧ M.length = 0 ∧ cap2 = 0 ∧ enC M = []) ∨ ∃ a, ad2 = some a ∧ (enC M).length = M.length * 4 ∧ (∀ j u, (enC M)[j]? = some u → w.cell? (a.add j) = some u))
    (hz : (L.length + M.length) * 40 ≤ 140737488355328) : ∃ v' w', (Builtin.append_ #[32, 32] 32 #[v, .slice ad2 M.length cap2]).run Try.prog w = .ok v' w' ∧ Lg w' (L ++ M) v' ∧ Fr w w' (fun k => lgB v = some k) ∧ (∀ k, lgB v' = some k → lgB v = some k ∨ w.heap.size ≤ k) := by
  obtain ⟨i0, hi, hz0, hz1, hz2⟩ := info_parts infoEn
  by_cases hM : M = []
  · subst hM
    obtain ⟨ad, cap, e, h1, _⟩ := h.shape
    refine ⟨v, w, ?_, by rw [List.append_nil]; exact h, Fr.refl _ _, fun k hk => .inl hk⟩
    rw [e]
    exact append_none w ad ad2 L.length cap cap2 h1
  · have hpos : 0 < M.length := List.length_pos_iff.2 hM
    rcases hs with ⟨_, h0, _⟩ | ⟨a, rfl, hl, hc⟩
    · omega
    · have fin : ∀ v' w', w'.ownsRow w.heap.size 49 4 v' (L.length + M.length) (enC L ++ enC M) → w.grownBy w' none → Lg w' (L ++ M) v' ∧ Fr w w' (fun k => lgB v = some k) ∧ (∀ k, lgB v' = some k → lgB v = some k ∨ w.heap.size ≤ k) := by
        intro v' w' ho hg
        refine ⟨Lg.own (B := w.heap.size) (by rw [List.length_append, enC_append]; exact ho), ⟨hg.os, hg.tape, hg.output, hg.size, fun k hk _ => hg.block k hk (by simp)⟩, fun k hk => .inr ?_⟩
        have hob : v'.ownBlock = some k := by
          revert hk
          cases v' with
          | slice ad n c => cases ad <;> cases c <;> simp [lgB, Value.ownBlock]
          | _ => simp [lgB]
        exact (ho.lt k hob).1
      rcases h with ⟨rfl, ad, rfl⟩ | ⟨g, o, cap, cur, rfl, h0, h1, h2, h3, h4, h5⟩
      · cases ad with
        | none =>
          obtain ⟨v', w', hr, ho, hg, _⟩ := ens_run (w := w) (v := .slice none 0 0) (base := w.heap.size) (n := 0) (xs := []) (ad := some a) (c := cap2) (World.ownsRow_nil _ _ _ _) (Nat.le_refl _) (.inr ⟨a, rfl, hl, hc⟩) (enC_one M) (by simpa using hz)
          exact ⟨v', w', hr, fin v' w' (by simpa [enC] using ho) hg⟩
        | some b =>
          obtain ⟨v', w', hr, ho, hg⟩ := run_append_arg_grows (P := Try.prog) w 32 32 49 i0 _ 4 40 Try.underlying32 hi hz0 hz1 hz2 rfl (by decide) b 0 0 [] rfl (fun j u hu => by simp at hu) a M.length cap2 (enC M) hl hc (by omega) (by simp only [List.length_nil] at hz; unfold maxLen; omega) (by simp only [List.length_nil] at hz; omega)
          exact ⟨v', w', hr, fin v' w' (by simpa [enC] using ho) hg⟩
      · by_cases hroom : L.length + M.length ≤ cap
        · have hcell : ∀ j, j < (enC M).length → (w.cell? ⟨g, o + L.length * 4 + j, none⟩).isSome = true := by
            intro j hj
            rw [cell_blk h3, Array.getElem?_eq_getElem (by rw [hl] at hj; omega)]
            rfl
          have hr := run_append_room_cells (P := Try.prog) w 32 32 49 i0 Try.underlying32 hi g o L.length cap a M.length cap2 (enC M) (by rw [hz1]; exact hl) hc (enC_one M) hroom (by rw [hz1]; exact hcell) (fun j _ => frozen_blk h3 _)
          rw [hz1] at hr
          obtain ⟨cur', hc1, hc2⟩ := setCells_blk g (enC M) (o + L.length * 4) w cur h3
          have hfr := setCells_fr g (o + L.length * 4) (enC M) w (S := fun k => lgB (.slice (some ⟨g, o, none⟩) L.length cap) = some k) (lgB_pos h0)
          refine ⟨_, _, hr, .inr ⟨g, o, cap, cur', by rw [List.length_append], h0, by rw [List.length_append]; exact hroom, h2, hc1, hc2.trans h4, fun j hj => ?_⟩, hfr, fun k hk => .inl ?_⟩
          · rw [List.length_append] at hj
            rw [enC_append]
            by_cases q : j < L.length * 4
            · rw [World.cell?_setCells_out g _ _ w _ (fun _ _ => .inl (by show o + j < _; omega)), h5 j q, List.getElem?_append_left (by rw [enC_len]; exact q)]
            · have := World.cell?_setCells_in g (enC M) (o + L.length * 4) w hcell (j - L.length * 4) (by rw [hl]; omega)
              rw [show o + L.length * 4 + (j - L.length * 4) = o + j by omega] at this
              rw [this, List.getElem?_append_right (by rw [enC_len]; omega)]
              have e : j - (enC L).length = j - L.length * 4 := by rw [enC_len]
              rw [e, List.getElem?_eq_getElem]
          · rw [lgB_pos h0] at hk ⊢
            exact hk
        · obtain ⟨v', w', hr, ho, hg⟩ := run_append_arg_grows (P := Try.prog) w 32 32 49 i0 _ 4 40 Try.underlying32 hi hz0 hz1 hz2 rfl (by decide) ⟨g, o, none⟩ L.length cap (enC L) (enC_len L) (fun j u hu => by
            have hj : j < L.length * 4 := by
              have := (List.getElem?_eq_some_iff.1 hu).1
              rwa [enC_len] at this
            rw [add_at, h5 j hj, hu]) a M.length cap2 (enC M) hl hc (by omega) (by unfold maxLen; omega) hz
          exact ⟨v', w', hr, fin v' w' ho hg⟩
end
end Go.Proofs.Ytmiagjcihmenfaa
/- The program's ballot in memory. -/
namespace Go.Proofs.Ytmiagjcihmenfaa
open Go.RowKit

/-- The ballot's cells. -/
def pC (b : Bs) (lv : Value) (pf : Int) : Array Value := #[.int .i64 b.term, .int .i64 b.vote, .int .i64 b.role, .int .i64 b.lead, .int .i64 b.base, .int .i64 b.last, .int .i64 b.commit, .int .i64 b.id, .int .i64 b.size, .int .i64 b.baseTerm, .string b.snap, lv,
  .bool b.touched, .bool b.whole, .int .i64 pf,
  .bool (b.has.getD 0 false), .bool (b.has.getD 1 false), .bool (b.has.getD 2 false), .bool (b.has.getD 3 false), .bool (b.has.getD 4 false),
  .int .i64 (b.next.getD 0 0), .int .i64 (b.mat.getD 0 0), .int .i64 (b.next.getD 1 0), .int .i64 (b.mat.getD 1 0), .int .i64 (b.next.getD 2 0), .int .i64 (b.mat.getD 2 0), .int .i64 (b.next.getD 3 0), .int .i64 (b.mat.getD 3 0), .int .i64 (b.next.getD 4 0), .int .i64 (b.mat.getD 4 0)]
/-- Where the log was changed: as the program keeps it. -/
def Fm (b : Bs) (pf : Int) : Prop := b.whole = true ∨ (pf = 0 ∧ b.fr = b.last + 1) ∨ (0 < pf ∧ pf = b.fr)
/-- The program's ballot b lies at A; S are the blocks that it writes. -/
structure Pv (w : World) (A : Nat) (S : Nat → Prop) (b : Bs) (lv : Value) (pf : Int) : Prop where
  ob : w.heap[A]? = some (.cells (pC b lv pf) 78 (0, 0))
  log : Lg w b.log lv
  covA : S A
  cov : ∀ k, lgB lv = some k → S k
  lt : ∀ k, S k → k < w.heap.size
  len : b.log.length ≤ 900000
  b0 : 0 ≤ b.base
  b1 : b.base ≤ 4398046511104
  fm : Fm b pf
  idl : b.id < b.size
  sz : b.size ≤ 5
def Pb (w : World) (A : Nat) (S : Nat → Prop) (b : Bs) : Prop := ∃ lv pf, Pv w A S b lv pf
section
variable {w w' : World} {A : Nat} {S T : Nat → Prop} {b : Bs} {lv : Value} {pf : Int}
theorem Pv.cell (h : Pv w A S b lv pf) (i : Nat) : w.cell? ⟨A, i, none⟩ = (pC b lv pf)[i]? := cell_blk h.ob i
theorem Pv.neA (h : Pv w A S b lv pf) : ∀ k, lgB lv = some k → k ≠ A := by
  intro k hk
  obtain ⟨cur, hc⟩ := h.log.tag k hk
  exact (tag_ne h.ob hc (by decide)).symm
theorem Pv.stays (h : Pv w A S b lv pf) (k : Fr w w' T) (hd : ∀ b, S b → ¬ T b) : Pv w' A S b lv pf :=
  ⟨(k.block A (h.lt A h.covA) (hd A h.covA)).trans h.ob, h.log.like (fun j hj => k.block j (h.lt j (h.cov j hj)) (hd j (h.cov j hj))), h.covA, h.cov, fun b hb => Nat.lt_of_lt_of_le (h.lt b hb) k.size, h.len, h.b0, h.b1, h.fm, h.idl, h.sz⟩
theorem Pv.on (h : Pv w A S b lv pf) (hb : Below w.heap.size w w') : Pv w' A S b lv pf := h.stays (Fr.ofBelow (fun _ => False) hb) (fun _ _ q => q)
theorem Pv.alloc (h : Pv w A S b lv pf) (o : Obj) : Pv (w.alloc o) A S b lv pf := h.on ((Below.refl _ w).alloc (Nat.le_refl _) _)
theorem Pb.stays (h : Pb w A S b) (k : Fr w w' T) (hd : ∀ b, S b → ¬ T b) : Pb w' A S b := by
  obtain ⟨lv, pf, h⟩ := h
  exact ⟨lv, pf, h.stays k hd⟩
theorem Pb.on (h : Pb w A S b) (hb : Below w.heap.size w w') : Pb w' A S b := h.stays (Fr.ofBelow (fun _ => False) hb) (fun _ _ q => q)
theorem Pb.drewN (h : Pb w A S b) (k : Nat) : Pb (w.drewN k) A S b := h.on (below_draw (Below.refl _ _) k)
theorem Pb.lt (h : Pb w A S b) : ∀ k, S k → k < w.heap.size := by
  obtain ⟨_, _, h⟩ := h
  exact h.lt
theorem Pb.len (h : Pb w A S b) : b.log.length ≤ 900000 ∧ 0 ≤ b.base ∧ b.base ≤ 4398046511104 := by
  obtain ⟨_, _, h⟩ := h
  exact ⟨h.len, h.b0, h.b1⟩
theorem Pv.nextc (h : Pv w A S b lv pf) {k : Nat} (hk : k < 5) : w.cell? ⟨A, 20 + k * 2, none⟩ = some (.int .i64 (b.next.getD k 0)) := by
  rw [h.cell]
  have : k = 0 ∨ k = 1 ∨ k = 2 ∨ k = 3 ∨ k = 4 := by omega
  rcases this with rfl | rfl | rfl | rfl | rfl <;> rfl
theorem Pv.matc (h : Pv w A S b lv pf) {k : Nat} (hk : k < 5) : w.cell? ⟨A, 20 + k * 2 + 1, none⟩ = some (.int .i64 (b.mat.getD k 0)) := by
  rw [h.cell]
  have : k = 0 ∨ k = 1 ∨ k = 2 ∨ k = 3 ∨ k = 4 := by omega
  rcases this with rfl | rfl | rfl | rfl | rfl <;> rfl
theorem Pv.hasc (h : Pv w A S b lv pf) {k : Nat} (hk : k < 5) : w.cell? ⟨A, 15 + k, none⟩ = some (.bool (b.has.getD k false)) := by
  rw [h.cell]
  have : k = 0 ∨ k = 1 ∨ k = 2 ∨ k = 3 ∨ k = 4 := by omega
  rcases this with rfl | rfl | rfl | rfl | rfl <;> rfl
/-- A field is written anew. -/
theorem Pb.setf (h : Pb w A S b) {i : Nat} {v : Value} {b' : Bs} (hs : ∀ lv pf, (pC b lv pf).setIfInBounds i v = pC b' lv pf) (hl : b'.log = b.log) (hb : b'.base = b.base) (hw : ∀ pf, Fm b pf → Fm b' pf) (hi : b'.id = b.id) (hz : b'.size = b.size) : Pb (w.setCell ⟨A, i, none⟩ v) A S b' ∧ Fr w (w.setCell ⟨A, i, none⟩ v) S := by
  obtain ⟨lv, pf, h⟩ := h
  have hf : Fr w (w.setCell ⟨A, i, none⟩ v) S := Fr.set (a := ⟨A, i, none⟩) (Fr.refl w S) (Or.inl h.covA) _
  refine ⟨⟨lv, pf, ⟨?_, ?_, h.covA, h.cov, fun k hk => Nat.lt_of_lt_of_le (h.lt k hk) hf.size, by rw [hl]; exact h.len, by rw [hb]; exact h.b0, by rw [hb]; exact h.b1, hw pf h.fm, by rw [hi, hz]; exact h.idl, by rw [hz]; exact h.sz⟩⟩, hf⟩
  · rw [set_blk h.ob, hs]
  · rw [hl]
    exact h.log.like (fun k hk => set_other _ (h.neA k hk))

/-! ### Small ones -/
theorem within_any (w : World) (n a z : Int) : Calls Try.prog 27 #[.int .i64 n, .int .i64 a, .int .i64 z] w fun e w' => e = .returned (.bool (decide (a ≤ n) && decide (n ≤ z))) ∧ w' = w := by
  by_cases h1 : a ≤ n
  · by_cases h2 : n ≤ z
    · go_enter Try.func27, Try.ntmps27
      go_wp2
      go_ret
      exact ⟨by simp [h1, h2], rfl⟩
    · go_enter Try.func27, Try.ntmps27
      go_wp2
      go_ret
      exact ⟨by simp; omega, rfl⟩
  · go_enter Try.func27, Try.ntmps27
    go_wp2
    go_ret
    exact ⟨by simp; intro; omega, rfl⟩
theorem isNode_any (h : Pb w A S b) (n : Int) : Calls Try.prog 68 #[.pointer (some ⟨A, 0, none⟩), .int .i64 n] w fun e w' => e = .returned (.bool (decide (0 ≤ n) && decide (n ≤ b.size - 1))) ∧ w' = w := by
  obtain ⟨lv, pf, h⟩ := h
  have c8 : w.cell? ⟨A, 8, none⟩ = some (.int .i64 b.size) := h.cell 8
  have hsz := h.sz
  have hw := within_any w n 0 (b.size - 1)
  clear h
  go_enter Try.func68, Try.ntmps68
  go_wp2_with fail
  refine hw.mono ?_
  rintro e w' ⟨rfl, rfl⟩
  go_wp2
  go_ret
  exact ⟨rfl, rfl⟩
abbrev stV (b : Bs) : Value := .agg #[.int .i64 b.term, .int .i64 b.vote, .int .i64 b.role, .int .i64 b.lead, .int .i64 b.base, .int .i64 b.last, .int .i64 b.commit]
theorem stand_any (h : Pb w A S b) : Calls Try.prog 22 #[.pointer (some ⟨A, 0, none⟩)] w fun e w' => e = .returned (stV b) ∧ Below w.heap.size w w' := by
  obtain ⟨lv, pf, h⟩ := h
  have h1 := h.alloc (.cells #[.int .i64 0, .int .i64 0, .int .i64 0, .int .i64 0, .int .i64 0, .int .i64 0, .int .i64 0] 57)
  have c0 : (w.alloc (.cells #[.int .i64 0, .int .i64 0, .int .i64 0, .int .i64 0, .int .i64 0, .int .i64 0, .int .i64 0] 57)).cell? ⟨A, 0, none⟩ = some (.int .i64 b.term) := h1.cell 0
  have c1 : (w.alloc (.cells #[.int .i64 0, .int .i64 0, .int .i64 0, .int .i64 0, .int .i64 0, .int .i64 0, .int .i64 0] 57)).cell? ⟨A, 1, none⟩ = some (.int .i64 b.vote) := h1.cell 1
  have c2 : (w.alloc (.cells #[.int .i64 0, .int .i64 0, .int .i64 0, .int .i64 0, .int .i64 0, .int .i64 0, .int .i64 0] 57)).cell? ⟨A, 2, none⟩ = some (.int .i64 b.role) := h1.cell 2
  have c3 : (w.alloc (.cells #[.int .i64 0, .int .i64 0, .int .i64 0, .int .i64 0, .int .i64 0, .int .i64 0, .int .i64 0] 57)).cell? ⟨A, 3, none⟩ = some (.int .i64 b.lead) := h1.cell 3
  have c4 : (w.alloc (.cells #[.int .i64 0, .int .i64 0, .int .i64 0, .int .i64 0, .int .i64 0, .int .i64 0, .int .i64 0] 57)).cell? ⟨A, 4, none⟩ = some (.int .i64 b.base) := h1.cell 4
  have c5 : (w.alloc (.cells #[.int .i64 0, .int .i64 0, .int .i64 0, .int .i64 0, .int .i64 0, .int .i64 0, .int .i64 0] 57)).cell? ⟨A, 5, none⟩ = some (.int .i64 b.last) := h1.cell 5
  have c6 : (w.alloc (.cells #[.int .i64 0, .int .i64 0, .int .i64 0, .int .i64 0, .int .i64 0, .int .i64 0, .int .i64 0] 57)).cell? ⟨A, 6, none⟩ = some (.int .i64 b.commit) := h1.cell 6
  clear h h1
  go_enter Try.func22, Try.ntmps22
  go_wp2
  exact bodyPost_ret (v := stV b) (by simp [results, Try.results22, go_sem]) rfl ⟨rfl, (Below.refl _ _).alloc (Nat.le_refl _) _⟩
theorem snap_any (h : Pb w A S b) : Calls Try.prog 23 #[.pointer (some ⟨A, 0, none⟩)] w fun e w' => e = .returned (.string b.snap) ∧ w' = w := by
  obtain ⟨lv, pf, h⟩ := h
  have c10 : w.cell? ⟨A, 10, none⟩ = some (.string b.snap) := h.cell 10
  clear h
  go_enter Try.func23, Try.ntmps23
  go_wp2
  go_ret
  exact ⟨rfl, rfl⟩
theorem message_any (h : Pb w A S b) (kind to : Int) : Calls Try.prog 71 #[.pointer (some ⟨A, 0, none⟩), .int .i64 kind, .int .i64 to] w fun e w' => e = .returned (msV { ms0 with kind := kind, fr := b.id, tgt := to, term := b.term } (.slice none 0 0)) ∧ Below w.heap.size w w' := by
  obtain ⟨lv, pf, h⟩ := h
  have h1 := h.alloc (msO ms0 (.slice none 0 0))
  have c0 : (w.alloc (.cells #[.int .i64 0, .int .i64 0, .int .i64 0, .int .i64 0, .int .i64 0, .int .i64 0, .int .i64 0, .bool false, .slice none 0 0, .string ⟨#[]⟩] 34)).cell? ⟨A, 0, none⟩ = some (.int .i64 b.term) := h1.cell 0
  have c7 : (w.alloc (.cells #[.int .i64 0, .int .i64 0, .int .i64 0, .int .i64 0, .int .i64 0, .int .i64 0, .int .i64 0, .bool false, .slice none 0 0, .string ⟨#[]⟩] 34)).cell? ⟨A, 7, none⟩ = some (.int .i64 b.id) := h1.cell 7
  clear h h1
  go_enter Try.func71, Try.ntmps71
  go_wp2
  go_region
  go_wp2
  exact bodyPost_ret (v := msV { ms0 with kind := kind, fr := b.id, tgt := to, term := b.term } (.slice none 0 0)) (by simp [results, Try.results71, go_sem]) rfl ⟨rfl, ((Below.refl _ _).alloc (Nat.le_refl _) _).drew⟩
end
end Go.Proofs.Ytmiagjcihmenfaa
/- The walks of the program's small functions. -/
namespace Go.Proofs.Ytmiagjcihmenfaa
open Go.RowKit

section
variable {w w' : World} {A : Nat} {S T : Nat → Prop} {b : Bs} {lv : Value} {pf : Int}
set_option maxHeartbeats 2000000 in
set_option maxRecDepth 100000 in
theorem termOf_any (h : Pb w A S b) (i : Int) (h1 : b.base ≤ i) (h2 : i ≤ b.last) : Calls Try.prog 53 #[.pointer (some ⟨A, 0, none⟩), .int .i64 i] w fun e w' => e = .returned (.int .i64 (b.termAt i)) ∧ ∃ n, w' = w.drewN n := by
  obtain ⟨lv, pf, h⟩ := h
  have c4 : w.cell? ⟨A, 4, none⟩ = some (.int .i64 b.base) := h.cell 4
  have c9 : w.cell? ⟨A, 9, none⟩ = some (.int .i64 b.baseTerm) := h.cell 9
  have c11 : w.cell? ⟨A, 11, none⟩ = some (lv) := h.cell 11
  have b0 := h.b0
  have b1 := h.b1
  have l1 := h.len
  by_cases hb : i = b.base
  · have e : b.termAt i = b.baseTerm := by rw [hb]; exact Bs.termAt_base b
    rw [e]
    clear e h
    go_enter Try.func53, Try.ntmps53
    go_wp2
    go_ret
    exact ⟨rfl, 0, rfl⟩
  · obtain ⟨k, hk⟩ : ∃ k : Nat, i = b.base + 1 + k := ⟨(i - b.base - 1).toNat, by omega⟩
    have hkl : k < b.log.length := by unfold Bs.last at h2; omega
    have e : b.termAt i = b.log[k].term := by
      unfold Bs.termAt Bs.at?
      rw [if_neg hb, if_pos (by omega), show (i - b.base - 1).toNat = k by omega, List.getElem?_eq_getElem hkl]
    rw [e]
    obtain ⟨g, o, cap, rfl, x0, x1, x2, x3⟩ := h.log.get hkl
    obtain ⟨y, hy⟩ : ∃ y, b.log[k].term = y := ⟨_, rfl⟩
    rw [hy] at x0 ⊢
    have w1 : i - b.base - 1 = (k : Int) := by omega
    have w2 : (0 : Int) ≤ k := by omega
    have w3 : (k : Int) < b.log.length := by omega
    have w5 : i ≤ 4398047511105 := by unfold Bs.last at h2; omega
    clear hk hy e h
    go_enter Try.func53, Try.ntmps53
    go_wp2
    go_quiet (fail)
    go_wp2
    go_ret
    exact ⟨rfl, _, rfl⟩
set_option maxHeartbeats 2000000 in
set_option maxRecDepth 100000 in
theorem has_any (h : Pb w A S b) (i t : Int) : Calls Try.prog 83 #[.pointer (some ⟨A, 0, none⟩), .int .i64 i, .int .i64 t] w fun e w' => e = .returned (.bool (decide (b.base ≤ i ∧ i ≤ b.last ∧ b.termAt i = t))) ∧ ∃ n, w' = w.drewN n := by
  by_cases h1 : b.base ≤ i
  · by_cases h2 : i ≤ b.last
    · have ht := termOf_any h i h1 h2
      obtain ⟨lv, pf, h⟩ := h
      have c4 : w.cell? ⟨A, 4, none⟩ = some (.int .i64 b.base) := h.cell 4
      have c5 : w.cell? ⟨A, 5, none⟩ = some (.int .i64 b.last) := h.cell 5
      obtain ⟨y, hy⟩ : ∃ y, b.termAt i = y := ⟨_, rfl⟩
      rw [hy] at ht ⊢
      clear h hy
      go_enter Try.func83, Try.ntmps83
      go_wp2_with fail
      refine ht.mono ?_
      rintro e w' ⟨rfl, n, rfl⟩
      clear ht
      go_wp2
      go_ret
      refine ⟨?_, n, rfl⟩
      by_cases q : y = t
      · rw [decide_eq_true ⟨h1, h2, q⟩]
        simp [q]
      · rw [decide_eq_false (fun z => q z.2.2)]
        simp [q]
    · obtain ⟨lv, pf, h⟩ := h
      have c4 : w.cell? ⟨A, 4, none⟩ = some (.int .i64 b.base) := h.cell 4
      have c5 : w.cell? ⟨A, 5, none⟩ = some (.int .i64 b.last) := h.cell 5
      clear h
      go_enter Try.func83, Try.ntmps83
      go_wp2
      go_ret
      exact ⟨by rw [decide_eq_false (by omega)]; rfl, 0, rfl⟩
  · obtain ⟨lv, pf, h⟩ := h
    have c4 : w.cell? ⟨A, 4, none⟩ = some (.int .i64 b.base) := h.cell 4
    have c5 : w.cell? ⟨A, 5, none⟩ = some (.int .i64 b.last) := h.cell 5
    clear h
    go_enter Try.func83, Try.ntmps83
    go_wp2
    go_ret
    exact ⟨by rw [decide_eq_false (by omega)]; rfl, 0, rfl⟩
theorem enter_any (h : Pb w A S b) (t v r : Int) : Calls Try.prog 43 #[.pointer (some ⟨A, 0, none⟩), .int .i64 t, .int .i64 v, .int .i64 r] w fun e w' => e = .returned (.tuple #[]) ∧ Pb w' A S { b with term := t, vote := v, role := r, lead := -1, touched := true } ∧ Fr w w' S := by
  obtain ⟨a1, f1⟩ := h.setf (i := 0) (v := .int .i64 t) (b' := { b with term := t }) (fun _ _ => rfl) rfl rfl (fun _ q => q) rfl rfl
  obtain ⟨a2, f2⟩ := a1.setf (i := 1) (v := .int .i64 v) (b' := { b with term := t, vote := v }) (fun _ _ => rfl) rfl rfl (fun _ q => q) rfl rfl
  obtain ⟨a3, f3⟩ := a2.setf (i := 2) (v := .int .i64 r) (b' := { b with term := t, vote := v, role := r }) (fun _ _ => rfl) rfl rfl (fun _ q => q) rfl rfl
  obtain ⟨a4, f4⟩ := a3.setf (i := 3) (v := .int .i64 (-1)) (b' := { b with term := t, vote := v, role := r, lead := -1 }) (fun _ _ => rfl) rfl rfl (fun _ q => q) rfl rfl
  obtain ⟨a5, f5⟩ := a4.setf (i := 12) (v := .bool true) (b' := { b with term := t, vote := v, role := r, lead := -1, touched := true }) (fun _ _ => rfl) rfl rfl (fun _ q => q) rfl rfl
  have hfin := f1.trans (f2.trans (f3.trans (f4.trans f5)))
  obtain ⟨lv, pf, h⟩ := h
  have c0 : w.cell? ⟨A, 0, none⟩ = some (.int .i64 b.term) := h.cell 0
  have c1 : w.cell? ⟨A, 1, none⟩ = some (.int .i64 b.vote) := h.cell 1
  have c2 : w.cell? ⟨A, 2, none⟩ = some (.int .i64 b.role) := h.cell 2
  have c3 : w.cell? ⟨A, 3, none⟩ = some (.int .i64 b.lead) := h.cell 3
  have c12 : w.cell? ⟨A, 12, none⟩ = some (.bool b.touched) := h.cell 12
  have g0 : w.frozen? ⟨A, 0, none⟩ = false := frozen_blk h.ob 0
  have g1 : w.frozen? ⟨A, 1, none⟩ = false := frozen_blk h.ob 1
  have g2 : w.frozen? ⟨A, 2, none⟩ = false := frozen_blk h.ob 2
  have g3 : w.frozen? ⟨A, 3, none⟩ = false := frozen_blk h.ob 3
  have g12 : w.frozen? ⟨A, 12, none⟩ = false := frozen_blk h.ob 12
  have HA := Lib.hid a5
  have HF := Lib.hid hfin
  clear a1 a2 a3 a4 a5 f1 f2 f3 f4 f5 hfin h
  go_enter Try.func43, Try.ntmps43
  go_wp2
  go_end0
  exact ⟨rfl, HA.out, HF.out⟩
theorem follow_any (h : Pb w A S b) (l : Int) : Calls Try.prog 82 #[.pointer (some ⟨A, 0, none⟩), .int .i64 l] w fun e w' => e = .returned (.tuple #[]) ∧ Pb w' A S { b with role := 0, lead := l } ∧ Fr w w' S := by
  obtain ⟨a3, f3⟩ := h.setf (i := 2) (v := .int .i64 0) (b' := { b with role := 0 }) (fun _ _ => rfl) rfl rfl (fun _ q => q) rfl rfl
  obtain ⟨a4, f4⟩ := a3.setf (i := 3) (v := .int .i64 l) (b' := { b with role := 0, lead := l }) (fun _ _ => rfl) rfl rfl (fun _ q => q) rfl rfl
  have hfin := f3.trans f4
  obtain ⟨lv, pf, h⟩ := h
  have c2 : w.cell? ⟨A, 2, none⟩ = some (.int .i64 b.role) := h.cell 2
  have c3 : w.cell? ⟨A, 3, none⟩ = some (.int .i64 b.lead) := h.cell 3
  have g2 : w.frozen? ⟨A, 2, none⟩ = false := frozen_blk h.ob 2
  have g3 : w.frozen? ⟨A, 3, none⟩ = false := frozen_blk h.ob 3
  have HA := Lib.hid a4
  have HF := Lib.hid hfin
  clear a3 a4 f3 f4 hfin h
  go_enter Try.func82, Try.ntmps82
  go_wp2
  go_end0
  exact ⟨rfl, HA.out, HF.out⟩
theorem own_msg {w1 : World} (hb : Below w.heap.size w w1) (m : Ms) (o : Obj) : ((w1.alloc o).alloc (msO m (.slice none 0 0))).ownsRow w.heap.size 34 10 (.slice (some ⟨w1.heap.size + 1, 0, none⟩) 1 1) 1 (msC [(m, .slice none 0 0)]) := by
  refine ⟨rfl, .inr ⟨w1.heap.size + 1, 1, #[.int .i64 m.kind, .int .i64 m.fr, .int .i64 m.tgt, .int .i64 m.term, .int .i64 m.index, .int .i64 m.prev, .int .i64 m.commit, .bool m.good, .slice none 0 0, .string m.snap], rfl, Nat.le_trans hb.size (Nat.le_succ _), ?_, Nat.le_refl _, (by unfold maxLen; omega), ?_, ?_⟩⟩
  · have := heap_alloc_new (w1.alloc o) (msO m (.slice none 0 0))
    rwa [show (w1.alloc o).heap.size = w1.heap.size + 1 by simp] at this
  · rfl
  · simp [msC]
theorem voted_any (h : Pb w A S b) (to : Int) (good : Bool) : Calls Try.prog 72 #[.pointer (some ⟨A, 0, none⟩), .int .i64 to, .bool good] w fun e w' => ∃ ov, e = .returned ov ∧ Below w.heap.size w w' ∧ w'.ownsRow w.heap.size 34 10 ov 1 (msC [({ ms0 with kind := 2, fr := b.id, tgt := to, term := b.term, good := good }, .slice none 0 0)]) := by
  have hm := message_any h 2 to
  clear h
  go_enter Try.func72, Try.ntmps72
  go_wp2_with fail
  refine hm.mono ?_
  rintro e w1 ⟨rfl, hb1⟩
  clear hm
  go_wp2
  go_ret
  exact ⟨_, rfl, (hb1.alloc hb1.size _).alloc (Nat.le_trans hb1.size (by simp)) _, own_msg hb1 _ _⟩
theorem fed_any (h : Pb w A S b) (to : Int) (good : Bool) (i : Int) : Calls Try.prog 73 #[.pointer (some ⟨A, 0, none⟩), .int .i64 to, .bool good, .int .i64 i] w fun e w' => ∃ ov, e = .returned ov ∧ Below w.heap.size w w' ∧ w'.ownsRow w.heap.size 34 10 ov 1 (msC [({ ms0 with kind := 4, fr := b.id, tgt := to, term := b.term, index := i, good := good }, .slice none 0 0)]) := by
  have hm := message_any h 4 to
  clear h
  go_enter Try.func73, Try.ntmps73
  go_wp2_with fail
  refine hm.mono ?_
  rintro e w1 ⟨rfl, hb1⟩
  clear hm
  go_wp2
  go_ret
  exact ⟨_, rfl, (hb1.alloc hb1.size _).alloc (Nat.le_trans hb1.size (by simp)) _, own_msg hb1 _ _⟩
end
end Go.Proofs.Ytmiagjcihmenfaa
/- The walk of slices.Sort at a few ints. -/
namespace Go.Proofs.Ytmiagjcihmenfaa
open Go.RowKit

theorem isNaN_any (w : World) (x : Int) : Calls Try.prog 105 #[.int .i64 x] w fun e w' => e = .returned (.bool false) ∧ w' = w := by
  go_enter Try.func105, Try.ntmps105
  go_wp2
  go_ret
  exact ⟨by simp, rfl⟩
theorem less_any (w : World) (x y : Int) : Calls Try.prog 95 #[.int .i64 x, .int .i64 y] w fun e w' => e = .returned (.bool (decide (x < y))) ∧ w' = w := by
  have h1 := isNaN_any w x
  go_enter Try.func95, Try.ntmps95
  go_wp2_with fail
  refine h1.mono ?_
  rintro e w' ⟨rfl, rfl⟩
  clear h1
  go_wp2
  go_ret
  exact ⟨by simp, rfl⟩
set_option maxRecDepth 100000 in
theorem len64_any (w : World) (n : Nat) (hn : n ≤ 5) : Calls Try.prog 99 #[.int .u64 n] w fun e w' => ∃ k, e = .returned (.int .i64 k) ∧ w' = w := by
  have : n = 0 ∨ n = 1 ∨ n = 2 ∨ n = 3 ∨ n = 4 ∨ n = 5 := by omega
  rcases this with rfl | rfl | rfl | rfl | rfl | rfl <;>
  · go_enter Try.func99, Try.ntmps99
    go_wp2
    go_ret
    exact ⟨_, rfl, rfl⟩
/-- The numbers L lie at g. -/
def Ia (w : World) (g : Nat) (L : List Int) : Prop := ∀ k (h : k < L.length), w.cell? ⟨g, k, none⟩ = some (.int .i64 L[k]) ∧ w.frozen? ⟨g, k, none⟩ = false
/-- Sorted up to i but for place j. -/
def Sb (L : List Int) (i j : Nat) : Prop := ∀ p q, p < q → q ≤ i → q ≠ j → L.getD p 0 ≤ L.getD q 0
def swp (L : List Int) (j : Nat) : List Int := (L.set (j + 1) (L.getD j 0)).set j (L.getD (j + 1) 0)
theorem gd (L : List Int) (p : Nat) (h : p < L.length) : L.getD p 0 = L[p] := by simp [List.getD, h]
theorem swp_len (L : List Int) (j : Nat) : (swp L j).length = L.length := by simp [swp]
theorem swp_get (L : List Int) (j p : Nat) (hj : j + 1 < L.length) : (swp L j).getD p 0 = if p = j then L.getD (j + 1) 0 else if p = j + 1 then L.getD j 0 else L.getD p 0 := by
  unfold swp
  simp only [List.getD_eq_getElem?_getD, List.getElem?_set, List.length_set]
  by_cases h1 : p = j
  · subst h1
    simp [show p < L.length by omega]
  · by_cases h2 : p = j + 1
    · subst h2
      simp [hj]
    · simp [h1, h2, Ne.symm h1, Ne.symm h2]
theorem swp_perm (L : List Int) (j : Nat) (hj : j + 1 < L.length) : (swp L j).Perm L := by
  have e : L = L.take j ++ (L.getD j 0 :: L.getD (j + 1) 0 :: L.drop (j + 2)) := by
    have h1 : L.drop j = L[j] :: L.drop (j + 1) := List.drop_eq_getElem_cons (by omega)
    have h2 : L.drop (j + 1) = L[j + 1] :: L.drop (j + 1 + 1) := List.drop_eq_getElem_cons hj
    rw [gd L j (by omega), gd L (j + 1) hj, ← h2, ← h1, List.take_append_drop]
  have e2 : swp L j = L.take j ++ (L.getD (j + 1) 0 :: L.getD j 0 :: L.drop (j + 2)) := by
    apply List.ext_getElem?
    intro p
    have hl : (L.take j).length = j := by simp; omega
    unfold swp
    simp only [List.getElem?_set, List.length_set]
    by_cases h1 : p = j
    · subst h1
      rw [List.getElem?_append_right (by omega), hl]
      simp [show p < L.length by omega]
    · by_cases h2 : p = j + 1
      · subst h2
        rw [List.getElem?_append_right (by omega), hl, show j + 1 - j = 1 by omega]
        simp [hj]
      · rw [if_neg (fun q => h1 q.symm), if_neg (fun q => h2 q.symm)]
        by_cases h3 : p < j
        · rw [List.getElem?_append_left (by omega), List.getElem?_take, if_pos h3]
        · rw [List.getElem?_append_right (by omega), hl, show p - j = (p - (j + 2)) + 2 by omega]
          simp
          congr 1
          omega
  rw [e2]
  exact ((List.Perm.swap _ _ _).append_left (L.take j)).trans (List.Perm.of_eq e.symm)
theorem Ia.swap {w : World} {g j : Nat} {L : List Int} (h : Ia w g L) (hj : j + 1 < L.length) : Ia ((w.setCell ⟨g, j + 1, none⟩ (.int .i64 (L.getD j 0))).setCell ⟨g, j, none⟩ (.int .i64 (L.getD (j + 1) 0))) g (swp L j) := by
  intro k hk
  rw [swp_len] at hk
  have hg := swp_get L j k hj
  have e : (swp L j)[k]'(by rw [swp_len]; exact hk) = (swp L j).getD k 0 := (gd _ k (by rw [swp_len]; exact hk)).symm
  have hs : ∀ k, k < L.length → (w.cell? ⟨g, k, none⟩).isSome = true := fun k hk => by rw [(h k hk).1]; rfl
  refine ⟨?_, by rw [World.frozen?_setCell, World.frozen?_setCell]; exact (h k hk).2⟩
  rw [e, hg]
  have hs1 : ((w.setCell ⟨g, j + 1, none⟩ (.int .i64 (L.getD j 0))).cell? ⟨g, j, none⟩).isSome = true := by
    rw [World.cell?_setCell_other _ _ _ _ (by simp)]
    exact hs j (by omega)
  by_cases h1 : k = j
  · subst h1
    rw [if_pos rfl]
    exact World.cell?_setCell_same' _ _ _ hs1
  · rw [if_neg h1, World.cell?_setCell_other _ _ _ _ (fun q => h1 (by cases q; rfl))]
    by_cases h2 : k = j + 1
    · subst h2
      rw [if_pos rfl]
      exact World.cell?_setCell_same' _ _ _ (hs _ hj)
    · rw [if_neg h2, World.cell?_setCell_other _ _ _ _ (fun q => h2 (by cases q; rfl)), gd L k hk]
      exact (h k hk).1
theorem Sb.swap {L : List Int} {i j : Nat} (h : Sb L i (j + 1)) (hl : L.getD (j + 1) 0 < L.getD j 0) (hj : j + 1 < L.length) (hi : j + 1 ≤ i) : Sb (swp L j) i j := by
  intro p q hpq hqi hqj
  rw [swp_get L j p hj]
  by_cases q1 : q = j + 1
  · subst q1
    rw [swp_get L j (j + 1) hj, if_neg (show ¬ j + 1 = j by omega), if_pos (rfl : j + 1 = j + 1)]
    by_cases p1 : p = j
    · rw [if_pos p1]; omega
    · rw [if_neg p1, if_neg (show ¬ p = j + 1 by omega)]
      exact h p j (by omega) (by omega) (by omega)
  · rw [swp_get L j q hj, if_neg (show ¬ q = j from hqj), if_neg q1]
    by_cases p1 : p = j
    · rw [if_pos p1]
      exact h (j + 1) q (by omega) hqi (by omega)
    · rw [if_neg p1]
      by_cases p2 : p = j + 1
      · rw [if_pos p2]
        exact h j q (by omega) hqi q1
      · rw [if_neg p2]
        exact h p q hpq hqi q1
theorem Sb.stop {L : List Int} {i j : Nat} (h : Sb L i (j + 1)) (hl : L.getD j 0 ≤ L.getD (j + 1) 0) : ∀ p q, p < q → q ≤ i → L.getD p 0 ≤ L.getD q 0 := by
  intro p q hpq hqi
  by_cases q1 : q = j + 1
  · subst q1
    by_cases p1 : p = j
    · rw [p1]; exact hl
    · exact Int.le_trans (h p j (by omega) (by omega) (by omega)) hl
  · exact h p q hpq hqi q1
theorem Sb.zero {L : List Int} {i : Nat} (h : Sb L i 0) : ∀ p q, p < q → q ≤ i → L.getD p 0 ≤ L.getD q 0 := fun p q hpq hqi => h p q hpq hqi (by omega)
def Si (w wr : World) (g : Nat) (L0 : List Int) (iv : Value) : Prop := ∃ (i : Nat) (L : List Int), 1 ≤ i ∧ i ≤ L0.length ∧ iv = .int .i64 (i : Nat) ∧ L.Perm L0 ∧ L.length = L0.length ∧ Ia wr g L ∧ (∀ p q, p < q → q < i → L.getD p 0 ≤ L.getD q 0) ∧ Fr w wr (fun k => k = g)
set_option maxHeartbeats 1000000 in
set_option maxRecDepth 100000 in
theorem ins_any {w : World} {g cap : Nat} {L0 : List Int} (h : Ia w g L0) (hn : 1 ≤ L0.length) (h5 : L0.length ≤ 5) : Calls Try.prog 89 #[.slice (some ⟨g, 0, none⟩) L0.length cap, .int .i64 0, .int .i64 L0.length] w fun e w' => e = .returned (.tuple #[]) ∧ ∃ L, L.Perm L0 ∧ L.length = L0.length ∧ Ia w' g L ∧ (∀ p q, p < q → q < L0.length → L.getD p 0 ≤ L.getD q 0) ∧ Fr w w' (fun k => k = g) := by
  have HH := Lib.hid h
  clear h
  go_enter Try.func89, Try.ntmps89
  go_wp2
  go_loopw [6] (fun iv wr => Si w wr g L0 iv) (fun iv _ => L0.length - (intOf iv).toNat)
  case atStart => exact ⟨1, L0, Nat.le_refl _, hn, rfl, List.Perm.refl _, rfl, HH.out, fun p q hp hq => by omega, Fr.refl _ _⟩
  case round =>
    obtain ⟨i, L, hi1, hil, rfl, hp, hl, hI, hS, hF⟩ := hrel
    have i1 : (1 : Int) ≤ i := by omega
    by_cases hgo : i < L0.length
    · have g1 : (i : Int) < L0.length := by omega
      have HS : Hid (Sb L i i ∧ Ia wr g L ∧ L.Perm L0 ∧ L.length = L0.length ∧ Fr w wr (fun k => k = g)) := ⟨fun p q a b c => hS p q a (by omega), hI, hp, hl, hF⟩
      clear hI hS hp hF hl
      go_wp2
      go_loopw [7] (fun jv wr2 => ∃ (j : Nat) (L : List Int), j ≤ i ∧ jv = .int .i64 (j : Nat) ∧ Sb L i j ∧ Ia wr2 g L ∧ L.Perm L0 ∧ L.length = L0.length ∧ Fr w wr2 (fun k => k = g)) (fun jv _ => (intOf jv).toNat)
      case atStart => exact ⟨i, L, Nat.le_refl _, rfl, HS.out⟩
      case round =>
        clear HS
        obtain ⟨j, L, hji, rfl, hS, hI, hp, hl, hF⟩ := hrel
        cases j with
        | zero =>
          have HX : Hid (∀ n, Si w (wr.drewN n) g L0 (.int .i64 ((i : Int) + 1))) := fun n => ⟨i + 1, L, by omega, by omega, by simp, hp, hl, hI, fun p q a b => hS.zero p q a (by omega), hF.drewN n⟩
          clear hS hI hp hl hF
          have hd : decide ((0 : Int) < ((0 : Nat) : Int)) = false := rfl
          go_wp2
          go_quiet (fail)
          go_wp2
          exact ⟨HX.out nq, by simp [intOf]; omega⟩
        | succ j =>
          obtain ⟨x, hx⟩ : ∃ x, L.getD (j + 1) 0 = x := ⟨_, rfl⟩
          obtain ⟨y, hy⟩ : ∃ y, L.getD j 0 = y := ⟨_, rfl⟩
          have c1 : wr.cell? ⟨g, j + 1, none⟩ = some (.int .i64 x) := by rw [← hx, gd L (j + 1) (by omega)]; exact (hI (j + 1) (by omega)).1
          have c0 : wr.cell? ⟨g, j, none⟩ = some (.int .i64 y) := by rw [← hy, gd L j (by omega)]; exact (hI j (by omega)).1
          have f1 : wr.frozen? ⟨g, j + 1, none⟩ = false := (hI (j + 1) (by omega)).2
          have f0 : wr.frozen? ⟨g, j, none⟩ = false := (hI j (by omega)).2
          have hless : ∀ n, Calls Try.prog 95 #[.int .i64 x, .int .i64 y] (wr.drewN n) fun e w' => e = .returned (.bool (decide (x < y))) ∧ ∃ k, w' = (wr.drewN n).drewN k := fun n => by
            refine (less_any (wr.drewN n) x y).mono ?_
            rintro e w' ⟨rfl, rfl⟩
            exact ⟨rfl, 0, rfl⟩
          have hjl : j + 1 < L0.length := by omega
          have k0 : (0 : Int) ≤ ((j + 1 : Nat) : Int) := by omega
          have k1 : ((j + 1 : Nat) : Int) < L0.length := by omega
          have k2 : (0 : Int) ≤ (j : Int) := by omega
          have k3 : (j : Int) < L0.length := by omega
          have hd : decide ((0 : Int) < ((j + 1 : Nat) : Int)) = true := decide_eq_true (by omega)
          have hw : IntKind.i64.wrap (((j + 1 : Nat) : Int) - 1) = (j : Int) := by rw [IntKind.wrap_i64]; omega
          by_cases hxy : x < y
          · have HX : Hid (∀ n, Sb (swp L j) i j ∧ Ia (((wr.drewN n).setCell ⟨g, j + 1, none⟩ (.int .i64 y)).setCell ⟨g, j, none⟩ (.int .i64 x)) g (swp L j) ∧ (swp L j).Perm L0 ∧ (swp L j).length = L0.length ∧ Fr w (((wr.drewN n).setCell ⟨g, j + 1, none⟩ (.int .i64 y)).setCell ⟨g, j, none⟩ (.int .i64 x)) (fun k => k = g)) := by
              intro n
              have hsw := Ia.swap (w := wr.drewN n) (j := j) hI (by omega)
              rw [hx, hy] at hsw
              exact ⟨hS.swap (by omega) (by omega) (by omega), hsw, (swp_perm L j (by omega)).trans hp, (swp_len L j).trans hl, Fr.set (a := ⟨g, j, none⟩) (Fr.set (a := ⟨g, j + 1, none⟩) (hF.drewN n) (Or.inl rfl) _) (Or.inl rfl) _⟩
            have hdx : decide (x < y) = true := by simpa using hxy
            rw [hdx] at hless
            clear hS hI hp hl hF hx hy hxy hdx
            go_wp2
            go_quiet ((go_at_call 95; exact Calls.quiet_of (hless _)))
            go_wp2
            go_region
            go_wp2
            exact ⟨⟨j, swp L j, by omega, rfl, HX.out (nq + 1)⟩, by simp only [intOf]; omega⟩
          · have HX : Hid (∀ n, Si w (wr.drewN n) g L0 (.int .i64 ((i : Int) + 1))) := fun n => ⟨i + 1, L, by omega, by omega, by simp, hp, hl, hI, fun p q a b => hS.stop (by omega) p q a (by omega), hF.drewN n⟩
            have hdx : decide (x < y) = false := by simpa using hxy
            rw [hdx] at hless
            clear hS hI hp hl hF hx hy hxy hdx
            go_wp2
            go_quiet ((go_at_call 95; exact Calls.quiet_of (hless _)))
            go_wp2
            exact ⟨HX.out nq, by simp [intOf]; omega⟩
    · have g1 : ¬ (i : Int) < L0.length := by omega
      have HS : Hid (Ia wr g L ∧ L.Perm L0 ∧ L.length = L0.length ∧ (∀ p q, p < q → q < L0.length → L.getD p 0 ≤ L.getD q 0) ∧ Fr w wr (fun k => k = g)) := ⟨hI, hp, hl, fun p q a b => hS p q a (by omega), hF⟩
      clear hI hS hp hF hl
      go_wp2
      go_end0
      obtain ⟨a1, a2, a3, a4, a5⟩ := HS.out
      exact ⟨rfl, L, a2, a3, a1, a4, a5⟩
theorem len_any (w : World) (n : Nat) (hn : n ≤ 5) : Calls Try.prog 88 #[.int .u64 n] w fun e w' => ∃ k, e = .returned (.int .i64 k) ∧ w' = w := by
  have h1 := len64_any w n hn
  go_enter Try.func88, Try.ntmps88
  go_wp2_with fail
  refine h1.mono ?_
  rintro e w' ⟨k, rfl, rfl⟩
  clear h1
  go_wp2
  go_ret
  exact ⟨k, rfl, rfl⟩
set_option maxHeartbeats 1000000 in
set_option maxRecDepth 100000 in
theorem pdq_any {w : World} {g cap : Nat} {L0 : List Int} (h : Ia w g L0) (hn : 1 ≤ L0.length) (h5 : L0.length ≤ 5) (k : Int) : Calls Try.prog 87 #[.slice (some ⟨g, 0, none⟩) L0.length cap, .int .i64 0, .int .i64 L0.length, .int .i64 k] w fun e w' => e = .returned (.tuple #[]) ∧ ∃ L, L.Perm L0 ∧ L.length = L0.length ∧ Ia w' g L ∧ (∀ p q, p < q → q < L0.length → L.getD p 0 ≤ L.getD q 0) ∧ Fr w w' (fun k => k = g) := by
  have hi := ins_any (cap := cap) h hn h5
  clear h
  go_enter Try.func87, Try.ntmps87
  go_wp2
  go_loopw [1, 2, 3, 8, 9] (fun a b l x y wr => a = .int .i64 0 ∧ b = .int .i64 L0.length ∧ wr = w) (fun _ _ _ _ _ _ => 0)
  case atStart => exact ⟨rfl, rfl, rfl⟩
  case round =>
    obtain ⟨rfl, rfl, rfl⟩ := hrel
    have h12 : (L0.length : Int) ≤ 12 := by omega
    go_wp2_with fail
    refine hi.mono ?_
    rintro e w' ⟨rfl, hL⟩
    have HL := Lib.hid hL
    clear hi hL
    go_wp2
    refine bodyPost_ret (results_none rfl _ _ _) rfl ?_
    exact ⟨rfl, HL.out⟩
theorem sort_any {w : World} {g cap : Nat} {L0 : List Int} (h : Ia w g L0) (hn : 1 ≤ L0.length) (h5 : L0.length ≤ 5) : Calls Try.prog 86 #[.slice (some ⟨g, 0, none⟩) L0.length cap] w fun e w' => e = .returned (.tuple #[]) ∧ ∃ L, L.Perm L0 ∧ L.length = L0.length ∧ Ia w' g L ∧ (∀ p q, p < q → q < L0.length → L.getD p 0 ≤ L.getD q 0) ∧ Fr w w' (fun k => k = g) := by
  have hp := fun k => pdq_any (cap := cap) h hn h5 k
  have hl := len_any w L0.length h5
  clear h
  go_enter Try.func86, Try.ntmps86
  go_wp2_with fail
  refine hl.mono ?_
  rintro e w' ⟨k, rfl, rfl⟩
  clear hl
  go_wp2_with fail
  refine (hp k).mono ?_
  rintro e w' ⟨rfl, hL⟩
  have HL := Lib.hid hL
  clear hp hL
  go_wp2
  go_end0
  exact ⟨rfl, HL.out⟩
end Go.Proofs.Ytmiagjcihmenfaa
/- What a majority has, plain. -/
namespace Go.Proofs.Ytmiagjcihmenfaa
namespace Bs

/-- How far each node's log is known to be; a leader's own is all there. -/
def endsTo (b : Bs) : Nat → List Int
  | 0 => []
  | n + 1 => b.endsTo n ++ [if n = b.id then b.last else b.mat.getD n 0]
theorem endsTo_len (b : Bs) : ∀ n, (b.endsTo n).length = n
  | 0 => rfl
  | n + 1 => by
    unfold endsTo
    rw [List.length_append, endsTo_len b n]
    rfl
theorem count_ends (b : Bs) (i : Int) (hi : i ≤ b.last) : ∀ n, (b.endsTo n).countP (fun x => decide (i ≤ x)) = b.matched i n + if b.id < n then 1 else 0
  | 0 => rfl
  | n + 1 => by
    have ih := count_ends b i hi n
    unfold endsTo matched
    rw [List.countP_append, ih]
    by_cases h : n = b.id
    · rw [if_pos h]
      have h2 : ¬ (n ≠ b.id ∧ i ≤ b.mat.getD n 0) := fun q => q.1 h
      rw [if_neg h2, if_neg (show ¬ b.id < n by omega), if_pos (show b.id < n + 1 by omega)]
      simp [hi]
    · rw [if_neg h]
      have e : (if b.id < n + 1 then 1 else 0) = (if b.id < n then 1 else 0 : Nat) := by
        by_cases q : b.id < n
        · rw [if_pos q, if_pos (by omega)]
        · rw [if_neg q, if_neg (by omega)]
      rw [e]
      generalize b.mat.getD n 0 = y
      by_cases q : i ≤ y
      · rw [if_pos (show n ≠ b.id ∧ i ≤ y from ⟨h, q⟩)]
        simp only [List.countP_cons, List.countP_nil, decide_eq_true q, if_true]
        omega
      · rw [if_neg (show ¬ (n ≠ b.id ∧ i ≤ y) from fun z => q z.2)]
        simp only [List.countP_cons, List.countP_nil, decide_eq_false q]
        simp
/-- In a sorted list a number is at most what stands at place p just if that many are as great. -/
theorem sorted_count (L : List Int) (hs : ∀ p q, p < q → q < L.length → L.getD p 0 ≤ L.getD q 0) (i : Int) : ∀ p, p < L.length → (i ≤ L.getD p 0 ↔ L.length - p ≤ L.countP (fun x => decide (i ≤ x))) := by
  induction L with
  | nil => intro p hp; simp at hp
  | cons a L ih =>
    have hs' : ∀ p q, p < q → q < L.length → L.getD p 0 ≤ L.getD q 0 := fun p q h1 h2 => by
      have := hs (p + 1) (q + 1) (by omega) (by simp; omega)
      simpa using this
    intro p hp
    have hc : L.countP (fun x => decide (i ≤ x)) ≤ L.length := List.countP_le_length
    rw [List.countP_cons, List.length_cons]
    cases p with
    | zero =>
      have e : (a :: L).getD 0 0 = a := rfl
      rw [e]
      by_cases h : i ≤ a
      · rw [if_pos (by simpa using h)]
        refine ⟨fun _ => ?_, fun _ => h⟩
        have hall : ∀ x ∈ L, decide (i ≤ x) = true := by
          intro x hx
          obtain ⟨k, hk, rfl⟩ := List.getElem_of_mem hx
          have := hs 0 (k + 1) (by omega) (by simp; omega)
          simp [List.getD, hk] at this
          simp
          omega
        rw [List.countP_eq_length.2 hall]
        omega
      · rw [if_neg (by simpa using h)]
        exact ⟨fun q => absurd q h, fun q => by omega⟩
    | succ p =>
      have e : (a :: L).getD (p + 1) 0 = L.getD p 0 := rfl
      have hp' : p < L.length := by simpa using hp
      rw [e, ih hs' p hp']
      by_cases h : i ≤ a
      · rw [if_pos (by simpa using h)]
        constructor
        · intro q; omega
        · intro q
          have hall : ∀ x ∈ L, decide (i ≤ x) = true := by
            intro x hx
            obtain ⟨k, hk, rfl⟩ := List.getElem_of_mem hx
            have := hs 0 (k + 1) (by omega) (by simp; omega)
            simp [List.getD, hk] at this
            simp
            omega
          rw [List.countP_eq_length.2 hall]
          omega
      · rw [if_neg (by simpa using h)]
        constructor
        · intro q; omega
        · intro q; omega
/-- What is agreed on. -/
theorem agreed_most {b : Bs} {L : List Int} (hp : L.Perm (b.endsTo b.size)) (hs : ∀ p q, p < q → q < L.length → L.getD p 0 ≤ L.getD q 0) (hid : b.id < b.size) {i : Int} (hi : i ≤ b.last) : ((b.size : Int) < 2 * (1 + b.matched i b.size : Nat) ↔ i ≤ L.getD ((b.size - 1) / 2) 0) := by
  have hl : L.length = b.size := hp.length_eq.trans (endsTo_len b b.size)
  rw [sorted_count L hs i _ (by omega), hp.countP_eq, count_ends b i hi, if_pos hid, hl]
  omega
theorem best_zero {b : Bs} : ∀ k, (∀ j, j < k → ¬ b.most (b.commit + 1 + (j : Nat))) → b.best k = 0
  | 0, _ => rfl
  | k + 1, h => by
    unfold best
    rw [if_neg (h k (by omega))]
    exact best_zero k (fun j hj => h j (by omega))
theorem best_at {b : Bs} : ∀ (k n : Nat), k < n → b.most (b.commit + 1 + (k : Nat)) → (∀ j, k < j → j < n → ¬ b.most (b.commit + 1 + (j : Nat))) → b.best n = b.commit + 1 + (k : Nat)
  | k, 0, h, _, _ => by omega
  | k, n + 1, h, hm, hj => by
    unfold best
    by_cases q : k = n
    · subst q
      rw [if_pos hm]
    · rw [if_neg (hj n (by omega) (by omega))]
      exact best_at k n (by omega) hm (fun j a c => hj j a (by omega))
end Bs
end Go.Proofs.Ytmiagjcihmenfaa
/- The walk of the program's agreed. -/
namespace Go.Proofs.Ytmiagjcihmenfaa
open Go.RowKit

theorem endsTo_get (b : Bs) : ∀ n k, k < n → (b.endsTo n).getD k 0 = if k = b.id then b.last else b.mat.getD k 0
  | 0, k, h => by omega
  | n + 1, k, h => by
    have hl := Bs.endsTo_len b n
    unfold Bs.endsTo
    rw [List.getD_eq_getElem?_getD]
    by_cases q : k < n
    · rw [List.getElem?_append_left (by omega), ← List.getD_eq_getElem?_getD]
      exact endsTo_get b n k q
    · have : k = n := by omega
      subst this
      rw [List.getElem?_append_right (by omega), hl, Nat.sub_self]
      rfl
section
variable {w w' : World} {A : Nat} {S T : Nat → Prop} {b : Bs} {lv : Value} {pf : Int}
def AG (b : Bs) (w wr : World) (iv : Value) : Prop := ∃ t : Nat, t ≤ b.size ∧ iv = .int .i64 (t : Nat) ∧ Below w.heap.size w wr ∧ (∃ cur, wr.heap[w.heap.size]? = some (.cells cur 79 (0, 0)) ∧ cur.size = 5) ∧ ∀ k, k < t → wr.cell? ⟨w.heap.size, k, none⟩ = some (.int .i64 (b.mat.getD k 0))
set_option maxHeartbeats 1000000 in
set_option maxRecDepth 100000 in
theorem agreed_p (h : Pb w A S b) : Calls Try.prog 85 #[.pointer (some ⟨A, 0, none⟩)] w fun e w' => ∃ L : List Int, e = .returned (.int .i64 (L.getD ((b.size - 1) / 2) 0)) ∧ L.Perm (b.endsTo b.size) ∧ (∀ p q, p < q → q < L.length → L.getD p 0 ≤ L.getD q 0) ∧ Below w.heap.size w w' := by
  have HH := Lib.hid h
  obtain ⟨lv, pf, hv⟩ := h
  have hsz := hv.sz
  have hid := hv.idl
  have hA := hv.lt A hv.covA
  have hva := hv.alloc (.cells #[.int .i64 0, .int .i64 0, .int .i64 0, .int .i64 0, .int .i64 0] 79)
  have c8 : (w.alloc (.cells #[.int .i64 0, .int .i64 0, .int .i64 0, .int .i64 0, .int .i64 0] 79)).cell? ⟨A, 8, none⟩ = some (.int .i64 b.size) := hva.cell 8
  clear hv hva
  go_enter Try.func85, Try.ntmps85
  go_wp2
  go_loopw [9] (fun iv wr => AG b w wr iv) (fun iv _ => b.size - (intOf iv).toNat)
  case atStart => exact ⟨0, Nat.zero_le _, rfl, (Below.refl _ w).alloc (Nat.le_refl _) _, ⟨_, heap_alloc_new w _, rfl⟩, fun k hk => by omega⟩
  case round =>
    clear c8
    obtain ⟨t, ht, rfl, hb, ⟨cur, hcur, hcs⟩, hc⟩ := hrel
    have hP := HH.out.on hb
    obtain ⟨lv, pf, hv⟩ := hP
    have hnA : A ≠ w.heap.size := Nat.ne_of_lt hA
    by_cases hlt : t < b.size
    · have t0 : (0 : Int) ≤ t := by omega
      have t1 : (t : Int) < b.size := by omega
      have t5 : (t : Int) < 5 := by omega
      have t6 : t < 5 := by omega
      have cm := hv.matc t6
      obtain ⟨y, hy⟩ : ∃ y, b.mat.getD t 0 = y := ⟨_, rfl⟩
      rw [hy] at cm
      have x0 : wr.cell? ⟨w.heap.size, t, none⟩ = some (cur[t]'(by omega)) := by rw [cell_blk hcur, Array.getElem?_eq_getElem]
      obtain ⟨z, hz⟩ : ∃ z, cur[t]'(by omega) = z := ⟨_, rfl⟩
      rw [hz] at x0
      have f0 : wr.frozen? ⟨w.heap.size, t, none⟩ = false := frozen_blk hcur t
      have hfin : AG b w (wr.setCell ⟨w.heap.size, t, none⟩ (.int .i64 y)) (.int .i64 ((t : Int) + 1)) := by
        refine ⟨t + 1, hlt, by simp, (Fr.set (a := ⟨w.heap.size, t, none⟩) (Fr.ofBelow (fun _ => False) hb) (Or.inr (Nat.le_refl _)) _).fresh (fun _ q => q.elim), ⟨_, set_blk hcur _, by simp [hcs]⟩, fun k hk => ?_⟩
        by_cases q : k = t
        · subst q
          rw [World.cell?_setCell_same' _ _ _ (by rw [x0]; rfl), hy]
        · rw [World.cell?_setCell_other _ _ _ _ (fun e => q (by cases e; rfl))]
          exact hc k (by omega)
      have HFI := Lib.hid hfin
      clear hfin hc hcur hb hv hy hz
      go_wp2
      exact ⟨HFI.out, by simp [intOf]; omega⟩
    · have t1 : ¬ (t : Int) < b.size := by omega
      have et : t = b.size := by omega
      subst et
      have d0 : (0 : Int) ≤ b.id := by omega
      have d5 : (b.id : Int) < 5 := by omega
      have d6 : b.id < 5 := by omega
      have c5 : wr.cell? ⟨A, 5, none⟩ = some (.int .i64 b.last) := hv.cell 5
      have c7 : wr.cell? ⟨A, 7, none⟩ = some (.int .i64 b.id) := hv.cell 7
      have c8 : wr.cell? ⟨A, 8, none⟩ = some (.int .i64 b.size) := hv.cell 8
      have x0 : wr.cell? ⟨w.heap.size, b.id, none⟩ = some (cur[b.id]'(by omega)) := by rw [cell_blk hcur, Array.getElem?_eq_getElem]
      obtain ⟨z, hz⟩ : ∃ z, cur[b.id]'(by omega) = z := ⟨_, rfl⟩
      rw [hz] at x0
      have f0 : wr.frozen? ⟨w.heap.size, b.id, none⟩ = false := frozen_blk hcur b.id
      clear hz
      have s0 : (0 : Int) ≤ b.size := by omega
      have s5 : (b.size : Int) ≤ 5 := by omega
      obtain ⟨W, hW⟩ : ∃ W, W = (wr.setCell ⟨w.heap.size, b.id, none⟩ (.int .i64 b.last)).drew := ⟨_, rfl⟩
      have hbW : Below w.heap.size w W := by rw [hW]; exact ((Fr.set (a := ⟨w.heap.size, b.id, none⟩) (Fr.ofBelow (fun _ => False) hb) (Or.inr (Nat.le_refl _)) _).drewN 1).fresh (fun _ q => q.elim)
      have hcW : ∃ cur, W.heap[w.heap.size]? = some (.cells cur 79 (0, 0)) := by rw [hW]; exact ⟨_, set_blk hcur _⟩
      have hIa : Ia W w.heap.size (b.endsTo b.size) := by
        intro k hk
        rw [Bs.endsTo_len] at hk
        obtain ⟨cu, hcu⟩ := hcW
        refine ⟨?_, frozen_blk hcu k⟩
        rw [← gd _ k (by rw [Bs.endsTo_len]; exact hk), endsTo_get b b.size k hk, hW]
        show (wr.setCell ⟨w.heap.size, b.id, none⟩ (.int .i64 b.last)).cell? _ = _
        by_cases q : k = b.id
        · rw [if_pos q, q]
          exact World.cell?_setCell_same' _ _ _ (by rw [x0]; rfl)
        · rw [if_neg q, World.cell?_setCell_other _ _ _ _ (fun e => q (by cases e; rfl))]
          exact hc k hk
      have hsort := sort_any (cap := 5) hIa (by rw [Bs.endsTo_len]; omega) (by rw [Bs.endsTo_len]; exact hsz)
      rw [Bs.endsTo_len] at hsort
      have HW := Lib.hid hbW
      have HHW := Lib.hid hW
      clear hbW hcW hIa hc hcur hb hv hW
      go_wp2
      go_region
      go_wp2_with fail
      rw [← HHW.out]
      refine hsort.mono ?_
      rintro e1 w2 ⟨rfl, L, p1, p2, p3, p4, p5⟩
      clear hsort
      have hb2 : Below w.heap.size w w2 := HW.out.trans (p5.toBelow (fun k hk q => by have q' : k = w.heap.size := q; omega) HW.out.size)
      have hP2 := HH.out.on hb2
      obtain ⟨lv2, pf2, hv2⟩ := hP2
      have e8 : w2.cell? ⟨A, 8, none⟩ = some (.int .i64 b.size) := hv2.cell 8
      obtain ⟨m, hm⟩ : ∃ m : Nat, (b.size - 1) / 2 = m := ⟨_, rfl⟩
      have HM := Lib.hid hm
      have hmL : m < L.length := by omega
      have em : w2.cell? ⟨w.heap.size, m, none⟩ = some (.int .i64 (L.getD m 0)) := by rw [gd L m hmL]; exact (p3 m hmL).1
      have HP : Hid (L.Perm (b.endsTo b.size) ∧ (∀ p q, p < q → q < L.length → L.getD p 0 ≤ L.getD q 0) ∧ Below w.heap.size w w2) := ⟨p1, by rw [p2]; exact p4, hb2⟩
      obtain ⟨y, hy⟩ : ∃ y, L.getD m 0 = y := ⟨_, rfl⟩
      rw [hy] at em
      have HY := Lib.hid hy
      have m5 : (m : Int) < 5 := by omega
      have m0 : (0 : Int) ≤ m := by omega
      clear p1 p2 p3 p4 p5 hb2 hv2 hmL hy c5 c7 c8 x0 f0
      go_wp2
      go_ret
      exact ⟨L, by rw [HM.out, HY.out]; rfl, HP.out⟩
end
end Go.Proofs.Ytmiagjcihmenfaa
