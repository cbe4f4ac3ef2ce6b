/- What the rows' proofs share: lists of texts and of numbers as arguments, opened; an argument reads behind the call as before. -/
import Derived.Test.YtoipmpaebngppaaSWg
import Derived.Test.YtoipmpaebngppaaDWk
import Derived.ProofKit
import Derived.SizedLaws
import Derived.OpenShut
import Derived.Deep.Slices
import Derived.Lib.SmallJoins
namespace Go.Proofs.Ytoipmpaebngppaa
open Go.ChangeShapes Go.WideShapes Go.ChangeAt Go.WideMaps Go.WideElems Go.RowKit Go.Joins Go.Deep

theorem own : ownKnob Try.prog.godebug = none := by kernel_rfl
theorem laidOut : laidOutB Try.prog = true := by kernel_rfl
theorem cells3 : Try.prog.cellsOf 3 = 1 := by kernel_rfl
theorem cells9 : Try.prog.cellsOf 9 = 1 := by kernel_rfl

theorem cell_lt {w : World} {a : Addr} {v : Value} (h : w.cell? a = some v) : a.block < w.heap.size := by
  rcases Nat.lt_or_ge a.block w.heap.size with h' | h'
  · exact h'
  · have e := Array.getElem?_eq_none h'
    simp [World.cell?, e] at h

/-- A list of numbers that reads as data. -/
theorem ints_trod {H : Type} {enc : TypeId × Value → H} {W : World} {fuel : Nat} {cs : List Value} {x : DataW H × List MemPlace} (hf : DataW.trod enc Try.prog W 0 (fun _ => true) true fuel 39 cs = some x) :
    ∃ (ks : List Int) (ad : Option Addr) (cap : Nat), cs = [.slice ad ks.length cap] ∧ Ints W (.slice ad ks.length cap) ks ∧ ks.length ≤ cap ∧ ((x.1 = .nil ∧ cap = 0) ∨ ∃ elems spare, x.1 = .slice elems spare ∧ elems.length + spare.length = cap) := by
  rcases open_slice1 Try.underlying39 cells3 hf with ⟨rfl, rfl⟩ | ⟨a, len, cap, m, n, V, D, Pl, rfl, _, hl, hm, hmm, rfl, hel⟩
  · exact ⟨[], none, 0, rfl, ⟨none, 0, rfl, Nat.zero_le _, fun i hi => by simp at hi⟩, Nat.le_refl _, .inl ⟨rfl, rfl⟩⟩
  · simp only [if_true] at hmm
    subst hmm
    have each : ∀ i, i < len → ∃ q : Int, W.cell? (a.add i) = some (.int .i64 q) := by
      intro i hi
      obtain ⟨hc, ht⟩ := hel i (by omega)
      obtain ⟨q, e, _⟩ := DataW.trod_int Try.underlying3 ht
      simp only [List.cons.injEq, and_true] at e
      exact ⟨q, by rw [hc, e]⟩
    obtain ⟨q, hq⟩ := choose_lt each
    have hlen : ((List.range len).map q).length = len := by simp
    refine ⟨(List.range len).map q, some a, m, by rw [hlen], ⟨some a, m, rfl, by rw [hlen]; omega, fun i hi => ?_⟩, by rw [hlen]; exact hl, .inr ⟨_, _, rfl, by simp; omega⟩⟩
    rw [hlen] at hi
    have c0 := hq i hi
    obtain ⟨b, o, sp⟩ := a
    have hsp : sp = none := by
      have := World.cell?_spot (hq 0 (by omega))
      simpa [Addr.add] using this
    subst hsp
    have e : (⟨b, o, none⟩ : Addr).add i = ⟨b, o + i, none⟩ := by unfold Addr.add; split <;> simp_all
    rw [e] at c0
    exact ⟨b, o, rfl, cell_lt c0, by simpa using c0⟩

/-- How much a list of texts holds, as a sum. -/
def textSum : List ByteArray → Nat
  | [] => 0
  | s :: l => (1 + s.size) + textSum l
theorem sum_bulk {H : Type} {q : Nat → ByteArray} {D : Nat → DataW H} : ∀ l : List Nat, (∀ i ∈ l, D i = .lit (.string (q i).data.toList)) → textSum (l.map q) = Rows.uptoBulkAll (l.map D)
  | [], _ => by simp [textSum, Rows.uptoBulkAll]
  | i :: l, h => by
    have h1 := sum_bulk l (fun j hj => h j (List.mem_cons_of_mem _ hj))
    simp only [List.map_cons, textSum, Rows.uptoBulkAll]
    rw [h i List.mem_cons_self, h1]
    simp only [Rows.uptoBulk]
    rw [len_size]
    omega
theorem bulk_one {H : Type} (d : DataW H) : 1 ≤ Rows.uptoBulk d := by
  cases d with
  | lit l => cases l <;> simp [Rows.uptoBulk]
  | _ => simp [Rows.uptoBulk]
theorem bulk_len {H : Type} (l : List (DataW H)) : l.length ≤ Rows.uptoBulkAll l := by
  induction l with
  | nil => simp [Rows.uptoBulkAll]
  | cons x r ih => have := bulk_one x; simp only [Rows.uptoBulkAll, List.length_cons]; omega
theorem bulk_slice {H : Type} (elems spare : List (DataW H)) : elems.length + spare.length + 1 ≤ Rows.uptoBulk (.slice elems spare) := by
  have h1 := bulk_len elems
  have h2 := bulk_len spare
  simp only [Rows.uptoBulk]
  omega

/-- A list of texts that reads as data. -/
theorem strs_trod {H : Type} {enc : TypeId × Value → H} {W : World} {fuel : Nat} {cs : List Value} {x : DataW H × List MemPlace} (hf : DataW.trod enc Try.prog W 0 (fun _ => true) true fuel 32 cs = some x) :
    ∃ (ss : List ByteArray) (ad : Option Addr) (cap : Nat), cs = [.slice ad ss.length cap] ∧ Ls ss ad W ∧ textSum ss ≤ Rows.uptoBulk x.1 := by
  rcases open_slice1 Try.underlying32 cells9 hf with ⟨rfl, rfl⟩ | ⟨a, len, cap, m, n, V, D, Pl, rfl, _, hl, hm, hmm, rfl, hel⟩
  · exact ⟨[], none, 0, rfl, ⟨fun i hi => absurd hi (by simp)⟩, Nat.zero_le _⟩
  · simp only [if_true] at hmm
    subst hmm
    have each : ∀ i, i < len → ∃ q : ByteArray, W.cell? (a.add i) = some (.string q) ∧ D i = .lit (.string q.data.toList) := by
      intro i hi
      obtain ⟨hc, ht⟩ := hel i (by omega)
      obtain ⟨q, e, z, _⟩ := DataW.trod_string Try.underlying9 ht
      simp only [List.cons.injEq, and_true] at e
      refine ⟨q, by rw [hc, e], ?_⟩
      simp at z
      exact z.1
    obtain ⟨q, hq⟩ := choose_lt each
    have hlen : ((List.range len).map q).length = len := by simp
    refine ⟨(List.range len).map q, some a, m, by rw [hlen], ⟨fun i hi => ?_⟩, ?_⟩
    · rw [hlen] at hi
      obtain ⟨c0, _⟩ := hq i hi
      obtain ⟨b, o, sp⟩ := a
      have hsp : sp = none := by
        have := World.cell?_spot (hq 0 (by omega)).1
        simpa [Addr.add] using this
      subst hsp
      have e : (⟨b, o, none⟩ : Addr).add i = ⟨b, o + i, none⟩ := by unfold Addr.add; split <;> simp_all
      rw [e] at c0
      exact ⟨b, o, rfl, cell_lt c0, by simpa using c0⟩
    · rw [sum_bulk (List.range len) (fun i hi => (hq i (List.mem_range.1 hi)).2)]
      simp only [Rows.uptoBulk]
      omega
set_option maxRecDepth 100000 in
theorem open_list {H : Type} {enc : TypeId × Value → H} {W : World} {base : Nat} {v : Value} {d : DataW H} {p : List MemPlace} (hv : Value.okWide Try.prog W .any base 32 v) (h : DataW.Trod enc Try.prog W 0 (fun _ => true) true 32 v d p) :
    ∃ (L : List ByteArray) (ad : Option Addr) (cap : Nat), v = .slice ad L.length cap ∧ Ls L ad W := by
  obtain ⟨a0, len, cap, rfl⟩ := okWide_slice Try.underlying32 hv
  obtain ⟨fuel, hf⟩ := h
  obtain ⟨ss, ad, cap', e, hi, _⟩ := strs_trod hf
  simp [Value.cells] at e
  obtain ⟨rfl, rfl, rfl⟩ := e
  exact ⟨ss, _, _, rfl, hi⟩

section
variable {H : Type} {enc : TypeId × Value → H}
set_option maxRecDepth 100000 in
theorem again_list {W W' : World} {v : Value} {d : DataW H} {p : List MemPlace} (h : DataW.Trod enc Try.prog W 0 (fun _ => true) true 32 v d p) (hb : Below W.heap.size W W') (hlt : ∀ x ∈ p, x.block < W.heap.size) : DataW.Trod enc Try.prog W' 0 (fun b => decide (b < W.heap.size)) true 32 v d p :=
  Below.trod laidOut (by kernel_rfl) (of_decide_eq_true (by kernel_rfl)) h hb hlt
theorem again_str {W W' : World} {v : Value} {d : DataW H} {p : List MemPlace} (h : DataW.Trod enc Try.prog W 0 (fun _ => true) true 9 v d p) (hb : Below W.heap.size W W') (hlt : ∀ x ∈ p, x.block < W.heap.size) : DataW.Trod enc Try.prog W' 0 (fun b => decide (b < W.heap.size)) true 9 v d p :=
  Below.trod laidOut (by kernel_rfl) (of_decide_eq_true (by kernel_rfl)) h hb hlt
theorem again_ops {W W' : World} {v : Value} {d : DataW H} {p : List MemPlace} (h : DataW.Trod enc Try.prog W 0 (fun _ => true) true 22 v d p) (hb : Below W.heap.size W W') (hlt : ∀ x ∈ p, x.block < W.heap.size) : DataW.Trod enc Try.prog W' 0 (fun b => decide (b < W.heap.size)) true 22 v d p :=
  Below.trod laidOut (by kernel_rfl) (of_decide_eq_true (by kernel_rfl)) h hb hlt
end
end Go.Proofs.Ytoipmpaebngppaa
