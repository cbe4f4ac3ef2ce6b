/- The document's structs: how they are walked. -/
import Derived.Test.YtjhgmncmcklnkaaRc
namespace Go.Proofs.Ytjhgmncmcklnkaa
open Go.RowKit

theorem valsS_cons {w : World} {S : Nat → Prop} {a : At} {q : List At} {vs : List Value} (h : valsS w S (a :: q) vs) : ∃ v r, vs = v :: r ∧ a.lies w S v ∧ valsS w S q r := by
  match vs, h with
  | v :: r, h => exact ⟨v, r, rfl, h.1, h.2⟩
  | [], h => exact h.elim
theorem valsS_end {w : World} {S : Nat → Prop} {vs : List Value} (h : valsS w S [] vs) : vs = [] := by
  match vs, h with
  | [], _ => rfl
  | _ :: _, h => exact h.elim
/-- So many numbers of 64 bits in a row of their own. -/
def IntsK (w : World) (F k : Nat) (ns : List Int) : Prop := Ints w F ns ∧ ns.length = k ∧ k ≤ 100 ∧ ∀ n ∈ ns, I64 n
theorem IntsK.on {w w' : World} {F k : Nat} {ns : List Int} (h : IntsK w F k ns) (hb : Below w.heap.size w w') : IntsK w' F k ns := ⟨h.1.on hb, h.2⟩
theorem IntsK.onN {w w' : World} {n F k : Nat} {ns : List Int} (hb : Below n w w') (hn : w.heap.size ≤ n) (h : IntsK w F k ns) : IntsK w' F k ns := h.on (hb.mono hn)
theorem IntsK.alloc {w : World} {F k : Nat} {ns : List Int} {c : Obj} (h : IntsK w F k ns) : IntsK (w.alloc c) F k ns := h.on ((Below.refl _ _).alloc (Nat.le_refl _) _)
theorem IntsK.drew {w : World} {F k : Nat} {ns : List Int} (h : IntsK w F k ns) : IntsK w.drew F k ns := h.on bel_drew
/-- The row that was made. -/
structure Mk (cs : Array Value) (k : Nat) (ns : List Int) : Prop where
  at' : ∀ i (h : i < ns.length), cs[i]? = some (.int .i64 ns[i])
  len : ns.length = k
  few : k ≤ 100
  int : ∀ n ∈ ns, I64 n
theorem IntsK.new {w : World} {F k : Nat} {cs : Array Value} {ty : TypeId} {ns : List Int} (h : Mk cs k ns) (hF : F = w.heap.size) : IntsK (w.alloc (.cells cs ty)) F k ns := by
  subst hF
  exact ⟨⟨cs, ty, heap_alloc_new w _, h.at'⟩, h.len, h.few, h.int⟩
theorem nums_gen {F k : Nat} {ns : List Int} (w : World) (h : IntsK w F k ns) : Calls Try.prog 28 #[.slice (some ⟨F, 0, none⟩) k k] w fun e w' => e = .returned (.string (txt (numsL ns))) ∧ Below w.heap.size w w' := nums_ref w k h.2.1 h.2.2.1 h.1 h.2.2.2
theorem text_size {s : ByteArray} (h : (At.text s).enc.length ≤ 1000000000) : s.size ≤ 1000000000 := by
  simp only [At.enc, List.length_append] at h
  have : s.data.toList.length = s.size := by rw [Array.length_toList]; rfl
  omega
theorem txt_end {a b : List UInt8} (h : a = b) : Ending.returned (.string (txt a)) = .returned (.string (txt b)) := by rw [h]
end Go.Proofs.Ytjhgmncmcklnkaa
