/- Shards, plain: transactions' names, spans, writes, locks; lists that a slice reads. -/
import Derived.Test.YtcoaahlakkghhaaVg
import Derived.Test.YtcoaahlakkghhaaVh
namespace Go.Proofs.Ytcoaahlakkghhaa
open Go.RowKit
abbrev Td := Int × Int × Int
structure Sn where
  lo : ByteArray
  hi : ByteArray
structure Wr where
  key : ByteArray
  val : ByteArray
  dead : Bool
structure Lk where
  txn : Td
  home : Int
  til : Int
  spans : List Sn
  writes : List Wr
abbrev Sm := ByteArray × Int
structure Rn where
  span : Sn
  seen : List Sm
abbrev Rc := Td × Int
abbrev tdL (t : Td) : List Value := [.int .i64 t.1, .int .i64 t.2.1, .int .i64 t.2.2]
abbrev tdV (t : Td) : Value := .agg #[.int .i64 t.1, .int .i64 t.2.1, .int .i64 t.2.2]
abbrev snL (p : Sn) : List Value := [.string p.lo, .string p.hi]
abbrev snV (p : Sn) : Value := .agg #[.string p.lo, .string p.hi]
abbrev wrL (x : Wr) : List Value := [.string x.key, .string x.val, .bool x.dead]
abbrev wrV (x : Wr) : Value := .agg #[.string x.key, .string x.val, .bool x.dead]
abbrev smL (x : Sm) : List Value := [.string x.1, .int .i64 x.2]
abbrev rcL (x : Rc) : List Value := [.int .i64 x.1.1, .int .i64 x.1.2.1, .int .i64 x.1.2.2, .int .i64 x.2]
/-- A list of things of c cells that a slice reads; E says what cells stand for a thing. -/
def Lr {α : Type} (E : World → α → List Value → Prop) (c : Nat) (w : World) (L : List α) (v : Value) : Prop := ∃ ad cap, v = .slice ad L.length cap ∧ (ad = none → cap = 0) ∧ L.length ≤ cap ∧ cap ≤ maxLen ∧
  ∀ i (h : i < L.length), ∃ b o cs, ad = some ⟨b, o, none⟩ ∧ b < w.heap.size ∧ E w L[i] cs ∧ cs.length = c ∧ ∀ j u, cs[j]? = some u → w.cell? ⟨b, o + i * c + j, none⟩ = some u
def Held {α : Type} (E : World → α → List Value → Prop) : Prop := ∀ w w' x cs, Below w.heap.size w w' → E w x cs → E w' x cs
theorem Lr.on {α : Type} {E : World → α → List Value → Prop} {c : Nat} {w w' : World} {L : List α} {v : Value} (hE : Held E) (h : Lr E c w L v) (hb : Below w.heap.size w w') : Lr E c w' L v := by
  obtain ⟨ad, cap, e, h0, h1, h2, h3⟩ := h
  refine ⟨ad, cap, e, h0, h1, h2, fun i hi => ?_⟩
  obtain ⟨b, o, cs, ha, hl, hE', hc, hh⟩ := h3 i hi
  exact ⟨b, o, cs, ha, Nat.lt_of_lt_of_le hl hb.size, hE w w' _ cs hb hE', hc, fun j u hu => cell_on hb (hh j u hu)⟩
def wrE (_ : World) (x : Wr) (cs : List Value) : Prop := cs = wrL x
def snE (_ : World) (x : Sn) (cs : List Value) : Prop := cs = snL x
def smE (_ : World) (x : Sm) (cs : List Value) : Prop := cs = smL x
def rcE (_ : World) (x : Rc) (cs : List Value) : Prop := cs = rcL x
def tdE (_ : World) (x : Td) (cs : List Value) : Prop := cs = tdL x
theorem wrE_held : Held wrE := fun _ _ _ _ _ h => h
theorem snE_held : Held snE := fun _ _ _ _ _ h => h
theorem smE_held : Held smE := fun _ _ _ _ _ h => h
theorem rcE_held : Held rcE := fun _ _ _ _ _ h => h
theorem tdE_held : Held tdE := fun _ _ _ _ _ h => h
def lkE (w : World) (x : Lk) (cs : List Value) : Prop := ∃ sa sc wa wc, cs = [.int .i64 x.txn.1, .int .i64 x.txn.2.1, .int .i64 x.txn.2.2, .int .i64 x.home, .int .i64 x.til, .slice sa x.spans.length sc, .slice wa x.writes.length wc] ∧ Lr snE 2 w x.spans (.slice sa x.spans.length sc) ∧ Lr wrE 3 w x.writes (.slice wa x.writes.length wc)
theorem lkE_held : Held lkE := fun _ _ _ _ hb ⟨sa, sc, wa, wc, e, h1, h2⟩ => ⟨sa, sc, wa, wc, e, h1.on snE_held hb, h2.on wrE_held hb⟩
def rnE (w : World) (x : Rn) (cs : List Value) : Prop := ∃ sa sc, cs = [.string x.span.lo, .string x.span.hi, .slice sa x.seen.length sc] ∧ Lr smE 2 w x.seen (.slice sa x.seen.length sc)
theorem rnE_held : Held rnE := fun _ _ _ _ hb ⟨sa, sc, e, h1⟩ => ⟨sa, sc, e, h1.on smE_held hb⟩

/-! ### Plain -/
def fidx {α : Type} (p : α → Bool) (L : List α) : Int := match L.findIdx? p with
  | some i => (i : Int)
  | none => -1
theorem fidx_at {α : Type} {p : α → Bool} {L : List α} {i : Nat} (h : i < L.length) (hp : p L[i] = true) (hb : ∀ j (hj : j < L.length), j < i → p L[j] = false) : fidx p L = (i : Int) := by
  unfold fidx
  have : L.findIdx? p = some i := List.findIdx?_eq_some_iff_getElem.2 ⟨h, hp, fun j hj => by
    rw [hb j (by omega) hj]
    simp⟩
  rw [this]
theorem fidx_none {α : Type} {p : α → Bool} {L : List α} (hb : ∀ j (hj : j < L.length), p L[j] = false) : fidx p L = -1 := by
  unfold fidx
  have : L.findIdx? p = none := List.findIdx?_eq_none_iff.2 fun x hx => by
    obtain ⟨i, hi, e⟩ := List.getElem_of_mem hx
    rw [← e]
    exact hb i hi
  rw [this]
theorem fidx_any {α : Type} (p : α → Bool) (L : List α) : decide (0 ≤ fidx p L) = L.any p := by
  unfold fidx
  cases h : L.findIdx? p with
  | none =>
    have := List.findIdx?_eq_none_iff.1 h
    have h2 : L.any p = false := by
      rw [List.any_eq_false]
      intro x hx
      rw [this x hx]
      simp
    rw [h2]
    rfl
  | some i =>
    obtain ⟨hi, hp, _⟩ := List.findIdx?_eq_some_iff_getElem.1 h
    have h2 : L.any p = true := List.any_eq_true.2 ⟨_, List.getElem_mem hi, hp⟩
    rw [h2]
    exact decide_eq_true (by simp)
abbrev inSn (p : Sn) (k : ByteArray) : Bool := inSpan p.lo p.hi k
def holdsB (l : Lk) (k : ByteArray) : Bool := l.writes.any fun x => decide (x.key = k)
def holdsInB (l : Lk) (p : Sn) : Bool := l.writes.any fun x => inSn p x.key
def coversB (l : Lk) (k : ByteArray) : Bool := l.spans.any fun p => inSn p k
end Go.Proofs.Ytcoaahlakkghhaa
