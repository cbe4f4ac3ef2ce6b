/- One node's part in a group, plain: what the document says. -/
import Derived.Lib.Hide
import Derived.Test.YtmiagjcihmenfaaRows
import Derived.WalkKit
import Derived.WalkSpells
import Derived.WalkLawsBesides
import Derived.OwnWalk
import Derived.BigCall
import Derived.BigRegion
import Derived.Deep.QuietTactic
import Derived.BigQuiet
import Derived.Deep.OwnRows
import Derived.Deep.RegionWith
import Derived.Deep.RegionLaw
import Derived.Deep.RegionHeld3
import Derived.Laws.OwnMore
import Derived.Maps.AppendAt
namespace Go.Proofs.Ytmiagjcihmenfaa

/-- An entry. -/
structure En where
  term : Int
  at' : Int
  born : Int
  text : ByteArray
/-- A message. -/
structure Ms where
  kind : Int
  fr : Int
  tgt : Int
  term : Int
  index : Int
  prev : Int
  commit : Int
  good : Bool
  list : List En
  snap : ByteArray
abbrev noT : ByteArray := ⟨#[]⟩
abbrev ms0 : Ms := ⟨0, 0, 0, 0, 0, 0, 0, false, [], noT⟩
/-- A change. -/
structure De where
  term : Int
  vote : Int
  whole : Bool
  base : Int
  baseTerm : Int
  snap : ByteArray
  fr : Int
  list : List En
/-- A ballot. -/
structure Bs where
  id : Nat
  size : Nat
  term : Int
  vote : Int
  role : Int
  lead : Int
  base : Int
  baseTerm : Int
  snap : ByteArray
  log : List En
  has : List Bool
  next : List Int
  mat : List Int
  commit : Int
  touched : Bool
  whole : Bool
  fr : Int
  out : List Ms
  av : Nat → Prop
namespace Bs
def new (id size : Nat) : Bs := ⟨id, size, 0, -1, 0, -1, 0, 0, noT, [], List.replicate 5 false, List.replicate 5 0, List.replicate 5 0, 0, false, false, 1, [], fun _ => False⟩
def last (b : Bs) : Int := b.base + b.log.length
/-- The entry i, where it is there. -/
def at? (b : Bs) (i : Int) : Option En := if b.base < i then b.log[(i - b.base - 1).toNat]? else none
def termAt (b : Bs) (i : Int) : Int := if i = b.base then b.baseTerm else match b.at? i with
  | some e => e.term
  | none => -1
def put (b : Bs) (i : Int) (l : List En) : Bs := { b with log := b.log.take (i - b.base - 1).toNat ++ l, touched := true, fr := min b.fr i }
def send (b : Bs) (m : Ms) : Bs := { b with out := b.out ++ [{ m with fr := b.id, term := b.term }] }
def sent (b : Bs) : Bs × List Ms := ({ b with out := [] }, b.out)
def feedM (b : Bs) (to : Nat) : Ms :=
  if b.next.getD to 0 ≤ b.base then { ms0 with kind := 5, tgt := to, index := b.base, prev := b.baseTerm, snap := b.snap }
  else { ms0 with kind := 3, tgt := to, index := b.next.getD to 0 - 1, prev := b.termAt (b.next.getD to 0 - 1), commit := b.commit, list := (b.log.drop (b.next.getD to 0 - b.base - 1).toNat).take 8 }
def feed (b : Bs) (to : Nat) : Bs := b.send (b.feedM to)
def feedTo (b : Bs) : Nat → Bs
  | 0 => b
  | n + 1 => if n = b.id then b.feedTo n else (b.feedTo n).feed n
def feedAll (b : Bs) : Bs := b.feedTo b.size
/-- How many nodes below n, itself left out, have a log that matches up to i. -/
def matched (b : Bs) (i : Int) : Nat → Nat
  | 0 => 0
  | n + 1 => b.matched i n + if n ≠ b.id ∧ i ≤ b.mat.getD n 0 then 1 else 0
abbrev most (b : Bs) (i : Int) : Prop := (b.size : Int) < 2 * (1 + b.matched i b.size) ∧ b.termAt i = b.term
/-- The greatest of the k entries behind what is committed that may be so too; 0: none. -/
def best (b : Bs) : Nat → Int
  | 0 => 0
  | k + 1 => if b.most (b.commit + 1 + k) then b.commit + 1 + k else b.best k
def settle (b : Bs) : Bs := if 0 < b.best (b.last - b.commit).toNat then ({ b with commit := b.best (b.last - b.commit).toNat }).feedAll else b
def votes (b : Bs) : Nat → Nat
  | 0 => 0
  | n + 1 => b.votes n + if b.has.getD n false then 1 else 0
def fill {α : Type} (l : List α) (n : Nat) (x : α) : List α := List.replicate n x ++ l.drop n
def leads (b : Bs) : Bs := { b with role := 2, lead := b.id, next := fill b.next b.size (b.last + 1), mat := fill b.mat b.size 0 }
def count (b : Bs) : Bs := if 2 * b.votes b.size ≤ b.size then b else ((b.leads.put (b.last + 1) [⟨b.term, 0, 0, noT⟩]).feedAll).settle
def askTo (b : Bs) : Nat → Bs
  | 0 => b
  | n + 1 => if n = b.id then b.askTo n else (b.askTo n).send { ms0 with kind := 1, tgt := n, index := b.last, prev := b.termAt b.last }
def stand (b : Bs) : Bs := { b with term := b.term + 1, vote := b.id, role := 1, lead := -1, touched := true, has := (List.replicate 5 false).set b.id true }
def timeout (b : Bs) : Bs × List Ms := if b.role = 2 then (b, []) else ((b.stand.askTo b.size).count).sent
def beat (b : Bs) : Bs × List Ms := (if b.role = 2 then b.feedAll else b).sent
def propose (b : Bs) (at' born : Int) (text : ByteArray) : Int × Bs × List Ms :=
  if b.role = 2 then ((b.put (b.last + 1) [⟨b.term, at', born, text⟩]).last, (((b.put (b.last + 1) [⟨b.term, at', born, text⟩]).feedAll).settle).sent) else (0, b, [])
abbrev strange (b : Bs) (m : Ms) : Prop := m.tgt ≠ b.id ∨ m.fr = b.id ∨ m.fr < 0 ∨ (b.size : Int) ≤ m.fr ∨ m.kind < 1 ∨ 5 < m.kind ∨ m.term < 1 ∨ 1099511627776 < m.term ∨ m.index < -1 ∨ (m.index = -1 ∧ m.kind ≠ 4) ∨ 1099511627776 < m.index ∨ m.prev < 0 ∨ 1099511627776 < m.prev ∨ m.commit < 0 ∨ 1099511627776 < m.commit
def newer (b : Bs) (m : Ms) : Bs := if b.term < m.term then { b with term := m.term, vote := -1, role := 0, lead := -1, touched := true } else b
abbrev grants (b : Bs) (m : Ms) : Prop := (b.vote = -1 ∨ b.vote = m.fr) ∧ ¬ (m.prev < b.termAt b.last ∨ (m.prev = b.termAt b.last ∧ m.index < b.last))
def ask (b : Bs) (m : Ms) : Bs := if b.grants m then ({ b with vote := m.fr, touched := true }).send { ms0 with kind := 2, tgt := m.fr, good := true } else b.send { ms0 with kind := 2, tgt := m.fr }
/-- The entries l, the first of them number i, are put where they are others. -/
def lay (b : Bs) (i : Int) : List En → Bs
  | [] => b
  | e :: l => if b.commit < i ∧ (b.last < i ∨ b.termAt i ≠ e.term) then b.put i (e :: l) else b.lay (i + 1) l
def reach (b : Bs) (c : Int) : Bs := if b.commit < c then { b with commit := c } else b
def entries (b : Bs) (m : Ms) : Bs :=
  if b.role = 2 then b else
  let c : Bs := { b with role := 0, lead := m.fr }
  if m.index + m.list.length ≤ b.commit then c.send { ms0 with kind := 4, tgt := m.fr, good := true, index := m.index + m.list.length }
  else if b.commit ≤ m.index ∧ b.termAt m.index ≠ m.prev then c.send { ms0 with kind := 4, tgt := m.fr, index := min b.last (m.index - 1) }
  else ((c.lay (m.index + 1) m.list).reach (min m.commit (m.index + m.list.length))).send { ms0 with kind := 4, tgt := m.fr, good := true, index := m.index + m.list.length }
def less (b : Bs) (f : Nat) (i : Int) : Bs := { b with next := b.next.set f (max (min (i + 1) (b.next.getD f 0 - 1)) (b.mat.getD f 0 + 1)) }
def more (b : Bs) (f : Nat) (i : Int) : Bs := { b with mat := b.mat.set f (max (b.mat.getD f 0) (min i b.last)), next := b.next.set f (max (b.mat.getD f 0) (min i b.last) + 1) }
def heard (b : Bs) (m : Ms) : Bs :=
  if b.role = 2 then
    (if m.good then
      (if b.mat.getD m.fr.toNat 0 < ((b.more m.fr.toNat m.index).settle).mat.getD m.fr.toNat 0 ∧ ((b.more m.fr.toNat m.index).settle).next.getD m.fr.toNat 0 ≤ ((b.more m.fr.toNat m.index).settle).last then ((b.more m.fr.toNat m.index).settle).feed m.fr.toNat else (b.more m.fr.toNat m.index).settle)
    else (b.less m.fr.toNat m.index).feed m.fr.toNat)
  else b
def rebase (b : Bs) (i term : Int) (snap : ByteArray) (rest : List En) : Bs := { b with base := i, baseTerm := term, snap := snap, log := rest, touched := true, whole := true }
def given (b : Bs) (m : Ms) : Bs :=
  if b.role = 2 then b else
  let c : Bs := { b with role := 0, lead := m.fr }
  (if b.commit < m.index then { c.rebase m.index m.prev m.snap (if b.termAt m.index = m.prev then b.log.drop (m.index - b.base).toNat else []) with commit := m.index } else c).send { ms0 with kind := 4, tgt := m.fr, good := true, index := m.index }
def vote' (b : Bs) (m : Ms) : Bs := if b.role = 1 ∧ m.good = true then ({ b with has := b.has.set m.fr.toNat true }).count else b
def old (b : Bs) (m : Ms) : Bs :=
  if m.kind = 1 then b.send { ms0 with kind := 2, tgt := m.fr } else if m.kind = 3 ∨ m.kind = 5 then b.send { ms0 with kind := 4, tgt := m.fr, index := b.last } else b
def act (b : Bs) (m : Ms) : Bs := if m.kind = 1 then b.ask m else if m.kind = 2 then b.vote' m else if m.kind = 3 then b.entries m else if m.kind = 4 then b.heard m else b.given m
def take (b : Bs) (m : Ms) : Bs × List Ms :=
  if b.strange m then (b, []) else if m.term < (b.newer m).term then ((b.newer m).old m).sent else ((b.newer m).act m).sent
def cut (b : Bs) (i : Int) (snap : ByteArray) : Bool × Bs := if b.base < i ∧ i ≤ b.commit then (true, b.rebase i (b.termAt i) snap (b.log.drop (i - b.base).toNat)) else (false, b)
def change (b : Bs) : De := if b.whole then ⟨b.term, b.vote, true, b.base, b.baseTerm, b.snap, b.base + 1, b.log⟩ else ⟨b.term, b.vote, false, 0, 0, noT, b.fr, b.log.drop (b.fr - b.base - 1).toNat⟩
def dlt (b : Bs) : Option De × Bs := if b.touched then (some b.change, { b with touched := false, whole := false, fr := b.last + 1 }) else (none, b)
/-- A change may be laid upon a ballot. -/
abbrev may (b : Bs) (d : De) : Prop := 0 ≤ d.term ∧ d.term ≤ 2199023255552 ∧ -1 ≤ d.vote ∧ d.vote < b.size ∧ if d.whole then 0 ≤ d.base ∧ d.base ≤ 2199023255552 ∧ 0 ≤ d.baseTerm ∧ d.baseTerm ≤ 2199023255552 else b.base + 1 ≤ d.fr ∧ d.fr ≤ b.last + 1
def over (b : Bs) (d : De) : Bs := if d.whole then { b with term := d.term, vote := d.vote, base := d.base, baseTerm := d.baseTerm, snap := d.snap, log := d.list } else { b with term := d.term, vote := d.vote, log := b.log.take (d.fr - b.base - 1).toNat ++ d.list }
def overAll (b : Bs) : List De → Option Bs
  | [] => some b
  | d :: l => if b.may d then (b.over d).overAll l else none
def load (id size : Nat) (l : List De) : Option Bs := ((new id size).overAll l).map fun b => { b with commit := b.base, fr := b.last + 1 }
end Bs
end Go.Proofs.Ytmiagjcihmenfaa
/- What stays of a ballot, plain. -/
namespace Go.Proofs.Ytmiagjcihmenfaa
namespace Bs

/-- All but what goes out is the same. -/
def So (b c : Bs) : Prop := c = { b with out := c.out }
theorem So.refl (b : Bs) : So b b := rfl
theorem So.trans {a b c : Bs} (h : So a b) (k : So b c) : So a c := by
  unfold So at *
  rw [k, h]
theorem so_send (b : Bs) (m : Ms) : So b (b.send m) := rfl
theorem so_feed (b : Bs) (to : Nat) : So b (b.feed to) := rfl
theorem so_feedTo (b : Bs) : ∀ n, So b (b.feedTo n)
  | 0 => So.refl b
  | n + 1 => by
    unfold feedTo
    split
    · exact so_feedTo b n
    · exact (so_feedTo b n).trans (so_feed _ _)
theorem so_feedAll (b : Bs) : So b b.feedAll := so_feedTo b _
theorem so_askTo (b : Bs) : ∀ n, So b (b.askTo n)
  | 0 => So.refl b
  | n + 1 => by
    unfold askTo
    split
    · exact so_askTo b n
    · exact (so_askTo b n).trans (so_send _ _)
theorem so_sent (b : Bs) : So b b.sent.1 := rfl

/-- What a ballot keeps at all times. -/
structure Inv (b : Bs) : Prop where
  idl : b.id < b.size
  sz : b.size ≤ 5
  hs : b.has.length = 5
  nx : b.next.length = 5
  mt : b.mat.length = 5
  b0 : 0 ≤ b.base
  bc : b.base ≤ b.commit
  cl : b.commit ≤ b.last
  v0 : -1 ≤ b.vote
  v1 : b.vote < b.size
  t0 : 0 ≤ b.term
theorem Inv.so {b c : Bs} (h : Inv b) (k : So b c) : Inv c := by
  unfold So at k
  rw [k]
  exact ⟨h.idl, h.sz, h.hs, h.nx, h.mt, h.b0, h.bc, h.cl, h.v0, h.v1, h.t0⟩

/-- What stays from b to c. -/
structure Stays (b c : Bs) : Prop where
  id : c.id = b.id
  size : c.size = b.size
  term : b.term ≤ c.term
  commit : b.commit ≤ c.commit
  base : b.base ≤ c.base
  log : ∀ i, c.base < i → i ≤ b.commit → c.at? i = b.at? i
  lead : b.role = 2 → c.role = 2 → c.term = b.term → ∀ i, c.base < i → i ≤ b.last → c.at? i = b.at? i
  len : b.role = 2 → c.role = 2 → c.term = b.term → b.last ≤ c.last
theorem Stays.refl (b : Bs) : Stays b b := ⟨rfl, rfl, Int.le_refl _, Int.le_refl _, Int.le_refl _, fun _ _ _ => rfl, fun _ _ _ _ _ _ => rfl, fun _ _ _ => Int.le_refl _⟩
theorem Stays.so {b c : Bs} (k : So b c) : Stays b c := by
  unfold So at k
  rw [k]
  exact ⟨rfl, rfl, Int.le_refl _, Int.le_refl _, Int.le_refl _, fun _ _ _ => rfl, fun _ _ _ _ _ _ => rfl, fun _ _ _ => Int.le_refl _⟩
theorem Stays.then {a b c : Bs} (h : Stays a b) (k : So b c) : Stays a c := by
  unfold So at k
  rw [k]
  exact ⟨h.id, h.size, h.term, h.commit, h.base, h.log, h.lead, h.len⟩
/-- Two steps, where a leader stays one in between. -/
theorem Stays.trans {a b c : Bs} (h : Stays a b) (k : Stays b c) (hr : a.role = 2 → c.role = 2 → c.term = a.term → b.role = 2) : Stays a c := by
  have hm := h.term
  have km := k.term
  refine ⟨k.id.trans h.id, k.size.trans h.size, by omega, by have := h.commit; have := k.commit; omega, by have := h.base; have := k.base; omega, fun i hi hc => ?_, fun h2 h3 h4 i hi hl => ?_, fun h2 h3 h4 => ?_⟩
  · have := k.base
    have := h.commit
    rw [k.log i hi (by omega), h.log i (by omega) hc]
  · have r := hr h2 h3 h4
    have := k.base
    have := h.len h2 r (by omega)
    rw [k.lead r h3 (by omega) i hi (by omega), h.lead h2 r (by omega) i (by omega) hl]
  · have r := hr h2 h3 h4
    have := h.len h2 r (by omega)
    have := k.len r h3 (by omega)
    omega

theorem at_lt {b : Bs} {i : Int} (h : b.base < i) (h2 : i ≤ b.last) : ∃ e, b.at? i = some e := by
  unfold at? last at *
  rw [if_pos h, List.getElem?_eq_getElem (by omega)]
  exact ⟨_, rfl⟩
theorem at_none {b : Bs} {i : Int} (h : i ≤ b.base ∨ b.last < i) : b.at? i = none := by
  unfold at? last at *
  split
  · exact List.getElem?_eq_none (by omega)
  · rfl
theorem termAt_none {b : Bs} {i : Int} (h : i < b.base ∨ b.last < i) : b.termAt i = -1 := by
  have hl : b.base ≤ b.last := by unfold last; omega
  unfold termAt
  rw [if_neg (by omega), at_none (by omega)]
theorem termAt_base (b : Bs) : b.termAt b.base = b.baseTerm := by unfold termAt; rw [if_pos rfl]

theorem put_last {b : Bs} {i : Int} (l : List En) (h1 : b.base < i) (h2 : i ≤ b.last + 1) : (b.put i l).last = i - 1 + l.length := by
  unfold put last at *
  simp only [List.length_append, List.length_take]
  omega
theorem put_at {b : Bs} {i j : Int} (l : List En) (h1 : b.base < i) (h2 : i ≤ b.last + 1) (hj : j < i) : (b.put i l).at? j = b.at? j := by
  unfold put at? last at *
  simp only
  split
  · rw [List.getElem?_append_left (by simp; omega), List.getElem?_take, if_pos (by omega)]
  · rfl
/-- Entries are put behind what is committed. -/
theorem put_stays {b : Bs} {i : Int} (l : List En) (h : Inv b) (h1 : b.commit < i) (h2 : i ≤ b.last + 1) (h3 : i = b.last + 1 ∨ b.role ≠ 2) : Stays b (b.put i l) ∧ Inv (b.put i l) := by
  have hb := h.bc
  have hl := put_last l (by omega) h2
  refine ⟨⟨rfl, rfl, Int.le_refl _, Int.le_refl _, Int.le_refl _, fun j hj hc => put_at l (by omega) h2 (by omega), fun hr _ _ j hj hjl => ?_, fun hr _ _ => ?_⟩, ⟨h.idl, h.sz, h.hs, h.nx, h.mt, h.b0, h.bc, ?_, h.v0, h.v1, h.t0⟩⟩
  · rcases h3 with e | e
    · exact put_at l (by omega) h2 (by omega)
    · exact absurd hr e
  · rcases h3 with e | e
    · omega
    · exact absurd hr e
  · rw [hl]
    show b.commit ≤ _
    omega
theorem best_le (b : Bs) : ∀ k, b.best k = 0 ∨ (b.commit < b.best k ∧ b.best k ≤ b.commit + k)
  | 0 => .inl rfl
  | k + 1 => by
    unfold best
    split
    · exact .inr ⟨by omega, by omega⟩
    · rcases best_le b k with h | h
      · exact .inl h
      · exact .inr ⟨h.1, by omega⟩
theorem settle_stays {b : Bs} (h : Inv b) : Stays b b.settle ∧ Inv b.settle ∧ b.settle.role = b.role := by
  unfold settle
  split
  · rename_i hp
    have hb := best_le b (b.last - b.commit).toNat
    have h1 : b.commit < b.best (b.last - b.commit).toNat ∧ b.best (b.last - b.commit).toNat ≤ b.last := by
      have := h.cl
      omega
    obtain ⟨x, hx⟩ : ∃ x, b.best (b.last - b.commit).toNat = x := ⟨_, rfl⟩
    rw [hx] at h1 ⊢
    have s1 : Stays b { b with commit := x } := ⟨rfl, rfl, Int.le_refl _, by show b.commit ≤ x; omega, Int.le_refl _, fun _ _ _ => rfl, fun _ _ _ _ _ _ => rfl, fun _ _ _ => Int.le_refl _⟩
    have i1 : Inv { b with commit := x } := ⟨h.idl, h.sz, h.hs, h.nx, h.mt, h.b0, by have := h.bc; show b.base ≤ x; omega, h1.2, h.v0, h.v1, h.t0⟩
    have so := so_feedAll { b with commit := x }
    refine ⟨s1.then so, i1.so so, ?_⟩
    unfold So at so
    rw [so]
  · exact ⟨Stays.refl b, h, rfl⟩
end Bs
end Go.Proofs.Ytmiagjcihmenfaa
/- What stays of a ballot, call by call. -/
namespace Go.Proofs.Ytmiagjcihmenfaa
namespace Bs

theorem fill_len {α : Type} (l : List α) (n : Nat) (x : α) (h : n ≤ l.length) : (fill l n x).length = l.length := by
  unfold fill
  simp
  omega
theorem leads_stays {b : Bs} (h : Inv b) : Stays b b.leads ∧ Inv b.leads :=
  ⟨⟨rfl, rfl, Int.le_refl _, Int.le_refl _, Int.le_refl _, fun _ _ _ => rfl, fun _ _ _ _ _ _ => rfl, fun _ _ _ => Int.le_refl _⟩,
   ⟨h.idl, h.sz, h.hs, (fill_len _ _ _ (by rw [h.nx]; exact h.sz)).trans h.nx, (fill_len _ _ _ (by rw [h.mt]; exact h.sz)).trans h.mt, h.b0, h.bc, h.cl, h.v0, h.v1, h.t0⟩⟩
theorem count_stays {b : Bs} (h : Inv b) : Stays b b.count ∧ Inv b.count ∧ (b.count.role = b.role ∨ b.count.role = 2) := by
  unfold count
  split
  · exact ⟨Stays.refl b, h, .inl rfl⟩
  · obtain ⟨s1, i1⟩ := leads_stays h
    have hc := h.cl
    obtain ⟨s2, i2⟩ := put_stays (b := b.leads) (i := b.last + 1) [⟨b.term, 0, 0, noT⟩] i1 (by show b.commit < _; omega) (Int.le_refl _) (.inl rfl)
    have so := so_feedAll (b.leads.put (b.last + 1) [⟨b.term, 0, 0, noT⟩])
    obtain ⟨s3, i3, r3⟩ := settle_stays (i2.so so)
    have hr : (b.leads.put (b.last + 1) [⟨b.term, 0, 0, noT⟩]).feedAll.role = 2 := by
      unfold So at so
      rw [so]
      rfl
    refine ⟨((s1.trans s2 (fun _ _ _ => rfl)).then so).trans s3 (fun _ _ _ => hr), i3, .inr (r3.trans hr)⟩
theorem timeout_stays {b : Bs} (h : Inv b) : Stays b b.timeout.1 ∧ Inv b.timeout.1 := by
  unfold timeout
  split
  · exact ⟨Stays.refl b, h⟩
  · rename_i hr
    have hi := h.idl
    have ht := h.t0
    have s1 : Stays b b.stand := ⟨rfl, rfl, by show b.term ≤ b.term + 1; omega, Int.le_refl _, Int.le_refl _, fun _ _ _ => rfl, fun q => absurd q hr, fun q => absurd q hr⟩
    have i1 : Inv b.stand := ⟨h.idl, h.sz, by simp [stand], h.nx, h.mt, h.b0, h.bc, h.cl, by show -1 ≤ (b.id : Int); omega, by show (b.id : Int) < b.size; omega, by show 0 ≤ b.term + 1; omega⟩
    have so := so_askTo b.stand b.size
    obtain ⟨s2, i2, _⟩ := count_stays (i1.so so)
    exact ⟨(((s1.then so).trans s2 (fun q => absurd q hr))).then (so_sent _), i2.so (so_sent _)⟩
theorem beat_stays {b : Bs} (h : Inv b) : Stays b b.beat.1 ∧ Inv b.beat.1 := by
  unfold beat
  split
  · have so := (so_feedAll b).trans (so_sent _)
    exact ⟨Stays.so so, h.so so⟩
  · exact ⟨Stays.so (so_sent b), h.so (so_sent b)⟩
theorem propose_stays {b : Bs} (h : Inv b) (at' born : Int) (text : ByteArray) : Stays b (b.propose at' born text).2.1 ∧ Inv (b.propose at' born text).2.1 := by
  unfold propose
  split
  · rename_i hr
    have hc := h.cl
    obtain ⟨s1, i1⟩ := put_stays (b := b) (i := b.last + 1) [⟨b.term, at', born, text⟩] h (by omega) (Int.le_refl _) (.inl rfl)
    have so := so_feedAll (b.put (b.last + 1) [⟨b.term, at', born, text⟩])
    obtain ⟨s2, i2, _⟩ := settle_stays (i1.so so)
    have hr2 : (b.put (b.last + 1) [⟨b.term, at', born, text⟩]).feedAll.role = 2 := by
      unfold So at so
      rw [so]
      exact hr
    exact ⟨((s1.then so).trans s2 (fun _ _ _ => hr2)).then (so_sent _), i2.so (so_sent _)⟩
  · exact ⟨Stays.refl b, h⟩
theorem newer_stays {b : Bs} {m : Ms} (h : Inv b) : Stays b (b.newer m) ∧ Inv (b.newer m) ∧ (b.newer m = b ∨ b.term < (b.newer m).term) ∧ (b.term < m.term → (b.newer m).term = m.term) := by
  unfold newer
  split
  · rename_i ht
    have h0 := h.t0
    have hi := h.idl
    exact ⟨⟨rfl, rfl, by show b.term ≤ m.term; omega, Int.le_refl _, Int.le_refl _, fun _ _ _ => rfl, fun _ q => (by cases q), fun _ q => (by cases q)⟩, ⟨h.idl, h.sz, h.hs, h.nx, h.mt, h.b0, h.bc, h.cl, Int.le_refl _, by show (-1 : Int) < b.size; omega, by show 0 ≤ m.term; omega⟩, .inr ht, fun _ => rfl⟩
  · exact ⟨Stays.refl b, h, .inl rfl, fun q => absurd q (by assumption)⟩
theorem ask_stays {b : Bs} {m : Ms} (h : Inv b) (h0 : 0 ≤ m.fr) (h1 : m.fr < b.size) : Stays b (b.ask m) ∧ Inv (b.ask m) := by
  unfold ask
  split
  · exact ⟨⟨rfl, rfl, Int.le_refl _, Int.le_refl _, Int.le_refl _, fun _ _ _ => rfl, fun _ _ _ _ _ _ => rfl, fun _ _ _ => Int.le_refl _⟩, ⟨h.idl, h.sz, h.hs, h.nx, h.mt, h.b0, h.bc, h.cl, by show -1 ≤ m.fr; omega, h1, h.t0⟩⟩
  · exact ⟨Stays.so (so_send _ _), h.so (so_send _ _)⟩
theorem lay_stays {b : Bs} (h : Inv b) (hr : b.role ≠ 2) : ∀ (l : List En) (i : Int), i ≤ b.last + 1 → Stays b (b.lay i l) ∧ Inv (b.lay i l) ∧ i - 1 + l.length ≤ (b.lay i l).last ∧ (b.lay i l).role = b.role ∧ (b.lay i l).commit = b.commit
  | [], i, hi => by
    unfold lay
    exact ⟨Stays.refl b, h, by simp; omega, rfl, rfl⟩
  | e :: l, i, hi => by
    unfold lay
    split
    · rename_i hc
      have hb := h.bc
      obtain ⟨s1, i1⟩ := put_stays (e :: l) h hc.1 hi (.inr hr)
      refine ⟨s1, i1, ?_, rfl, rfl⟩
      rw [put_last _ (by omega) hi]
      exact Int.le_refl _
    · rename_i hc
      have hcl := h.cl
      have hi2 : i + 1 ≤ b.last + 1 := by
        by_cases q : b.commit < i
        · have := fun z => hc ⟨q, .inl z⟩
          omega
        · omega
      obtain ⟨s1, i1, l1, r1, c1⟩ := lay_stays h hr l (i + 1) hi2
      exact ⟨s1, i1, by simp only [List.length_cons]; omega, r1, c1⟩
theorem reach_stays {b : Bs} (h : Inv b) {c : Int} (hc : c ≤ b.last) : Stays b (b.reach c) ∧ Inv (b.reach c) ∧ (b.reach c).role = b.role := by
  unfold reach
  split
  · have hb := h.bc
    exact ⟨⟨rfl, rfl, Int.le_refl _, by show b.commit ≤ c; omega, Int.le_refl _, fun _ _ _ => rfl, fun _ _ _ _ _ _ => rfl, fun _ _ _ => Int.le_refl _⟩, ⟨h.idl, h.sz, h.hs, h.nx, h.mt, h.b0, by show b.base ≤ c; omega, hc, h.v0, h.v1, h.t0⟩, rfl⟩
  · exact ⟨Stays.refl b, h, rfl⟩
theorem follow_stays {b : Bs} (h : Inv b) (hr : b.role ≠ 2) (l : Int) : Stays b { b with role := 0, lead := l } ∧ Inv { b with role := 0, lead := l } :=
  ⟨⟨rfl, rfl, Int.le_refl _, Int.le_refl _, Int.le_refl _, fun _ _ _ => rfl, fun q => absurd q hr, fun q => absurd q hr⟩, ⟨h.idl, h.sz, h.hs, h.nx, h.mt, h.b0, h.bc, h.cl, h.v0, h.v1, h.t0⟩⟩
theorem entries_stays {b : Bs} {m : Ms} (h : Inv b) (hp : 0 ≤ m.prev) : Stays b (b.entries m) ∧ Inv (b.entries m) := by
  unfold entries
  split
  · exact ⟨Stays.refl b, h⟩
  · rename_i hr
    obtain ⟨s0, i0⟩ := follow_stays h hr m.fr
    simp only
    split
    · exact ⟨s0.then (so_send _ _), i0.so (so_send _ _)⟩
    · split
      · exact ⟨s0.then (so_send _ _), i0.so (so_send _ _)⟩
      · rename_i he hq
        have hcl := h.cl
        have hi : m.index + 1 ≤ b.last + 1 := by
          by_cases q : b.commit ≤ m.index
          · by_cases z : m.index ≤ b.last
            · omega
            · have e := termAt_none (b := b) (i := m.index) (.inr (by omega))
              exact absurd ⟨q, by rw [e]; omega⟩ hq
          · omega
        obtain ⟨s1, i1, l1, r1, c1⟩ := lay_stays i0 (by show (0 : Int) ≠ 2; decide) m.list (m.index + 1) hi
        obtain ⟨s2, i2, r2⟩ := reach_stays i1 (c := min m.commit (m.index + m.list.length)) (by omega)
        exact ⟨((s0.trans s1 (fun q => absurd q hr)).trans s2 (fun q => absurd q hr)).then (so_send _ _), i2.so (so_send _ _)⟩
theorem nums_stays {b : Bs} (h : Inv b) (nx mt : List Int) (hn : nx.length = 5) (hm : mt.length = 5) : Stays b { b with next := nx, mat := mt } ∧ Inv { b with next := nx, mat := mt } :=
  ⟨⟨rfl, rfl, Int.le_refl _, Int.le_refl _, Int.le_refl _, fun _ _ _ => rfl, fun _ _ _ _ _ _ => rfl, fun _ _ _ => Int.le_refl _⟩, ⟨h.idl, h.sz, h.hs, hn, hm, h.b0, h.bc, h.cl, h.v0, h.v1, h.t0⟩⟩
theorem heard_stays {b : Bs} {m : Ms} (h : Inv b) : Stays b (b.heard m) ∧ Inv (b.heard m) := by
  unfold heard
  split
  · rename_i hr
    split
    · obtain ⟨s1, i1⟩ := nums_stays h (b.next.set m.fr.toNat (max (b.mat.getD m.fr.toNat 0) (min m.index b.last) + 1)) (b.mat.set m.fr.toNat (max (b.mat.getD m.fr.toNat 0) (min m.index b.last))) (by simpa using h.nx) (by simpa using h.mt)
      obtain ⟨s2, i2, r2⟩ := settle_stays (b := b.more m.fr.toNat m.index) i1
      have s3 : Stays b (b.more m.fr.toNat m.index).settle := Stays.trans (b := b.more m.fr.toNat m.index) s1 s2 (fun _ _ _ => hr)
      split
      · exact ⟨s3.then (so_feed _ _), i2.so (so_feed _ _)⟩
      · exact ⟨s3, i2⟩
    · obtain ⟨s1, i1⟩ := nums_stays h (b.next.set m.fr.toNat (max (min (m.index + 1) (b.next.getD m.fr.toNat 0 - 1)) (b.mat.getD m.fr.toNat 0 + 1))) b.mat (by simpa using h.nx) h.mt
      exact ⟨Stays.then (b := b.less m.fr.toNat m.index) s1 (so_feed _ _), Inv.so (b := b.less m.fr.toNat m.index) i1 (so_feed _ _)⟩
  · exact ⟨Stays.refl b, h⟩
theorem given_stays {b : Bs} {m : Ms} (h : Inv b) : Stays b (b.given m) ∧ Inv (b.given m) := by
  unfold given
  split
  · exact ⟨Stays.refl b, h⟩
  · rename_i hr
    simp only
    split
    · rename_i hc
      have hb := h.bc
      have h0 := h.b0
      refine ⟨⟨rfl, rfl, Int.le_refl _, by show b.commit ≤ m.index; omega, by show b.base ≤ m.index; omega, fun i hi hic => ?_, fun q => absurd q hr, fun q => absurd q hr⟩, ⟨h.idl, h.sz, h.hs, h.nx, h.mt, by show 0 ≤ m.index; omega, Int.le_refl _, ?_, h.v0, h.v1, h.t0⟩⟩
      · have hi' : m.index < i := hi
        omega
      · show m.index ≤ m.index + _
        omega
    · obtain ⟨s0, i0⟩ := follow_stays h hr m.fr
      exact ⟨s0.then (so_send _ _), i0.so (so_send _ _)⟩
theorem vote_stays {b : Bs} {m : Ms} (h : Inv b) : Stays b (b.vote' m) ∧ Inv (b.vote' m) := by
  unfold vote'
  split
  · rename_i hr
    have hr2 : b.role ≠ 2 := by rw [hr.1]; decide
    have s1 : Stays b { b with has := b.has.set m.fr.toNat true } := ⟨rfl, rfl, Int.le_refl _, Int.le_refl _, Int.le_refl _, fun _ _ _ => rfl, fun _ _ _ _ _ _ => rfl, fun _ _ _ => Int.le_refl _⟩
    have i1 : Inv { b with has := b.has.set m.fr.toNat true } := ⟨h.idl, h.sz, by simpa using h.hs, h.nx, h.mt, h.b0, h.bc, h.cl, h.v0, h.v1, h.t0⟩
    obtain ⟨s2, i2, _⟩ := count_stays i1
    exact ⟨s1.trans s2 (fun q => absurd q hr2), i2⟩
  · exact ⟨Stays.refl b, h⟩
theorem old_so (b : Bs) (m : Ms) : So b (b.old m) := by
  unfold old
  split
  · exact so_send _ _
  · split
    · exact so_send _ _
    · exact So.refl b
theorem act_stays {b : Bs} {m : Ms} (h : Inv b) (hp : 0 ≤ m.prev) (h0 : 0 ≤ m.fr) (h1 : m.fr < b.size) : Stays b (b.act m) ∧ Inv (b.act m) := by
  unfold act
  split
  · exact ask_stays h h0 h1
  · split
    · exact vote_stays h
    · split
      · exact entries_stays h hp
      · split
        · exact heard_stays h
        · exact given_stays h
theorem take_stays {b : Bs} (h : Inv b) (m : Ms) : Stays b (b.take m).1 ∧ Inv (b.take m).1 := by
  unfold take
  split
  · exact ⟨Stays.refl b, h⟩
  · rename_i hs
    obtain ⟨s1, i1, c1, _⟩ := newer_stays (m := m) h
    have hp : 0 ≤ m.prev := by
      by_cases q : m.prev < 0
      · exact absurd (by unfold strange; omega) hs
      · omega
    have h0 : 0 ≤ m.fr := by
      by_cases q : m.fr < 0
      · exact absurd (by unfold strange; omega) hs
      · omega
    have h1 : m.fr < b.size := by
      by_cases q : (b.size : Int) ≤ m.fr
      · exact absurd (by unfold strange; omega) hs
      · omega
    split
    · have so := (old_so (b.newer m) m).trans (so_sent _)
      exact ⟨s1.then so, i1.so so⟩
    · obtain ⟨s2, i2⟩ := act_stays (b := b.newer m) i1 hp h0 (by rw [s1.size]; exact h1)
      refine ⟨(s1.trans s2 (fun q _ ht => ?_)).then (so_sent _), i2.so (so_sent _)⟩
      rcases c1 with e | e
      · rw [e]; exact q
      · have := s2.term
        omega
theorem cut_stays {b : Bs} (h : Inv b) (i : Int) (snap : ByteArray) : Stays b (b.cut i snap).2 ∧ Inv (b.cut i snap).2 := by
  unfold cut
  split
  · rename_i hi
    have hb := h.b0
    have hcl := h.cl
    have hl : (b.rebase i (b.termAt i) snap (b.log.drop (i - b.base).toNat)).last = b.last := by
      unfold rebase last at *
      simp only [List.length_drop]
      omega
    have ha : ∀ j, i < j → (b.rebase i (b.termAt i) snap (b.log.drop (i - b.base).toNat)).at? j = b.at? j := by
      intro j hj
      unfold rebase at?
      simp only
      rw [if_pos hj, if_pos (by omega), List.getElem?_drop]
      congr 1
      omega
    refine ⟨⟨rfl, rfl, Int.le_refl _, Int.le_refl _, by show b.base ≤ i; omega, fun j hj _ => ha j hj, fun _ _ _ j hj _ => ha j hj, fun _ _ _ => by show b.last ≤ Bs.last _; rw [hl]; exact Int.le_refl _⟩, ⟨h.idl, h.sz, h.hs, h.nx, h.mt, by show 0 ≤ i; omega, hi.2, by show b.commit ≤ Bs.last _; rw [hl]; exact hcl, h.v0, h.v1, h.t0⟩⟩
  · exact ⟨Stays.refl b, h⟩
theorem delta_stays {b : Bs} (h : Inv b) : Stays b b.dlt.2 ∧ Inv b.dlt.2 := by
  unfold dlt
  split
  · exact ⟨⟨rfl, rfl, Int.le_refl _, Int.le_refl _, Int.le_refl _, fun _ _ _ => rfl, fun _ _ _ _ _ _ => rfl, fun _ _ _ => Int.le_refl _⟩, ⟨h.idl, h.sz, h.hs, h.nx, h.mt, h.b0, h.bc, h.cl, h.v0, h.v1, h.t0⟩⟩
  · exact ⟨Stays.refl b, h⟩
end Bs
end Go.Proofs.Ytmiagjcihmenfaa
/- What stays of the memory; entries and messages as cells; the document's ballot in memory. -/
namespace Go.Proofs.Ytmiagjcihmenfaa
open Go.RowKit

/-- All blocks but those of S are as they were. -/
structure Fr (w w' : World) (S : Nat → Prop) : Prop where
  os : w'.os = w.os
  tape : w'.tape = w.tape
  output : w'.output = w.output
  size : w.heap.size ≤ w'.heap.size
  block : ∀ k, k < w.heap.size → ¬ S k → w'.heap[k]? = w.heap[k]?
theorem Fr.refl (w : World) (S : Nat → Prop) : Fr w w S := ⟨rfl, rfl, rfl, Nat.le_refl _, fun _ _ _ => rfl⟩
theorem Fr.trans {w w1 w2 : World} {S : Nat → Prop} (h : Fr w w1 S) (k : Fr w1 w2 S) : Fr w w2 S :=
  ⟨k.os.trans h.os, k.tape.trans h.tape, k.output.trans h.output, Nat.le_trans h.size k.size, fun j hj hr => (k.block j (Nat.lt_of_lt_of_le hj h.size) hr).trans (h.block j hj hr)⟩
/-- A second step may also change what is new. -/
theorem Fr.step {w w1 w2 : World} {S T : Nat → Prop} (h : Fr w w1 S) (k : Fr w1 w2 T) (hT : ∀ j, T j → S j ∨ w.heap.size ≤ j) : Fr w w2 S :=
  ⟨k.os.trans h.os, k.tape.trans h.tape, k.output.trans h.output, Nat.le_trans h.size k.size, fun j hj hr => (k.block j (Nat.lt_of_lt_of_le hj h.size) (fun q => by rcases hT j q with q | q; exact hr q; omega)).trans (h.block j hj hr)⟩
theorem Fr.mono {w w' : World} {S T : Nat → Prop} (h : Fr w w' S) (hT : ∀ j, S j → T j) : Fr w w' T :=
  ⟨h.os, h.tape, h.output, h.size, fun j hj hr => h.block j hj (fun q => hr (hT j q))⟩
theorem Fr.alloc {w w1 : World} {S : Nat → Prop} (h : Fr w w1 S) (o : Obj) : Fr w (w1.alloc o) S :=
  ⟨h.os, h.tape, h.output, Nat.le_trans h.size (by simp), fun j hj hr => (Below.heap_alloc w1 o j (Nat.lt_of_lt_of_le hj h.size)).trans (h.block j hj hr)⟩
theorem Fr.set {w w1 : World} {S : Nat → Prop} (h : Fr w w1 S) {a : Addr} (ha : S a.block ∨ w.heap.size ≤ a.block) (u : Value) : Fr w (w1.setCell a u) S :=
  ⟨h.os, h.tape, h.output, Nat.le_trans h.size (by simp [World.setCell]), fun j hj hr => (Below.heap_setCell w1 a u j (by rintro rfl; rcases ha with ha | ha; exact hr ha; omega)).trans (h.block j hj hr)⟩
theorem Fr.drewN {w w1 : World} {S : Nat → Prop} (h : Fr w w1 S) (k : Nat) : Fr w (w1.drewN k) S := ⟨h.os, h.tape, h.output, h.size, h.block⟩
theorem Fr.grown {w w1 w2 : World} {S : Nat → Prop} {row : Option Nat} (h : Fr w w1 S) (k : w1.grownBy w2 row) (hr : ∀ k, row = some k → S k ∨ w.heap.size ≤ k) : Fr w w2 S :=
  ⟨k.os.trans h.os, k.tape.trans h.tape, k.output.trans h.output, Nat.le_trans h.size k.size, fun j hj hrj => (k.block j (Nat.lt_of_lt_of_le hj h.size) (fun e => by rcases hr j e.symm with q | q; exact hrj q; omega)).trans (h.block j hj hrj)⟩
theorem Fr.below {w w1 w2 : World} {S : Nat → Prop} (h : Fr w w1 S) (k : Below w1.heap.size w1 w2) : Fr w w2 S :=
  ⟨k.os.trans h.os, k.tape.trans h.tape, k.output.trans h.output, Nat.le_trans h.size k.size, fun j hj hrj => (k.block j (Nat.lt_of_lt_of_le hj h.size)).trans (h.block j hj hrj)⟩
theorem Fr.toBelow {w w' : World} {S : Nat → Prop} {B : Nat} (h : Fr w w' S) (hS : ∀ k, k < B → ¬ S k) (hB : B ≤ w.heap.size) : Below B w w' :=
  ⟨h.os, h.tape, h.output, h.size, fun k hk => h.block k (by omega) (hS k hk)⟩
theorem Fr.ofBelow {w w' : World} (S : Nat → Prop) (h : Below w.heap.size w w') : Fr w w' S := ⟨h.os, h.tape, h.output, h.size, fun k hk _ => h.block k hk⟩
theorem Fr.fresh {w w' : World} {S : Nat → Prop} (h : Fr w w' S) (hS : ∀ k, S k → w.heap.size ≤ k) : Below w.heap.size w w' :=
  ⟨h.os, h.tape, h.output, h.size, fun k hk => h.block k hk (fun q => by have := hS k q; omega)⟩
/-- S, and what is new. -/
def Gro (S : Nat → Prop) (w w' : World) : Nat → Prop := fun k => S k ∨ (w.heap.size ≤ k ∧ k < w'.heap.size)

theorem cell_blk {w : World} {b : Nat} {cs : Array Value} {t : TypeId} {fr : Nat × Nat} (h : w.heap[b]? = some (.cells cs t fr)) (i : Nat) : w.cell? ⟨b, i, none⟩ = cs[i]? := by simp [World.cell?, h]
theorem frozen_blk {w : World} {b : Nat} {cs : Array Value} {t : TypeId} (h : w.heap[b]? = some (.cells cs t (0, 0))) (i : Nat) : w.frozen? ⟨b, i, none⟩ = false := by simp [World.frozen?, h]
theorem set_blk {w : World} {b i : Nat} {cs : Array Value} {t : TypeId} {fr : Nat × Nat} (h : w.heap[b]? = some (.cells cs t fr)) (v : Value) : (w.setCell ⟨b, i, none⟩ v).heap[b]? = some (.cells (cs.setIfInBounds i v) t fr) := by
  have hlt := (Array.getElem?_eq_some_iff.1 h).1
  simp [World.setCell, Array.getElem?_modify, h]
theorem set_other {w : World} {a : Addr} {k : Nat} (v : Value) (h : k ≠ a.block) : (w.setCell a v).heap[k]? = w.heap[k]? := Below.heap_setCell w a v k h
theorem blk_lt {w : World} {b : Nat} {o : Obj} (h : w.heap[b]? = some o) : b < w.heap.size := (Array.getElem?_eq_some_iff.1 h).1
theorem tag_ne {w : World} {a b : Nat} {cs cs' : Array Value} {t t' : TypeId} {fr fr' : Nat × Nat} (h : w.heap[a]? = some (.cells cs t fr)) (h' : w.heap[b]? = some (.cells cs' t' fr')) (ht : t ≠ t') : a ≠ b := by
  rintro rfl
  rw [h] at h'
  simp only [Option.some.injEq, Obj.cells.injEq] at h'
  exact ht h'.2.1
theorem own_like {w w' : World} {base : Nat} {e : TypeId} {size : Nat} {v : Value} {n : Nat} {xs : List Value} (h : w.ownsRow base e size v n xs) (hb : ∀ k, v.ownBlock = some k → w'.heap[k]? = w.heap[k]?) : w'.ownsRow base e size v n xs := by
  refine ⟨h.1, ?_⟩
  rcases h.2 with hn | ⟨g, cap, cur, rfl, hb0, hgg, rest⟩
  · exact .inl hn
  · exact .inr ⟨g, cap, cur, rfl, hb0, (hb g rfl).trans hgg, rest⟩
theorem undrew {w w' : World} {r : Option Nat} (h : w.drew.grownBy w' r) : w.grownBy w' r := ⟨h.os, h.tape, h.output, h.size, h.block⟩

theorem gro_fresh {w0 w1 w2 : World} {T : Nat → Prop} (hT : ∀ k, T k → w0.heap.size ≤ k) (hs : w0.heap.size ≤ w1.heap.size) : ∀ k, Gro T w1 w2 k → w0.heap.size ≤ k := by
  intro k q
  rcases q with q | q
  · exact hT k q
  · omega
theorem fr_below {w0 w1 w2 : World} {T : Nat → Prop} (hT : ∀ k, T k → w0.heap.size ≤ k) (hb : Below w0.heap.size w0 w1) (hf : Fr w1 w2 T) : Below w0.heap.size w0 w2 :=
  hb.trans (hf.toBelow (fun k hk q => by have := hT k q; omega) hb.size)
theorem own_mono {w : World} {B1 B2 : Nat} {v : Value} {e : TypeId} {c m : Nat} {xs : List Value} (h : w.ownsRow B2 e c v m xs) (hB : B1 ≤ B2) : w.ownsRow B1 e c v m xs := by
  rcases h with ⟨h1, h2 | ⟨g, cap, cur, hv, hg, hr⟩⟩
  · exact ⟨h1, .inl h2⟩
  · exact ⟨h1, .inr ⟨g, cap, cur, hv, Nat.le_trans hB hg, hr⟩⟩
theorem own_below {B : Nat} {e : TypeId} {k : Nat} {v : Value} {n : Nat} {xs : List Value} {w w' : World} (h : w.ownsRow B e k v n xs) (hb : Below w.heap.size w w') : w'.ownsRow B e k v n xs :=
  own_like h (fun j hj => hb.block j (h.lt j hj).2)
theorem row_keep {w w' : World} {B : Nat} {S : Nat → Prop} {v : Value} {e : TypeId} {c m : Nat} {xs : List Value} (h : w.ownsRow B e c v m xs) (hf : Fr w w' S) (hs : ∀ j, v.ownBlock = some j → ¬ S j) : w'.ownsRow B e c v m xs :=
  own_like h (fun j hj => hf.block j (h.lt j hj).2 (hs j hj))
theorem below_draw {w w1 : World} (h : Below w.heap.size w w1) (k : Nat) : Below w.heap.size w (w1.drewN k) := ⟨h.os, h.tape, h.output, h.size, h.block⟩

theorem own_shape {w : World} {B : Nat} {v : Value} {e : TypeId} {c m : Nat} {xs : List Value} (h : w.ownsRow B e c v m xs) : ∃ ad cap, v = .slice ad m cap := by
  rcases h.2 with ⟨hv, h0⟩ | ⟨g, cap, cur, hv, _⟩
  · exact ⟨none, 0, by rw [hv, h0]⟩
  · exact ⟨_, cap, hv⟩

theorem add_at (g o k : Nat) : (⟨g, o, none⟩ : Addr).add k = ⟨g, o + k, none⟩ := by unfold Addr.add; split <;> simp_all

/-! ### Entries -/
abbrev enV (e : En) : Value := .agg #[.int .i64 e.term, .int .i64 e.at', .int .i64 e.born, .string e.text]
abbrev enO (e : En) : Obj := .cells #[.int .i64 e.term, .int .i64 e.at', .int .i64 e.born, .string e.text] 49
def enC (L : List En) : List Value := L.flatMap fun e => [.int .i64 e.term, .int .i64 e.at', .int .i64 e.born, .string e.text]
theorem enC_cons (e : En) (L : List En) : enC (e :: L) = .int .i64 e.term :: .int .i64 e.at' :: .int .i64 e.born :: .string e.text :: enC L := by simp [enC]
theorem enC_append (a b : List En) : enC (a ++ b) = enC a ++ enC b := by simp [enC]
theorem enC_len (L : List En) : (enC L).length = L.length * 4 := by
  induction L with
  | nil => rfl
  | cons l L ih => rw [enC_cons]; simp [ih]; omega
theorem enC_get (L : List En) : ∀ (k : Nat) (h : k < L.length), (enC L)[k * 4]? = some (.int .i64 L[k].term) ∧ (enC L)[k * 4 + 1]? = some (.int .i64 L[k].at') ∧ (enC L)[k * 4 + 2]? = some (.int .i64 L[k].born) ∧ (enC L)[k * 4 + 3]? = some (.string L[k].text) := by
  induction L with
  | nil => intro k h; simp at h
  | cons l L ih =>
    intro k h
    rw [enC_cons]
    cases k with
    | zero => simp
    | succ k =>
      have := ih k (by simpa using h)
      have e : (k + 1) * 4 = k * 4 + 4 := by omega
      rw [e]
      simpa using this
theorem enC_one (L : List En) : ∀ u ∈ enC L, u.oneCell' = true := by
  intro u hu
  obtain ⟨f, _, hf⟩ := List.mem_flatMap.1 hu
  simp at hf
  rcases hf with rfl | rfl | rfl | rfl <;> rfl
theorem enC_cell (L : List En) : ∀ (j : Nat) (u : Value), (enC L)[j]? = some u → ∃ (i : Nat) (h : i < L.length), (j = i * 4 ∧ u = .int .i64 L[i].term) ∨ (j = i * 4 + 1 ∧ u = .int .i64 L[i].at') ∨ (j = i * 4 + 2 ∧ u = .int .i64 L[i].born) ∨ (j = i * 4 + 3 ∧ u = .string L[i].text) := by
  intro j u hu
  have hj : j < L.length * 4 := by
    have := (List.getElem?_eq_some_iff.1 hu).1
    rwa [enC_len] at this
  have hi : j / 4 < L.length := by omega
  obtain ⟨a, b, c, d⟩ := enC_get L (j / 4) hi
  refine ⟨j / 4, hi, ?_⟩
  have h3 : j = j / 4 * 4 ∨ j = j / 4 * 4 + 1 ∨ j = j / 4 * 4 + 2 ∨ j = j / 4 * 4 + 3 := by omega
  rcases h3 with e | e | e | e
  · rw [← e] at a
    rw [hu] at a
    exact .inl ⟨e, by simpa using a⟩
  · rw [← e] at b
    rw [hu] at b
    exact .inr (.inl ⟨e, by simpa using b⟩)
  · rw [← e] at c
    rw [hu] at c
    exact .inr (.inr (.inl ⟨e, by simpa using c⟩))
  · rw [← e] at d
    rw [hu] at d
    exact .inr (.inr (.inr ⟨e, by simpa using d⟩))
/-- The entries lie where v leads to, outside S. -/
def Es (w : World) (S : Nat → Prop) (L : List En) (v : Value) : Prop := ∃ ad cap, v = .slice ad L.length cap ∧ (ad = none → cap = 0) ∧ L.length ≤ cap ∧ cap ≤ maxLen ∧
  ∀ i (h : i < L.length), ∃ b o, ad = some ⟨b, o, none⟩ ∧ b < w.heap.size ∧ ¬ S b ∧ w.cell? ⟨b, o + i * 4, none⟩ = some (.int .i64 L[i].term) ∧ w.cell? ⟨b, o + i * 4 + 1, none⟩ = some (.int .i64 L[i].at') ∧ w.cell? ⟨b, o + i * 4 + 2, none⟩ = some (.int .i64 L[i].born) ∧ w.cell? ⟨b, o + i * 4 + 3, none⟩ = some (.string L[i].text)
section
variable {w w' : World} {S S' : Nat → Prop} {L : List En} {v : Value}
theorem Es.stays (h : Es w S L v) (hf : Fr w w' S) (hs : ∀ k, S' k → Gro S w w' k) : Es w' S' L v := by
  obtain ⟨ad, cap, e, h0, h1, h2, h3⟩ := h
  refine ⟨ad, cap, e, h0, h1, h2, fun i hi => ?_⟩
  obtain ⟨b, o, ha, hl, hS, c0, c1, c2, c3⟩ := h3 i hi
  have hc : ∀ o, w'.cell? ⟨b, o, none⟩ = w.cell? ⟨b, o, none⟩ := fun o => World.cell?_of_block (hf.block b hl hS)
  refine ⟨b, o, ha, Nat.lt_of_lt_of_le hl hf.size, fun q => ?_, by rw [hc]; exact c0, by rw [hc]; exact c1, by rw [hc]; exact c2, by rw [hc]; exact c3⟩
  rcases hs b q with q | q
  · exact hS q
  · omega
theorem Es.on (h : Es w S L v) (hb : Below w.heap.size w w') : Es w' S L v := h.stays (Fr.ofBelow S hb) (fun _ q => .inl q)
theorem Es.nil (w : World) (S : Nat → Prop) : Es w S [] (.slice none 0 0) := ⟨none, 0, rfl, fun _ => rfl, Nat.le_refl _, Nat.zero_le _, fun i hi => by simp at hi⟩
theorem Es.own {B : Nat} (h : w.ownsRow B 49 4 v L.length (enC L)) (hS : ∀ k, v.ownBlock = some k → ¬ S k) : Es w S L v := by
  have h' := h
  rcases h.2 with ⟨hv, h0⟩ | ⟨g, cap, cur, hv, hg, hc, h1, h2, hr⟩
  · have e : L = [] := List.eq_nil_of_length_eq_zero h0
    subst e
    rw [hv]
    exact Es.nil w S
  · subst hv
    refine ⟨_, cap, rfl, fun q => (by cases q), h1, h2, fun i hi => ⟨g, 0, rfl, blk_lt hc, hS g rfl, ?_⟩⟩
    obtain ⟨a, b, c, d⟩ := enC_get L i hi
    rw [Nat.zero_add]
    exact ⟨(h'.cellAt _ (by omega)).trans a, (h'.cellAt _ (by omega)).trans b, (h'.cellAt _ (by omega)).trans c, (h'.cellAt _ (by omega)).trans d⟩
theorem Es.shape (h : Es w S L v) : ∃ ad cap, v = .slice ad L.length cap ∧ L.length ≤ cap ∧ cap ≤ maxLen := by
  obtain ⟨ad, cap, e, _, h1, h2, _⟩ := h
  exact ⟨ad, cap, e, h1, h2⟩
/-- What append reads of them. -/
theorem Es.src {ad : Option Addr} {cap : Nat} (h : Es w S L (.slice ad L.length cap)) : (ad = none ∧ L.length = 0 ∧ cap = 0 ∧ enC L = []) ∨ ∃ a, ad = some a ∧ (enC L).length = L.length * 4 ∧ (∀ j u, (enC L)[j]? = some u → w.cell? (a.add j) = some u) := by
  obtain ⟨ad', cap', e, h0, h1, h2, h3⟩ := h
  cases e
  cases had : ad with
  | none =>
    have hL : L = [] := by
      rcases L with _ | ⟨l, L⟩
      · rfl
      · obtain ⟨b, o, e, _⟩ := h3 0 (by simp)
        rw [had] at e
        cases e
    subst hL
    exact .inl ⟨rfl, rfl, h0 had, rfl⟩
  | some a =>
    refine .inr ⟨a, rfl, enC_len L, fun j u hu => ?_⟩
    obtain ⟨i, hi, h⟩ := enC_cell L j u hu
    obtain ⟨b, o, e, _, _, c0, c1, c2, c3⟩ := h3 i hi
    rw [had] at e
    cases e
    rw [add_at]
    rcases h with ⟨rfl, rfl⟩ | ⟨rfl, rfl⟩ | ⟨rfl, rfl⟩ | ⟨rfl, rfl⟩
    · exact c0
    · exact c1
    · exact c2
    · exact c3
end

/-! ### Messages -/
abbrev msV (m : Ms) (lv : Value) : Value := .agg #[.int .i64 m.kind, .int .i64 m.fr, .int .i64 m.tgt, .int .i64 m.term, .int .i64 m.index, .int .i64 m.prev, .int .i64 m.commit, .bool m.good, lv, .string m.snap]
abbrev msO (m : Ms) (lv : Value) : Obj := .cells #[.int .i64 m.kind, .int .i64 m.fr, .int .i64 m.tgt, .int .i64 m.term, .int .i64 m.index, .int .i64 m.prev, .int .i64 m.commit, .bool m.good, lv, .string m.snap] 34
def msC (O : List (Ms × Value)) : List Value := O.flatMap fun p => [.int .i64 p.1.kind, .int .i64 p.1.fr, .int .i64 p.1.tgt, .int .i64 p.1.term, .int .i64 p.1.index, .int .i64 p.1.prev, .int .i64 p.1.commit, .bool p.1.good, p.2, .string p.1.snap]
theorem msC_append (a b : List (Ms × Value)) : msC (a ++ b) = msC a ++ msC b := by simp [msC]
theorem msC_len (O : List (Ms × Value)) : (msC O).length = O.length * 10 := by
  induction O with
  | nil => rfl
  | cons p O ih =>
    have e : msC (p :: O) = msC [p] ++ msC O := by simp [msC]
    rw [e, List.length_append, ih]
    simp [msC]
    omega

/-! ### A ballot in memory -/
def bC (b : Bs) (lv ov : Value) : Array Value := #[.int .i64 b.id, .int .i64 b.size, .int .i64 b.term, .int .i64 b.vote, .int .i64 b.role, .int .i64 b.lead, .int .i64 b.base, .int .i64 b.baseTerm, .string b.snap, lv,
  .bool (b.has.getD 0 false), .bool (b.has.getD 1 false), .bool (b.has.getD 2 false), .bool (b.has.getD 3 false), .bool (b.has.getD 4 false),
  .int .i64 (b.next.getD 0 0), .int .i64 (b.next.getD 1 0), .int .i64 (b.next.getD 2 0), .int .i64 (b.next.getD 3 0), .int .i64 (b.next.getD 4 0),
  .int .i64 (b.mat.getD 0 0), .int .i64 (b.mat.getD 1 0), .int .i64 (b.mat.getD 2 0), .int .i64 (b.mat.getD 3 0), .int .i64 (b.mat.getD 4 0),
  .int .i64 b.commit, .bool b.touched, .bool b.whole, .int .i64 b.fr, ov]
/-- One set, or the other. -/
abbrev Un (S Q : Nat → Prop) : Nat → Prop := fun k => S k ∨ Q k
theorem Es.staysU {w w' : World} {S S' Q : Nat → Prop} {L : List En} {v : Value} (h : Es w (Un S Q) L v) (hf : Fr w w' S) (hs : ∀ k, S' k → Gro S w w' k) : Es w' (Un S' Q) L v := by
  refine h.stays (hf.mono (fun _ q => .inl q)) (fun k q => ?_)
  rcases q with q | q
  · rcases hs k q with q | q
    · exact .inl (.inl q)
    · exact .inr q
  · exact .inl (.inr q)
/-- The document's ballot b lies at A; S are the blocks that it writes; its log lies outside the blocks b.av, too. -/
structure Rv (w : World) (A : Nat) (S : Nat → Prop) (b : Bs) (lv ov : Value) (O : List (Ms × Value)) : Prop where
  ob : w.heap[A]? = some (.cells (bC b lv ov) 81 (0, 0))
  log : Es w (Un S b.av) b.log lv
  eo : O.map Prod.fst = b.out
  out : w.ownsRow 0 34 10 ov O.length (msC O)
  ls : ∀ p ∈ O, Es w S p.1.list p.2
  covA : S A
  cov : ∀ k, ov.ownBlock = some k → S k
  lt : ∀ k, S k → k < w.heap.size
  few : O.length ≤ 900000
  len : b.log.length ≤ 900000
  b0 : 0 ≤ b.base
  b1 : b.base ≤ 4398046511104
  avl : ∀ k, b.av k → k < w.heap.size
def Rb (w : World) (A : Nat) (S : Nat → Prop) (b : Bs) : Prop := ∃ lv ov O, Rv w A S b lv ov O
section
variable {w w' : World} {A : Nat} {S T : Nat → Prop} {b : Bs} {lv ov : Value} {O : List (Ms × Value)}
theorem Rv.stays (h : Rv w A S b lv ov O) (k : Fr w w' T) (hd : ∀ b, S b → ¬ T b) (hl : Es w' (Un S b.av) b.log lv) (hls : ∀ p ∈ O, Es w' S p.1.list p.2) : Rv w' A S b lv ov O :=
  ⟨(k.block A (h.lt A h.covA) (hd A h.covA)).trans h.ob, hl, h.eo, own_like h.out (fun j hj => k.block j (h.lt j (h.cov j hj)) (hd j (h.cov j hj))), hls, h.covA, h.cov, fun b hb => Nat.lt_of_lt_of_le (h.lt b hb) k.size, h.few, h.len, h.b0, h.b1, fun b hb => Nat.lt_of_lt_of_le (h.avl b hb) k.size⟩
theorem Rb.on (h : Rb w A S b) (hb : Below w.heap.size w w') : Rb w' A S b := by
  obtain ⟨lv, ov, O, h⟩ := h
  exact ⟨lv, ov, O, h.stays (Fr.ofBelow (fun _ => False) hb) (fun _ _ q => q) (h.log.on hb) (fun p hp => (h.ls p hp).on hb)⟩
theorem Rv.cell (h : Rv w A S b lv ov O) (i : Nat) : w.cell? ⟨A, i, none⟩ = (bC b lv ov)[i]? := cell_blk h.ob i
theorem last_any (h : Rb w A S b) : Calls Try.prog 38 #[.pointer (some ⟨A, 0, none⟩)] w fun e w' => e = .returned (.int .i64 b.last) ∧ ∃ n, w' = w.drewN n := by
  obtain ⟨lv, ov, O, h⟩ := h
  have c6 : w.cell? ⟨A, 6, none⟩ = some (.int .i64 b.base) := h.cell 6
  have c9 : w.cell? ⟨A, 9, none⟩ = some lv := h.cell 9
  obtain ⟨ad, cap, rfl, _, _⟩ := h.log.shape
  have b0 := h.b0
  have b1 := h.b1
  have l1 := h.len
  have el : b.last = b.base + b.log.length := rfl
  rw [el]
  clear h el
  go_enter Try.func38, Try.ntmps38
  go_wp2
  go_quiet (fail)
  go_wp2
  go_ret
  exact ⟨rfl, _, rfl⟩
end
end Go.Proofs.Ytmiagjcihmenfaa
/- The walks of the document's TermAt, sent, send. -/
namespace Go.Proofs.Ytmiagjcihmenfaa
open Go.RowKit

section
variable {w w' : World} {A : Nat} {S T : Nat → Prop} {b : Bs} {lv ov : Value} {O : List (Ms × Value)}
theorem Rb.drewN (h : Rb w A S b) (k : Nat) : Rb (w.drewN k) A S b := h.on (below_draw (Below.refl _ _) k)
set_option maxHeartbeats 2000000 in
set_option maxRecDepth 100000 in
theorem term_any (h : Rb w A S b) (i : Int) : Calls Try.prog 56 #[.pointer (some ⟨A, 0, none⟩), .int .i64 i] w fun e w' => e = .returned (.int .i64 (b.termAt i)) ∧ ∃ n, w' = w.drewN n := by
  have hlast := last_any h
  have h0 := h
  obtain ⟨lv, ov, O, h⟩ := h
  have c6 : w.cell? ⟨A, 6, none⟩ = some (.int .i64 b.base) := h.cell 6
  have c7 : w.cell? ⟨A, 7, none⟩ = some (.int .i64 b.baseTerm) := h.cell 7
  have b0 := h.b0
  have b1 := h.b1
  by_cases hb : i = b.base
  · have e : b.termAt i = b.baseTerm := by rw [hb]; exact Bs.termAt_base b
    rw [e]
    clear e h h0
    go_enter Try.func56, Try.ntmps56
    go_wp2
    go_ret
    exact ⟨rfl, 0, rfl⟩
  · by_cases hlt : i < b.base
    · have e : b.termAt i = -1 := Bs.termAt_none (.inl hlt)
      rw [e]
      clear e h h0
      go_enter Try.func56, Try.ntmps56
      go_wp2
      go_ret
      exact ⟨rfl, 0, rfl⟩
    · by_cases hgt : b.last < i
      · have e : b.termAt i = -1 := Bs.termAt_none (.inr hgt)
        rw [e]
        clear e h h0
        go_enter Try.func56, Try.ntmps56
        go_wp2_with fail
        refine hlast.mono ?_
        rintro e w1 ⟨rfl, n, rfl⟩
        clear hlast
        go_wp2
        go_ret
        exact ⟨rfl, n, rfl⟩
      · obtain ⟨k, hk⟩ : ∃ k : Nat, i = b.base + 1 + k := ⟨(i - b.base - 1).toNat, by omega⟩
        have hkl : k < b.log.length := by unfold Bs.last at hgt; omega
        have e : b.termAt i = b.log[k].term := by
          unfold Bs.termAt Bs.at?
          rw [if_neg hb, if_pos (by omega), show (i - b.base - 1).toNat = k by omega, List.getElem?_eq_getElem hkl]
        rw [e]
        obtain ⟨y, hy⟩ : ∃ y, b.log[k].term = y := ⟨_, rfl⟩
        rw [hy]
        have l1 := h.len
        have w1 : i - b.base - 1 = (k : Int) := by omega
        have w2 : (0 : Int) ≤ k := by omega
        have w3 : (k : Int) < b.log.length := by omega
        have w4 : b.base < i := by omega
        have w5 : i ≤ 4398047511105 := by unfold Bs.last at hgt; omega
        have c9 : w.cell? ⟨A, 9, none⟩ = some lv := h.cell 9
        obtain ⟨ad, cap, rfl, _, q1, q2, q3⟩ := h.log
        obtain ⟨g, o, rfl, _, _, x0, x1, x2, x3⟩ := q3 k hkl
        rw [hy] at x0
        clear hk hy e h h0 q3
        go_enter Try.func56, Try.ntmps56
        go_wp2_with fail
        refine hlast.mono ?_
        rintro e w1 ⟨rfl, n, rfl⟩
        clear hlast
        go_wp2
        go_quiet (fail)
        go_wp2
        go_ret
        exact ⟨rfl, _, World.drewN_drewN ..⟩
end
end Go.Proofs.Ytmiagjcihmenfaa
/- The walks of the document's sent and send. -/
namespace Go.Proofs.Ytmiagjcihmenfaa
open Go.RowKit

theorem step_run {P : Program} {w w' : World} {ops : Array Oper} {o : Oper} {a : Act} {K : Act → World → Prop} {Q : Exit → Act → World → Prop} {E : Prop} {t u : TypeId} {v' : Value} (s x : Operand) (hw : Region.wanted o (yielded ops a.tmps) = true)
    (ho : o.op = .call { callee := .builtin .append, args := #[s, x], argTypes := #[t, u] }) (hrun : (Builtin.append_ #[t, u] o.type #[a.eval s, a.eval x]).run P w = .ok v' w')
    (h : K (a.put o.dst v') w') : if Region.wanted o (yielded ops a.tmps) = true then Oper.wp P o a w K Q else E := by
  rw [if_pos hw]
  unfold Oper.wp execOp
  simp only [ho, resolve, invoke, builtin, Sem.run_bind, Sem.run_pure, Result.andThen_ok, List.map_toArray, List.map_cons, List.map_nil, hrun]
  exact h

theorem wpl_run {P : Program} {w w' : World} {ops : Array Oper} {rest : List Oper} {o : Oper} {a : Act} {Q : Exit → Act → World → Prop} {t u ty : TypeId} {v' : Value} {ds : Option Tmp} {ps : String} {af : Array Edge} (s x : Operand)
    (ho : o = ⟨ds, .call { callee := .builtin .append, args := #[s, x], argTypes := #[t, u] }, ty, ps, af, none⟩) (hrun : (Builtin.append_ #[t, u] ty #[a.eval s, a.eval x]).run P w = .ok v' w')
    (h : wpList P ops Q rest (a.put ds v') w') : wpList P ops Q (o :: rest) a w := by
  subst ho
  refine wpList_plain rfl fun K hK => ?_
  unfold Oper.wp execOp
  simp only [resolve, invoke, builtin, Sem.run_bind, Sem.run_pure, Result.andThen_ok, List.map_toArray, List.map_cons, List.map_nil, hrun]
  exact hK _ _ h
/-- append at messages. -/
theorem infoMs : (Try.prog.info? 34).map (fun i => (i.zero, i.size, i.bytes)) = some (some (.agg #[.int .i64 0, .int .i64 0, .int .i64 0, .int .i64 0, .int .i64 0, .int .i64 0, .int .i64 0, .bool false, .slice none 0 0, .string ⟨#[]⟩]), 10, 104) := by kernel_rfl
theorem infoEn : (Try.prog.info? 49).map (fun i => (i.zero, i.size, i.bytes)) = some (some (.agg #[.int .i64 0, .int .i64 0, .int .i64 0, .string ⟨#[]⟩]), 4, 40) := by kernel_rfl
section
variable {w w' : World} {v : Value}
theorem msgs_run {base n m c : Nat} {xs news : List Value} {a : Addr} (ho : w.ownsRow base 34 10 v n xs) (hb : base ≤ w.heap.size) (hl : news.length = m * 10) (hc : ∀ j u, news[j]? = some u → w.cell? (a.add j) = some u)
    (h1 : ∀ u ∈ news, u.oneCell' = true) (hnm : (n + m) * 104 ≤ 140737488355328) : ∃ v' w', (Builtin.append_ #[37, 37] 37 #[v, .slice (some a) m c]).run Try.prog w = .ok v' w' ∧ w'.ownsRow base 34 10 v' (n + m) (xs ++ news) ∧ w.grownBy w' v.ownBlock ∧ (v'.ownBlock = v.ownBlock ∨ v'.ownBlock = some w.heap.size) := by
  obtain ⟨i0, hi, hz0, hz1, hz2⟩ := info_parts infoMs
  obtain ⟨v', w', hr, ho', hg, _, hat⟩ := run_append_own_at (P := Try.prog) (w := w) base 37 37 34 i0 _ 10 104 Try.underlying37 hi hz0 hz1 hz2 rfl (by decide) v n xs ho a m c news hl hc h1 (by unfold maxLen; omega) hnm hb
  exact ⟨v', w', hr, ho', hg, hat⟩
theorem ens_run {base n m c : Nat} {xs news : List Value} {ad : Option Addr} (ho : w.ownsRow base 49 4 v n xs) (hb : base ≤ w.heap.size) (hs : (ad = none ∧ m = 0 ∧ c = 0 ∧ news = []) ∨ ∃ a, ad = some a ∧ news.length = m * 4 ∧ (∀ j u, news[j]? = some u → w.cell? (a.add j) = some u))
    (h1 : ∀ u ∈ news, u.oneCell' = true) (hnm : (n + m) * 40 ≤ 140737488355328) : ∃ v' w', (Builtin.append_ #[32, 32] 32 #[v, .slice ad m c]).run Try.prog w = .ok v' w' ∧ w'.ownsRow base 49 4 v' (n + m) (xs ++ news) ∧ w.grownBy w' v.ownBlock ∧ (v'.ownBlock = v.ownBlock ∨ v'.ownBlock = some w.heap.size) := by
  obtain ⟨i0, hi, hz0, hz1, hz2⟩ := info_parts infoEn
  rcases hs with ⟨rfl, rfl, rfl, rfl⟩ | ⟨a, rfl, hl, hc⟩
  · refine ⟨v, w, ?_, by simpa using ho, ⟨rfl, rfl, rfl, Nat.le_refl _, fun _ _ _ => rfl⟩, .inl rfl⟩
    exact run_append_owned_none (P := Try.prog) (w := w) base 32 32 49 i0 4 Try.underlying32 hi v n xs ho
  · obtain ⟨v', w', hr, ho', hg, _, hat⟩ := run_append_own_at (P := Try.prog) (w := w) base 32 32 49 i0 _ 4 40 Try.underlying32 hi hz0 hz1 hz2 rfl (by decide) v n xs ho a m c news hl hc h1 (by unfold maxLen; omega) hnm hb
    exact ⟨v', w', hr, ho', hg, hat⟩
end
section
variable {w w' : World} {A : Nat} {S T : Nat → Prop} {b : Bs} {lv ov : Value} {O : List (Ms × Value)}
/-- sent: what went out, with the lists' values; the bag is empty. -/
theorem sent_any (h : Rb w A S b) : Calls Try.prog 58 #[.pointer (some ⟨A, 0, none⟩)] w fun e w' => ∃ ov O, e = .returned ov ∧ O.map Prod.fst = b.out ∧ w'.ownsRow 0 34 10 ov O.length (msC O) ∧ (∀ k, ov.ownBlock = some k → S k ∧ k ≠ A) ∧ (∀ p ∈ O, Es w' S p.1.list p.2) ∧ Rb w' A S { b with out := [] } ∧ Fr w w' S := by
  obtain ⟨lv, ov, O, h⟩ := h
  have c29 : w.cell? ⟨A, 29, none⟩ = some ov := h.cell 29
  have fz : w.frozen? ⟨A, 29, none⟩ = false := frozen_blk h.ob 29
  have HH := Lib.hid h
  clear h
  go_enter Try.func58, Try.ntmps58
  go_wp2
  go_ret
  have h := HH.out
  have hf : Fr w (w.setCell ⟨A, 29, none⟩ (.slice none 0 0)) S := Fr.set (a := ⟨A, 29, none⟩) (Fr.refl w S) (Or.inl h.covA) _
  have hA : ∀ k, ov.ownBlock = some k → k ≠ A := by
    intro k hk e
    subst e
    rcases h.out.2 with ⟨hv, _⟩ | ⟨g, cap, cur, hv, _, hg, _⟩
    · rw [hv] at hk; cases hk
    · rw [hv] at hk
      simp only [Value.ownBlock, Option.some.injEq] at hk
      subst hk
      exact tag_ne h.ob hg (by decide) rfl
  have hset := set_blk (i := 29) h.ob (.slice none 0 0)
  refine ⟨ov, O, rfl, h.eo, own_like h.out (fun k hk => set_other _ (hA k hk)), fun k hk => ⟨h.cov k hk, hA k hk⟩, fun p hp => (h.ls p hp).stays hf (fun _ q => .inl q), ⟨lv, .slice none 0 0, [], ⟨?_, h.log.staysU hf (fun _ q => .inl q), rfl, World.ownsRow_nil _ _ _ _, fun p hp => (by cases hp), h.covA, (fun k hk => by cases hk), fun k hk => Nat.lt_of_lt_of_le (h.lt k hk) hf.size, Nat.zero_le _, h.len, h.b0, h.b1, fun k hk => Nat.lt_of_lt_of_le (h.avl k hk) hf.size⟩⟩, hf⟩
  rw [hset]
  rfl
theorem one_msg (w : World) (m : Ms) (v : Value) : ∀ j u, (msC [(m, v)])[j]? = some u → (w.alloc (.cells #[.int .i64 m.kind, .int .i64 m.fr, .int .i64 m.tgt, .int .i64 m.term, .int .i64 m.index, .int .i64 m.prev, .int .i64 m.commit, .bool m.good, v, .string m.snap] 34)).cell? ((⟨w.heap.size, 0, none⟩ : Addr).add j) = some u := by
  intro j u hu
  rw [add_at, Nat.zero_add, cell_blk (heap_alloc_new w _)]
  simpa [msC] using hu
set_option maxHeartbeats 4000000 in
set_option maxRecDepth 100000 in
theorem send_any {m : Ms} {mv : Value} (h : Rb w A S b) (hm : Es w S m.list mv) (hf : b.out.length < 900000) :
    Calls Try.prog 55 #[.pointer (some ⟨A, 0, none⟩), msV m mv] w fun e w' => e = .returned (.tuple #[]) ∧ Rb w' A (Gro S w w') (b.send m) ∧ Fr w w' S := by
  obtain ⟨lv, ov, O, h⟩ := h
  have hA := h.lt A h.covA
  have hfO : O.length < 900000 := by rw [← List.length_map (f := Prod.fst), h.eo]; exact hf
  obtain ⟨m', hm'⟩ : ∃ m' : Ms, m' = { m with fr := b.id, term := b.term } := ⟨_, rfl⟩
  obtain ⟨W1, hW1⟩ : ∃ W1, W1 = w.alloc (msO m' mv) := ⟨_, rfl⟩
  have hal1 : Below w.heap.size w W1.drew := by rw [hW1]; exact ((Below.refl _ w).alloc (Nat.le_refl _) _).drew
  have hal2 : Below W1.heap.size W1.drew (W1.drew.alloc (msO m' mv)) := (Below.refl _ W1.drew).alloc (Nat.le_refl _) _
  have hal := hal1.trans (hal2.mono hal1.size)
  obtain ⟨madd, mcap, hmv, _⟩ := hm.shape
  have hone : ∀ u ∈ msC [(m', mv)], u.oneCell' = true := by
    intro u hu
    rw [hmv] at hu
    simp [msC] at hu
    rcases hu with rfl | rfl | rfl | rfl | rfl | rfl | rfl | rfl | rfl | rfl <;> rfl
  have ho2 := own_below h.out hal
  obtain ⟨v', w3, hrun, ho3, hg3, hat3⟩ := msgs_run (a := ⟨W1.drew.heap.size, 0, none⟩) (m := 1) (c := 1) (news := msC [(m', mv)]) ho2 (Nat.zero_le _) (by rw [msC_len]; rfl) (one_msg W1.drew m' mv) hone (by omega)
  obtain ⟨ad3, cap3, rfl⟩ := own_shape ho3
  have z1 : W1.heap[w.heap.size]? = some (msO m' mv) := by rw [hW1]; exact heap_alloc_new w _
  have hblk : ∀ i, W1.cell? ⟨w.heap.size, i, none⟩ = (#[.int .i64 m'.kind, .int .i64 m'.fr, .int .i64 m'.tgt, .int .i64 m'.term, .int .i64 m'.index, .int .i64 m'.prev, .int .i64 m'.commit, .bool m'.good, mv, .string m'.snap] : Array Value)[i]? := fun i => cell_blk z1 i
  have e0 : W1.cell? ⟨w.heap.size, 0, none⟩ = some (.int .i64 m'.kind) := hblk 0
  have e1 : W1.cell? ⟨w.heap.size, 1, none⟩ = some (.int .i64 m'.fr) := hblk 1
  have e2 : W1.cell? ⟨w.heap.size, 2, none⟩ = some (.int .i64 m'.tgt) := hblk 2
  have e3 : W1.cell? ⟨w.heap.size, 3, none⟩ = some (.int .i64 m'.term) := hblk 3
  have e4 : W1.cell? ⟨w.heap.size, 4, none⟩ = some (.int .i64 m'.index) := hblk 4
  have e5 : W1.cell? ⟨w.heap.size, 5, none⟩ = some (.int .i64 m'.prev) := hblk 5
  have e6 : W1.cell? ⟨w.heap.size, 6, none⟩ = some (.int .i64 m'.commit) := hblk 6
  have e7 : W1.cell? ⟨w.heap.size, 7, none⟩ = some (.bool m'.good) := hblk 7
  have e8 : W1.cell? ⟨w.heap.size, 8, none⟩ = some mv := hblk 8
  have e9 : W1.cell? ⟨w.heap.size, 9, none⟩ = some (.string m'.snap) := hblk 9
  have c0 : w.cell? ⟨A, 0, none⟩ = some (.int .i64 b.id) := h.cell 0
  have c2 : w.cell? ⟨A, 2, none⟩ = some (.int .i64 b.term) := h.cell 2
  have hA1 : W1.heap[A]? = some (.cells (bC b lv ov) 81 (0, 0)) := (hal1.block A hA).trans h.ob
  have c29 : W1.cell? ⟨A, 29, none⟩ = some ov := cell_blk hA1 29
  have hA2 : (W1.drew.alloc (msO m' mv)).heap[A]? = some (.cells (bC b lv ov) 81 (0, 0)) := (hal.block A hA).trans h.ob
  have g29 : (W1.alloc (.cells #[.int .i64 m'.kind, .int .i64 m'.fr, .int .i64 m'.tgt, .int .i64 m'.term, .int .i64 m'.index, .int .i64 m'.prev, .int .i64 m'.commit, .bool m'.good, mv, .string m'.snap] 34)).cell? ⟨A, 29, none⟩ = some ov := cell_blk hA2 29
  have hne0 : ∀ k, ov.ownBlock = some k → k ≠ A := by
    intro k hk e
    subst e
    rcases h.out.2 with ⟨hv, _⟩ | ⟨g, cap, cur, hv, _, hg, _⟩
    · rw [hv] at hk; cases hk
    · rw [hv] at hk
      simp only [Value.ownBlock, Option.some.injEq] at hk
      subst hk
      exact tag_ne h.ob hg (by decide) rfl
  have d0 : w3.heap[A]? = some (.cells (bC b lv ov) 81 (0, 0)) := (hg3.block A (Nat.lt_of_lt_of_le hA hal.size) (fun e => hne0 A e.symm rfl)).trans hA2
  have d1 : w3.cell? ⟨A, 29, none⟩ = some ov := cell_blk d0 29
  have f1 : w3.frozen? ⟨A, 29, none⟩ = false := frozen_blk d0 29
  have HX : Hid (W1 = w.alloc (.cells #[.int .i64 m.kind, .int .i64 b.id, .int .i64 m.tgt, .int .i64 b.term, .int .i64 m.index, .int .i64 m.prev, .int .i64 m.commit, .bool m.good, mv, .string m.snap] 34)) := by
    show _ = _
    rw [hW1, hm']
  have HM := Lib.hid hm'
  have HH := Lib.hid h
  have HS := Lib.hid hm
  clear hW1 hm' h hm hmv hone ho2 hal hal2 hA1 hA2 hblk z1
  go_enter Try.func55, Try.ntmps55
  go_wp2
  rw [← HX.out]
  go_region_law (refine step_run (.tmp 18) (.tmp 20) rfl rfl hrun ?_)
  all_goals
    go_wp2
    go_end0
    have h := HH.out
    have hm := HS.out
    have hal2 : Below W1.heap.size W1.drew (W1.drew.alloc (msO m' mv)) := (Below.refl _ W1.drew).alloc (Nat.le_refl _) _
    have hal := hal1.trans (hal2.mono hal1.size)
    have hz3 := hg3.size
    have hza := hal.size
    have hfr : Fr w (w3.setCell ⟨A, 29, none⟩ (.slice ad3 (O.length + 1) cap3)) S := Fr.set (a := ⟨A, 29, none⟩) (Fr.grown (Fr.ofBelow S hal) hg3 (fun k hk => .inl (h.cov k hk))) (Or.inl h.covA) _
    have hne : ∀ k, (Value.slice ad3 (O.length + 1) cap3).ownBlock = some k → k ≠ A := by
      intro k hk e
      subst e
      rcases ho3.2 with ⟨hv, _⟩ | ⟨g, cap, cur, hv, _, hg, _⟩
      · rw [hv] at hk; cases hk
      · rw [hv] at hk
        simp only [Value.ownBlock, Option.some.injEq] at hk
        subst hk
        exact tag_ne d0 hg (by decide) rfl
    have hset := set_blk (i := 29) d0 (.slice ad3 (O.length + 1) cap3)
    refine ⟨rfl, ⟨lv, .slice ad3 (O.length + 1) cap3, O ++ [(m', mv)], ⟨?_, h.log.staysU hfr (fun _ q => q), ?_, ?_, fun p hp => ?_, .inl h.covA, fun k hk => ?_, fun k hk => ?_, by simp; omega, h.len, h.b0, h.b1, fun k hk => Nat.lt_of_lt_of_le (h.avl k hk) hfr.size⟩⟩, hfr⟩
    · rw [hset]
      rfl
    · rw [List.map_append, h.eo, HM.out]
      rfl
    · rw [List.length_append, msC_append]
      exact own_like ho3 (fun k hk => set_other _ (hne k hk))
    · rcases List.mem_append.1 hp with hp | hp
      · exact (h.ls p hp).stays hfr (fun _ q => q)
      · rw [List.mem_singleton.1 hp]
        have e : m'.list = m.list := by rw [HM.out]
        show Es _ _ m'.list mv
        rw [e]
        exact hm.stays hfr (fun _ q => q)
    · have hlt := (ho3.lt k hk).2
      rcases hat3 with e | e
      · exact .inl (h.cov k (e ▸ hk))
      · rw [e] at hk
        cases hk
        exact .inr ⟨hza, by simpa [World.setCell] using hlt⟩
    · rcases hk with q | q
      · exact Nat.lt_of_lt_of_le (h.lt k q) hfr.size
      · exact q.2
end
end Go.Proofs.Ytmiagjcihmenfaa
