/- One node's part in a group, plain: what the document says. -/
import Derived.Lib.Hide
namespace Go.Proofs.Ytmiagjcihmenfaa

/-- An entry. -/
structure En where
  term : Int
  at' : Int
  born : Int
  text : ByteArray
/-- A message. -/
structure Ms where
  kind : Int
  fr : Int
  to : Int
  term : Int
  index : Int
  prev : Int
  commit : Int
  good : Bool
  list : List En
  snap : ByteArray
abbrev noT : ByteArray := ⟨#[]⟩
abbrev ms0 : Ms := ⟨0, 0, 0, 0, 0, 0, 0, false, [], noT⟩
/-- A change. -/
structure De where
  term : Int
  vote : Int
  whole : Bool
  base : Int
  baseTerm : Int
  snap : ByteArray
  fr : Int
  list : List En
/-- A ballot. -/
structure Bs where
  id : Nat
  size : Nat
  term : Int
  vote : Int
  role : Int
  lead : Int
  base : Int
  baseTerm : Int
  snap : ByteArray
  log : List En
  has : List Bool
  next : List Int
  mat : List Int
  commit : Int
  touched : Bool
  whole : Bool
  fr : Int
  out : List Ms
namespace Bs
def new (id size : Nat) : Bs := ⟨id, size, 0, -1, 0, -1, 0, 0, noT, [], List.replicate 5 false, List.replicate 5 0, List.replicate 5 0, 0, false, false, 1, []⟩
def last (b : Bs) : Int := b.base + b.log.length
/-- The entry i, where it is there. -/
def at? (b : Bs) (i : Int) : Option En := if b.base < i then b.log[(i - b.base - 1).toNat]? else none
def termAt (b : Bs) (i : Int) : Int := if i = b.base then b.baseTerm else match b.at? i with
  | some e => e.term
  | none => -1
def put (b : Bs) (i : Int) (l : List En) : Bs := { b with log := b.log.take (i - b.base - 1).toNat ++ l, touched := true, fr := min b.fr i }
def send (b : Bs) (m : Ms) : Bs := { b with out := b.out ++ [{ m with fr := b.id, term := b.term }] }
def sent (b : Bs) : Bs × List Ms := ({ b with out := [] }, b.out)
def feedM (b : Bs) (to : Nat) : Ms :=
  if b.next.getD to 0 ≤ b.base then { ms0 with kind := 5, to := to, index := b.base, prev := b.baseTerm, snap := b.snap }
  else { ms0 with kind := 3, to := to, index := b.next.getD to 0 - 1, prev := b.termAt (b.next.getD to 0 - 1), commit := b.commit, list := (b.log.drop (b.next.getD to 0 - b.base - 1).toNat).take 8 }
def feed (b : Bs) (to : Nat) : Bs := b.send (b.feedM to)
def feedTo (b : Bs) : Nat → Bs
  | 0 => b
  | n + 1 => if n = b.id then b.feedTo n else (b.feedTo n).feed n
def feedAll (b : Bs) : Bs := b.feedTo b.size
/-- How many nodes below n, itself left out, have a log that matches up to i. -/
def matched (b : Bs) (i : Int) : Nat → Nat
  | 0 => 0
  | n + 1 => b.matched i n + if n ≠ b.id ∧ i ≤ b.mat.getD n 0 then 1 else 0
abbrev most (b : Bs) (i : Int) : Prop := (b.size : Int) < 2 * (1 + b.matched i b.size) ∧ b.termAt i = b.term
/-- The greatest of the k entries behind what is committed that may be so too; 0: none. -/
def best (b : Bs) : Nat → Int
  | 0 => 0
  | k + 1 => if b.most (b.commit + 1 + k) then b.commit + 1 + k else b.best k
def settle (b : Bs) : Bs := if 0 < b.best (b.last - b.commit).toNat then ({ b with commit := b.best (b.last - b.commit).toNat }).feedAll else b
def votes (b : Bs) : Nat → Nat
  | 0 => 0
  | n + 1 => b.votes n + if b.has.getD n false then 1 else 0
def fill {α : Type} (l : List α) (n : Nat) (x : α) : List α := List.replicate n x ++ l.drop n
def leads (b : Bs) : Bs := { b with role := 2, lead := b.id, next := fill b.next b.size (b.last + 1), mat := fill b.mat b.size 0 }
def count (b : Bs) : Bs := if 2 * b.votes b.size ≤ b.size then b else ((b.leads.put (b.last + 1) [⟨b.term, 0, 0, noT⟩]).feedAll).settle
def askTo (b : Bs) : Nat → Bs
  | 0 => b
  | n + 1 => if n = b.id then b.askTo n else (b.askTo n).send { ms0 with kind := 1, to := n, index := b.last, prev := b.termAt b.last }
def stand (b : Bs) : Bs := { b with term := b.term + 1, vote := b.id, role := 1, lead := -1, touched := true, has := (List.replicate 5 false).set b.id true }
def timeout (b : Bs) : Bs × List Ms := if b.role = 2 then (b, []) else ((b.stand.askTo b.size).count).sent
def beat (b : Bs) : Bs × List Ms := (if b.role = 2 then b.feedAll else b).sent
def propose (b : Bs) (at' born : Int) (text : ByteArray) : Int × Bs × List Ms :=
  if b.role = 2 then ((b.put (b.last + 1) [⟨b.term, at', born, text⟩]).last, (((b.put (b.last + 1) [⟨b.term, at', born, text⟩]).feedAll).settle).sent) else (0, b, [])
abbrev strange (b : Bs) (m : Ms) : Prop := m.to ≠ b.id ∨ m.fr = b.id ∨ m.fr < 0 ∨ (b.size : Int) ≤ m.fr ∨ m.kind < 1 ∨ 5 < m.kind ∨ m.term < 1 ∨ 1099511627776 < m.term ∨ m.index < -1 ∨ (m.index = -1 ∧ m.kind ≠ 4) ∨ 1099511627776 < m.index ∨ m.prev < 0 ∨ 1099511627776 < m.prev ∨ m.commit < 0 ∨ 1099511627776 < m.commit
def newer (b : Bs) (m : Ms) : Bs := if b.term < m.term then { b with term := m.term, vote := -1, role := 0, lead := -1, touched := true } else b
abbrev grants (b : Bs) (m : Ms) : Prop := (b.vote = -1 ∨ b.vote = m.fr) ∧ ¬ (m.prev < b.termAt b.last ∨ (m.prev = b.termAt b.last ∧ m.index < b.last))
def ask (b : Bs) (m : Ms) : Bs := if b.grants m then ({ b with vote := m.fr, touched := true }).send { ms0 with kind := 2, to := m.fr, good := true } else b.send { ms0 with kind := 2, to := m.fr }
/-- The entries l, the first of them number i, are put where they are others. -/
def lay (b : Bs) (i : Int) : List En → Bs
  | [] => b
  | e :: l => if b.commit < i ∧ (b.last < i ∨ b.termAt i ≠ e.term) then b.put i (e :: l) else b.lay (i + 1) l
def reach (b : Bs) (c : Int) : Bs := if b.commit < c then { b with commit := c } else b
def entries (b : Bs) (m : Ms) : Bs :=
  if b.role = 2 then b else
  let c : Bs := { b with role := 0, lead := m.fr }
  if m.index + m.list.length ≤ b.commit then c.send { ms0 with kind := 4, to := m.fr, good := true, index := m.index + m.list.length }
  else if b.commit ≤ m.index ∧ b.termAt m.index ≠ m.prev then c.send { ms0 with kind := 4, to := m.fr, index := min b.last (m.index - 1) }
  else ((c.lay (m.index + 1) m.list).reach (min m.commit (m.index + m.list.length))).send { ms0 with kind := 4, to := m.fr, good := true, index := m.index + m.list.length }
def less (b : Bs) (f : Nat) (i : Int) : Bs := { b with next := b.next.set f (max (min (i + 1) (b.next.getD f 0 - 1)) (b.mat.getD f 0 + 1)) }
def more (b : Bs) (f : Nat) (i : Int) : Bs := { b with mat := b.mat.set f (max (b.mat.getD f 0) (min i b.last)), next := b.next.set f (max (b.mat.getD f 0) (min i b.last) + 1) }
def heard (b : Bs) (m : Ms) : Bs :=
  if b.role = 2 then
    (if m.good then
      (if b.mat.getD m.fr.toNat 0 < ((b.more m.fr.toNat m.index).settle).mat.getD m.fr.toNat 0 ∧ ((b.more m.fr.toNat m.index).settle).next.getD m.fr.toNat 0 ≤ ((b.more m.fr.toNat m.index).settle).last then ((b.more m.fr.toNat m.index).settle).feed m.fr.toNat else (b.more m.fr.toNat m.index).settle)
    else (b.less m.fr.toNat m.index).feed m.fr.toNat)
  else b
def rebase (b : Bs) (i term : Int) (snap : ByteArray) (rest : List En) : Bs := { b with base := i, baseTerm := term, snap := snap, log := rest, touched := true, whole := true }
def given (b : Bs) (m : Ms) : Bs :=
  if b.role = 2 then b else
  let c : Bs := { b with role := 0, lead := m.fr }
  (if b.commit < m.index then { c.rebase m.index m.prev m.snap (if b.termAt m.index = m.prev then b.log.drop (m.index - b.base).toNat else []) with commit := m.index } else c).send { ms0 with kind := 4, to := m.fr, good := true, index := m.index }
def vote' (b : Bs) (m : Ms) : Bs := if b.role = 1 ∧ m.good = true then ({ b with has := b.has.set m.fr.toNat true }).count else b
def old (b : Bs) (m : Ms) : Bs :=
  if m.kind = 1 then b.send { ms0 with kind := 2, to := m.fr } else if m.kind = 3 ∨ m.kind = 5 then b.send { ms0 with kind := 4, to := m.fr, index := b.last } else b
def act (b : Bs) (m : Ms) : Bs := if m.kind = 1 then b.ask m else if m.kind = 2 then b.vote' m else if m.kind = 3 then b.entries m else if m.kind = 4 then b.heard m else b.given m
def take (b : Bs) (m : Ms) : Bs × List Ms :=
  if b.strange m then (b, []) else if m.term < (b.newer m).term then ((b.newer m).old m).sent else ((b.newer m).act m).sent
def cut (b : Bs) (i : Int) (snap : ByteArray) : Bool × Bs := if b.base < i ∧ i ≤ b.commit then (true, b.rebase i (b.termAt i) snap (b.log.drop (i - b.base).toNat)) else (false, b)
def change (b : Bs) : De := if b.whole then ⟨b.term, b.vote, true, b.base, b.baseTerm, b.snap, b.base + 1, b.log⟩ else ⟨b.term, b.vote, false, 0, 0, noT, b.fr, b.log.drop (b.fr - b.base - 1).toNat⟩
def delta (b : Bs) : Option De × Bs := if b.touched then (some b.change, { b with touched := false, whole := false, fr := b.last + 1 }) else (none, b)
/-- A change may be laid upon a ballot. -/
abbrev may (b : Bs) (d : De) : Prop := 0 ≤ d.term ∧ d.term ≤ 2199023255552 ∧ -1 ≤ d.vote ∧ d.vote < b.size ∧ if d.whole then 0 ≤ d.base ∧ d.base ≤ 2199023255552 ∧ 0 ≤ d.baseTerm ∧ d.baseTerm ≤ 2199023255552 else b.base + 1 ≤ d.fr ∧ d.fr ≤ b.last + 1
def over (b : Bs) (d : De) : Bs := if d.whole then { b with term := d.term, vote := d.vote, base := d.base, baseTerm := d.baseTerm, snap := d.snap, log := d.list } else { b with term := d.term, vote := d.vote, log := b.log.take (d.fr - b.base - 1).toNat ++ d.list }
def overAll (b : Bs) : List De → Option Bs
  | [] => some b
  | d :: l => if b.may d then (b.over d).overAll l else none
def load (id size : Nat) (l : List De) : Option Bs := ((new id size).overAll l).map fun b => { b with commit := b.base, fr := b.last + 1 }
end Bs
end Go.Proofs.Ytmiagjcihmenfaa
