/- What stays of the memory; copy at rows. -/
import Derived.Test.YtcoaahlakkghhaaRows
import Derived.WalkKit
import Derived.WalkSpells
import Derived.WalkLawsBesides
import Derived.OwnWalk
import Derived.BigCall
import Derived.BigRegion
import Derived.Deep.QuietTactic
import Derived.BigQuiet
import Derived.Deep.OwnRows
import Derived.Deep.RegionWith
import Derived.Deep.RegionLaw
import Derived.Deep.RegionHeld3
import Derived.Laws.OwnMore
import Derived.Laws.CopyRow
import Derived.Laws.CopyOwn
import Derived.Maps.AppendAt
import Derived.Lib.Hide
import Derived.Lib.Bytealg
import Derived.Orders
import Derived.Laws.World
namespace Go.Proofs.Ytcoaahlakkghhaa
open Go.RowKit

/-- All blocks but those of S are as they were. -/
structure Fr (w w' : World) (S : Nat → Prop) : Prop where
  os : w'.os = w.os
  tape : w'.tape = w.tape
  output : w'.output = w.output
  size : w.heap.size ≤ w'.heap.size
  block : ∀ k, k < w.heap.size → ¬ S k → w'.heap[k]? = w.heap[k]?
theorem Fr.refl (w : World) (S : Nat → Prop) : Fr w w S := ⟨rfl, rfl, rfl, Nat.le_refl _, fun _ _ _ => rfl⟩
theorem Fr.trans {w w1 w2 : World} {S : Nat → Prop} (h : Fr w w1 S) (k : Fr w1 w2 S) : Fr w w2 S :=
  ⟨k.os.trans h.os, k.tape.trans h.tape, k.output.trans h.output, Nat.le_trans h.size k.size, fun j hj hr => (k.block j (Nat.lt_of_lt_of_le hj h.size) hr).trans (h.block j hj hr)⟩
/-- A second step may also change what is new. -/
theorem Fr.step {w w1 w2 : World} {S T : Nat → Prop} (h : Fr w w1 S) (k : Fr w1 w2 T) (hT : ∀ j, T j → S j ∨ w.heap.size ≤ j) : Fr w w2 S :=
  ⟨k.os.trans h.os, k.tape.trans h.tape, k.output.trans h.output, Nat.le_trans h.size k.size, fun j hj hr => (k.block j (Nat.lt_of_lt_of_le hj h.size) (fun q => by rcases hT j q with q | q; exact hr q; omega)).trans (h.block j hj hr)⟩
theorem Fr.mono {w w' : World} {S T : Nat → Prop} (h : Fr w w' S) (hT : ∀ j, S j → T j) : Fr w w' T :=
  ⟨h.os, h.tape, h.output, h.size, fun j hj hr => h.block j hj (fun q => hr (hT j q))⟩
theorem Fr.alloc {w w1 : World} {S : Nat → Prop} (h : Fr w w1 S) (o : Obj) : Fr w (w1.alloc o) S :=
  ⟨h.os, h.tape, h.output, Nat.le_trans h.size (by simp), fun j hj hr => (Below.heap_alloc w1 o j (Nat.lt_of_lt_of_le hj h.size)).trans (h.block j hj hr)⟩
theorem Fr.set {w w1 : World} {S : Nat → Prop} (h : Fr w w1 S) {a : Addr} (ha : S a.block ∨ w.heap.size ≤ a.block) (u : Value) : Fr w (w1.setCell a u) S :=
  ⟨h.os, h.tape, h.output, Nat.le_trans h.size (by simp [World.setCell]), fun j hj hr => (Below.heap_setCell w1 a u j (by rintro rfl; rcases ha with ha | ha; exact hr ha; omega)).trans (h.block j hj hr)⟩
theorem Fr.drewN {w w1 : World} {S : Nat → Prop} (h : Fr w w1 S) (k : Nat) : Fr w (w1.drewN k) S := ⟨h.os, h.tape, h.output, h.size, h.block⟩
theorem Fr.grown {w w1 w2 : World} {S : Nat → Prop} {row : Option Nat} (h : Fr w w1 S) (k : w1.grownBy w2 row) (hr : ∀ k, row = some k → S k ∨ w.heap.size ≤ k) : Fr w w2 S :=
  ⟨k.os.trans h.os, k.tape.trans h.tape, k.output.trans h.output, Nat.le_trans h.size k.size, fun j hj hrj => (k.block j (Nat.lt_of_lt_of_le hj h.size) (fun e => by rcases hr j e.symm with q | q; exact hrj q; omega)).trans (h.block j hj hrj)⟩
theorem Fr.below {w w1 w2 : World} {S : Nat → Prop} (h : Fr w w1 S) (k : Below w1.heap.size w1 w2) : Fr w w2 S :=
  ⟨k.os.trans h.os, k.tape.trans h.tape, k.output.trans h.output, Nat.le_trans h.size k.size, fun j hj hrj => (k.block j (Nat.lt_of_lt_of_le hj h.size)).trans (h.block j hj hrj)⟩
theorem Fr.toBelow {w w' : World} {S : Nat → Prop} {B : Nat} (h : Fr w w' S) (hS : ∀ k, k < B → ¬ S k) (hB : B ≤ w.heap.size) : Below B w w' :=
  ⟨h.os, h.tape, h.output, h.size, fun k hk => h.block k (by omega) (hS k hk)⟩
theorem Fr.ofBelow {w w' : World} (S : Nat → Prop) (h : Below w.heap.size w w') : Fr w w' S := ⟨h.os, h.tape, h.output, h.size, fun k hk _ => h.block k hk⟩
theorem Fr.fresh {w w' : World} {S : Nat → Prop} (h : Fr w w' S) (hS : ∀ k, S k → w.heap.size ≤ k) : Below w.heap.size w w' :=
  ⟨h.os, h.tape, h.output, h.size, fun k hk => h.block k hk (fun q => by have := hS k q; omega)⟩
/-- S, and what is new. -/
def Gro (S : Nat → Prop) (w w' : World) : Nat → Prop := fun k => S k ∨ (w.heap.size ≤ k ∧ k < w'.heap.size)

theorem cell_blk {w : World} {b : Nat} {cs : Array Value} {t : TypeId} {fr : Nat × Nat} (h : w.heap[b]? = some (.cells cs t fr)) (i : Nat) : w.cell? ⟨b, i, none⟩ = cs[i]? := by simp [World.cell?, h]
theorem frozen_blk {w : World} {b : Nat} {cs : Array Value} {t : TypeId} (h : w.heap[b]? = some (.cells cs t (0, 0))) (i : Nat) : w.frozen? ⟨b, i, none⟩ = false := by simp [World.frozen?, h]
theorem set_blk {w : World} {b i : Nat} {cs : Array Value} {t : TypeId} {fr : Nat × Nat} (h : w.heap[b]? = some (.cells cs t fr)) (v : Value) : (w.setCell ⟨b, i, none⟩ v).heap[b]? = some (.cells (cs.setIfInBounds i v) t fr) := by
  have hlt := (Array.getElem?_eq_some_iff.1 h).1
  simp [World.setCell, Array.getElem?_modify, h]
theorem set_other {w : World} {a : Addr} {k : Nat} (v : Value) (h : k ≠ a.block) : (w.setCell a v).heap[k]? = w.heap[k]? := Below.heap_setCell w a v k h
theorem blk_lt {w : World} {b : Nat} {o : Obj} (h : w.heap[b]? = some o) : b < w.heap.size := (Array.getElem?_eq_some_iff.1 h).1
theorem tag_ne {w : World} {a b : Nat} {cs cs' : Array Value} {t t' : TypeId} {fr fr' : Nat × Nat} (h : w.heap[a]? = some (.cells cs t fr)) (h' : w.heap[b]? = some (.cells cs' t' fr')) (ht : t ≠ t') : a ≠ b := by
  rintro rfl
  rw [h] at h'
  simp only [Option.some.injEq, Obj.cells.injEq] at h'
  exact ht h'.2.1
theorem own_like {w w' : World} {base : Nat} {e : TypeId} {size : Nat} {v : Value} {n : Nat} {xs : List Value} (h : w.ownsRow base e size v n xs) (hb : ∀ k, v.ownBlock = some k → w'.heap[k]? = w.heap[k]?) : w'.ownsRow base e size v n xs := by
  refine ⟨h.1, ?_⟩
  rcases h.2 with hn | ⟨g, cap, cur, rfl, hb0, hgg, rest⟩
  · exact .inl hn
  · exact .inr ⟨g, cap, cur, rfl, hb0, (hb g rfl).trans hgg, rest⟩
theorem undrew {w w' : World} {r : Option Nat} (h : w.drew.grownBy w' r) : w.grownBy w' r := ⟨h.os, h.tape, h.output, h.size, h.block⟩

theorem gro_fresh {w0 w1 w2 : World} {T : Nat → Prop} (hT : ∀ k, T k → w0.heap.size ≤ k) (hs : w0.heap.size ≤ w1.heap.size) : ∀ k, Gro T w1 w2 k → w0.heap.size ≤ k := by
  intro k q
  rcases q with q | q
  · exact hT k q
  · omega
theorem fr_below {w0 w1 w2 : World} {T : Nat → Prop} (hT : ∀ k, T k → w0.heap.size ≤ k) (hb : Below w0.heap.size w0 w1) (hf : Fr w1 w2 T) : Below w0.heap.size w0 w2 :=
  hb.trans (hf.toBelow (fun k hk q => by have := hT k q; omega) hb.size)
theorem own_mono {w : World} {B1 B2 : Nat} {v : Value} {e : TypeId} {c m : Nat} {xs : List Value} (h : w.ownsRow B2 e c v m xs) (hB : B1 ≤ B2) : w.ownsRow B1 e c v m xs := by
  rcases h with ⟨h1, h2 | ⟨g, cap, cur, hv, hg, hr⟩⟩
  · exact ⟨h1, .inl h2⟩
  · exact ⟨h1, .inr ⟨g, cap, cur, hv, Nat.le_trans hB hg, hr⟩⟩
theorem own_below {B : Nat} {e : TypeId} {k : Nat} {v : Value} {n : Nat} {xs : List Value} {w w' : World} (h : w.ownsRow B e k v n xs) (hb : Below w.heap.size w w') : w'.ownsRow B e k v n xs :=
  own_like h (fun j hj => hb.block j (h.lt j hj).2)
theorem row_keep {w w' : World} {B : Nat} {S : Nat → Prop} {v : Value} {e : TypeId} {c m : Nat} {xs : List Value} (h : w.ownsRow B e c v m xs) (hf : Fr w w' S) (hs : ∀ j, v.ownBlock = some j → ¬ S j) : w'.ownsRow B e c v m xs :=
  own_like h (fun j hj => hf.block j (h.lt j hj).2 (hs j hj))
theorem below_draw {w w1 : World} (h : Below w.heap.size w w1) (k : Nat) : Below w.heap.size w (w1.drewN k) := ⟨h.os, h.tape, h.output, h.size, h.block⟩

theorem own_shape {w : World} {B : Nat} {v : Value} {e : TypeId} {c m : Nat} {xs : List Value} (h : w.ownsRow B e c v m xs) : ∃ ad cap, v = .slice ad m cap := by
  rcases h.2 with ⟨hv, h0⟩ | ⟨g, cap, cur, hv, _⟩
  · exact ⟨none, 0, by rw [hv, h0]⟩
  · exact ⟨_, cap, hv⟩

theorem add_at (g o k : Nat) : (⟨g, o, none⟩ : Addr).add k = ⟨g, o + k, none⟩ := by unfold Addr.add; split <;> simp_all

/-! ### copy at elements of c cells -/
theorem run_copy_rowN {P : Program} (w : World) (dT sT ty elem : TypeId) (c g o dLen dCap : Nat) (a : Addr) (sLen sCap : Nat) (cur : Array Value) (t : TypeId) (cs : List Value)
    (hu : P.underlying dT = some (.slice elem)) (hs : (P.info? elem).map (·.size) = some c)
    (hg : w.heap[g]? = some (.cells cur t (0, 0))) (hn : cs.length = Nat.min sLen dLen * c)
    (hsrc : ∀ j v, cs[j]? = some v → w.cell? (a.add j) = some v) (hfit : o + cs.length ≤ cur.size) (h1 : ∀ v ∈ cs, v.oneCell' = true) :
    (Builtin.copy_ #[dT, sT] ty #[.slice (some ⟨g, o, none⟩) dLen dCap, .slice (some a) sLen sCap]).run P w =
      .ok (goInt (Nat.min sLen dLen)) (w.setRow g (cur.toList.take o ++ cs ++ cur.toList.drop (o + cs.length)).toArray) := by
  have hl := run_loadCells_list (P := P) w a cs hsrc
  have hst := run_storeCells_at P g o t cs 0 cur w hg (by simpa using hfit) h1
  cases hq : P.info? elem with
  | none => simp [hq] at hs
  | some i =>
    have hi : i.size = c := by simpa [hq] using hs
    simp [Builtin.copy_, run_underlying hu, Builtin.lenOf, Builtin.firstCells, sizeOf, typeInfo, hq, hi, ← hn, hl, hst]
theorem run_copy_noneN {P : Program} (w : World) (dT sT ty elem : TypeId) (c : Nat) (d a : Option Addr) (dLen dCap sLen sCap : Nat) (hu : P.underlying dT = some (.slice elem)) (hs : (P.info? elem).map (·.size) = some c) (hn : Nat.min sLen dLen = 0) :
    (Builtin.copy_ #[dT, sT] ty #[.slice d dLen dCap, .slice a sLen sCap]).run P w = .ok (goInt 0) w := by
  cases hq : P.info? elem with
  | none => simp [hq] at hs
  | some i =>
    have hl : ∀ (x : Addr), (loadCells x 0).run P w = .ok #[] w := fun x => by simpa using run_loadCells_list (P := P) w x [] (by simp)
    cases d <;> cases a <;> simp [Builtin.copy_, run_underlying hu, Builtin.lenOf, Builtin.firstCells, sizeOf, typeInfo, hq, hn, storeCells, hl]
/-- One step of a region that draws: a copy within a row. -/
theorem step_copyN {P : Program} {ops : Array Oper} {o : Oper} {a : Act} {w : World} {K : Act → World → Prop} {Q : Exit → Act → World → Prop} {E : Prop} (hw : Region.wanted o (yielded ops a.tmps) = true) (d s : Operand) (dT sT : TypeId)
    (ho : o.op = .call { callee := .builtin .copy, args := #[d, s], argTypes := #[dT, sT] }) (elem : TypeId) (c : Nat) (hu : P.underlying dT = some (.slice elem)) (hsz : (P.info? elem).map (·.size) = some c)
    (dp sp : Option Addr) (dLen dCap sLen sCap : Nat) (hd : a.eval d = .slice dp dLen dCap) (hs : a.eval s = .slice sp sLen sCap)
    (g off : Nat) (cur : Array Value) (t : TypeId) (hg : w.heap[g]? = some (.cells cur t (0, 0))) (cs : List Value) (m : Nat) (hm : m = Nat.min sLen dLen) (hn : cs.length = m * c)
    (hpos : 0 < m → dp = some ⟨g, off, none⟩ ∧ ∃ ad, sp = some ad ∧ ∀ j v, cs[j]? = some v → w.cell? (ad.add j) = some v)
    (hfit : off + cs.length ≤ cur.size) (h1 : ∀ v ∈ cs, v.oneCell' = true)
    (h : ∀ w', Hid (w'.heap[g]? = some (.cells (splice cur.toList off cs).toArray t (0, 0))) → Fr w w' (fun k => k = g) → K (a.put o.dst (goInt m)) w') :
    if Region.wanted o (yielded ops a.tmps) = true then Oper.wp P o a w K Q else E := by
  rw [if_pos hw]
  by_cases h0 : m = 0
  · subst h0
    have hc0 : cs = [] := List.eq_nil_of_length_eq_zero (by simpa using hn)
    subst hc0
    have hrun := run_copy_noneN (P := P) w dT sT o.type elem c dp sp dLen dCap sLen sCap hu hsz hm.symm
    unfold Oper.wp
    simp [execOp, ho, resolve, invoke, builtin, hd, hs, hrun, Result.andThen]
    exact h w (show _ = _ by simpa [splice] using hg) (Fr.refl _ _)
  · obtain ⟨rfl, ad, rfl, hsrc⟩ := hpos (by omega)
    have hrun := run_copy_rowN (P := P) w dT sT o.type elem c g off dLen dCap ad sLen sCap cur t cs hu hsz hg (by rw [hn, hm]) hsrc hfit h1
    rw [← hm] at hrun
    unfold Oper.wp
    simp only [execOp, ho, resolve, invoke, builtin, hd, hs, List.map_toArray, List.map_cons, List.map_nil, Sem.run_bind, Sem.run_pure, Result.andThen_ok, hrun]
    refine h _ (show _ = _ by simpa [splice] using setRow_heap w g _ _ t _ hg) ⟨rfl, rfl, rfl, by simp [World.setRow], fun k _ q => setRow_other w g k _ q⟩
theorem step_run {P : Program} {w w' : World} {ops : Array Oper} {o : Oper} {a : Act} {K : Act → World → Prop} {Q : Exit → Act → World → Prop} {E : Prop} {t u : TypeId} {v' : Value} (s x : Operand) (hw : Region.wanted o (yielded ops a.tmps) = true)
    (ho : o.op = .call { callee := .builtin .append, args := #[s, x], argTypes := #[t, u] }) (hrun : (Builtin.append_ #[t, u] o.type #[a.eval s, a.eval x]).run P w = .ok v' w')
    (h : K (a.put o.dst v') w') : if Region.wanted o (yielded ops a.tmps) = true then Oper.wp P o a w K Q else E := by
  rw [if_pos hw]
  unfold Oper.wp execOp
  simp only [ho, resolve, invoke, builtin, Sem.run_bind, Sem.run_pure, Result.andThen_ok, List.map_toArray, List.map_cons, List.map_nil, hrun]
  exact h

end Go.Proofs.Ytcoaahlakkghhaa
/- Keys and their versions, plain. -/
namespace Go.Proofs.Ytcoaahlakkghhaa

theorem cb_anti : ∀ a b : List UInt8, Lib.compareBytes b a = - Lib.compareBytes a b
  | [], [] => rfl
  | [], _ :: _ => rfl
  | _ :: _, [] => rfl
  | x :: a, y :: b => by
    have ih := cb_anti a b
    simp only [Lib.compareBytes]
    by_cases h1 : x < y
    · have h2 : ¬ y < x := UInt8.lt_asymm h1
      simp [h1, h2]
    · by_cases h2 : y < x
      · simp [h1, h2]
      · simp [h1, h2, ih]

theorem cb_zero : ∀ a b : List UInt8, Lib.compareBytes a b = 0 ↔ a = b
  | [], [] => by simp [Lib.compareBytes]
  | [], _ :: _ => by simp [Lib.compareBytes]
  | _ :: _, [] => by simp [Lib.compareBytes]
  | x :: a, y :: b => by
    have ih := cb_zero a b
    simp only [Lib.compareBytes]
    by_cases h1 : x < y
    · have : x ≠ y := fun e => UInt8.lt_irrefl y (e ▸ h1)
      simp [h1, this]
    · by_cases h2 : y < x
      · have : x ≠ y := fun e => UInt8.lt_irrefl x (e ▸ h2)
        simp [h1, h2, this]
      · have : x = y := UInt8.le_antisymm (UInt8.not_lt.1 h2) (UInt8.not_lt.1 h1)
        subst this
        simp [ih]

theorem cb_rng : ∀ a b : List UInt8, -1 ≤ Lib.compareBytes a b ∧ Lib.compareBytes a b ≤ 1
  | [], [] => by simp [Lib.compareBytes]
  | [], _ :: _ => by simp [Lib.compareBytes]
  | _ :: _, [] => by simp [Lib.compareBytes]
  | x :: a, y :: b => by
    have ih := cb_rng a b
    simp only [Lib.compareBytes]
    split
    · omega
    · split
      · omega
      · exact ih

theorem cb_tr : ∀ a b d : List UInt8, Lib.compareBytes a b ≤ 0 → Lib.compareBytes b d ≤ 0 → Lib.compareBytes a d ≤ 0
  | [], _, [] => by simp [Lib.compareBytes]
  | [], _, _ :: _ => by simp [Lib.compareBytes]
  | _ :: _, [], _ => by simp [Lib.compareBytes]
  | _ :: _, _ :: _, [] => by simp [Lib.compareBytes]
  | x :: a, y :: b, z :: d => by
    have ih := cb_tr a b d
    simp only [Lib.compareBytes]
    intro h1 h2
    by_cases hxy : x < y
    · by_cases hyz : y < z
      · have : x < z := UInt8.lt_trans hxy hyz
        simp [this]
      · by_cases hzy : z < y
        · simp [hyz, hzy] at h2
        · have : y = z := UInt8.le_antisymm (UInt8.not_lt.1 hzy) (UInt8.not_lt.1 hyz)
          subst this
          simp [hxy]
    · by_cases hyx : y < x
      · simp [hxy, hyx] at h1
      · have : x = y := UInt8.le_antisymm (UInt8.not_lt.1 hyx) (UInt8.not_lt.1 hxy)
        subst this
        simp only [UInt8.lt_irrefl, if_false] at h1
        by_cases hyz : x < z
        · simp [hyz]
        · by_cases hzy : z < x
          · simp [hyz, hzy] at h2
          · simp only [hyz, hzy, if_false] at h2 ⊢
            exact ih h1 h2


theorem cb_less : ∀ x y : List UInt8, Op.bytesLess x y = decide (Lib.compareBytes x y < 0)
  | [], [] => rfl
  | _ :: _, [] => rfl
  | [], _ :: _ => rfl
  | x :: a, y :: b => by
    have ih := cb_less a b
    simp only [Op.bytesLess, Lib.compareBytes, ih]
    by_cases h1 : x < y
    · simp [h1]
    · by_cases h2 : y < x
      · have h3 : ¬ x = y := fun e => UInt8.lt_irrefl x (e ▸ h2)
        simp [h1, h2, h3]
      · have : x = y := UInt8.le_antisymm (UInt8.not_lt.1 h2) (UInt8.not_lt.1 h1)
        subst this
        simp [UInt8.lt_irrefl]
/-- How two keys stand. -/
def cb (a b : ByteArray) : Int := Lib.compareBytes a.data.toList b.data.toList
theorem less_eq (a b : ByteArray) : Op.bytesLess a.toList b.toList = decide (cb a b < 0) := by
  rw [cb_less, ByteArray.toList_eq, ByteArray.toList_eq]
  rfl
theorem key_inj {a b : ByteArray} (h : a.data.toList = b.data.toList) : a = b := by
  cases a; cases b
  simpa [Array.toList_inj] using h
theorem same_eq (a b : ByteArray) : (a.toList == b.toList) = decide (a = b) := by
  rw [ByteArray.toList_eq, ByteArray.toList_eq]
  by_cases h : a = b
  · subst h
    simp
  · simp only [h, decide_false]
    rw [beq_eq_false_iff_ne]
    exact fun e => h (key_inj e)
theorem cb_self (a : ByteArray) : cb a a = 0 := (cb_zero _ _).2 rfl
theorem cb_is {a b : ByteArray} : cb a b = 0 ↔ a = b := ⟨fun h => key_inj ((cb_zero _ _).1 h), fun h => by subst h; exact cb_self a⟩
theorem cb_turn (a b : ByteArray) : cb b a = - cb a b := cb_anti _ _
theorem cb_le {a b c : ByteArray} (h1 : cb a b ≤ 0) (h2 : cb b c ≤ 0) : cb a c ≤ 0 := cb_tr _ _ _ h1 h2
theorem cb_lt {a b c : ByteArray} (h1 : cb a b < 0) (h2 : cb b c ≤ 0) : cb a c < 0 := by
  have h := cb_le (by omega : cb a b ≤ 0) h2
  by_cases z : cb a c = 0
  · have e := cb_is.1 z
    subst e
    have := cb_turn a b
    omega
  · omega
theorem cb_lt' {a b c : ByteArray} (h1 : cb a b ≤ 0) (h2 : cb b c < 0) : cb a c < 0 := by
  have h := cb_le h1 (by omega : cb b c ≤ 0)
  by_cases z : cb a c = 0
  · have e := cb_is.1 z
    subst e
    have := cb_turn a b
    omega
  · omega

/-- A version. -/
structure Ve where
  ts : Int
  val : ByteArray
  dead : Bool
/-- A key's versions. -/
structure Rw where
  key : ByteArray
  list : List Ve
/-- A hit. -/
structure Hi where
  key : ByteArray
  ts : Int
  val : ByteArray
abbrev Sorted (R : List Rw) : Prop := R.Pairwise (fun a b => cb a.key b.key < 0)
structure Rise (l : List Ve) : Prop where
  ne : l ≠ []
  up : l.Pairwise (fun a b => a.ts < b.ts)
  lo : ∀ v ∈ l, 1 ≤ v.ts
structure Okr (R : List Rw) : Prop where
  sorted : Sorted R
  rise : ∀ r ∈ R, Rise r.list
/-- Where a key stands. -/
def pk (K : List ByteArray) (k : ByteArray) : Nat := K.findIdx (fun x => decide (¬ cb x k < 0))
def place (R : List Rw) (k : ByteArray) : Nat := pk (R.map Rw.key) k
def inn {α : Type} (l : List α) (i : Nat) (x : α) : List α := l.take i ++ x :: l.drop i
def newest (l : List Ve) : Int := match l.getLast? with
  | some v => v.ts
  | none => 0
def newR (R : List Rw) (k : ByteArray) : Int := match R[place R k]? with
  | some r => if r.key = k then newest r.list else 0
  | none => 0
def putE (R : List Rw) (k : ByteArray) (v : Ve) : Int := if v.ts < 1 then 1 else if v.ts ≤ newR R k then 120 else 0
def putR (R : List Rw) (k : ByteArray) (v : Ve) : List Rw := if v.ts < 1 then R else match R[place R k]? with
  | some r => if r.key = k then (if v.ts ≤ newest r.list then R else R.set (place R k) ⟨k, r.list ++ [v]⟩) else inn R (place R k) ⟨k, [v]⟩
  | none => inn R (place R k) ⟨k, [v]⟩
def tops (l : List Ve) (t : Int) : Option Ve := (l.filter (fun v => decide (v.ts ≤ t))).getLast?
def hit (t : Int) (r : Rw) : Option Hi := match tops r.list t with
  | some v => if v.dead then none else some ⟨r.key, v.ts, v.val⟩
  | none => none
def inSpan (a b k : ByteArray) : Bool := decide (cb a k ≤ 0) && decide (cb k b < 0)
def span (R : List Rw) (a b : ByteArray) (t : Int) : List Hi := (R.filter (fun r => inSpan a b r.key)).filterMap (hit t)

/-! ### Where a key stands -/
theorem pk_le (K : List ByteArray) (k : ByteArray) : pk K k ≤ K.length := List.findIdx_le_length
theorem pk_lt {K : List ByteArray} {k : ByteArray} {i : Nat} (h : i < pk K k) (hi : i < K.length) : cb K[i] k < 0 := by
  have := List.not_of_lt_findIdx h
  simpa using this
theorem pk_at {K : List ByteArray} {k : ByteArray} (h : pk K k < K.length) : ¬ cb K[pk K k] k < 0 := by
  have := List.findIdx_getElem (xs := K) (p := fun x => decide (¬ cb x k < 0)) (w := h)
  exact of_decide_eq_true this
theorem pk_ge {K : List ByteArray} {k : ByteArray} (hs : K.Pairwise (fun a b => cb a b < 0)) {i : Nat} (h : pk K k ≤ i) (hi : i < K.length) : ¬ cb K[i] k < 0 := by
  have h0 := pk_at (K := K) (k := k) (by omega)
  by_cases e : pk K k = i
  · simpa [e] using h0
  · have h1 := List.pairwise_iff_getElem.1 hs (pk K k) i (by omega) hi (by omega)
    intro h2
    have := cb_lt h1 (by omega : cb K[i] k ≤ 0)
    omega
theorem pk_is {K : List ByteArray} {k : ByteArray} {s : Nat} (hs : s ≤ K.length) (h1 : ∀ i (h : i < K.length), i < s → cb K[i] k < 0) (h2 : ∀ h : s < K.length, ¬ cb K[s] k < 0) : pk K k = s := by
  rcases Nat.lt_trichotomy (pk K k) s with q | q | q
  · exact absurd (h1 _ (by omega) q) (pk_at (by omega))
  · exact q
  · have hl : s < K.length := by have := pk_le K k; omega
    exact absurd (pk_lt q hl) (h2 hl)
theorem place_le (R : List Rw) (k : ByteArray) : place R k ≤ R.length := by
  have := pk_le (R.map Rw.key) k
  rwa [List.length_map] at this
theorem place_lt {R : List Rw} {k : ByteArray} {i : Nat} (h : i < place R k) (hi : i < R.length) : cb R[i].key k < 0 := by
  have := pk_lt (K := R.map Rw.key) h (by rw [List.length_map]; exact hi)
  simpa using this
theorem sorted_keys {R : List Rw} (h : Sorted R) : (R.map Rw.key).Pairwise (fun a b => cb a b < 0) := by
  rw [List.pairwise_map]
  exact h
theorem place_ge {R : List Rw} {k : ByteArray} (hs : Sorted R) {i : Nat} (h : place R k ≤ i) (hi : i < R.length) : ¬ cb R[i].key k < 0 := by
  have := pk_ge (sorted_keys hs) (k := k) h (by rw [List.length_map]; exact hi)
  simpa using this
theorem place_is {R : List Rw} {k : ByteArray} {s : Nat} (hs : s ≤ R.length) (h1 : ∀ i (h : i < R.length), i < s → cb R[i].key k < 0) (h2 : ∀ h : s < R.length, ¬ cb R[s].key k < 0) : place R k = s :=
  pk_is (by rw [List.length_map]; exact hs) (fun i h q => by simpa using h1 i (by simpa using h) q) (fun h => by simpa using h2 (by simpa using h))

/-! ### What a put leaves -/
theorem inn_sorted {R : List Rw} {k : ByteArray} (hs : Sorted R) (hn : ∀ r, R[place R k]? = some r → r.key ≠ k) (l : List Ve) : Sorted (inn R (place R k) ⟨k, l⟩) := by
  unfold inn
  have h1 : Sorted (R.take (place R k)) := hs.sublist (List.take_sublist _ _)
  have h2 : Sorted (R.drop (place R k)) := hs.sublist (List.drop_sublist _ _)
  have a1 : ∀ a ∈ R.take (place R k), cb a.key k < 0 := by
    intro a ha
    obtain ⟨i, hi, e⟩ := List.getElem_of_mem ha
    rw [List.getElem_take] at e
    rw [← e]
    rw [List.length_take] at hi
    exact place_lt (by omega) (by omega)
  have a2 : ∀ b ∈ R.drop (place R k), cb k b.key < 0 := by
    intro b hb
    obtain ⟨i, hi, e⟩ := List.getElem_of_mem hb
    rw [List.getElem_drop] at e
    rw [List.length_drop] at hi
    have h0 : ¬ cb R[place R k].key k < 0 := place_ge hs (Nat.le_refl _) (by omega)
    have hne : R[place R k].key ≠ k := hn _ (List.getElem?_eq_getElem (by omega))
    have h3 : cb k R[place R k].key < 0 := by
      have := cb_turn R[place R k].key k
      have : cb R[place R k].key k ≠ 0 := fun z => hne (cb_is.1 z)
      omega
    rw [← e]
    by_cases z : i = 0
    · subst z
      exact h3
    · have h4 := List.pairwise_iff_getElem.1 hs (place R k) (place R k + i) (by omega) (by omega) (by omega)
      exact cb_lt h3 (by omega)
  refine List.pairwise_append.2 ⟨h1, List.pairwise_cons.2 ⟨a2, h2⟩, fun a ha b hb => ?_⟩
  rcases List.mem_cons.1 hb with rfl | hb
  · exact a1 a ha
  · exact cb_lt (a1 a ha) (by have := a2 b hb; omega)
theorem rise_snoc {l : List Ve} {v : Ve} (h : Rise l) (hv : newest l < v.ts) : Rise (l ++ [v]) := by
  have hl : ∀ u ∈ l, u.ts ≤ newest l := by
    intro u hu
    unfold newest
    rw [List.getLast?_eq_some_getLast h.ne]
    obtain ⟨i, hi, e⟩ := List.getElem_of_mem hu
    rw [← e, List.getLast_eq_getElem]
    by_cases q : i = l.length - 1
    · subst q
      exact Int.le_refl _
    · have := List.pairwise_iff_getElem.1 h.up i (l.length - 1) hi (by omega) (by omega)
      show _ ≤ (l[l.length - 1]).ts
      omega
  refine ⟨by simp, List.pairwise_append.2 ⟨h.up, List.pairwise_singleton _ _, fun a ha b hb => ?_⟩, fun u hu => ?_⟩
  · rw [List.mem_singleton.1 hb]
    have := hl a ha
    omega
  · rcases List.mem_append.1 hu with q | q
    · exact h.lo u q
    · rw [List.mem_singleton.1 q]
      have h0 := h.lo _ (List.getLast_mem h.ne)
      have h1 := hl _ (List.getLast_mem h.ne)
      omega
theorem rise_one {v : Ve} (h : 1 ≤ v.ts) : Rise [v] := ⟨by simp, List.pairwise_singleton _ _, fun u hu => by rw [List.mem_singleton.1 hu]; exact h⟩
theorem put_ok {R : List Rw} (h : Okr R) (k : ByteArray) (v : Ve) : Okr (putR R k v) := by
  unfold putR
  split
  · exact h
  · rename_i hv
    have hnew : ∀ (hn : ∀ r, R[place R k]? = some r → r.key ≠ k), Okr (inn R (place R k) ⟨k, [v]⟩) := fun hn => by
      refine ⟨inn_sorted h.sorted hn [v], fun r hr => ?_⟩
      unfold inn at hr
      rcases List.mem_append.1 hr with q | q
      · exact h.rise r (List.mem_of_mem_take q)
      · rcases List.mem_cons.1 q with rfl | q
        · exact rise_one (by show 1 ≤ v.ts; omega)
        · exact h.rise r (List.mem_of_mem_drop q)
    cases hr : R[place R k]? with
    | none => exact hnew (fun r q => by rw [hr] at q; cases q)
    | some r =>
      simp only
      by_cases hk : r.key = k
      · rw [if_pos hk]
        split
        · exact h
        · rename_i ht
          obtain ⟨hl, e⟩ := List.getElem?_eq_some_iff.1 hr
          have hrr := h.rise r (by rw [← e]; exact List.getElem_mem hl)
          refine ⟨?_, fun q hq => ?_⟩
          · refine List.pairwise_iff_getElem.2 (fun i j hi hj hij => ?_)
            have h0 := List.pairwise_iff_getElem.1 h.sorted i j (by simpa using hi) (by simpa using hj) hij
            have key : ∀ m (hm : m < (R.set (place R k) ⟨k, r.list ++ [v]⟩).length), ((R.set (place R k) ⟨k, r.list ++ [v]⟩)[m]).key = (R[m]'(by simpa using hm)).key := by
              intro m hm
              rw [List.getElem_set]
              split
              · rename_i z
                subst z
                rw [e]
                exact hk.symm
              · rfl
            rw [key, key]
            exact h0
          · rcases List.mem_or_eq_of_mem_set hq with q1 | q1
            · exact h.rise q q1
            · rw [q1]
              exact rise_snoc hrr (by omega)
      · rw [if_neg hk]
        exact hnew (fun r' q => by rw [hr] at q; cases q; exact hk)
theorem put_len (R : List Rw) (k : ByteArray) (v : Ve) : (putR R k v).length ≤ R.length + 1 := by
  have hi : ∀ x : Rw, (inn R (place R k) x).length ≤ R.length + 1 := fun x => by
    unfold inn
    simp only [List.length_append, List.length_cons, List.length_take, List.length_drop]
    omega
  unfold putR
  split
  · omega
  · split
    · split
      · split
        · omega
        · simp
      · exact hi _
    · exact hi _
end Go.Proofs.Ytcoaahlakkghhaa
/- A region whose order is drawn: what each operation leaves is said once, whatever order is drawn. -/
namespace Go.Proofs.Ytcoaahlakkghhaa

def left (l : Array Bool) : Nat := l.toList.countP (fun b => !b)

theorem countP_set_true : ∀ (l : List Bool) (i : Nat), l[i]? = some false → (l.set i true).countP (fun b => !b) + 1 = l.countP (fun b => !b)
  | [], i, h => by simp at h
  | b :: l, 0, h => by
    simp at h
    subst h
    simp
  | b :: l, i + 1, h => by
    simp at h
    have := countP_set_true l i h
    simp only [List.set_cons_succ, List.countP_cons]
    omega

theorem countP_pos_of : ∀ (l : List Bool) (i : Nat), l[i]? = some false → 1 ≤ l.countP (fun b => !b)
  | [], i, h => by simp at h
  | b :: l, 0, h => by
    simp at h
    subst h
    simp
  | b :: l, i + 1, h => by
    simp at h
    have := countP_pos_of l i h
    simp only [List.countP_cons]
    omega

theorem getD_false {l : Array Bool} {i : Nat} (h : l.getD i true = false) : l.toList[i]? = some false := by
  rw [Array.getElem?_toList]
  rw [Array.getD_eq_getD_getElem?] at h
  cases hh : l[i]? with
  | none => rw [hh] at h; simp at h
  | some b => rw [hh] at h; simp at h; rw [h]

section
variable {P : Program} {ops : Array Oper} {Q : Exit → Act → World → Prop} {md : Region.Mode}

/-- What every operation keeps holds in the end. -/
theorem wpAny_kept (I : Array Bool → Act → World → Prop)
    (hs : ∀ l a w i, I l a w → i ∈ Region.ready md ops l → wpOp P ops Q i (I (l.setIfInBounds i true)) a w)
    (he : ∀ l a w, I l a w → Region.ready md ops l = [] → Q .normal a w) :
    ∀ (n : Nat) (l : Array Bool) (a : Act) (w : World), left l ≤ n → I l a w → wpAny P md ops Q n l a w := by
  intro n
  induction n with
  | zero =>
    intro l a w hl hI
    have hr : Region.ready md ops l = [] := by
      cases h : Region.ready md ops l with
      | nil => rfl
      | cons i r =>
        have hm : i ∈ Region.ready md ops l := by rw [h]; exact List.mem_cons_self
        have := countP_pos_of _ _ (getD_false (mem_ready.1 hm).1)
        unfold left at hl
        omega
    exact ⟨hr, he l a w hI hr⟩
  | succ n ih =>
    intro l a w hl hI
    refine ⟨he l a w hI, fun i hi => ?_⟩
    refine wpOp_mono (fun a' w' h => ih _ a' w' ?_ h) (hs l a w i hI hi)
    have := countP_set_true _ _ (getD_false (mem_ready.1 hi).1)
    unfold left at *
    rw [Array.toList_setIfInBounds]
    omega

/-- The temporaries that no operation of the region writes. -/
def outer (ops : Array Oper) (t : Nat) : Bool := ops.toList.all fun o => o.dst != some t

/-- An operation yields a value by itself, or by a call. -/
def Runs (P : Program) (o : Oper) (ρ : Operand → Value) (w : World) (K : Value → World → Prop) : Prop :=
  (∃ v w', (execOp ρ o).run P w = .ok (.value v) w' ∧ K v w') ∨
  (∃ w', (execOp ρ o).run P w = .ok .skip w' ∧ K undef w') ∨
  (∃ f args w1, (execOp ρ o).run P w = .ok (.enter f args) w1 ∧ Calls P f args w1 fun e w' => ∃ v, e = .returned v ∧ K v w')

theorem Runs.val {o : Oper} {ρ : Operand → Value} {w : World} {K : Value → World → Prop} (v : Value) {w' : World} (h : (execOp ρ o).run P w = .ok (.value v) w') (k : K v w') : Runs P o ρ w K :=
  .inl ⟨v, w', h, k⟩
theorem Runs.skips {o : Oper} {ρ : Operand → Value} {w : World} {K : Value → World → Prop} {w' : World} (h : (execOp ρ o).run P w = .ok .skip w') (k : K undef w') : Runs P o ρ w K :=
  .inr (.inl ⟨w', h, k⟩)
theorem Runs.goes {o : Oper} {ρ : Operand → Value} {w : World} {K : Value → World → Prop} (f : FuncId) (args : Array Value) (h : (execOp ρ o).run P w = .ok (.enter f args) w) (k : Calls P f args w fun e w' => ∃ v, e = .returned v ∧ K v w') : Runs P o ρ w K :=
  .inr (.inr ⟨f, args, w, h, k⟩)

/-- An operation that is carried out whatever was found. -/
def plainOp (o : Oper) : Prop := Region.wanted o (fun _ => none) = true
def depOn (o : Oper) (j : Nat) : Bool := o.after.toList.any fun e => e.on == j && Region.binds .any e
def dstOf (ops : Array Oper) (j : Nat) : Option Nat := (ops[j]?).bind (·.dst)

/-- What is asked of an operation: whatever it waits for has left what it leaves. -/
def OpOk (P : Program) (ops : Array Oper) (a0 : Act) (G : World → Prop) (S : World → World → Prop) (R : List (Value → World → Prop)) (i : Nat) (o : Oper) : Prop :=
  plainOp o ∧ ∀ ρ w, G w → (∀ t, outer ops t = true → ρ (.tmp t) = a0.eval (.tmp t)) → (∀ x, ρ (.const x) = x) → (∀ f, ρ (.func f) = .func (.func f) #[] #[]) →
    (∀ j t, depOn o j = true → dstOf ops j = some t → R.getD j (fun _ _ => True) (ρ (.tmp t)) w) →
    Runs P o ρ w fun v w' => G w' ∧ S w w' ∧ R.getD i (fun _ _ => True) v w'

/-- What is asked of the last one: all others have left what they leave. -/
def LastOk (P : Program) (ops : Array Oper) (a0 : Act) (G : World → Prop) (R : List (Value → World → Prop)) (F : Value → World → Prop) (m : Nat) (o : Oper) : Prop :=
  plainOp o ∧ ∀ ρ w, G w → (∀ t, outer ops t = true → ρ (.tmp t) = a0.eval (.tmp t)) → (∀ x, ρ (.const x) = x) → (∀ f, ρ (.func f) = .func (.func f) #[] #[]) →
    (∀ j t, j < m → dstOf ops j = some t → R.getD j (fun _ _ => True) (ρ (.tmp t)) w) →
    Runs P o ρ w F

def AllOps (F : Nat → Oper → Prop) : Nat → List Oper → Prop
  | _, [] => True
  | i, o :: l => F i o ∧ AllOps F (i + 1) l

theorem AllOps.get {F : Nat → Oper → Prop} : ∀ {l : List Oper} {i k : Nat} {o : Oper}, AllOps F i l → l[k]? = some o → F (i + k) o
  | [], i, k, o, _, h => by simp at h
  | x :: l, i, 0, o, ⟨a, _⟩, h => by simp at h; subst h; exact a
  | x :: l, i, k + 1, o, ⟨_, a⟩, h => by
    simp at h
    have := AllOps.get a h
    rw [show i + (k + 1) = i + 1 + k by omega]
    exact this

def Stable (S : World → World → Prop) : List (Value → World → Prop) → Prop
  | [] => True
  | r :: l => (∀ v w w', S w w' → r v w → r v w') ∧ Stable S l

theorem Stable.get {S : World → World → Prop} : ∀ {l : List (Value → World → Prop)} {i : Nat}, Stable S l → ∀ v w w', S w w' → l.getD i (fun _ _ => True) v w → l.getD i (fun _ _ => True) v w'
  | [], i, _, v, w, w', _, _ => by simp
  | r :: l, 0, ⟨h, _⟩, v, w, w', hs, hr => h v w w' hs hr
  | r :: l, i + 1, ⟨_, h⟩, v, w, w', hs, hr => by
    simp only [List.getD_cons_succ] at hr ⊢
    exact Stable.get h v w w' hs hr

/-- No two operations write one temporary; each writes one that is there. -/
def dstsOk (ops : Array Oper) (n : Nat) : Bool :=
  (ops.toList.filterMap (·.dst)).Nodup && (ops.toList.filterMap (·.dst)).all (· < n)

/-- Whatever has come up, what it waits for has come up. -/
def Dn (ops : Array Oper) (l : Array Bool) : Prop := ∀ i o, ops[i]? = some o → l.getD i false = true → ∀ e ∈ o.after, Region.binds .any e = true → l.getD e.on false = true

structure KeptIn (ops : Array Oper) (a0 : Act) (G : World → Prop) (R : List (Value → World → Prop)) (l : Array Bool) (a : Act) (w : World) : Prop where
  good : G w
  dn : Dn ops l
  sz : l.size = ops.size
  size : a.tmps.size = a0.tmps.size
  defers : a.defers = a0.defers
  out : ∀ t, (∀ j o, ops[j]? = some o → l.getD j false = true → o.dst ≠ some t) → a.tmps.getD t undef = a0.tmps.getD t undef
  is : ∀ j o t, ops[j]? = some o → l.getD j false = true → o.dst = some t → R.getD j (fun _ _ => True) (a.tmps.getD t undef) w

theorem nodup_filterMap : ∀ {l : List Oper} {i j : Nat} {x y : Oper} {t : Nat}, (l.filterMap (·.dst)).Nodup → l[i]? = some x → l[j]? = some y → x.dst = some t → y.dst = some t → i = j
  | [], i, j, x, y, t, _, h, _, _, _ => by simp at h
  | o :: l, 0, 0, x, y, t, _, _, _, _, _ => rfl
  | o :: l, 0, j + 1, x, y, t, hn, hx, hy, dx, dy => by
    simp at hx hy
    subst hx
    rw [List.filterMap_cons, dx] at hn
    simp only [List.nodup_cons] at hn
    exact absurd (List.mem_filterMap.2 ⟨y, List.mem_of_getElem? hy, dy⟩) hn.1
  | o :: l, i + 1, 0, x, y, t, hn, hx, hy, dx, dy => by
    simp at hx hy
    subst hy
    rw [List.filterMap_cons, dy] at hn
    simp only [List.nodup_cons] at hn
    exact absurd (List.mem_filterMap.2 ⟨x, List.mem_of_getElem? hx, dx⟩) hn.1
  | o :: l, i + 1, j + 1, x, y, t, hn, hx, hy, dx, dy => by
    simp at hx hy
    have hn' : (l.filterMap (·.dst)).Nodup := by
      rw [List.filterMap_cons] at hn
      split at hn
      · exact hn
      · exact (List.nodup_cons.1 hn).2
    rw [nodup_filterMap hn' hx hy dx dy]

theorem put_other {a : Act} {d : Option Tmp} {v : Value} {t : Nat} (h : d ≠ some t) : (a.put d v).tmps.getD t undef = a.tmps.getD t undef := by
  cases d with
  | none => rfl
  | some d =>
    have hd : d ≠ t := fun e => h (by rw [e])
    simp only [Act.put, Array.getD_eq_getD_getElem?]
    rw [Array.getElem?_setIfInBounds_ne hd]

theorem put_self {a : Act} {v : Value} {t : Nat} (h : t < a.tmps.size) : (a.put (some t) v).tmps.getD t undef = v := by
  simp only [Act.put, Array.getD_eq_getD_getElem?]
  rw [Array.getElem?_setIfInBounds_self_of_lt h]
  rfl

theorem put_size {a : Act} {d : Option Tmp} {v : Value} : (a.put d v).tmps.size = a.tmps.size := by
  cases d <;> simp [Act.put]

theorem put_defers' {a : Act} {d : Option Tmp} {v : Value} : (a.put d v).defers = a.defers := by
  cases d <;> simp [Act.put]

theorem KeptIn.next {a0 : Act} {G : World → Prop} {S : World → World → Prop} {R : List (Value → World → Prop)} {l : Array Bool} {a : Act} {w w' : World} {i : Nat} {o : Oper} {v : Value}
    (hd : dstsOk ops a0.tmps.size = true) (hst : Stable S R) (ho : ops[i]? = some o) (haf : ∀ e ∈ o.after, Region.binds .any e = true → l.getD e.on false = true) (h : KeptIn ops a0 G R l a w) (hg : G w') (hS : S w w') (hr : R.getD i (fun _ _ => True) v w') :
    KeptIn ops a0 G R (l.setIfInBounds i true) (a.put o.dst v) w' := by
  unfold dstsOk at hd
  simp only [Bool.and_eq_true, decide_eq_true_eq, List.all_eq_true] at hd
  obtain ⟨hn, hlt⟩ := hd
  have hi : i < l.size := by rw [h.sz]; exact (Array.getElem?_eq_some_iff.1 ho).1
  have hlist : ∀ j, (l.setIfInBounds i true).getD j false = true ↔ j = i ∨ l.getD j false = true := by
    intro j
    by_cases e : j = i
    · subst e
      simp only [Array.getD_eq_getD_getElem?, Array.getElem?_setIfInBounds_self_of_lt hi]
      simp
    · simp only [Array.getD_eq_getD_getElem?, Array.getElem?_setIfInBounds_ne (fun q => e q.symm)]
      simp [e]
  refine ⟨hg, ?_, by rw [Array.size_setIfInBounds]; exact h.sz, put_size.trans h.size, put_defers'.trans h.defers, ?_, ?_⟩
  · intro j oj hj hl e he hb
    refine (hlist _).2 (.inr ?_)
    rcases (hlist j).1 hl with q | q
    · subst q
      rw [ho] at hj
      cases hj
      exact haf e he hb
    · exact h.dn j oj hj q e he hb
  · intro t ht
    rw [put_other (ht i o ho ((hlist i).2 (.inl rfl)))]
    exact h.out t fun j oj hj hl => ht j oj hj ((hlist j).2 (.inr hl))
  · intro j oj t hj hl hdj
    by_cases e : j = i
    · subst e
      rw [ho] at hj
      cases hj
      rw [hdj, put_self]
      · exact hr
      · rw [h.size]
        exact hlt t (List.mem_filterMap.2 ⟨o, List.mem_of_getElem? (by rw [Array.getElem?_toList]; exact ho), hdj⟩)
    · have hl' := ((hlist j).1 hl).resolve_left e
      rw [put_other]
      · exact hst.get _ _ _ hS (h.is j oj t hj hl' hdj)
      · intro q
        exact e (nodup_filterMap hn (by rw [Array.getElem?_toList]; exact hj) (by rw [Array.getElem?_toList]; exact ho) hdj q)

theorem eval_tmp (a : Act) (t : Nat) : a.eval (.tmp t) = a.tmps.getD t undef := rfl

theorem outer_not {t j : Nat} {o : Oper} (ht : outer ops t = true) (hj : ops[j]? = some o) : o.dst ≠ some t := by
  intro q
  unfold outer at ht
  have := List.all_eq_true.1 ht o (Array.mem_toList_iff.2 (Array.mem_of_getElem? hj))
  simp [q] at this

theorem dstOf_some {j t : Nat} (h : dstOf ops j = some t) : ∃ o, ops[j]? = some o ∧ o.dst = some t := by
  unfold dstOf at h
  cases ho : ops[j]? with
  | none => rw [ho] at h; cases h
  | some o => rw [ho] at h; exact ⟨o, rfl, h⟩

theorem depOn_some {o : Oper} {j : Nat} (h : depOn o j = true) : ∃ e ∈ o.after, e.on = j ∧ Region.binds .any e = true := by
  unfold depOn at h
  obtain ⟨e, he, hb⟩ := List.any_eq_true.1 h
  simp only [Bool.and_eq_true, beq_iff_eq] at hb
  exact ⟨e, Array.mem_toList_iff.1 he, hb.1, hb.2⟩

theorem wanted_none {o : Oper} (h : plainOp o) (f : Nat → Option Bool) : Region.wanted o f = true := by
  unfold plainOp Region.wanted at h
  unfold Region.wanted
  split
  · rfl
  · rename_i e
    rw [e] at h
    cases h

/-- Every operation waits for earlier ones alone. -/
def afterOk (ops : Array Oper) : Bool := (List.range ops.size).all fun i => match ops[i]? with | some o => o.after.all (fun e => e.on < i) | none => true

theorem all_listed (h : afterOk ops = true) (l : Array Bool) (hl : l.size = ops.size) (hr : Region.ready md ops l = []) : ∀ j, j < ops.size → l.getD j false = true := by
  intro j
  induction j using Nat.strongRecOn with
  | _ j ih =>
    intro hj
    cases hc : l.getD j false with
    | true => rfl
    | false =>
      exfalso
      have ho : ops[j]? = some ops[j] := Array.getElem?_eq_getElem hj
      have hm : j ∈ Region.ready md ops l := by
        refine mem_ready.2 ⟨?_, ops[j], ho, fun e he _ => ?_⟩
        · rw [Array.getD_eq_getD_getElem?, Array.getElem?_eq_getElem (by omega)] at hc ⊢
          simpa using hc
        · unfold afterOk at h
          rw [List.all_eq_true] at h
          have := h j (List.mem_range.2 hj)
          rw [ho] at this
          simp only at this
          have := Array.all_eq_true_iff_forall_mem.1 this e he
          simp only [decide_eq_true_eq] at this
          exact ih e.on this (by omega)
      rw [hr] at hm
      cases hm

theorem unlisted {l : Array Bool} {i : Nat} {o : Oper} (hsz : l.size = ops.size) (ho : ops[i]? = some o) (hl : l.getD i true = false) : l.getD i false = false := by
  have hlt : i < l.size := by rw [hsz]; exact (Array.getElem?_eq_some_iff.1 ho).1
  rw [Array.getD_eq_getD_getElem?, Array.getElem?_eq_getElem hlt] at hl ⊢
  simpa using hl

theorem none_listed (n : Nat) (j : Nat) : ¬ (Array.replicate n false).getD j false = true := by
  intro hl
  rw [Array.getD_eq_getD_getElem?, Array.getElem?_replicate] at hl
  split at hl <;> simp at hl

theorem left_replicate (n : Nat) : left (Array.replicate n false) ≤ n := by
  unfold left
  rw [Array.toList_replicate]
  exact Nat.le_trans List.countP_le_length (by simp)

/-- One operation of those that are said. -/
theorem kept_step {a0 : Act} {G : World → Prop} {S : World → World → Prop} {R : List (Value → World → Prop)} {l : Array Bool} {a : Act} {w : World} {i : Nat} {o : Oper} {K : Act → World → Prop}
    (hd : dstsOk ops a0.tmps.size = true) (hst : Stable S R) (ho : ops[i]? = some o) (hok : OpOk P ops a0 G S R i o) (hk : KeptIn ops a0 G R l a w) (hall : ∀ e ∈ o.after, Region.binds .any e = true → l.getD e.on false = true)
    (hK : ∀ a' w', KeptIn ops a0 G R (l.setIfInBounds i true) a' w' → K a' w') : wpOp P ops Q i K a w := by
  obtain ⟨hgd, hok⟩ := hok
  have hrun := hok a.eval w hk.good (fun t ht => by
    rw [eval_tmp, eval_tmp]
    exact hk.out t fun j oj hj _ q => outer_not ht hj q) (fun _ => rfl) (fun _ => rfl) (fun j t hj hdj => by
    obtain ⟨e, he, rfl, hb⟩ := depOn_some hj
    obtain ⟨oj, hoj, hdj⟩ := dstOf_some hdj
    rw [eval_tmp]
    exact hk.is _ oj t hoj (hall e he hb) hdj)
  unfold wpOp
  simp only [ho]
  rw [if_pos (wanted_none hgd _)]
  refine .inl ?_
  unfold Oper.wp
  rcases hrun with ⟨v, w', hv, h1, h2, h3⟩ | ⟨w', hv, h1, h2, h3⟩ | ⟨f, args, w1, hv, hc⟩
  · rw [hv]
    exact hK _ _ (hk.next hd hst ho hall h1 h2 h3)
  · rw [hv]
    exact hK _ _ (hk.next hd hst ho hall h1 h2 h3)
  · rw [hv]
    refine hc.mono ?_
    rintro e w' ⟨v, rfl, h1, h2, h3⟩
    exact hK _ _ (hk.next hd hst ho hall h1 h2 h3)

/-- **Whatever order is drawn**: each operation has left what it leaves. -/
theorem wp_region_kept {id : Nat} {a0 : Act} {w0 : World} (G : World → Prop) (S : World → World → Prop) (R : List (Value → World → Prop))
    (hm : P.follows .mixedOrders = true) (hd : dstsOk ops a0.tmps.size = true) (haf : afterOk ops = true) (hst : Stable S R) (hg : G w0.drew)
    (hops : AllOps (OpOk P ops a0 G S R) 0 ops.toList)
    (he : ∀ (a : Act) (w : World), G w → a.tmps.size = a0.tmps.size → a.defers = a0.defers → (∀ t, outer ops t = true → a.tmps.getD t undef = a0.tmps.getD t undef) →
      (∀ j t, dstOf ops j = some t → R.getD j (fun _ _ => True) (a.tmps.getD t undef) w) → Q .normal a w) :
    (Code.region id ops true).wp P Q a0 w0 := by
  refine wp_region_any hm (wpAny_kept (KeptIn ops a0 G R) ?_ ?_ _ _ _ _ (left_replicate _) ?_)
  · intro l a w i hk hi
    obtain ⟨hl, o, ho, hall⟩ := mem_ready.1 hi
    refine kept_step hd hst ho ?_ hk hall (fun _ _ h => h)
    have := hops.get (k := i) (o := o) (by rw [Array.getElem?_toList]; exact ho)
    rwa [Nat.zero_add] at this
  · intro l a w hk hr
    have hall := all_listed haf l hk.sz hr
    refine he a w hk.good hk.size hk.defers (fun t ht => hk.out t fun j oj hj _ q => outer_not ht hj q) (fun j t hdj => ?_)
    obtain ⟨oj, hj, hdj⟩ := dstOf_some hdj
    exact hk.is j oj t hj (hall j (Array.getElem?_eq_some_iff.1 hj).1) hdj
  · exact ⟨hg, fun j _ _ hl => absurd hl (none_listed _ j), by simp, rfl, rfl, fun _ _ => rfl, fun j o t hj hl _ => absurd hl (none_listed _ j)⟩

theorem act_is {a : Act} {n : Nat} {D : List Deferred} (hs : a.tmps.size = n) (hd : a.defers = D) : ∃ x : Nat → Value, a = ⟨((List.range n).map x).toArray, D⟩ ∧ ∀ t, a.tmps.getD t undef = x t := by
  refine ⟨fun t => a.tmps.getD t undef, ?_, fun _ => rfl⟩
  obtain ⟨tm, df⟩ := a
  subst hs hd
  simp only [Act.mk.injEq, and_true]
  apply Array.ext
  · simp
  · intro i h1 h2
    simp [Array.getD, h1]

/-- Each operation ahead of the last one is waited for by a later one. -/
def lastOk (ops : Array Oper) : Bool := (List.range (ops.size - 1)).all fun j => (List.range ops.size).any fun k => j < k && match ops[k]? with | some o => depOn o j | none => false

theorem all_ahead {l : Array Bool} (h : lastOk ops = true) (hdn : Dn ops l) {o : Oper} (ho : ops[ops.size - 1]? = some o) (hall : ∀ e ∈ o.after, Region.binds .any e = true → l.getD e.on false = true) :
    ∀ n j, ops.size - 1 - j = n → j < ops.size - 1 → l.getD j false = true := by
  intro n
  induction n using Nat.strongRecOn with
  | _ n ih =>
    intro j hn hj
    unfold lastOk at h
    rw [List.all_eq_true] at h
    have h1 := h j (List.mem_range.2 hj)
    rw [List.any_eq_true] at h1
    obtain ⟨k, hk, h2⟩ := h1
    have hk' := List.mem_range.1 hk
    simp only [Bool.and_eq_true, decide_eq_true_eq] at h2
    obtain ⟨hjk, h3⟩ := h2
    cases hok : ops[k]? with
    | none => rw [hok] at h3; cases h3
    | some ok =>
      rw [hok] at h3
      simp only at h3
      obtain ⟨e, he, rfl, hb⟩ := depOn_some h3
      by_cases hkl : k = ops.size - 1
      · subst hkl
        rw [ho] at hok
        cases hok
        exact hall e he hb
      · exact hdn k ok hok (ih (ops.size - 1 - k) (by omega) k rfl (by omega)) e he hb

/-- **Whatever order is drawn**, and the last one comes last: it may do what it likes. -/
theorem wp_region_last {id : Nat} {a0 : Act} {w0 : World} (G : World → Prop) (S : World → World → Prop) (R : List (Value → World → Prop)) (F : Value → World → Prop) {ol : Oper} (hol : ops[ops.size - 1]? = some ol)
    (hm : P.follows .mixedOrders = true) (hd : dstsOk ops a0.tmps.size = true) (haf : afterOk ops = true) (hla : lastOk ops = true) (hst : Stable S R) (hg : G w0.drew)
    (hops : AllOps (OpOk P ops a0 G S R) 0 (ops.toList.take (ops.size - 1)))
    (hlast : LastOk P ops a0 G R F (ops.size - 1) ol)
    (he : ∀ (a : Act) (w wb : World) (v : Value), F v w → a.tmps.size = a0.tmps.size → a.defers = a0.defers → (∀ t, outer ops t = true → a.tmps.getD t undef = a0.tmps.getD t undef) → (∀ t, ol.dst = some t → a.tmps.getD t undef = v) →
      (∀ j t, j < ops.size - 1 → dstOf ops j = some t → R.getD j (fun _ _ => True) (a.tmps.getD t undef) wb) → Q .normal a w) :
    (Code.region id ops true).wp P Q a0 w0 := by
  have hmlt : ops.size - 1 < ops.size := (Array.getElem?_eq_some_iff.1 hol).1
  have hd2 := hd
  unfold dstsOk at hd2
  simp only [Bool.and_eq_true, decide_eq_true_eq, List.all_eq_true] at hd2
  refine wp_region_any hm (wpAny_kept (fun l a w => (l.getD (ops.size - 1) false = false ∧ KeptIn ops a0 G R l a w) ∨ ((∀ j, j < ops.size → l.getD j true = true) ∧ Q .normal a w)) ?_ ?_ _ _ _ _ (left_replicate _) ?_)
  · intro l a w i hk hi
    obtain ⟨hl, o, ho, hall⟩ := mem_ready.1 hi
    have hil : i < ops.size := (Array.getElem?_eq_some_iff.1 ho).1
    rcases hk with ⟨hnl, hk⟩ | ⟨hk, _⟩
    · by_cases him : i = ops.size - 1
      · subst him
        rw [ho] at hol
        cases hol
        obtain ⟨hgd, hok⟩ := hlast
        have hah := all_ahead hla hk.dn ho hall
        have hrun := hok a.eval w hk.good (fun t ht => by
          rw [eval_tmp, eval_tmp]
          exact hk.out t fun j oj hj _ q => outer_not ht hj q) (fun _ => rfl) (fun _ => rfl) (fun j t hj hdj => by
          obtain ⟨oj, hoj, hdj⟩ := dstOf_some hdj
          rw [eval_tmp]
          exact hk.is _ oj t hoj (hah _ j rfl hj) hdj)
        have hfin : ∀ v w', F v w' → (∀ j, j < ops.size → (l.setIfInBounds (ops.size - 1) true).getD j true = true) ∧ Q .normal (a.put ol.dst v) w' := by
          intro v w' hF
          refine ⟨fun j hj => ?_, he _ w' w v hF (put_size.trans hk.size) (put_defers'.trans hk.defers) (fun t ht => ?_) (fun t ht => ?_) (fun j t hj hdj => ?_)⟩
          · by_cases e : j = ops.size - 1
            · subst e
              rw [Array.getD_eq_getD_getElem?, Array.getElem?_setIfInBounds_self_of_lt (by rw [hk.sz]; exact hmlt)]
              rfl
            · have := hah _ j rfl (by omega)
              have hjl : j < l.size := by rw [hk.sz]; exact hj
              rw [Array.getD_eq_getD_getElem?, Array.getElem?_setIfInBounds_ne (fun q => e q.symm), Array.getElem?_eq_getElem hjl]
              rw [Array.getD_eq_getD_getElem?, Array.getElem?_eq_getElem hjl] at this
              simpa using this
          · rw [put_other (outer_not ht ho)]
            exact hk.out t fun j oj hj _ q => outer_not ht hj q
          · rw [ht, put_self]
            rw [hk.size]
            exact hd2.2 t (List.mem_filterMap.2 ⟨ol, List.mem_of_getElem? (by rw [Array.getElem?_toList]; exact ho), ht⟩)
          · obtain ⟨oj, hoj, hdj⟩ := dstOf_some hdj
            rw [put_other]
            · exact hk.is _ oj t hoj (hah _ j rfl hj) hdj
            · intro q
              have := nodup_filterMap hd2.1 (by rw [Array.getElem?_toList]; exact hoj) (by rw [Array.getElem?_toList]; exact ho) hdj q
              omega
        unfold wpOp
        simp only [ho]
        rw [if_pos (wanted_none hgd _)]
        refine .inl ?_
        unfold Oper.wp
        rcases hrun with ⟨v, w', hv, hF⟩ | ⟨w', hv, hF⟩ | ⟨f, args, w1, hv, hc⟩
        · rw [hv]
          exact .inr (hfin v w' hF)
        · rw [hv]
          exact .inr (hfin undef w' hF)
        · rw [hv]
          refine hc.mono ?_
          rintro e w' ⟨v, rfl, hF⟩
          exact .inr (hfin v w' hF)
      · refine kept_step hd hst ho ?_ hk hall (fun a' w' h => .inl ⟨?_, h⟩)
        · have := hops.get (k := i) (o := o) (by rw [List.getElem?_take_of_lt (by omega), Array.getElem?_toList]; exact ho)
          rwa [Nat.zero_add] at this
        · rw [Array.getD_eq_getD_getElem?, Array.getElem?_setIfInBounds_ne him, ← Array.getD_eq_getD_getElem?]
          exact hnl
    · rw [hk i hil] at hl
      cases hl
  · intro l a w hk hr
    rcases hk with ⟨hnl, hk⟩ | ⟨_, hq⟩
    · have := all_listed haf l hk.sz hr _ hmlt
      rw [hnl] at this
      cases this
    · exact hq
  · refine .inl ⟨?_, ⟨hg, fun j _ _ hl => absurd hl (none_listed _ j), by simp, rfl, rfl, fun _ _ => rfl, fun j o t hj hl _ => absurd hl (none_listed _ j)⟩⟩
    cases hc : (Array.replicate ops.size false).getD (ops.size - 1) false with
    | false => rfl
    | true => exact absurd hc (none_listed _ _)
end
end Go.Proofs.Ytcoaahlakkghhaa
/- A region whose order is drawn, where what the memory is hangs on what has come up. -/
namespace Go.Proofs.Ytcoaahlakkghhaa

section
variable {P : Program} {ops : Array Oper} {Q : Exit → Act → World → Prop}

/-- What is asked of an operation: whatever has come up has left what it leaves. -/
def OpAt (P : Program) (ops : Array Oper) (a0 : Act) (G : (Nat → Bool) → World → Prop) (R : List (Value → Prop)) (i : Nat) (o : Oper) : Prop :=
  plainOp o ∧ ∀ ρ w (l : Nat → Bool), (∀ j oj, ops[j]? = some oj → l j = true → ∀ e ∈ oj.after, Region.binds .any e = true → l e.on = true) → l i = false → (∀ e ∈ o.after, Region.binds .any e = true → l e.on = true) → G l w →
    (∀ t, outer ops t = true → ρ (.tmp t) = a0.eval (.tmp t)) → (∀ x, ρ (.const x) = x) → (∀ f, ρ (.func f) = .func (.func f) #[] #[]) →
    (∀ j t, l j = true → dstOf ops j = some t → R.getD j (fun _ => True) (ρ (.tmp t))) →
    Runs P o ρ w fun v w' => G (fun j => if j = i then true else l j) w' ∧ R.getD i (fun _ => True) v

structure AtIn (ops : Array Oper) (a0 : Act) (G : (Nat → Bool) → World → Prop) (R : List (Value → Prop)) (l : Array Bool) (a : Act) (w : World) : Prop where
  good : G (fun j => l.getD j false) w
  dn : Dn ops l
  sz : l.size = ops.size
  size : a.tmps.size = a0.tmps.size
  defers : a.defers = a0.defers
  out : ∀ t, (∀ j o, ops[j]? = some o → l.getD j false = true → o.dst ≠ some t) → a.tmps.getD t undef = a0.tmps.getD t undef
  is : ∀ j o t, ops[j]? = some o → l.getD j false = true → o.dst = some t → R.getD j (fun _ => True) (a.tmps.getD t undef)

theorem AtIn.next {a0 : Act} {G : (Nat → Bool) → World → Prop} {R : List (Value → Prop)} {l : Array Bool} {a : Act} {w w' : World} {i : Nat} {o : Oper} {v : Value}
    (hd : dstsOk ops a0.tmps.size = true) (ho : ops[i]? = some o) (haf : ∀ e ∈ o.after, Region.binds .any e = true → l.getD e.on false = true) (h : AtIn ops a0 G R l a w) (hg : G (fun j => if j = i then true else l.getD j false) w') (hr : R.getD i (fun _ => True) v) :
    AtIn ops a0 G R (l.setIfInBounds i true) (a.put o.dst v) w' := by
  have hk : KeptIn ops a0 (fun _ => True) (R.map fun r v (_ : World) => r v) l a w := by
    refine ⟨trivial, h.dn, h.sz, h.size, h.defers, h.out, fun j oj t h1 h2 h3 => ?_⟩
    have := h.is j oj t h1 h2 h3
    rw [List.getD_eq_getElem?_getD] at this ⊢
    rw [List.getElem?_map]
    cases hh : R[j]? with
    | none => exact trivial
    | some r => rw [hh] at this; exact this
  have hst : ∀ (L : List (Value → Prop)), Stable (fun _ _ => True) (L.map fun r v (_ : World) => r v) := by
    intro L
    induction L with
    | nil => exact trivial
    | cons r L ih => exact ⟨fun _ _ _ _ h => h, ih⟩
  have hr' : (R.map fun r v (_ : World) => r v).getD i (fun _ _ => True) v w' := by
    rw [List.getD_eq_getElem?_getD] at hr ⊢
    rw [List.getElem?_map]
    cases hh : R[i]? with
    | none => exact trivial
    | some r => rw [hh] at hr; exact hr
  have hn := hk.next (S := fun _ _ => True) (w' := w') hd (hst R) ho haf trivial trivial hr'
  have hi : i < l.size := by rw [h.sz]; exact (Array.getElem?_eq_some_iff.1 ho).1
  have hl : (fun j => (l.setIfInBounds i true).getD j false) = fun j => if j = i then true else l.getD j false := by
    funext j
    by_cases e : j = i
    · subst e
      rw [Array.getD_eq_getD_getElem?, Array.getElem?_setIfInBounds_self_of_lt hi]
      simp
    · rw [Array.getD_eq_getD_getElem?, Array.getElem?_setIfInBounds_ne (fun q => e q.symm), if_neg e, Array.getD_eq_getD_getElem?]
  refine ⟨by rw [hl]; exact hg, hn.dn, hn.sz, hn.size, hn.defers, hn.out, fun j oj t h1 h2 h3 => ?_⟩
  have := hn.is j oj t h1 h2 h3
  rw [List.getD_eq_getElem?_getD] at this ⊢
  rw [List.getElem?_map] at this
  cases hh : R[j]? with
  | none => exact trivial
  | some r => rw [hh] at this; exact this

/-- **Whatever order is drawn**: what has come up tells what the memory is. -/
theorem wp_region_at {id : Nat} {a0 : Act} {w0 : World} (G : (Nat → Bool) → World → Prop) (R : List (Value → Prop))
    (hm : P.follows .mixedOrders = true) (hd : dstsOk ops a0.tmps.size = true) (haf : afterOk ops = true) (hg : G (fun _ => false) w0.drew)
    (hops : AllOps (OpAt P ops a0 G R) 0 ops.toList)
    (he : ∀ (a : Act) (w : World) (l : Nat → Bool), (∀ j, j < ops.size → l j = true) → G l w → a.tmps.size = a0.tmps.size → a.defers = a0.defers → (∀ t, outer ops t = true → a.tmps.getD t undef = a0.tmps.getD t undef) →
      (∀ j t, dstOf ops j = some t → R.getD j (fun _ => True) (a.tmps.getD t undef)) → Q .normal a w) :
    (Code.region id ops true).wp P Q a0 w0 := by
  refine wp_region_any hm (wpAny_kept (AtIn ops a0 G R) ?_ ?_ _ _ _ _ (left_replicate _) ?_)
  · intro l a w i hk hi
    obtain ⟨hl, o, ho, hall⟩ := mem_ready.1 hi
    have hok : OpAt P ops a0 G R i o := by
      have := hops.get (k := i) (o := o) (by rw [Array.getElem?_toList]; exact ho)
      rwa [Nat.zero_add] at this
    obtain ⟨hgd, hok⟩ := hok
    have hrun := hok a.eval w (fun j => l.getD j false) (fun j oj hj hlj e he hb => hk.dn j oj hj hlj e he hb) (unlisted hk.sz ho hl) hall hk.good (fun t ht => by
      rw [eval_tmp, eval_tmp]
      exact hk.out t fun j oj hj _ q => outer_not ht hj q) (fun _ => rfl) (fun _ => rfl) (fun j t hj hdj => by
      obtain ⟨oj, hoj, hdj⟩ := dstOf_some hdj
      rw [eval_tmp]
      exact hk.is _ oj t hoj hj hdj)
    unfold wpOp
    simp only [ho]
    rw [if_pos (wanted_none hgd _)]
    refine .inl ?_
    unfold Oper.wp
    rcases hrun with ⟨v, w', hv, h1, h2⟩ | ⟨w', hv, h1, h2⟩ | ⟨f, args, w1, hv, hc⟩
    · rw [hv]
      exact hk.next hd ho hall h1 h2
    · rw [hv]
      exact hk.next hd ho hall h1 h2
    · rw [hv]
      refine hc.mono ?_
      rintro e w' ⟨v, rfl, h1, h2⟩
      exact hk.next hd ho hall h1 h2
  · intro l a w hk hr
    have hall := all_listed haf l hk.sz hr
    refine he a w (fun j => l.getD j false) hall hk.good hk.size hk.defers (fun t ht => hk.out t fun j oj hj _ q => outer_not ht hj q) (fun j t hdj => ?_)
    obtain ⟨oj, hj, hdj⟩ := dstOf_some hdj
    exact hk.is j oj t hj (hall j (Array.getElem?_eq_some_iff.1 hj).1) hdj
  · have hz : (fun j => (Array.replicate ops.size false).getD j false) = fun _ => false := by
      funext j
      cases hc : (Array.replicate ops.size false).getD j false with
      | false => rfl
      | true => exact absurd hc (none_listed _ _)
    exact ⟨by rw [hz]; exact hg, fun j _ _ hl => absurd hl (none_listed _ j), by simp, rfl, rfl, fun _ _ => rfl, fun j o t hj hl _ => absurd hl (none_listed _ j)⟩
end

/-- Temporaries put, one behind the other. -/
def putAll (a : Act) (x : Nat → Value) : List Nat → Act
  | [] => a
  | t :: l => putAll (a.put (some t) (x t)) x l

theorem putAll_size (x : Nat → Value) : ∀ (l : List Nat) (a : Act), (putAll a x l).tmps.size = a.tmps.size ∧ (putAll a x l).defers = a.defers
  | [], _ => ⟨rfl, rfl⟩
  | t :: l, a => by
    obtain ⟨h1, h2⟩ := putAll_size x l (a.put (some t) (x t))
    exact ⟨h1.trans put_size, h2.trans put_defers'⟩

theorem putAll_get (x : Nat → Value) : ∀ (l : List Nat) (a : Act) (t : Nat), t < a.tmps.size → (putAll a x l).tmps.getD t undef = if t ∈ l then x t else a.tmps.getD t undef
  | [], _, _, _ => by simp [putAll]
  | k :: l, a, t, ht => by
    rw [putAll, putAll_get x l _ t (by rw [put_size]; exact ht)]
    by_cases h1 : t ∈ l
    · rw [if_pos h1, if_pos (List.mem_cons_of_mem _ h1)]
    · rw [if_neg h1]
      by_cases h2 : t = k
      · subst h2
        rw [put_self ht, if_pos List.mem_cons_self]
      · rw [put_other (fun e => h2 (Option.some.inj e).symm), if_neg (by simp [h1, h2])]

theorem not_dst {ops : Array Oper} {t : Nat} (h : t ∉ ops.toList.filterMap (·.dst)) : outer ops t = true := by
  unfold outer
  rw [List.all_eq_true]
  intro o ho
  simp only [bne_iff_ne, ne_eq]
  intro e
  exact h (List.mem_filterMap.2 ⟨o, ho, e⟩)

/-- The state behind a region: the state ahead of it, and what was put. -/
theorem act_put {ops : Array Oper} {a a0 : Act} (hs : a.tmps.size = a0.tmps.size) (hd : a.defers = a0.defers) (ho : ∀ t, outer ops t = true → a.tmps.getD t undef = a0.tmps.getD t undef) :
    ∃ x : Nat → Value, a = putAll a0 x (ops.toList.filterMap (·.dst)) ∧ ∀ t, a.tmps.getD t undef = x t := by
  refine ⟨fun t => a.tmps.getD t undef, ?_, fun _ => rfl⟩
  obtain ⟨p1, p2⟩ := putAll_size (fun t => a.tmps.getD t undef) (ops.toList.filterMap (·.dst)) a0
  have hg := putAll_get (fun t => a.tmps.getD t undef) (ops.toList.filterMap (·.dst)) a0
  generalize putAll a0 (fun t => a.tmps.getD t undef) (ops.toList.filterMap (·.dst)) = b at p1 p2 hg
  obtain ⟨bt, bd⟩ := b
  obtain ⟨tm, df⟩ := a
  simp only at p1 p2 hs hd
  rw [Act.mk.injEq]
  refine ⟨?_, hd.trans p2.symm⟩
  apply Array.ext
  · rw [hs, p1]
  · intro i h1 h2
    have hi := hg i (by rw [← hs]; exact h1)
    have e1 : bt.getD i undef = bt[i] := by simp [Array.getD, h2]
    have e2 : tm.getD i undef = tm[i] := by simp [Array.getD, h1]
    simp only at hi
    rw [e1, e2] at hi
    rw [hi]
    by_cases hm : i ∈ ops.toList.filterMap (·.dst)
    · rw [if_pos hm]
    · rw [if_neg hm, ← e2]
      exact ho i (not_dst hm)
end Go.Proofs.Ytcoaahlakkghhaa
/- A region whose order is drawn, whose last operation writes a variable that others read. -/
namespace Go.Proofs.Ytcoaahlakkghhaa

section
variable {P : Program} {ops : Array Oper} {Q : Exit → Act → World → Prop}

/-- What is asked of an operation ahead of the last one. -/
def OpEv (P : Program) (ops : Array Oper) (a0 : Act) (G : World → Prop) (S : World → World → Prop) (R : List (Value → World → Prop)) (i : Nat) (o : Oper) : Prop :=
  plainOp o ∧ ∀ ρ w, G w → (∀ t, outer ops.pop t = true → ρ (.tmp t) = a0.eval (.tmp t)) → (∀ x, ρ (.const x) = x) → (∀ f, ρ (.func f) = .func (.func f) #[] #[]) →
    (∀ j t, depOn o j = true → dstOf ops j = some t → R.getD j (fun _ _ => True) (ρ (.tmp t)) w) →
    Runs P o ρ w fun v w' => G w' ∧ S w w' ∧ R.getD i (fun _ _ => True) v w'

def LastEv (P : Program) (ops : Array Oper) (a0 : Act) (G : World → Prop) (R : List (Value → World → Prop)) (F : Value → World → Prop) (m : Nat) (o : Oper) : Prop :=
  plainOp o ∧ ∀ ρ w, G w → (∀ t, outer ops.pop t = true → ρ (.tmp t) = a0.eval (.tmp t)) → (∀ x, ρ (.const x) = x) → (∀ f, ρ (.func f) = .func (.func f) #[] #[]) →
    (∀ j t, j < m → dstOf ops j = some t → R.getD j (fun _ _ => True) (ρ (.tmp t)) w) →
    Runs P o ρ w F

theorem pop_get {j : Nat} {o : Oper} (h : ops[j]? = some o) (hj : j < ops.size - 1) : ops.pop[j]? = some o := by
  rw [Array.getElem?_pop, if_pos hj]
  exact h

theorem early {l : Array Bool} {a a0 : Act} {w : World} {G : World → Prop} {R : List (Value → World → Prop)} {t : Nat} (hk : KeptIn ops a0 G R l a w) (hnl : l.getD (ops.size - 1) false = false) (ht : outer ops.pop t = true) : a.tmps.getD t undef = a0.tmps.getD t undef := by
  refine hk.out t fun j oj hj hlj q => ?_
  have hlt : j < ops.size := (Array.getElem?_eq_some_iff.1 hj).1
  by_cases e : j = ops.size - 1
  · rw [e, hnl] at hlj
    cases hlj
  · exact outer_not (ops := ops.pop) ht (pop_get hj (by omega)) q

/-- **Whatever order is drawn**, and the last one comes last: it may write what the others have read. -/
theorem wp_region_fin {id : Nat} {a0 : Act} {w0 : World} (G : World → Prop) (S : World → World → Prop) (R : List (Value → World → Prop)) (F : Value → World → Prop) {ol : Oper} (hol : ops[ops.size - 1]? = some ol)
    (hm : P.follows .mixedOrders = true) (hd : dstsOk ops a0.tmps.size = true) (haf : afterOk ops = true) (hla : lastOk ops = true) (hst : Stable S R) (hg : G w0.drew)
    (hops : AllOps (OpEv P ops a0 G S R) 0 (ops.toList.take (ops.size - 1)))
    (hlast : LastEv P ops a0 G R F (ops.size - 1) ol)
    (he : ∀ (a : Act) (w wb : World) (v : Value), F v w → a.tmps.size = a0.tmps.size → a.defers = a0.defers → (∀ t, outer ops t = true → a.tmps.getD t undef = a0.tmps.getD t undef) → (∀ t, ol.dst = some t → a.tmps.getD t undef = v) →
      (∀ j t, j < ops.size - 1 → dstOf ops j = some t → R.getD j (fun _ _ => True) (a.tmps.getD t undef) wb) → Q .normal a w) :
    (Code.region id ops true).wp P Q a0 w0 := by
  have hmlt : ops.size - 1 < ops.size := (Array.getElem?_eq_some_iff.1 hol).1
  have hd2 := hd
  unfold dstsOk at hd2
  simp only [Bool.and_eq_true, decide_eq_true_eq, List.all_eq_true] at hd2
  refine wp_region_any hm (wpAny_kept (fun l a w => (l.getD (ops.size - 1) false = false ∧ KeptIn ops a0 G R l a w) ∨ ((∀ j, j < ops.size → l.getD j true = true) ∧ Q .normal a w)) ?_ ?_ _ _ _ _ (left_replicate _) ?_)
  · intro l a w i hk hi
    obtain ⟨hl, o, ho, hall⟩ := mem_ready.1 hi
    have hil : i < ops.size := (Array.getElem?_eq_some_iff.1 ho).1
    rcases hk with ⟨hnl, hk⟩ | ⟨hk, _⟩
    · by_cases him : i = ops.size - 1
      · subst him
        rw [ho] at hol
        cases hol
        obtain ⟨hgd, hok⟩ := hlast
        have hah := all_ahead hla hk.dn ho hall
        have hrun := hok a.eval w hk.good (fun t ht => by
          rw [eval_tmp, eval_tmp]
          exact early hk hnl ht) (fun _ => rfl) (fun _ => rfl) (fun j t hj hdj => by
          obtain ⟨oj, hoj, hdj⟩ := dstOf_some hdj
          rw [eval_tmp]
          exact hk.is _ oj t hoj (hah _ j rfl hj) hdj)
        have hfin : ∀ v w', F v w' → (∀ j, j < ops.size → (l.setIfInBounds (ops.size - 1) true).getD j true = true) ∧ Q .normal (a.put ol.dst v) w' := by
          intro v w' hF
          refine ⟨fun j hj => ?_, he _ w' w v hF (put_size.trans hk.size) (put_defers'.trans hk.defers) (fun t ht => ?_) (fun t ht => ?_) (fun j t hj hdj => ?_)⟩
          · by_cases e : j = ops.size - 1
            · subst e
              rw [Array.getD_eq_getD_getElem?, Array.getElem?_setIfInBounds_self_of_lt (by rw [hk.sz]; exact hmlt)]
              rfl
            · have := hah _ j rfl (by omega)
              have hjl : j < l.size := by rw [hk.sz]; exact hj
              rw [Array.getD_eq_getD_getElem?, Array.getElem?_setIfInBounds_ne (fun q => e q.symm), Array.getElem?_eq_getElem hjl]
              rw [Array.getD_eq_getD_getElem?, Array.getElem?_eq_getElem hjl] at this
              simpa using this
          · rw [put_other (outer_not ht ho)]
            exact hk.out t fun j oj hj _ q => outer_not ht hj q
          · rw [ht, put_self]
            rw [hk.size]
            exact hd2.2 t (List.mem_filterMap.2 ⟨ol, List.mem_of_getElem? (by rw [Array.getElem?_toList]; exact ho), ht⟩)
          · obtain ⟨oj, hoj, hdj⟩ := dstOf_some hdj
            rw [put_other]
            · exact hk.is _ oj t hoj (hah _ j rfl hj) hdj
            · intro q
              have := nodup_filterMap hd2.1 (by rw [Array.getElem?_toList]; exact hoj) (by rw [Array.getElem?_toList]; exact ho) hdj q
              omega
        unfold wpOp
        simp only [ho]
        rw [if_pos (wanted_none hgd _)]
        refine .inl ?_
        unfold Oper.wp
        rcases hrun with ⟨v, w', hv, hF⟩ | ⟨w', hv, hF⟩ | ⟨f, args, w1, hv, hc⟩
        · rw [hv]
          exact .inr (hfin v w' hF)
        · rw [hv]
          exact .inr (hfin undef w' hF)
        · rw [hv]
          refine hc.mono ?_
          rintro e w' ⟨v, rfl, hF⟩
          exact .inr (hfin v w' hF)
      · have hok : OpEv P ops a0 G S R i o := by
          have := hops.get (k := i) (o := o) (by rw [List.getElem?_take_of_lt (by omega), Array.getElem?_toList]; exact ho)
          rwa [Nat.zero_add] at this
        obtain ⟨hgd, hok⟩ := hok
        have hrun := hok a.eval w hk.good (fun t ht => by
          rw [eval_tmp, eval_tmp]
          exact early hk hnl ht) (fun _ => rfl) (fun _ => rfl) (fun j t hj hdj => by
          obtain ⟨e, he, rfl, hb⟩ := depOn_some hj
          obtain ⟨oj, hoj, hdj⟩ := dstOf_some hdj
          rw [eval_tmp]
          exact hk.is _ oj t hoj (hall e he hb) hdj)
        have hnx : (l.setIfInBounds i true).getD (ops.size - 1) false = false := by
          rw [Array.getD_eq_getD_getElem?, Array.getElem?_setIfInBounds_ne him, ← Array.getD_eq_getD_getElem?]
          exact hnl
        unfold wpOp
        simp only [ho]
        rw [if_pos (wanted_none hgd _)]
        refine .inl ?_
        unfold Oper.wp
        rcases hrun with ⟨v, w', hv, h1, h2, h3⟩ | ⟨w', hv, h1, h2, h3⟩ | ⟨f, args, w1, hv, hc⟩
        · rw [hv]
          exact .inl ⟨hnx, hk.next hd hst ho hall h1 h2 h3⟩
        · rw [hv]
          exact .inl ⟨hnx, hk.next hd hst ho hall h1 h2 h3⟩
        · rw [hv]
          refine hc.mono ?_
          rintro e w' ⟨v, rfl, h1, h2, h3⟩
          exact .inl ⟨hnx, hk.next hd hst ho hall h1 h2 h3⟩
    · rw [hk i hil] at hl
      cases hl
  · intro l a w hk hr
    rcases hk with ⟨hnl, hk⟩ | ⟨_, hq⟩
    · have := all_listed haf l hk.sz hr _ hmlt
      rw [hnl] at this
      cases this
    · exact hq
  · refine .inl ⟨?_, ⟨hg, fun j _ _ hl => absurd hl (none_listed _ j), by simp, rfl, rfl, fun _ _ => rfl, fun j o t hj hl _ => absurd hl (none_listed _ j)⟩⟩
    cases hc : (Array.replicate ops.size false).getD (ops.size - 1) false with
    | false => rfl
    | true => exact absurd hc (none_listed _ _)
end
end Go.Proofs.Ytcoaahlakkghhaa
/- A region whose order is drawn: one operation among the others may write what was told of the memory. -/
namespace Go.Proofs.Ytcoaahlakkghhaa

section
variable {P : Program} {ops : Array Oper} {Q : Exit → Act → World → Prop}

/-- What is asked of an operation ahead of the last one. -/
def OpOn (P : Program) (ops : Array Oper) (a0 : Act) (m : Nat) (G : Bool → World → Prop) (S Sm : World → World → Prop) (R : List (Value → World → Prop)) (i : Nat) (o : Oper) : Prop :=
  plainOp o ∧ (i ≠ m → ∀ ρ w d, G d w → (∀ t, outer ops.pop t = true → ρ (.tmp t) = a0.eval (.tmp t)) → (∀ x, ρ (.const x) = x) → (∀ f, ρ (.func f) = .func (.func f) #[] #[]) →
    (∀ j t, depOn o j = true → dstOf ops j = some t → R.getD j (fun _ _ => True) (ρ (.tmp t)) w) →
    Runs P o ρ w fun v w' => G d w' ∧ S w w' ∧ R.getD i (fun _ _ => True) v w') ∧
  (i = m → ∀ ρ w, G false w → (∀ t, outer ops.pop t = true → ρ (.tmp t) = a0.eval (.tmp t)) → (∀ x, ρ (.const x) = x) → (∀ f, ρ (.func f) = .func (.func f) #[] #[]) →
    (∀ j t, depOn o j = true → dstOf ops j = some t → R.getD j (fun _ _ => True) (ρ (.tmp t)) w) →
    Runs P o ρ w fun v w' => G true w' ∧ Sm w w' ∧ R.getD i (fun _ _ => True) v w')

theorem getD_setR (R : List (Value → World → Prop)) (m j : Nat) (h : j ≠ m) : (R.set m (fun _ _ => True)).getD j (fun _ _ => True) = R.getD j (fun _ _ => True) := by
  rw [List.getD_eq_getElem?_getD, List.getD_eq_getElem?_getD, List.getElem?_set_ne (fun e => h e.symm)]
theorem getD_setT (R : List (Value → World → Prop)) (m : Nat) (v : Value) (w : World) : (R.set m (fun _ _ => True)).getD m (fun _ _ => True) v w := by
  rw [List.getD_eq_getElem?_getD, List.getElem?_set_self']
  cases R[m]? <;> trivial
theorem KeptIn.once {a0 : Act} {Sm : World → World → Prop} {R : List (Value → World → Prop)} {l : Array Bool} {a : Act} {w w' : World} {m : Nat} {o : Oper} {v : Value}
    (hd : dstsOk ops a0.tmps.size = true) (hst : Stable Sm (R.set m (fun _ _ => True))) (ho : ops[m]? = some o) (haf : ∀ e ∈ o.after, Region.binds .any e = true → l.getD e.on false = true) (hun : l.getD m false = false) (h : KeptIn ops a0 (fun _ => True) R l a w) (hS : Sm w w') (hr : R.getD m (fun _ _ => True) v w') :
    KeptIn ops a0 (fun _ => True) R (l.setIfInBounds m true) (a.put o.dst v) w' := by
  have h0 : KeptIn ops a0 (fun _ => True) (R.set m (fun _ _ => True)) l a w := ⟨trivial, h.dn, h.sz, h.size, h.defers, h.out, fun j oj t hj hl hdj => by
    by_cases e : j = m
    · subst e
      rw [hun] at hl
      cases hl
    · rw [getD_setR R m j e]
      exact h.is j oj t hj hl hdj⟩
  have h1 := h0.next hd hst ho haf trivial hS (getD_setT R m v w')
  refine ⟨trivial, h1.dn, h1.sz, h1.size, h1.defers, h1.out, fun j oj t hj hl hdj => ?_⟩
  by_cases e : j = m
  · subst e
    rw [ho] at hj
    cases hj
    have hd2 := hd
    unfold dstsOk at hd2
    simp only [Bool.and_eq_true, decide_eq_true_eq, List.all_eq_true] at hd2
    rw [hdj, put_self]
    · exact hr
    · rw [h.size]
      exact hd2.2 t (List.mem_filterMap.2 ⟨o, List.mem_of_getElem? (by rw [Array.getElem?_toList]; exact ho), hdj⟩)
  · have := h1.is j oj t hj hl hdj
    rwa [getD_setR R m j e] at this

/-- **Whatever order is drawn**, the last one comes last, and one of the others, m, may write what is told of the memory till then. -/
theorem wp_region_once {id : Nat} {a0 : Act} {w0 : World} (m : Nat) (G : Bool → World → Prop) (S Sm : World → World → Prop) (R : List (Value → World → Prop)) (F : Value → World → Prop) {ol : Oper} (hol : ops[ops.size - 1]? = some ol)
    (hm : P.follows .mixedOrders = true) (hd : dstsOk ops a0.tmps.size = true) (haf : afterOk ops = true) (hla : lastOk ops = true) (hst : Stable S R) (hstm : Stable Sm (R.set m (fun _ _ => True))) (hg : G false w0.drew) (hml : m < ops.size - 1)
    (hops : AllOps (OpOn P ops a0 m G S Sm R) 0 (ops.toList.take (ops.size - 1)))
    (hlast : LastEv P ops a0 (G true) R F (ops.size - 1) ol)
    (he : ∀ (a : Act) (w wb : World) (v : Value), F v w → a.tmps.size = a0.tmps.size → a.defers = a0.defers → (∀ t, outer ops t = true → a.tmps.getD t undef = a0.tmps.getD t undef) → (∀ t, ol.dst = some t → a.tmps.getD t undef = v) →
      (∀ j t, j < ops.size - 1 → dstOf ops j = some t → R.getD j (fun _ _ => True) (a.tmps.getD t undef) wb) → Q .normal a w) :
    (Code.region id ops true).wp P Q a0 w0 := by
  have hmlt : ops.size - 1 < ops.size := (Array.getElem?_eq_some_iff.1 hol).1
  have hd2 := hd
  unfold dstsOk at hd2
  simp only [Bool.and_eq_true, decide_eq_true_eq, List.all_eq_true] at hd2
  refine wp_region_any hm (wpAny_kept (fun l a w => (l.getD (ops.size - 1) false = false ∧ G (l.getD m false) w ∧ KeptIn ops a0 (fun _ => True) R l a w) ∨ ((∀ j, j < ops.size → l.getD j true = true) ∧ Q .normal a w)) ?_ ?_ _ _ _ _ (left_replicate _) ?_)
  · intro l a w i hk hi
    obtain ⟨hl, o, ho, hall⟩ := mem_ready.1 hi
    have hil : i < ops.size := (Array.getElem?_eq_some_iff.1 ho).1
    rcases hk with ⟨hnl, hgd0, hk⟩ | ⟨hk, _⟩
    · by_cases him : i = ops.size - 1
      · subst him
        rw [ho] at hol
        cases hol
        obtain ⟨hgd, hok⟩ := hlast
        have hah := all_ahead hla hk.dn ho hall
        have hmd : l.getD m false = true := hah _ m rfl (by omega)
        rw [hmd] at hgd0
        have hrun := hok a.eval w hgd0 (fun t ht => by
          rw [eval_tmp, eval_tmp]
          exact early hk hnl ht) (fun _ => rfl) (fun _ => rfl) (fun j t hj hdj => by
          obtain ⟨oj, hoj, hdj⟩ := dstOf_some hdj
          rw [eval_tmp]
          exact hk.is _ oj t hoj (hah _ j rfl hj) hdj)
        have hfin : ∀ v w', F v w' → (∀ j, j < ops.size → (l.setIfInBounds (ops.size - 1) true).getD j true = true) ∧ Q .normal (a.put ol.dst v) w' := by
          intro v w' hF
          refine ⟨fun j hj => ?_, he _ w' w v hF (put_size.trans hk.size) (put_defers'.trans hk.defers) (fun t ht => ?_) (fun t ht => ?_) (fun j t hj hdj => ?_)⟩
          · by_cases e : j = ops.size - 1
            · subst e
              rw [Array.getD_eq_getD_getElem?, Array.getElem?_setIfInBounds_self_of_lt (by rw [hk.sz]; exact hmlt)]
              rfl
            · have := hah _ j rfl (by omega)
              have hjl : j < l.size := by rw [hk.sz]; exact hj
              rw [Array.getD_eq_getD_getElem?, Array.getElem?_setIfInBounds_ne (fun q => e q.symm), Array.getElem?_eq_getElem hjl]
              rw [Array.getD_eq_getD_getElem?, Array.getElem?_eq_getElem hjl] at this
              simpa using this
          · rw [put_other (outer_not ht ho)]
            exact hk.out t fun j oj hj _ q => outer_not ht hj q
          · rw [ht, put_self]
            rw [hk.size]
            exact hd2.2 t (List.mem_filterMap.2 ⟨ol, List.mem_of_getElem? (by rw [Array.getElem?_toList]; exact ho), ht⟩)
          · obtain ⟨oj, hoj, hdj⟩ := dstOf_some hdj
            rw [put_other]
            · exact hk.is _ oj t hoj (hah _ j rfl hj) hdj
            · intro q
              have := nodup_filterMap hd2.1 (by rw [Array.getElem?_toList]; exact hoj) (by rw [Array.getElem?_toList]; exact ho) hdj q
              omega
        unfold wpOp
        simp only [ho]
        rw [if_pos (wanted_none hgd _)]
        refine .inl ?_
        unfold Oper.wp
        rcases hrun with ⟨v, w', hv, hF⟩ | ⟨w', hv, hF⟩ | ⟨f, args, w1, hv, hc⟩
        · rw [hv]
          exact .inr (hfin v w' hF)
        · rw [hv]
          exact .inr (hfin undef w' hF)
        · rw [hv]
          refine hc.mono ?_
          rintro e w' ⟨v, rfl, hF⟩
          exact .inr (hfin v w' hF)
      · have hok : OpOn P ops a0 m G S Sm R i o := by
          have := hops.get (k := i) (o := o) (by rw [List.getElem?_take_of_lt (by omega), Array.getElem?_toList]; exact ho)
          rwa [Nat.zero_add] at this
        obtain ⟨hgd, hok⟩ := hok
        have hun := unlisted hk.sz ho hl
        have hil2 : i < l.size := by rw [hk.sz]; exact hil
        have hflag : (l.setIfInBounds i true).getD m false = (l.getD m false || decide (i = m)) := by
          by_cases e : i = m
          · subst e
            rw [Array.getD_eq_getD_getElem?, Array.getElem?_setIfInBounds_self_of_lt hil2]
            simp
          · rw [Array.getD_eq_getD_getElem?, Array.getElem?_setIfInBounds_ne e, ← Array.getD_eq_getD_getElem?]
            simp [e]
        have hrun : Runs P o a.eval w fun v w' => G ((l.setIfInBounds i true).getD m false) w' ∧ (if i = m then Sm w w' else S w w') ∧ R.getD i (fun _ _ => True) v w' := by
          rw [hflag]
          by_cases e : i = m
          · rw [decide_eq_true e, Bool.or_true]
            simp only [if_pos e]
            have hg0 : G false w := by rw [← hun, e]; exact hgd0
            exact hok.2 e a.eval w hg0 (fun t ht => by
              rw [eval_tmp, eval_tmp]
              exact early hk hnl ht) (fun _ => rfl) (fun _ => rfl) (fun j t hj hdj => by
              obtain ⟨e, he, rfl, hb⟩ := depOn_some hj
              obtain ⟨oj, hoj, hdj⟩ := dstOf_some hdj
              rw [eval_tmp]
              exact hk.is _ oj t hoj (hall e he hb) hdj)
          · rw [decide_eq_false e, Bool.or_false]
            simp only [if_neg e]
            exact hok.1 e a.eval w _ hgd0 (fun t ht => by
              rw [eval_tmp, eval_tmp]
              exact early hk hnl ht) (fun _ => rfl) (fun _ => rfl) (fun j t hj hdj => by
              obtain ⟨e, he, rfl, hb⟩ := depOn_some hj
              obtain ⟨oj, hoj, hdj⟩ := dstOf_some hdj
              rw [eval_tmp]
              exact hk.is _ oj t hoj (hall e he hb) hdj)
        have hnext : ∀ v w', (if i = m then Sm w w' else S w w') → R.getD i (fun _ _ => True) v w' → KeptIn ops a0 (fun _ => True) R (l.setIfInBounds i true) (a.put o.dst v) w' := by
          intro v w' h2 h3
          by_cases e : i = m
          · rw [if_pos e] at h2
            subst e
            exact hk.once hd hstm ho hall hun h2 h3
          · rw [if_neg e] at h2
            exact hk.next hd hst ho hall trivial h2 h3
        have hnx : (l.setIfInBounds i true).getD (ops.size - 1) false = false := by
          rw [Array.getD_eq_getD_getElem?, Array.getElem?_setIfInBounds_ne him, ← Array.getD_eq_getD_getElem?]
          exact hnl
        unfold wpOp
        simp only [ho]
        rw [if_pos (wanted_none hgd _)]
        refine .inl ?_
        unfold Oper.wp
        rcases hrun with ⟨v, w', hv, h1, h2, h3⟩ | ⟨w', hv, h1, h2, h3⟩ | ⟨f, args, w1, hv, hc⟩
        · rw [hv]
          exact .inl ⟨hnx, h1, hnext _ _ h2 h3⟩
        · rw [hv]
          exact .inl ⟨hnx, h1, hnext _ _ h2 h3⟩
        · rw [hv]
          refine hc.mono ?_
          rintro e w' ⟨v, rfl, h1, h2, h3⟩
          exact .inl ⟨hnx, h1, hnext _ _ h2 h3⟩
    · rw [hk i hil] at hl
      cases hl
  · intro l a w hk hr
    rcases hk with ⟨hnl, _, hk⟩ | ⟨_, hq⟩
    · have := all_listed haf l hk.sz hr _ hmlt
      rw [hnl] at this
      cases this
    · exact hq
  · refine .inl ⟨?_, ?_, ⟨trivial, fun j _ _ hl => absurd hl (none_listed _ j), by simp, rfl, rfl, fun _ _ => rfl, fun j o t hj hl _ => absurd hl (none_listed _ j)⟩⟩
    · cases hc : (Array.replicate ops.size false).getD (ops.size - 1) false with
      | false => rfl
      | true => exact absurd hc (none_listed _ _)
    · have hz : (Array.replicate ops.size false).getD m false = false := by
        cases hc : (Array.replicate ops.size false).getD m false with
        | false => rfl
        | true => exact absurd hc (none_listed _ _)
      rw [hz]
      exact hg
end
end Go.Proofs.Ytcoaahlakkghhaa
