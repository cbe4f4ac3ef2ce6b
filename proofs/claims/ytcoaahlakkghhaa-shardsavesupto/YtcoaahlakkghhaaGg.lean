/- Shards, plain: transactions' names, spans, writes, locks; lists that a slice reads. -/
import Derived.Test.YtcoaahlakkghhaaGb
import Derived.Test.YtcoaahlakkghhaaGc
import Derived.BigQuiet
import Derived.Test.YtcoaahlakkghhaaGd
import Derived.DeepKeys4
import Derived.Maps.OwnSet
import Derived.Maps.Keyed
namespace Go.Proofs.Ytcoaahlakkghhaa
open Go.RowKit
abbrev Td := Int × Int × Int
structure Sn where
  lo : ByteArray
  hi : ByteArray
structure Wr where
  key : ByteArray
  val : ByteArray
  dead : Bool
structure Lk where
  txn : Td
  home : Int
  til : Int
  spans : List Sn
  writes : List Wr
abbrev Sm := ByteArray × Int
structure Rn where
  span : Sn
  seen : List Sm
abbrev Rc := Td × Int
abbrev tdL (t : Td) : List Value := [.int .i64 t.1, .int .i64 t.2.1, .int .i64 t.2.2]
abbrev tdV (t : Td) : Value := .agg #[.int .i64 t.1, .int .i64 t.2.1, .int .i64 t.2.2]
abbrev snL (p : Sn) : List Value := [.string p.lo, .string p.hi]
abbrev snV (p : Sn) : Value := .agg #[.string p.lo, .string p.hi]
abbrev wrL (x : Wr) : List Value := [.string x.key, .string x.val, .bool x.dead]
abbrev wrV (x : Wr) : Value := .agg #[.string x.key, .string x.val, .bool x.dead]
abbrev smL (x : Sm) : List Value := [.string x.1, .int .i64 x.2]
abbrev rcL (x : Rc) : List Value := [.int .i64 x.1.1, .int .i64 x.1.2.1, .int .i64 x.1.2.2, .int .i64 x.2]
/-- A list of things of c cells that a slice reads; E says what cells stand for a thing. -/
def Lr {α : Type} (E : World → α → List Value → Prop) (c : Nat) (w : World) (L : List α) (v : Value) : Prop := ∃ ad cap, v = .slice ad L.length cap ∧ (ad = none → cap = 0) ∧ L.length ≤ cap ∧ cap ≤ maxLen ∧
  ∀ i (h : i < L.length), ∃ b o cs, ad = some ⟨b, o, none⟩ ∧ b < w.heap.size ∧ E w L[i] cs ∧ cs.length = c ∧ ∀ j u, cs[j]? = some u → w.cell? ⟨b, o + i * c + j, none⟩ = some u
def Held {α : Type} (E : World → α → List Value → Prop) : Prop := ∀ w w' x cs, Below w.heap.size w w' → E w x cs → E w' x cs
theorem Lr.on {α : Type} {E : World → α → List Value → Prop} {c : Nat} {w w' : World} {L : List α} {v : Value} (hE : Held E) (h : Lr E c w L v) (hb : Below w.heap.size w w') : Lr E c w' L v := by
  obtain ⟨ad, cap, e, h0, h1, h2, h3⟩ := h
  refine ⟨ad, cap, e, h0, h1, h2, fun i hi => ?_⟩
  obtain ⟨b, o, cs, ha, hl, hE', hc, hh⟩ := h3 i hi
  exact ⟨b, o, cs, ha, Nat.lt_of_lt_of_le hl hb.size, hE w w' _ cs hb hE', hc, fun j u hu => cell_on hb (hh j u hu)⟩
def wrE (_ : World) (x : Wr) (cs : List Value) : Prop := cs = wrL x
def snE (_ : World) (x : Sn) (cs : List Value) : Prop := cs = snL x
def smE (_ : World) (x : Sm) (cs : List Value) : Prop := cs = smL x
def rcE (_ : World) (x : Rc) (cs : List Value) : Prop := cs = rcL x
def tdE (_ : World) (x : Td) (cs : List Value) : Prop := cs = tdL x
theorem wrE_held : Held wrE := fun _ _ _ _ _ h => h
theorem snE_held : Held snE := fun _ _ _ _ _ h => h
theorem smE_held : Held smE := fun _ _ _ _ _ h => h
theorem rcE_held : Held rcE := fun _ _ _ _ _ h => h
theorem tdE_held : Held tdE := fun _ _ _ _ _ h => h
def lkE (w : World) (x : Lk) (cs : List Value) : Prop := ∃ sa sc wa wc, cs = [.int .i64 x.txn.1, .int .i64 x.txn.2.1, .int .i64 x.txn.2.2, .int .i64 x.home, .int .i64 x.til, .slice sa x.spans.length sc, .slice wa x.writes.length wc] ∧ Lr snE 2 w x.spans (.slice sa x.spans.length sc) ∧ Lr wrE 3 w x.writes (.slice wa x.writes.length wc)
theorem lkE_held : Held lkE := fun _ _ _ _ hb ⟨sa, sc, wa, wc, e, h1, h2⟩ => ⟨sa, sc, wa, wc, e, h1.on snE_held hb, h2.on wrE_held hb⟩
def rnE (w : World) (x : Rn) (cs : List Value) : Prop := ∃ sa sc, cs = [.string x.span.lo, .string x.span.hi, .slice sa x.seen.length sc] ∧ Lr smE 2 w x.seen (.slice sa x.seen.length sc)
theorem rnE_held : Held rnE := fun _ _ _ _ hb ⟨sa, sc, e, h1⟩ => ⟨sa, sc, e, h1.on smE_held hb⟩

/-! ### Plain -/
def fidx {α : Type} (p : α → Bool) (L : List α) : Int := match L.findIdx? p with
  | some i => (i : Int)
  | none => -1
theorem fidx_at {α : Type} {p : α → Bool} {L : List α} {i : Nat} (h : i < L.length) (hp : p L[i] = true) (hb : ∀ j (hj : j < L.length), j < i → p L[j] = false) : fidx p L = (i : Int) := by
  unfold fidx
  have : L.findIdx? p = some i := List.findIdx?_eq_some_iff_getElem.2 ⟨h, hp, fun j hj => by
    rw [hb j (by omega) hj]
    simp⟩
  rw [this]
theorem fidx_none {α : Type} {p : α → Bool} {L : List α} (hb : ∀ j (hj : j < L.length), p L[j] = false) : fidx p L = -1 := by
  unfold fidx
  have : L.findIdx? p = none := List.findIdx?_eq_none_iff.2 fun x hx => by
    obtain ⟨i, hi, e⟩ := List.getElem_of_mem hx
    rw [← e]
    exact hb i hi
  rw [this]
theorem fidx_any {α : Type} (p : α → Bool) (L : List α) : decide (0 ≤ fidx p L) = L.any p := by
  unfold fidx
  cases h : L.findIdx? p with
  | none =>
    have := List.findIdx?_eq_none_iff.1 h
    have h2 : L.any p = false := by
      rw [List.any_eq_false]
      intro x hx
      rw [this x hx]
      simp
    rw [h2]
    rfl
  | some i =>
    obtain ⟨hi, hp, _⟩ := List.findIdx?_eq_some_iff_getElem.1 h
    have h2 : L.any p = true := List.any_eq_true.2 ⟨_, List.getElem_mem hi, hp⟩
    rw [h2]
    exact decide_eq_true (by simp)
abbrev inSn (p : Sn) (k : ByteArray) : Bool := inSpan p.lo p.hi k
def holdsB (l : Lk) (k : ByteArray) : Bool := l.writes.any fun x => decide (x.key = k)
def holdsInB (l : Lk) (p : Sn) : Bool := l.writes.any fun x => inSn p x.key
def coversB (l : Lk) (k : ByteArray) : Bool := l.spans.any fun p => inSn p k
end Go.Proofs.Ytcoaahlakkghhaa
/- The walks of has, holds, holdsIn, covers and of what they call. -/
namespace Go.Proofs.Ytcoaahlakkghhaa
open Go.RowKit
theorem leq_eq (s t : ByteArray) : (Op.bytesLess s.toList t.toList || s.toList == t.toList) = decide (cb s t ≤ 0) := by
  rw [less_eq, same_eq]
  by_cases q : s = t
  · subst q
    rw [cb_self]
    simp
  · have h2 : cb s t ≠ 0 := fun z => q (cb_is.1 z)
    by_cases q1 : cb s t < 0
    · have q2 : cb s t ≤ 0 := by omega
      simp [q1, q2]
    · have q2 : ¬ cb s t ≤ 0 := by omega
      simp [q1, q2, q]
section
variable {w : World}
set_option maxHeartbeats 1000000 in
set_option maxRecDepth 100000 in
theorem has_any (p : Sn) (k : ByteArray) : Calls Try.prog 101 #[snV p, .string k] w fun e w' => e = .returned (.bool (inSn p k)) ∧ Below w.heap.size w w' := by
  have hb : ∀ o, Below w.heap.size w (w.alloc o) := fun o => (Below.refl _ w).alloc (Nat.le_refl _) o
  have HB := Lib.hid hb
  have h1 := leq_eq p.lo k
  have h2 := less_eq k p.hi
  have HI : Hid (inSn p k = (decide (cb p.lo k ≤ 0) && decide (cb k p.hi < 0))) := rfl
  clear hb
  by_cases c1 : cb p.lo k ≤ 0
  · rw [decide_eq_true c1] at h1 HI
    by_cases c2 : cb k p.hi < 0
    · rw [decide_eq_true c2] at h2 HI
      clear c1 c2
      go_enter Try.func101, Try.ntmps101
      go_wp2
      go_ret
      exact ⟨by rw [HI.out]; rfl, HB.out _⟩
    · rw [decide_eq_false c2] at h2 HI
      clear c1 c2
      go_enter Try.func101, Try.ntmps101
      go_wp2
      go_ret
      exact ⟨by rw [HI.out]; rfl, HB.out _⟩
  · rw [decide_eq_false c1] at h1 HI
    clear c1 h2
    go_enter Try.func101, Try.ntmps101
    go_wp2
    go_ret
    exact ⟨by rw [HI.out]; rfl, HB.out _⟩
set_option maxHeartbeats 1000000 in
set_option maxRecDepth 100000 in
theorem inW_f (x : Wr) {Z : Nat} {p : Sn} (c0 : w.cell? ⟨Z, 0, none⟩ = some (.string p.lo)) (c1 : w.cell? ⟨Z, 1, none⟩ = some (.string p.hi)) : Calls Try.prog 100 #[wrV x, .pointer (some ⟨Z, 0, none⟩)] w fun e w' => e = .returned (.bool (inSn p x.key)) ∧ Below w.heap.size w w' := by
  obtain ⟨W, hW⟩ : ∃ W, W = w.alloc (.cells #[.string x.key, .string x.val, .bool x.dead] 55) := ⟨_, rfl⟩
  have hb : Below w.heap.size w W := by rw [hW]; exact (Below.refl _ w).alloc (Nat.le_refl _) _
  obtain ⟨Y, hY⟩ : ∃ Y, w.heap.size = Y := ⟨_, rfl⟩
  have jY : W.heap[Y]? = some (.cells #[.string x.key, .string x.val, .bool x.dead] 55 (0, 0)) := by rw [hW, ← hY]; exact heap_alloc_new w _
  have b0 : W.cell? ⟨Y, 0, none⟩ = some (.string x.key) := cell_blk jY 0
  have d0 := cell_on hb c0
  have d1 := cell_on hb c1
  have HW := Lib.hid hW
  have HY := Lib.hid hY
  have HB := Lib.hid hb
  have hcall := has_any (w := W) p x.key
  clear hW hY hb jY c0 c1
  go_enter Try.func100, Try.ntmps100
  go_upto_region 1 with fail
  rw [← HW.out, HY.out]
  go_wp2_with fail
  refine hcall.mono ?_
  rintro e w1 ⟨rfl, b1⟩
  go_wp2
  go_ret
  exact ⟨rfl, HB.out.trans (b1.mono HB.out.size)⟩
set_option maxHeartbeats 1000000 in
set_option maxRecDepth 100000 in
theorem isW_f (x : Wr) {Z : Nat} {k : ByteArray} (c0 : w.cell? ⟨Z, 0, none⟩ = some (.string k)) : Calls Try.prog 104 #[wrV x, .pointer (some ⟨Z, 0, none⟩)] w fun e w' => e = .returned (.bool (decide (x.key = k))) ∧ Below w.heap.size w w' := by
  obtain ⟨W, hW⟩ : ∃ W, W = w.alloc (.cells #[.string x.key, .string x.val, .bool x.dead] 55) := ⟨_, rfl⟩
  have hb : Below w.heap.size w W := by rw [hW]; exact (Below.refl _ w).alloc (Nat.le_refl _) _
  obtain ⟨Y, hY⟩ : ∃ Y, w.heap.size = Y := ⟨_, rfl⟩
  have jY : W.heap[Y]? = some (.cells #[.string x.key, .string x.val, .bool x.dead] 55 (0, 0)) := by rw [hW, ← hY]; exact heap_alloc_new w _
  have b0 : W.cell? ⟨Y, 0, none⟩ = some (.string x.key) := cell_blk jY 0
  have d0 := cell_on hb c0
  have hs := same_eq x.key k
  obtain ⟨q, hq⟩ : ∃ q, decide (x.key = k) = q := ⟨_, rfl⟩
  rw [hq] at hs ⊢
  have HW := Lib.hid hW
  have HY := Lib.hid hY
  have HB := Lib.hid hb
  clear hW hY hb jY c0 hq
  go_enter Try.func104, Try.ntmps104
  go_upto_region 1 with fail
  rw [← HW.out, HY.out]
  go_wp2
  go_ret
  exact ⟨rfl, HB.out⟩
set_option maxHeartbeats 1000000 in
set_option maxRecDepth 100000 in
theorem inS_f (x : Sn) {Z : Nat} {k : ByteArray} (c0 : w.cell? ⟨Z, 0, none⟩ = some (.string k)) : Calls Try.prog 106 #[snV x, .pointer (some ⟨Z, 0, none⟩)] w fun e w' => e = .returned (.bool (inSn x k)) ∧ Below w.heap.size w w' := by
  obtain ⟨W, hW⟩ : ∃ W, W = w.alloc (.cells #[.string x.lo, .string x.hi] 57) := ⟨_, rfl⟩
  have hb : Below w.heap.size w W := by rw [hW]; exact (Below.refl _ w).alloc (Nat.le_refl _) _
  obtain ⟨Y, hY⟩ : ∃ Y, w.heap.size = Y := ⟨_, rfl⟩
  have jY : W.heap[Y]? = some (.cells #[.string x.lo, .string x.hi] 57 (0, 0)) := by rw [hW, ← hY]; exact heap_alloc_new w _
  have b0 : W.cell? ⟨Y, 0, none⟩ = some (.string x.lo) := cell_blk jY 0
  have b1 : W.cell? ⟨Y, 1, none⟩ = some (.string x.hi) := cell_blk jY 1
  have d0 := cell_on hb c0
  have HW := Lib.hid hW
  have HY := Lib.hid hY
  have HB := Lib.hid hb
  have hcall := has_any (w := W) x k
  clear hW hY hb jY c0
  go_enter Try.func106, Try.ntmps106
  go_upto_region 1 with fail
  rw [← HW.out, HY.out]
  go_wp2_with fail
  refine hcall.mono ?_
  rintro e w1 ⟨rfl, b1⟩
  go_wp2
  go_ret
  exact ⟨rfl, HB.out.trans (b1.mono HB.out.size)⟩
set_option maxHeartbeats 2000000 in
set_option maxRecDepth 100000 in
theorem ixW_in {L : List Wr} {v c : Value} {p : Wr → Bool} (hL : Lr wrE 3 w L v) (hf : ∀ X, Below w.heap.size w X → ∀ i (h : i < L.length), Calls Try.prog 100 #[wrV L[i], c] X fun e w' => e = .returned (.bool (p L[i])) ∧ Below X.heap.size X w') :
    Calls Try.prog 110 #[v, .func (.func 100) #[] #[c]] w fun e w' => e = .returned (.int .i64 (fidx p L)) ∧ Below w.heap.size w w' := by
  obtain ⟨ad, cap, rfl, _, z1, z2, hX⟩ := hL
  have hmx : (L.length : Int) ≤ 9223372036854775807 := by unfold maxLen at z2; omega
  have HX := Lib.hid hX
  have HF := Lib.hid hf
  clear hX z1 z2 hf
  go_enter Try.func110, Try.ntmps110
  go_wp2
  go_loopw [8] (fun iv wr => ∃ i : Nat, i ≤ L.length ∧ iv = .int .i64 (i : Int) ∧ (∀ j (hj : j < L.length), j < i → p L[j] = false) ∧ Below w.heap.size w wr) (fun iv _ => L.length - (intOf iv).toNat)
  case atStart => exact ⟨0, Nat.zero_le _, rfl, fun j _ hj => by omega, Below.refl _ _⟩
  case round =>
    obtain ⟨i, hi, rfl, hno, hb⟩ := hrel
    obtain ⟨V, rfl⟩ : ∃ V, V = wr := ⟨_, rfl⟩
    have HN := Lib.hid hno
    have HB := Lib.hid hb
    by_cases hlt : i < L.length
    · obtain ⟨b, o, cs, rfl, _, hE, _, hcell⟩ := HX.out i hlt
      cases hE
      have c0 := cell_on hb (hcell 0 _ rfl)
      have c1 := cell_on hb (hcell 1 _ rfl)
      have c2 := cell_on hb (hcell 2 _ rfl)
      simp only [Nat.add_zero] at c0
      have hc := HF.out V hb i hlt
      have k0 : (0 : Int) ≤ i := by omega
      have k1 : (i : Int) < L.length := by omega
      have HAT := Lib.hid (fun hp => fidx_at hlt hp hno)
      clear hb hno hcell
      cases hp : p L[i] with
      | true =>
        rw [hp] at hc
        have HR := Lib.hid (HAT.out hp)
        clear hp
        go_wp2_with fail
        refine hc.mono ?_
        rintro e w1 ⟨rfl, b1⟩
        go_wp2
        go_ret
        exact ⟨by rw [HR.out]; rfl, HB.out.trans (b1.mono HB.out.size)⟩
      | false =>
        rw [hp] at hc
        have HNX : Hid (∀ j (hj : j < L.length), j < i + 1 → p L[j] = false) := fun j hj hji => by
          by_cases e : j = i
          · subst e
            exact hp
          · exact HN.out j hj (by omega)
        clear hp
        go_wp2_with fail
        refine hc.mono ?_
        rintro e w1 ⟨rfl, b1⟩
        have HB1 := Lib.hid (HB.out.trans (b1.mono HB.out.size))
        clear b1 hc
        go_wp2
        go_roundw
        case rel => exact ⟨i + 1, hlt, by go_num, HNX.out, HB1.out⟩
        case measure => simp [intOf]; omega
    · have k1 : ¬ (i : Int) < L.length := by omega
      have HR := Lib.hid (fidx_none (p := p) fun j hj => hno j hj (by omega))
      clear hno hb
      go_wp2
      go_ret
      exact ⟨by rw [HR.out]; rfl, HB.out⟩
set_option maxHeartbeats 2000000 in
set_option maxRecDepth 100000 in
theorem ixW_is {L : List Wr} {v c : Value} {p : Wr → Bool} (hL : Lr wrE 3 w L v) (hf : ∀ X, Below w.heap.size w X → ∀ i (h : i < L.length), Calls Try.prog 104 #[wrV L[i], c] X fun e w' => e = .returned (.bool (p L[i])) ∧ Below X.heap.size X w') :
    Calls Try.prog 110 #[v, .func (.func 104) #[] #[c]] w fun e w' => e = .returned (.int .i64 (fidx p L)) ∧ Below w.heap.size w w' := by
  obtain ⟨ad, cap, rfl, _, z1, z2, hX⟩ := hL
  have hmx : (L.length : Int) ≤ 9223372036854775807 := by unfold maxLen at z2; omega
  have HX := Lib.hid hX
  have HF := Lib.hid hf
  clear hX z1 z2 hf
  go_enter Try.func110, Try.ntmps110
  go_wp2
  go_loopw [8] (fun iv wr => ∃ i : Nat, i ≤ L.length ∧ iv = .int .i64 (i : Int) ∧ (∀ j (hj : j < L.length), j < i → p L[j] = false) ∧ Below w.heap.size w wr) (fun iv _ => L.length - (intOf iv).toNat)
  case atStart => exact ⟨0, Nat.zero_le _, rfl, fun j _ hj => by omega, Below.refl _ _⟩
  case round =>
    obtain ⟨i, hi, rfl, hno, hb⟩ := hrel
    obtain ⟨V, rfl⟩ : ∃ V, V = wr := ⟨_, rfl⟩
    have HN := Lib.hid hno
    have HB := Lib.hid hb
    by_cases hlt : i < L.length
    · obtain ⟨b, o, cs, rfl, _, hE, _, hcell⟩ := HX.out i hlt
      cases hE
      have c0 := cell_on hb (hcell 0 _ rfl)
      have c1 := cell_on hb (hcell 1 _ rfl)
      have c2 := cell_on hb (hcell 2 _ rfl)
      simp only [Nat.add_zero] at c0
      have hc := HF.out V hb i hlt
      have k0 : (0 : Int) ≤ i := by omega
      have k1 : (i : Int) < L.length := by omega
      have HAT := Lib.hid (fun hp => fidx_at hlt hp hno)
      clear hb hno hcell
      cases hp : p L[i] with
      | true =>
        rw [hp] at hc
        have HR := Lib.hid (HAT.out hp)
        clear hp
        go_wp2_with fail
        refine hc.mono ?_
        rintro e w1 ⟨rfl, b1⟩
        go_wp2
        go_ret
        exact ⟨by rw [HR.out]; rfl, HB.out.trans (b1.mono HB.out.size)⟩
      | false =>
        rw [hp] at hc
        have HNX : Hid (∀ j (hj : j < L.length), j < i + 1 → p L[j] = false) := fun j hj hji => by
          by_cases e : j = i
          · subst e
            exact hp
          · exact HN.out j hj (by omega)
        clear hp
        go_wp2_with fail
        refine hc.mono ?_
        rintro e w1 ⟨rfl, b1⟩
        have HB1 := Lib.hid (HB.out.trans (b1.mono HB.out.size))
        clear b1 hc
        go_wp2
        go_roundw
        case rel => exact ⟨i + 1, hlt, by go_num, HNX.out, HB1.out⟩
        case measure => simp [intOf]; omega
    · have k1 : ¬ (i : Int) < L.length := by omega
      have HR := Lib.hid (fidx_none (p := p) fun j hj => hno j hj (by omega))
      clear hno hb
      go_wp2
      go_ret
      exact ⟨by rw [HR.out]; rfl, HB.out⟩
set_option maxHeartbeats 2000000 in
set_option maxRecDepth 100000 in
theorem ixS_in {L : List Sn} {v c : Value} {p : Sn → Bool} (hL : Lr snE 2 w L v) (hf : ∀ X, Below w.heap.size w X → ∀ i (h : i < L.length), Calls Try.prog 106 #[snV L[i], c] X fun e w' => e = .returned (.bool (p L[i])) ∧ Below X.heap.size X w') :
    Calls Try.prog 111 #[v, .func (.func 106) #[] #[c]] w fun e w' => e = .returned (.int .i64 (fidx p L)) ∧ Below w.heap.size w w' := by
  obtain ⟨ad, cap, rfl, _, z1, z2, hX⟩ := hL
  have hmx : (L.length : Int) ≤ 9223372036854775807 := by unfold maxLen at z2; omega
  have HX := Lib.hid hX
  have HF := Lib.hid hf
  clear hX z1 z2 hf
  go_enter Try.func111, Try.ntmps111
  go_wp2
  go_loopw [8] (fun iv wr => ∃ i : Nat, i ≤ L.length ∧ iv = .int .i64 (i : Int) ∧ (∀ j (hj : j < L.length), j < i → p L[j] = false) ∧ Below w.heap.size w wr) (fun iv _ => L.length - (intOf iv).toNat)
  case atStart => exact ⟨0, Nat.zero_le _, rfl, fun j _ hj => by omega, Below.refl _ _⟩
  case round =>
    obtain ⟨i, hi, rfl, hno, hb⟩ := hrel
    obtain ⟨V, rfl⟩ : ∃ V, V = wr := ⟨_, rfl⟩
    have HN := Lib.hid hno
    have HB := Lib.hid hb
    by_cases hlt : i < L.length
    · obtain ⟨b, o, cs, rfl, _, hE, _, hcell⟩ := HX.out i hlt
      cases hE
      have c0 := cell_on hb (hcell 0 _ rfl)
      have c1 := cell_on hb (hcell 1 _ rfl)
      simp only [Nat.add_zero] at c0
      have hc := HF.out V hb i hlt
      have k0 : (0 : Int) ≤ i := by omega
      have k1 : (i : Int) < L.length := by omega
      have HAT := Lib.hid (fun hp => fidx_at hlt hp hno)
      clear hb hno hcell
      cases hp : p L[i] with
      | true =>
        rw [hp] at hc
        have HR := Lib.hid (HAT.out hp)
        clear hp
        go_wp2_with fail
        refine hc.mono ?_
        rintro e w1 ⟨rfl, b1⟩
        go_wp2
        go_ret
        exact ⟨by rw [HR.out]; rfl, HB.out.trans (b1.mono HB.out.size)⟩
      | false =>
        rw [hp] at hc
        have HNX : Hid (∀ j (hj : j < L.length), j < i + 1 → p L[j] = false) := fun j hj hji => by
          by_cases e : j = i
          · subst e
            exact hp
          · exact HN.out j hj (by omega)
        clear hp
        go_wp2_with fail
        refine hc.mono ?_
        rintro e w1 ⟨rfl, b1⟩
        have HB1 := Lib.hid (HB.out.trans (b1.mono HB.out.size))
        clear b1 hc
        go_wp2
        go_roundw
        case rel => exact ⟨i + 1, hlt, by go_num, HNX.out, HB1.out⟩
        case measure => simp [intOf]; omega
    · have k1 : ¬ (i : Int) < L.length := by omega
      have HR := Lib.hid (fidx_none (p := p) fun j hj => hno j hj (by omega))
      clear hno hb
      go_wp2
      go_ret
      exact ⟨by rw [HR.out]; rfl, HB.out⟩
set_option maxHeartbeats 2000000 in
set_option maxRecDepth 100000 in
theorem ixL_of {L : List Lk} {v c : Value} {p : Lk → Bool} (hL : Lr lkE 7 w L v) (hf : ∀ X, Below w.heap.size w X → ∀ i (h : i < L.length) sa sc wa wc, Lr snE 2 X L[i].spans (.slice sa L[i].spans.length sc) → Lr wrE 3 X L[i].writes (.slice wa L[i].writes.length wc) → Calls Try.prog 83 #[.agg #[.int .i64 L[i].txn.1, .int .i64 L[i].txn.2.1, .int .i64 L[i].txn.2.2, .int .i64 L[i].home, .int .i64 L[i].til, .slice sa L[i].spans.length sc, .slice wa L[i].writes.length wc], c] X fun e w' => e = .returned (.bool (p L[i])) ∧ Below X.heap.size X w') :
    Calls Try.prog 82 #[v, .func (.func 83) #[] #[c]] w fun e w' => e = .returned (.int .i64 (fidx p L)) ∧ Below w.heap.size w w' := by
  obtain ⟨ad, cap, rfl, _, z1, z2, hX⟩ := hL
  have hmx : (L.length : Int) ≤ 9223372036854775807 := by unfold maxLen at z2; omega
  have HX := Lib.hid hX
  have HF := Lib.hid hf
  clear hX z1 z2 hf
  go_enter Try.func82, Try.ntmps82
  go_wp2
  go_loopw [8] (fun iv wr => ∃ i : Nat, i ≤ L.length ∧ iv = .int .i64 (i : Int) ∧ (∀ j (hj : j < L.length), j < i → p L[j] = false) ∧ Below w.heap.size w wr) (fun iv _ => L.length - (intOf iv).toNat)
  case atStart => exact ⟨0, Nat.zero_le _, rfl, fun j _ hj => by omega, Below.refl _ _⟩
  case round =>
    obtain ⟨i, hi, rfl, hno, hb⟩ := hrel
    obtain ⟨V, rfl⟩ : ∃ V, V = wr := ⟨_, rfl⟩
    have HN := Lib.hid hno
    have HB := Lib.hid hb
    by_cases hlt : i < L.length
    · obtain ⟨b, o, cs, rfl, _, hE, _, hcell⟩ := HX.out i hlt
      obtain ⟨sa, sc, wa, wc, rfl, hs1, hs2⟩ := hE
      have c0 := cell_on hb (hcell 0 _ rfl)
      have c1 := cell_on hb (hcell 1 _ rfl)
      have c2 := cell_on hb (hcell 2 _ rfl)
      have c3 := cell_on hb (hcell 3 _ rfl)
      have c4 := cell_on hb (hcell 4 _ rfl)
      have c5 := cell_on hb (hcell 5 _ rfl)
      have c6 := cell_on hb (hcell 6 _ rfl)
      simp only [Nat.add_zero] at c0
      have hc := HF.out V hb i hlt sa sc wa wc (hs1.on snE_held hb) (hs2.on wrE_held hb)
      have k0 : (0 : Int) ≤ i := by omega
      have k1 : (i : Int) < L.length := by omega
      have HAT := Lib.hid (fun hp => fidx_at hlt hp hno)
      clear hb hno hcell hs1 hs2
      cases hp : p L[i] with
      | true =>
        rw [hp] at hc
        have HR := Lib.hid (HAT.out hp)
        clear hp
        go_wp2_with fail
        refine hc.mono ?_
        rintro e w1 ⟨rfl, b1⟩
        go_wp2
        go_ret
        exact ⟨by rw [HR.out]; rfl, HB.out.trans (b1.mono HB.out.size)⟩
      | false =>
        rw [hp] at hc
        have HNX : Hid (∀ j (hj : j < L.length), j < i + 1 → p L[j] = false) := fun j hj hji => by
          by_cases e : j = i
          · subst e
            exact hp
          · exact HN.out j hj (by omega)
        clear hp
        go_wp2_with fail
        refine hc.mono ?_
        rintro e w1 ⟨rfl, b1⟩
        have HB1 := Lib.hid (HB.out.trans (b1.mono HB.out.size))
        clear b1 hc
        go_wp2
        go_roundw
        case rel => exact ⟨i + 1, hlt, by go_num, HNX.out, HB1.out⟩
        case measure => simp [intOf]; omega
    · have k1 : ¬ (i : Int) < L.length := by omega
      have HR := Lib.hid (fidx_none (p := p) fun j hj => hno j hj (by omega))
      clear hno hb
      go_wp2
      go_ret
      exact ⟨by rw [HR.out]; rfl, HB.out⟩
set_option maxHeartbeats 2000000 in
set_option maxRecDepth 100000 in
theorem ixL_rd {L : List Lk} {v c : Value} {p : Lk → Bool} (hL : Lr lkE 7 w L v) (hf : ∀ X, Below w.heap.size w X → ∀ i (h : i < L.length) sa sc wa wc, Lr snE 2 X L[i].spans (.slice sa L[i].spans.length sc) → Lr wrE 3 X L[i].writes (.slice wa L[i].writes.length wc) → Calls Try.prog 85 #[.agg #[.int .i64 L[i].txn.1, .int .i64 L[i].txn.2.1, .int .i64 L[i].txn.2.2, .int .i64 L[i].home, .int .i64 L[i].til, .slice sa L[i].spans.length sc, .slice wa L[i].writes.length wc], c] X fun e w' => e = .returned (.bool (p L[i])) ∧ Below X.heap.size X w') :
    Calls Try.prog 82 #[v, .func (.func 85) #[] #[c]] w fun e w' => e = .returned (.int .i64 (fidx p L)) ∧ Below w.heap.size w w' := by
  obtain ⟨ad, cap, rfl, _, z1, z2, hX⟩ := hL
  have hmx : (L.length : Int) ≤ 9223372036854775807 := by unfold maxLen at z2; omega
  have HX := Lib.hid hX
  have HF := Lib.hid hf
  clear hX z1 z2 hf
  go_enter Try.func82, Try.ntmps82
  go_wp2
  go_loopw [8] (fun iv wr => ∃ i : Nat, i ≤ L.length ∧ iv = .int .i64 (i : Int) ∧ (∀ j (hj : j < L.length), j < i → p L[j] = false) ∧ Below w.heap.size w wr) (fun iv _ => L.length - (intOf iv).toNat)
  case atStart => exact ⟨0, Nat.zero_le _, rfl, fun j _ hj => by omega, Below.refl _ _⟩
  case round =>
    obtain ⟨i, hi, rfl, hno, hb⟩ := hrel
    obtain ⟨V, rfl⟩ : ∃ V, V = wr := ⟨_, rfl⟩
    have HN := Lib.hid hno
    have HB := Lib.hid hb
    by_cases hlt : i < L.length
    · obtain ⟨b, o, cs, rfl, _, hE, _, hcell⟩ := HX.out i hlt
      obtain ⟨sa, sc, wa, wc, rfl, hs1, hs2⟩ := hE
      have c0 := cell_on hb (hcell 0 _ rfl)
      have c1 := cell_on hb (hcell 1 _ rfl)
      have c2 := cell_on hb (hcell 2 _ rfl)
      have c3 := cell_on hb (hcell 3 _ rfl)
      have c4 := cell_on hb (hcell 4 _ rfl)
      have c5 := cell_on hb (hcell 5 _ rfl)
      have c6 := cell_on hb (hcell 6 _ rfl)
      simp only [Nat.add_zero] at c0
      have hc := HF.out V hb i hlt sa sc wa wc (hs1.on snE_held hb) (hs2.on wrE_held hb)
      have k0 : (0 : Int) ≤ i := by omega
      have k1 : (i : Int) < L.length := by omega
      have HAT := Lib.hid (fun hp => fidx_at hlt hp hno)
      clear hb hno hcell hs1 hs2
      cases hp : p L[i] with
      | true =>
        rw [hp] at hc
        have HR := Lib.hid (HAT.out hp)
        clear hp
        go_wp2_with fail
        refine hc.mono ?_
        rintro e w1 ⟨rfl, b1⟩
        go_wp2
        go_ret
        exact ⟨by rw [HR.out]; rfl, HB.out.trans (b1.mono HB.out.size)⟩
      | false =>
        rw [hp] at hc
        have HNX : Hid (∀ j (hj : j < L.length), j < i + 1 → p L[j] = false) := fun j hj hji => by
          by_cases e : j = i
          · subst e
            exact hp
          · exact HN.out j hj (by omega)
        clear hp
        go_wp2_with fail
        refine hc.mono ?_
        rintro e w1 ⟨rfl, b1⟩
        have HB1 := Lib.hid (HB.out.trans (b1.mono HB.out.size))
        clear b1 hc
        go_wp2
        go_roundw
        case rel => exact ⟨i + 1, hlt, by go_num, HNX.out, HB1.out⟩
        case measure => simp [intOf]; omega
    · have k1 : ¬ (i : Int) < L.length := by omega
      have HR := Lib.hid (fidx_none (p := p) fun j hj => hno j hj (by omega))
      clear hno hb
      go_wp2
      go_ret
      exact ⟨by rw [HR.out]; rfl, HB.out⟩
set_option maxHeartbeats 2000000 in
set_option maxRecDepth 100000 in
theorem ixL_wr {L : List Lk} {v c : Value} {p : Lk → Bool} (hL : Lr lkE 7 w L v) (hf : ∀ X, Below w.heap.size w X → ∀ i (h : i < L.length) sa sc wa wc, Lr snE 2 X L[i].spans (.slice sa L[i].spans.length sc) → Lr wrE 3 X L[i].writes (.slice wa L[i].writes.length wc) → Calls Try.prog 88 #[.agg #[.int .i64 L[i].txn.1, .int .i64 L[i].txn.2.1, .int .i64 L[i].txn.2.2, .int .i64 L[i].home, .int .i64 L[i].til, .slice sa L[i].spans.length sc, .slice wa L[i].writes.length wc], c] X fun e w' => e = .returned (.bool (p L[i])) ∧ Below X.heap.size X w') :
    Calls Try.prog 82 #[v, .func (.func 88) #[] #[c]] w fun e w' => e = .returned (.int .i64 (fidx p L)) ∧ Below w.heap.size w w' := by
  obtain ⟨ad, cap, rfl, _, z1, z2, hX⟩ := hL
  have hmx : (L.length : Int) ≤ 9223372036854775807 := by unfold maxLen at z2; omega
  have HX := Lib.hid hX
  have HF := Lib.hid hf
  clear hX z1 z2 hf
  go_enter Try.func82, Try.ntmps82
  go_wp2
  go_loopw [8] (fun iv wr => ∃ i : Nat, i ≤ L.length ∧ iv = .int .i64 (i : Int) ∧ (∀ j (hj : j < L.length), j < i → p L[j] = false) ∧ Below w.heap.size w wr) (fun iv _ => L.length - (intOf iv).toNat)
  case atStart => exact ⟨0, Nat.zero_le _, rfl, fun j _ hj => by omega, Below.refl _ _⟩
  case round =>
    obtain ⟨i, hi, rfl, hno, hb⟩ := hrel
    obtain ⟨V, rfl⟩ : ∃ V, V = wr := ⟨_, rfl⟩
    have HN := Lib.hid hno
    have HB := Lib.hid hb
    by_cases hlt : i < L.length
    · obtain ⟨b, o, cs, rfl, _, hE, _, hcell⟩ := HX.out i hlt
      obtain ⟨sa, sc, wa, wc, rfl, hs1, hs2⟩ := hE
      have c0 := cell_on hb (hcell 0 _ rfl)
      have c1 := cell_on hb (hcell 1 _ rfl)
      have c2 := cell_on hb (hcell 2 _ rfl)
      have c3 := cell_on hb (hcell 3 _ rfl)
      have c4 := cell_on hb (hcell 4 _ rfl)
      have c5 := cell_on hb (hcell 5 _ rfl)
      have c6 := cell_on hb (hcell 6 _ rfl)
      simp only [Nat.add_zero] at c0
      have hc := HF.out V hb i hlt sa sc wa wc (hs1.on snE_held hb) (hs2.on wrE_held hb)
      have k0 : (0 : Int) ≤ i := by omega
      have k1 : (i : Int) < L.length := by omega
      have HAT := Lib.hid (fun hp => fidx_at hlt hp hno)
      clear hb hno hcell hs1 hs2
      cases hp : p L[i] with
      | true =>
        rw [hp] at hc
        have HR := Lib.hid (HAT.out hp)
        clear hp
        go_wp2_with fail
        refine hc.mono ?_
        rintro e w1 ⟨rfl, b1⟩
        go_wp2
        go_ret
        exact ⟨by rw [HR.out]; rfl, HB.out.trans (b1.mono HB.out.size)⟩
      | false =>
        rw [hp] at hc
        have HNX : Hid (∀ j (hj : j < L.length), j < i + 1 → p L[j] = false) := fun j hj hji => by
          by_cases e : j = i
          · subst e
            exact hp
          · exact HN.out j hj (by omega)
        clear hp
        go_wp2_with fail
        refine hc.mono ?_
        rintro e w1 ⟨rfl, b1⟩
        have HB1 := Lib.hid (HB.out.trans (b1.mono HB.out.size))
        clear b1 hc
        go_wp2
        go_roundw
        case rel => exact ⟨i + 1, hlt, by go_num, HNX.out, HB1.out⟩
        case measure => simp [intOf]; omega
    · have k1 : ¬ (i : Int) < L.length := by omega
      have HR := Lib.hid (fidx_none (p := p) fun j hj => hno j hj (by omega))
      clear hno hb
      go_wp2
      go_ret
      exact ⟨by rw [HR.out]; rfl, HB.out⟩
end
end Go.Proofs.Ytcoaahlakkghhaa
/- The walks of holds, holdsIn, covers. -/
namespace Go.Proofs.Ytcoaahlakkghhaa
open Go.RowKit
section
variable {w : World}
set_option maxHeartbeats 1000000 in
set_option maxRecDepth 100000 in
theorem coW_in {L : List Wr} {v c : Value} {p : Wr → Bool} (hL : Lr wrE 3 w L v) (hf : ∀ X, Below w.heap.size w X → ∀ i (h : i < L.length), Calls Try.prog 100 #[wrV L[i], c] X fun e w' => e = .returned (.bool (p L[i])) ∧ Below X.heap.size X w') :
    Calls Try.prog 99 #[v, .func (.func 100) #[] #[c]] w fun e w' => e = .returned (.bool (L.any p)) ∧ Below w.heap.size w w' := by
  have hc := ixW_in hL hf
  have ha := fidx_any p L
  obtain ⟨n, hn⟩ : ∃ n, fidx p L = n := ⟨_, rfl⟩
  rw [hn] at hc ha
  obtain ⟨ad, cap, rfl, _⟩ := hL
  obtain ⟨q, hq⟩ : ∃ q, L.any p = q := ⟨_, rfl⟩
  rw [hq] at ha ⊢
  clear hf hn hq
  go_enter Try.func99, Try.ntmps99
  go_wp2_with fail
  refine hc.mono ?_
  rintro e w1 ⟨rfl, b1⟩
  have HB := Lib.hid b1
  clear b1 hc
  cases q with
  | true =>
    have hn := of_decide_eq_true ha
    go_wp2
    go_ret
    exact ⟨by simp, HB.out⟩
  | false =>
    have hn := of_decide_eq_false ha
    go_wp2
    go_ret
    exact ⟨by simp, HB.out⟩
set_option maxHeartbeats 1000000 in
set_option maxRecDepth 100000 in
theorem coW_is {L : List Wr} {v c : Value} {p : Wr → Bool} (hL : Lr wrE 3 w L v) (hf : ∀ X, Below w.heap.size w X → ∀ i (h : i < L.length), Calls Try.prog 104 #[wrV L[i], c] X fun e w' => e = .returned (.bool (p L[i])) ∧ Below X.heap.size X w') :
    Calls Try.prog 99 #[v, .func (.func 104) #[] #[c]] w fun e w' => e = .returned (.bool (L.any p)) ∧ Below w.heap.size w w' := by
  have hc := ixW_is hL hf
  have ha := fidx_any p L
  obtain ⟨n, hn⟩ : ∃ n, fidx p L = n := ⟨_, rfl⟩
  rw [hn] at hc ha
  obtain ⟨ad, cap, rfl, _⟩ := hL
  obtain ⟨q, hq⟩ : ∃ q, L.any p = q := ⟨_, rfl⟩
  rw [hq] at ha ⊢
  clear hf hn hq
  go_enter Try.func99, Try.ntmps99
  go_wp2_with fail
  refine hc.mono ?_
  rintro e w1 ⟨rfl, b1⟩
  have HB := Lib.hid b1
  clear b1 hc
  cases q with
  | true =>
    have hn := of_decide_eq_true ha
    go_wp2
    go_ret
    exact ⟨by simp, HB.out⟩
  | false =>
    have hn := of_decide_eq_false ha
    go_wp2
    go_ret
    exact ⟨by simp, HB.out⟩
set_option maxHeartbeats 1000000 in
set_option maxRecDepth 100000 in
theorem coS_in {L : List Sn} {v c : Value} {p : Sn → Bool} (hL : Lr snE 2 w L v) (hf : ∀ X, Below w.heap.size w X → ∀ i (h : i < L.length), Calls Try.prog 106 #[snV L[i], c] X fun e w' => e = .returned (.bool (p L[i])) ∧ Below X.heap.size X w') :
    Calls Try.prog 105 #[v, .func (.func 106) #[] #[c]] w fun e w' => e = .returned (.bool (L.any p)) ∧ Below w.heap.size w w' := by
  have hc := ixS_in hL hf
  have ha := fidx_any p L
  obtain ⟨n, hn⟩ : ∃ n, fidx p L = n := ⟨_, rfl⟩
  rw [hn] at hc ha
  obtain ⟨ad, cap, rfl, _⟩ := hL
  obtain ⟨q, hq⟩ : ∃ q, L.any p = q := ⟨_, rfl⟩
  rw [hq] at ha ⊢
  clear hf hn hq
  go_enter Try.func105, Try.ntmps105
  go_wp2_with fail
  refine hc.mono ?_
  rintro e w1 ⟨rfl, b1⟩
  have HB := Lib.hid b1
  clear b1 hc
  cases q with
  | true =>
    have hn := of_decide_eq_true ha
    go_wp2
    go_ret
    exact ⟨by simp, HB.out⟩
  | false =>
    have hn := of_decide_eq_false ha
    go_wp2
    go_ret
    exact ⟨by simp, HB.out⟩
abbrev lkV (l : Lk) (sa : Option Addr) (sc : Nat) (wa : Option Addr) (wc : Nat) : Value := .agg #[.int .i64 l.txn.1, .int .i64 l.txn.2.1, .int .i64 l.txn.2.2, .int .i64 l.home, .int .i64 l.til, .slice sa l.spans.length sc, .slice wa l.writes.length wc]
abbrev lkO (l : Lk) (sa : Option Addr) (sc : Nat) (wa : Option Addr) (wc : Nat) : Obj := .cells #[.int .i64 l.txn.1, .int .i64 l.txn.2.1, .int .i64 l.txn.2.2, .int .i64 l.home, .int .i64 l.til, .slice sa l.spans.length sc, .slice wa l.writes.length wc] 68
set_option maxHeartbeats 2000000 in
set_option maxRecDepth 100000 in
theorem holdsIn_any {l : Lk} {sa wa : Option Addr} {sc wc : Nat} (p : Sn) (hl0 : Lr wrE 3 w l.writes (.slice wa l.writes.length wc)) :
    Calls Try.prog 86 #[lkV l sa sc wa wc, snV p] w fun e w' => e = .returned (.bool (holdsInB l p)) ∧ Below w.heap.size w w' := by
  obtain ⟨W, hW⟩ : ∃ W, W = (w.alloc (lkO l sa sc wa wc)).alloc (.cells #[.string p.lo, .string p.hi] 57) := ⟨_, rfl⟩
  have hb : Below w.heap.size w W := by rw [hW]; exact ((Below.refl _ w).alloc (Nat.le_refl _) _).alloc (by simp) _
  obtain ⟨Y, hY⟩ : ∃ Y, w.heap.size = Y := ⟨_, rfl⟩
  obtain ⟨Z, hZ⟩ : ∃ Z, Y + 1 = Z := ⟨_, rfl⟩
  have jY : W.heap[Y]? = some (.cells #[.int .i64 l.txn.1, .int .i64 l.txn.2.1, .int .i64 l.txn.2.2, .int .i64 l.home, .int .i64 l.til, .slice sa l.spans.length sc, .slice wa l.writes.length wc] 68 (0, 0)) := by
    rw [hW, ← hY, Below.heap_alloc _ _ _ (by simp)]
    exact heap_alloc_new w _
  have jZ : W.heap[Z]? = some (.cells #[.string p.lo, .string p.hi] 57 (0, 0)) := by
    have := heap_alloc_new (w.alloc (lkO l sa sc wa wc)) (.cells #[.string p.lo, .string p.hi] 57)
    simp only [World.size_alloc] at this
    rw [hW, ← hZ, ← hY]
    exact this
  have b6 : W.cell? ⟨Y, 6, none⟩ = some (.slice wa l.writes.length wc) := cell_blk jY 6
  have hl := hl0.on wrE_held hb
  have hcall := coW_in (p := fun x => inSn p x.key) hl (c := .pointer (some ⟨Z, 0, none⟩)) (fun X hX i h => inW_f _ (cell_on hX (cell_blk jZ 0)) (cell_on hX (cell_blk jZ 1)))
  have HW := Lib.hid hW
  have HY := Lib.hid hY
  have HZ := Lib.hid hZ
  have HB := Lib.hid hb
  clear hW hY hZ hb jY jZ hl hl0
  go_enter Try.func86, Try.ntmps86
  go_upto_region 1 with fail
  rw [← HW.out, HY.out, HZ.out]
  go_wp2_with fail
  refine hcall.mono ?_
  rintro e w1 ⟨rfl, b1⟩
  go_wp2
  go_ret
  exact ⟨rfl, HB.out.trans (b1.mono HB.out.size)⟩
set_option maxHeartbeats 2000000 in
set_option maxRecDepth 100000 in
theorem holds_any {l : Lk} {sa wa : Option Addr} {sc wc : Nat} (k : ByteArray) (hl0 : Lr wrE 3 w l.writes (.slice wa l.writes.length wc)) :
    Calls Try.prog 89 #[lkV l sa sc wa wc, .string k] w fun e w' => e = .returned (.bool (holdsB l k)) ∧ Below w.heap.size w w' := by
  obtain ⟨W, hW⟩ : ∃ W, W = (w.alloc (lkO l sa sc wa wc)).alloc (.cells #[.string k] 9) := ⟨_, rfl⟩
  have hb : Below w.heap.size w W := by rw [hW]; exact ((Below.refl _ w).alloc (Nat.le_refl _) _).alloc (by simp) _
  obtain ⟨Y, hY⟩ : ∃ Y, w.heap.size = Y := ⟨_, rfl⟩
  obtain ⟨Z, hZ⟩ : ∃ Z, Y + 1 = Z := ⟨_, rfl⟩
  have jY : W.heap[Y]? = some (.cells #[.int .i64 l.txn.1, .int .i64 l.txn.2.1, .int .i64 l.txn.2.2, .int .i64 l.home, .int .i64 l.til, .slice sa l.spans.length sc, .slice wa l.writes.length wc] 68 (0, 0)) := by
    rw [hW, ← hY, Below.heap_alloc _ _ _ (by simp)]
    exact heap_alloc_new w _
  have jZ : W.heap[Z]? = some (.cells #[.string k] 9 (0, 0)) := by
    have := heap_alloc_new (w.alloc (lkO l sa sc wa wc)) (.cells #[.string k] 9)
    simp only [World.size_alloc] at this
    rw [hW, ← hZ, ← hY]
    exact this
  have b6 : W.cell? ⟨Y, 6, none⟩ = some (.slice wa l.writes.length wc) := cell_blk jY 6
  have hl := hl0.on wrE_held hb
  have hcall := coW_is (p := fun x => decide (x.key = k)) hl (c := .pointer (some ⟨Z, 0, none⟩)) (fun X hX i h => isW_f _ (cell_on hX (cell_blk jZ 0)))
  have HW := Lib.hid hW
  have HY := Lib.hid hY
  have HZ := Lib.hid hZ
  have HB := Lib.hid hb
  clear hW hY hZ hb jY jZ hl hl0
  go_enter Try.func89, Try.ntmps89
  go_upto_region 1 with fail
  rw [← HW.out, HY.out, HZ.out]
  go_wp2_with fail
  refine hcall.mono ?_
  rintro e w1 ⟨rfl, b1⟩
  go_wp2
  go_ret
  exact ⟨rfl, HB.out.trans (b1.mono HB.out.size)⟩
set_option maxHeartbeats 2000000 in
set_option maxRecDepth 100000 in
theorem covers_any {l : Lk} {sa wa : Option Addr} {sc wc : Nat} (k : ByteArray) (hl0 : Lr snE 2 w l.spans (.slice sa l.spans.length sc)) :
    Calls Try.prog 90 #[lkV l sa sc wa wc, .string k] w fun e w' => e = .returned (.bool (coversB l k)) ∧ Below w.heap.size w w' := by
  obtain ⟨W, hW⟩ : ∃ W, W = (w.alloc (lkO l sa sc wa wc)).alloc (.cells #[.string k] 9) := ⟨_, rfl⟩
  have hb : Below w.heap.size w W := by rw [hW]; exact ((Below.refl _ w).alloc (Nat.le_refl _) _).alloc (by simp) _
  obtain ⟨Y, hY⟩ : ∃ Y, w.heap.size = Y := ⟨_, rfl⟩
  obtain ⟨Z, hZ⟩ : ∃ Z, Y + 1 = Z := ⟨_, rfl⟩
  have jY : W.heap[Y]? = some (.cells #[.int .i64 l.txn.1, .int .i64 l.txn.2.1, .int .i64 l.txn.2.2, .int .i64 l.home, .int .i64 l.til, .slice sa l.spans.length sc, .slice wa l.writes.length wc] 68 (0, 0)) := by
    rw [hW, ← hY, Below.heap_alloc _ _ _ (by simp)]
    exact heap_alloc_new w _
  have jZ : W.heap[Z]? = some (.cells #[.string k] 9 (0, 0)) := by
    have := heap_alloc_new (w.alloc (lkO l sa sc wa wc)) (.cells #[.string k] 9)
    simp only [World.size_alloc] at this
    rw [hW, ← hZ, ← hY]
    exact this
  have b5 : W.cell? ⟨Y, 5, none⟩ = some (.slice sa l.spans.length sc) := cell_blk jY 5
  have hl := hl0.on snE_held hb
  have hcall := coS_in (p := fun p => inSn p k) hl (c := .pointer (some ⟨Z, 0, none⟩)) (fun X hX i h => inS_f _ (cell_on hX (cell_blk jZ 0)))
  have HW := Lib.hid hW
  have HY := Lib.hid hY
  have HZ := Lib.hid hZ
  have HB := Lib.hid hb
  clear hW hY hZ hb jY jZ hl hl0
  go_enter Try.func90, Try.ntmps90
  go_upto_region 1 with fail
  rw [← HW.out, HY.out, HZ.out]
  go_wp2_with fail
  refine hcall.mono ?_
  rintro e w1 ⟨rfl, b1⟩
  go_wp2
  go_ret
  exact ⟨rfl, HB.out.trans (b1.mono HB.out.size)⟩
end
end Go.Proofs.Ytcoaahlakkghhaa
/- Maps whose keys are transactions' names. -/
namespace Go.Proofs.Ytcoaahlakkghhaa
open Go.RowKit Go.Maps
/-- An element reads as itself. -/
def itself (v : Value) : Option (DataW Value × List MemPlace) := some (.held v, [])
def TdOk (t : Td) : Prop := I64 t.1 ∧ I64 t.2.1 ∧ I64 t.2.2
theorem key37 : Keyed Try.prog 37 := Keyed.of_law (deep_law_laid laidOut (m := 3) (by decide) (of_decide_eq_true (by kernel_rfl)) (by kernel_rfl) (by kernel_rfl))
def klit (t : Td) : Lit := .string (keyBytes [.int .i64 t.1, .int .i64 t.2.1, .int .i64 t.2.2])
theorem lits3 {n : Int} (h : I64 n) (d : Nat) : Try.prog.keyLits (d + 1) 3 [.int .i64 n] = some [.int .i64 n] := by
  unfold Program.keyLits
  rw [Try.underlying3]
  simp only
  rw [if_pos ⟨trivial, WalkArith.wf_i64 (by omega)⟩]
theorem fields37 : ∃ fs : Array Field, Try.prog.underlying 37 = some (.struct fs) ∧ fs.all (fun f => f.name != "_") = true ∧ fs.toList.map (fun f => (f.type, f.offset)) = [(3, 0), (3, 1), (3, 2)] := ⟨_, Try.underlying37, by kernel_rfl, by kernel_rfl⟩
theorem lits37 (t : Td) (h : TdOk t) (k : Nat) : Try.prog.keyLits (k + 2) 37 (tdL t) = some [.int .i64 t.1, .int .i64 t.2.1, .int .i64 t.2.2] := by
  obtain ⟨⟨l⟩, hu, hn, hf⟩ := fields37
  have l0 := lits3 h.1 k
  have l1 := lits3 h.2.1 k
  have l2 := lits3 h.2.2 k
  have hc : (tdL t).length = Try.prog.cellsOf 37 := (by kernel_rfl : (3 : Nat) = Try.prog.cellsOf 37)
  unfold Program.keyLits
  rw [hu]
  simp only
  rw [if_pos ⟨hc, hn⟩]
  clear hc hu hn
  rcases l with _ | ⟨f0, _ | ⟨f1, _ | ⟨f2, _ | ⟨f3, l⟩⟩⟩⟩
  · simp at hf
  · simp at hf
  · simp at hf
  · simp only [List.map_cons, List.map_nil, List.cons.injEq, Prod.mk.injEq, and_true] at hf
    obtain ⟨⟨a0, b0⟩, ⟨a1, b1⟩, a2, b2⟩ := hf
    simp [a0, a1, a2, b0, b1, b2, cells3, l0, l1, l2]
  · simp at hf
theorem key_of (t : Td) (h : TdOk t) : keyOf Try.prog 37 (tdV t) = some (klit t) := by
  have hl : Try.prog.keyLits (Try.prog.types.size + 1) 37 (tdL t) = some [.int .i64 t.1, .int .i64 t.2.1, .int .i64 t.2.2] :=
    (congrArg (fun n => Try.prog.keyLits n 37 (tdL t)) (by kernel_rfl : Try.prog.types.size + 1 = 206)).trans (lits37 t h 204)
  obtain ⟨fs, hu, _, _⟩ := fields37
  unfold keyOf klit
  rw [hu]
  simp only
  have h1 : Try.prog.keyType 37 = true := by kernel_rfl
  have h2 : (tdV t).formed Try.prog 37 = true := by
    unfold Value.formed
    rw [hu]
    exact beq_iff_eq.2 (by kernel_rfl : (3 : Nat) = Try.prog.cellsOf 37)
  rw [h1, h2]
  simp only [Bool.and_self, if_true]
  have : (tdV t).cells.toList = tdL t := rfl
  rw [this, hl]
  rfl
theorem klit_key {t : Td} (h : TdOk t) : WideAt.IsKeyLit (klit t) := key37.key (key_of t h)
theorem klit_inj {a b : Td} (ha : TdOk a) (hb : TdOk b) (e : klit a = klit b) : a = b := by
  have h1 := key_of a ha
  have h2 := key_of b hb
  rw [e] at h1
  have h3 := key37.inj h1 h2
  have h4 : tdL a = tdL b := by
    have := congrArg (fun v => v.cells.toList) h3
    exact this
  simp only [tdL, List.cons.injEq, Value.int.injEq, true_and, and_true] at h4
  obtain ⟨x, y, z⟩ := a
  obtain ⟨x', y', z'⟩ := b
  simp only at h4
  obtain ⟨rfl, rfl, rfl⟩ := h4
  rfl
/-- Block B is a map of at most n entries that holds what f says. -/
def Mt (w : World) (B n : Nat) (f : Td → Option Value) : Prop := ∃ D : DataW Value, w.ownsMap Try.prog 37 itself B n D ∧ ∀ t, TdOk t → has D (klit t) = (f t).isSome ∧ ∀ v, f t = some v → ∀ z, D.atKey (klit t) z = .held v
section
variable {w w' : World} {B n : Nat} {f : Td → Option Value} {T e : TypeId} {z : Value}
theorem Mt.made (w : World) : Mt (w.alloc (.map #[] 0)) w.heap.size 0 (fun _ => none) :=
  ⟨_, World.ownsMap_made w _ _ _, fun t _ => ⟨rfl, fun e h => by cases h⟩⟩
theorem Mt.lt (h : Mt w B n f) : B < w.heap.size := by
  obtain ⟨D, h1, _⟩ := h
  exact h1.lt
theorem Mt.isMap (h : Mt w B n f) : ∃ es clock, w.heap[B]? = some (.map es clock) := by
  obtain ⟨D, ⟨es, clock, h1, _⟩, _⟩ := h
  exact ⟨es, clock, h1⟩
theorem Mt.like (h : Mt w B n f) (hb : w'.heap[B]? = w.heap[B]?) : Mt w' B n f := by
  obtain ⟨D, ⟨es, clock, h1, h2⟩, h3⟩ := h
  exact ⟨D, ⟨es, clock, hb.trans h1, h2⟩, h3⟩
theorem Mt.on (h : Mt w B n f) (hb : Below w.heap.size w w') : Mt w' B n f := h.like (hb.block _ h.lt)
theorem Mt.mono (h : Mt w B n f) {m : Nat} (hm : n ≤ m) : Mt w B m f := by
  obtain ⟨D, h1, h2⟩ := h
  exact ⟨D, h1.mono hm, h2⟩
/-- What is looked up. -/
theorem Mt.look (h : Mt w B n f) (ht : Try.prog.underlying T = some (.map 37 e)) (hz : (zeroValue e).run Try.prog w = .ok z w) {t : Td} (hi : TdOk t) : (Instr.lookup T (.map (some B)) (tdV t) true).run Try.prog w = .ok (.tuple #[(f t).getD z, .bool (f t).isSome]) w := by
  obtain ⟨D, h1, h2⟩ := h
  obtain ⟨v, ps, hr, hv⟩ := h1.look_ok key37 ht hz (zd := .held z) (zp := []) rfl (key_of t hi)
  rw [hr, (h2 t hi).1]
  have hv : DataW.held v = D.atKey (klit t) (.held z) := by
    have := congrArg (Option.map Prod.fst) hv
    simpa [itself] using this
  cases hf : f t with
  | none =>
    have h3 := (h2 t hi).1
    rw [hf] at h3
    rw [atKey_of_not_has h3] at hv
    cases hv
    rfl
  | some x =>
    rw [(h2 t hi).2 x hf] at hv
    cases hv
    rfl
/-- What is put. -/
theorem Mt.put (h : Mt w B n f) (ht : Try.prog.underlying T = some (.map 37 e)) (hn : n < maxLen) {t : Td} (hi : TdOk t) (x : Value) : ∃ w', (Instr.mapUpdate T (.map (some B)) (tdV t) x).run Try.prog w = .ok () w' ∧ Mt w' B (n + 1) (fun j => if j = t then some x else f j) ∧ w.grownBy w' (some B) := by
  obtain ⟨D, h1, h2⟩ := h
  obtain ⟨w', hr, h3, h4⟩ := h1.update key37 ht hn (val := x) (d := .held x) (ps := []) (key_of t hi) rfl
  refine ⟨w', hr, ⟨_, h3, fun j hj => ?_⟩, h4⟩
  dsimp only
  by_cases e : j = t
  · subst e
    rw [if_pos rfl]
    refine ⟨has_put_same h1.isMap (klit_key hj) _, fun v he z => ?_⟩
    cases he
    exact atKey_put_same h1.isMap (klit_key hj) _ _
  · have hne : klit j ≠ klit t := fun q => e (klit_inj hj hi q)
    rw [if_neg e]
    refine ⟨by rw [has_put_other hne]; exact (h2 j hj).1, fun v he z => ?_⟩
    rw [atKey_put_other hne]
    exact (h2 j hj).2 v he z
end
end Go.Proofs.Ytcoaahlakkghhaa
