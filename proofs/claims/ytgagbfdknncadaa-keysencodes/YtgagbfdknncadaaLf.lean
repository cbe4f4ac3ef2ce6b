/- Steps of the statement KeysEncodes: lists that the statement itself makes. -/
import Derived.Test.YtgagbfdknncadaaWm
import Derived.Test.YtgagbfdknncadaaLa
import Derived.Laws.AppendOwnNone
import Derived.Deep.RegionLaw
import Derived.Deep.AppendLies
namespace Go.Proofs.Ytgagbfdknncadaa
open Go.RowKit

abbrev x7 : V := ⟨0, 7, ⟨#[]⟩⟩
abbrev O7 : Obj := .cells #[.int .i64 0, .int .i64 7, .string ⟨#[]⟩] 24
abbrev E0 : Obj := .cells #[] 24

theorem own_empty (w : World) (B : Nat) (hB : B ≤ w.heap.size) : (w.alloc E0).ownsRow B 24 3 (.slice (some ⟨w.heap.size, 0, none⟩) 0 0) 0 [] :=
  ⟨rfl, .inr ⟨w.heap.size, 0, #[], rfl, hB, by show (w.heap.push E0)[w.heap.size]? = _; simp, Nat.le_refl _, by decide, rfl, rfl⟩⟩

theorem undrew {w w' : World} (h : Below w.drew.heap.size w.drew w') : Below w.heap.size w w' := ⟨h.os, h.tape, h.output, h.size, h.block⟩
theorem flat_one (L : List V) : ∀ u ∈ flat L, u.oneCell' = true := by
  intro u hu
  obtain ⟨v, _, hv⟩ := List.mem_flatMap.1 hu
  simp at hv
  rcases hv with rfl | rfl | rfl <;> rfl
theorem flat_len (L : List V) : (flat L).length = L.length * 3 := by
  induction L with
  | nil => rfl
  | cons v r ih => rw [flat_cons]; simp [ih]; omega
theorem news_li {L : List V} {a : Addr} {w : World} (h : Li L (some a) w) : ∀ j u, (flat L)[j]? = some u → w.cell? (a.add j) = some u := by
  intro j u hu
  have hj : j < L.length * 3 := by
    have := (List.getElem?_eq_some_iff.1 hu).1
    rwa [flat_len] at this
  obtain ⟨b, o, ha, _, c0, c1, c2⟩ := h.at' (j / 3) (by omega)
  obtain rfl := Option.some.inj ha
  obtain ⟨f0, f1, f2⟩ := flat_get L (j / 3) (by omega)
  have e : (⟨b, o, none⟩ : Addr).add j = ⟨b, o + j, none⟩ := by unfold Addr.add; split <;> simp_all
  rw [e]
  rcases (show j = j / 3 * 3 ∨ j = j / 3 * 3 + 1 ∨ j = j / 3 * 3 + 2 by omega) with q | q | q
  · rw [q] at hu ⊢
    rw [f0] at hu
    rw [← hu]
    exact c0
  · rw [q] at hu ⊢
    rw [f1] at hu
    rw [← hu, ← Nat.add_assoc]
    exact c1
  · rw [q] at hu ⊢
    rw [f2] at hu
    rw [← hu, ← Nat.add_assoc]
    exact c2
theorem li_init {L : List V} {x : V} {ad : Option Addr} {w : World} (h : Li (L ++ [x]) ad w) : Li L ad w := by
  refine ⟨fun i hi => ?_⟩
  obtain ⟨b, o, ha, hl, c⟩ := h.at' i (by simp; omega)
  refine ⟨b, o, ha, hl, ?_⟩
  rw [List.getElem_append_left hi] at c
  exact c
theorem li_own {L : List V} {w : World} {B g cap n : Nat} {xs : List Value} (h : w.ownsRow B 24 3 (.slice (some ⟨g, 0, none⟩) n cap) n xs) (hn : n = L.length) (hx : xs = flat L) : Li L (some ⟨g, 0, none⟩) w ∧ n ≤ cap := by
  subst hn hx
  obtain ⟨ad, c, e, hl, hc⟩ := li_of_own h
  simp only [Value.slice.injEq] at e
  obtain ⟨rfl, _, rfl⟩ := e
  exact ⟨hl, hc⟩

section
variable {P : Program} (w : World)
/-- append at a step of a region that draws, the operation being wanted. -/
theorem step_own {ops : Array Oper} {o : Oper} {a : Act} {K : Act → World → Prop} {Q : Exit → Act → World → Prop} {E : Prop} (hw : Region.wanted o (yielded ops a.tmps) = true) (s x : Operand) (t : TypeId)
    (ho : o.op = .call { callee := .builtin .append, args := #[s, x], argTypes := #[t, t] })
    (base : Nat) (e : TypeId) (i : TypeInfo) (z : Value) (size bytes : Nat) (ht : P.underlying t = some (.slice e)) (hi : P.info? e = some i) (hz : i.zero = some z)
    (hsize : i.size = size) (hby : i.bytes = bytes) (hzs : z.cells.size = size) (hsz : 0 < size)
    (v : Value) (n : Nat) (xs : List Value) (hs : a.eval s = v) (hown : w.ownsRow base e size v n xs)
    (ad : Addr) (m c : Nat) (news : List Value) (hx : a.eval x = .slice (some ad) m c) (hl : news.length = m * size) (hnews : ∀ j u, news[j]? = some u → w.cell? (ad.add j) = some u) (h1 : ∀ u ∈ news, u.oneCell' = true)
    (h63 : n + m ≤ maxLen) (hbytes : (n + m) * bytes ≤ 140737488355328) (hbase : base ≤ w.heap.size)
    (h : ∀ v' w', w'.ownsRow base e size v' (n + m) (xs ++ news) → w.grownBy w' v.ownBlock → K (a.put o.dst v') w') :
    if Region.wanted o (yielded ops a.tmps) = true then Oper.wp P o a w K Q else E := by
  rw [if_pos hw]
  exact wp_append_own w s x t ho base e i z size bytes ht hi hz hsize hby hzs hsz v n xs hs hown ad m c news hx hl hnews h1 h63 hbytes hbase fun v' w' h2 h3 _ => h v' w' h2 h3
theorem step_lies {ops : Array Oper} {o : Oper} {a : Act} {K : Act → World → Prop} {Q : Exit → Act → World → Prop} {E : Prop} (hw : Region.wanted o (yielded ops a.tmps) = true) (s x : Operand) (t : TypeId)
    (ho : o.op = .call { callee := .builtin .append, args := #[s, x], argTypes := #[t, t] })
    (base : Nat) (e : TypeId) (i : TypeInfo) (z : Value) (size bytes : Nat) (ht : P.underlying t = some (.slice e)) (hi : P.info? e = some i) (hz : i.zero = some z)
    (hsize : i.size = size) (hby : i.bytes = bytes) (hzs : z.cells.size = size) (hsz : 0 < size)
    (v : Value) (n : Nat) (xs : List Value) (hs : a.eval s = v) (hown : w.ownsRow base e size v n xs)
    (ad : Addr) (m c : Nat) (news : List Value) (hx : a.eval x = .slice (some ad) m c) (hl : news.length = m * size) (hnews : ∀ j u, news[j]? = some u → w.cell? (ad.add j) = some u) (h1 : ∀ u ∈ news, u.oneCell' = true)
    (hm : 0 < m) (h63 : n + m ≤ maxLen) (hbytes : (n + m) * bytes ≤ 140737488355328) (hbase : base ≤ w.heap.size)
    (h : ∀ g cap w', w'.ownsRow base e size (.slice (some ⟨g, 0, none⟩) (n + m) cap) (n + m) (xs ++ news) → w.grownBy w' v.ownBlock → K (a.put o.dst (.slice (some ⟨g, 0, none⟩) (n + m) cap)) w') :
    if Region.wanted o (yielded ops a.tmps) = true then Oper.wp P o a w K Q else E := by
  rw [if_pos hw]
  exact wp_append_lies w s x t ho base e i z size bytes ht hi hz hsize hby hzs hsz v n xs hs hown ad m c news hx hl hnews h1 hm h63 hbytes hbase _ rfl fun g cap w' h2 h3 _ _ => h g cap w' h2 h3
theorem step_none {ops : Array Oper} {o : Oper} {a : Act} {K : Act → World → Prop} {Q : Exit → Act → World → Prop} {E : Prop} (hw : Region.wanted o (yielded ops a.tmps) = true) (s x : Operand) (t : TypeId)
    (ho : o.op = .call { callee := .builtin .append, args := #[s, x], argTypes := #[t, t] })
    (base : Nat) (e : TypeId) (i : TypeInfo) (size : Nat) (ht : P.underlying t = some (.slice e)) (hi : P.info? e = some i)
    (v : Value) (n : Nat) (xs : List Value) (hs : a.eval s = v) (hown : w.ownsRow base e size v n xs) (hx : a.eval x = .slice none 0 0)
    (h : K (a.put o.dst v) w) : if Region.wanted o (yielded ops a.tmps) = true then Oper.wp P o a w K Q else E := by
  rw [if_pos hw]
  have hrun := run_append_owned_none (P := P) (w := w) base t o.type e i size ht hi v n xs hown
  unfold Oper.wp
  simp [execOp, ho, resolve, invoke, builtin, hs, hx, hrun, Result.andThen]
  exact h
end

theorem wrap_len (n : Nat) (h : n ≤ 4398046510976) : wrap64 ((n : Int) + 1) = (n : Int) + 1 := by unfold wrap64; omega
theorem wrap_len' (n : Nat) (h : n ≤ 4398046510976) : IntKind.i64.wrap ((n : Int) + 1) = (n : Int) + 1 := by rw [IntKind.wrap_i64]; omega
theorem al1 (w : World) (o : Obj) : Below w.heap.size w (w.alloc o) := (Below.refl _ w).alloc (Nat.le_refl _) _
theorem al2 (w : World) (o o' : Obj) : Below w.heap.size w ((w.alloc o).alloc o') := (al1 w o).alloc (by simp) _
theorem own_empty3 (w : World) (o : Obj) : ((w.alloc o).alloc E0).ownsRow w.heap.size 24 3 (.slice (some ⟨w.heap.size + 1, 0, none⟩) 0 0) 0 [] := by
  have h := own_empty (w.alloc o) w.heap.size (by simp)
  rwa [show (w.alloc o).heap.size = w.heap.size + 1 by simp] at h
theorem o7_two {w w6 : World} {r : Option Nat} (hg : ((w.alloc E0).alloc O7).grownBy w6 r) (hr : some (w.heap.size + 1) ≠ r) : w6.heap[w.heap.size + 1]? = some O7 := by
  refine (hg.block _ (by simp) hr).trans ?_
  show ((w.heap.push E0).push O7)[w.heap.size + 1]? = _
  rw [show w.heap.size + 1 = (w.heap.push E0).size by simp]
  exact Array.getElem?_push_size
theorem o7_three {w w6 : World} {r : Option Nat} (hg : ((w.alloc O7).alloc E0).grownBy w6 r) (hr : some w.heap.size ≠ r) : w6.heap[w.heap.size]? = some O7 := by
  refine (hg.block _ (by simp; omega) hr).trans ?_
  rw [Below.heap_alloc _ _ _ (by simp)]
  show (w.heap.push O7)[w.heap.size]? = _
  simp
theorem same_n (M : List V) (n n' : Nat) (hn : n = M.length) (hn' : n' = M.length) (ad ad' : Option Addr) (cap cap' : Nat) (w : World) (hL : Li M ad w) (hM : Li M ad' w) (hmax : M.length ≤ 9223372036854775806) :
    Calls Try.prog 12 #[.slice ad n cap, .slice ad' n' cap'] w fun e w' => e = .returned (.bool true) ∧ Below w.heap.size w w' := by
  subst hn hn'
  exact same_t M ad ad' cap cap' w hL hM hmax
theorem grown_own {w X w6 : World} {v : Value} (hX : Below w.heap.size w X) (hg : X.grownBy w6 v.ownBlock) (hz : w.heap.size ≤ X.heap.size) (ho : ∀ k, v.ownBlock = some k → w.heap.size ≤ k) : Below w.heap.size w w6 := hX.grown hg hz ho
end Go.Proofs.Ytgagbfdknncadaa
