/- Lists in memory: what a slice reads; rows of structs; single steps; the deal's elements. -/
import Derived.Test.YtfokgalgdlajlaaVf
import Derived.Test.YtfokgalgdlajlaaUs
import Derived.Test.YtfokgalgdlajlaaUg
import Derived.Deep.MidRow
import Derived.Deep.DeepCutAuto
namespace Go.Proofs.Ytfokgalgdlajlaa
open Go.RowKit
/-- A list of things of c cells that a slice reads; E says what cells stand for a thing. -/
def Lr {α : Type} (E : World → α → List Value → Prop) (c : Nat) (w : World) (L : List α) (v : Value) : Prop := ∃ ad cap, v = .slice ad L.length cap ∧ (ad = none → cap = 0) ∧ L.length ≤ cap ∧ cap ≤ maxLen ∧
  ∀ i (h : i < L.length), ∃ b o cs, ad = some ⟨b, o, none⟩ ∧ b < w.heap.size ∧ E w L[i] cs ∧ cs.length = c ∧ ∀ j u, cs[j]? = some u → w.cell? ⟨b, o + i * c + j, none⟩ = some u
def Held {α : Type} (E : World → α → List Value → Prop) : Prop := ∀ w w' x cs, Below w.heap.size w w' → E w x cs → E w' x cs
theorem Lr.on {α : Type} {E : World → α → List Value → Prop} {c : Nat} {w w' : World} {L : List α} {v : Value} (hE : Held E) (h : Lr E c w L v) (hb : Below w.heap.size w w') : Lr E c w' L v := by
  obtain ⟨ad, cap, e, h0, h1, h2, h3⟩ := h
  refine ⟨ad, cap, e, h0, h1, h2, fun i hi => ?_⟩
  obtain ⟨b, o, cs, ha, hl, hE', hc, hh⟩ := h3 i hi
  exact ⟨b, o, cs, ha, Nat.lt_of_lt_of_le hl hb.size, hE w w' _ cs hb hE', hc, fun j u hu => cell_on hb (hh j u hu)⟩
/-! ### Rows of things of c cells -/
section
variable {α : Type} {f : α → List Value} {c : Nat} {w w' : World} {B : Nat} {T : TypeId} {v : Value} {L : List α}
theorem fl_len (hc : ∀ x, (f x).length = c) : ∀ L : List α, (L.flatMap f).length = L.length * c
  | [] => by simp
  | x :: L => by
    rw [List.flatMap_cons, List.length_append, hc, fl_len hc L, List.length_cons, Nat.succ_mul]
    omega
theorem fl_get (hc : ∀ x, (f x).length = c) : ∀ (L : List α) (k : Nat) (hk : k < L.length) (j : Nat), j < c → (L.flatMap f)[k * c + j]? = (f L[k])[j]?
  | x :: L, 0, _, j, hj => by
    rw [List.flatMap_cons, Nat.zero_mul, Nat.zero_add, List.getElem?_append_left (by rw [hc]; exact hj)]
    rfl
  | x :: L, k + 1, hk, j, hj => by
    have e : (k + 1) * c + j = (f x).length + (k * c + j) := by rw [hc, Nat.succ_mul]; omega
    rw [List.flatMap_cons, e, List.getElem?_append_right (by omega), Nat.add_sub_cancel_left]
    exact fl_get hc L k (by simpa using hk) j hj
theorem Lr.own (hc : ∀ x, (f x).length = c) (h : w.ownsRow B T c v L.length (L.flatMap f)) : Lr (fun _ x cs => cs = f x) c w L v := by
  have h' := own_mono h (Nat.zero_le B)
  rcases h.2 with ⟨hv, hz⟩ | ⟨g, cap, cur, hv, hg, hcc, h1, h2, hr⟩
  · exact ⟨none, 0, by rw [hv, hz], fun _ => rfl, by omega, Nat.zero_le _, fun i hi => by omega⟩
  · subst hv
    refine ⟨_, cap, rfl, fun q => (by cases q), h1, h2, fun i hi => ⟨g, 0, f L[i], rfl, blk_lt hcc, rfl, hc _, fun j u hu => ?_⟩⟩
    have hj : j < c := by
      have := (List.getElem?_eq_some_iff.1 hu).1
      rwa [hc] at this
    have hlt : i * c + j < L.length * c := by
      have : (i + 1) * c ≤ L.length * c := Nat.mul_le_mul_right c hi
      rw [Nat.succ_mul] at this
      omega
    rw [Nat.zero_add, h'.cellAt _ hlt, fl_get hc L i hi j hj]
    exact hu
end
theorem Lr.src {α : Type} {f : α → List Value} {c : Nat} {w : World} {L : List α} {ad : Option Addr} {cap : Nat} (hc : ∀ x, (f x).length = c) (h : Lr (fun _ x cs => cs = f x) c w L (.slice ad L.length cap)) : (ad = none ∧ L.length = 0 ∧ cap = 0 ∧ L.flatMap f = []) ∨ ∃ a, ad = some a ∧ (L.flatMap f).length = L.length * c ∧ (∀ j u, (L.flatMap f)[j]? = some u → w.cell? (a.add j) = some u) := by
  obtain ⟨ad', cap', e, h0, h1, h2, h3⟩ := h
  cases e
  cases had : ad with
  | none =>
    have hL : L = [] := by
      rcases L with _ | ⟨x, L⟩
      · rfl
      · obtain ⟨b, o, cs, e, _⟩ := h3 0 (by simp)
        rw [had] at e
        cases e
    subst hL
    exact .inl ⟨rfl, rfl, h0 had, rfl⟩
  | some a =>
    refine .inr ⟨a, rfl, fl_len hc L, fun j u hu => ?_⟩
    have hj : j < L.length * c := by
      have := (List.getElem?_eq_some_iff.1 hu).1
      rwa [fl_len hc] at this
    have hc0 : 0 < c := by
      rcases Nat.eq_zero_or_pos c with q | q
      · subst q
        simp at hj
      · exact q
    have hi : j / c < L.length := Nat.div_lt_of_lt_mul (by rw [Nat.mul_comm]; exact hj)
    have hm : j % c < c := Nat.mod_lt _ hc0
    have e2 : j = j / c * c + j % c := by
      have := Nat.div_add_mod j c
      rw [Nat.mul_comm] at this
      exact this.symm
    obtain ⟨b, o, cs, e, _, hE, _, hh⟩ := h3 (j / c) hi
    rw [had] at e
    cases e
    have hE' : cs = f L[j / c] := hE
    have := hh (j % c) u (by
      rw [hE', ← fl_get hc L (j / c) hi _ hm, ← e2]
      exact hu)
    rw [add_at]
    rw [Nat.add_assoc, ← e2] at this
    exact this
theorem row_blk {w : World} {g cap : Nat} {e : TypeId} {c n : Nat} {xs : List Value} (h : w.ownsRow 0 e c (.slice (some ⟨g, 0, none⟩) n cap) n xs) : ∃ cur, w.heap[g]? = some (.cells cur e (0, 0)) ∧ n ≤ cap ∧ cap ≤ maxLen ∧ cur.size = cap * c ∧ cur.toList.take (n * c) = xs := by
  rcases h.2 with ⟨hv, _⟩ | ⟨g', cap', cur, hv, h0, hg, h1, h2, h3, h4⟩
  · cases hv
  · cases hv
    exact ⟨cur, hg, h1, h2, h3, h4⟩
theorem row_setc {w : World} {base g cap n c : Nat} {e : TypeId} {xs : List Value} (h : w.ownsRow base e c (.slice (some ⟨g, 0, none⟩) n cap) n xs) (j : Nat) (u : Value) : (w.setCell ⟨g, j, none⟩ u).ownsRow base e c (.slice (some ⟨g, 0, none⟩) n cap) n (xs.set j u) := by
  rcases h.2 with ⟨hv, _⟩ | ⟨g', cap', cur, hv, h0, hg, h1, h2, h3, h4⟩
  · cases hv
  · cases hv
    refine ⟨by rw [List.length_set]; exact h.1, .inr ⟨g, cap, cur.setIfInBounds j u, rfl, h0, set_blk hg u, h1, h2, by simp [h3], ?_⟩⟩
    rw [Array.toList_setIfInBounds, List.take_set, h4]
theorem own_tag {w : World} {B : Nat} {e : TypeId} {c n : Nat} {v : Value} {xs : List Value} (h : w.ownsRow B e c v n xs) : ∀ k, v.ownBlock = some k → ∃ cs, w.heap[k]? = some (.cells cs e (0, 0)) := by
  intro k hk
  rcases h.2 with ⟨hv, _⟩ | ⟨g, cap, cur, hv, _, hg, _⟩
  · rw [hv] at hk; cases hk
  · rw [hv] at hk
    simp only [Value.ownBlock, Option.some.injEq] at hk
    subst hk
    exact ⟨cur, hg⟩
theorem load_row {w : World} {g : Nat} {t ty : TypeId} {cs : Array Value} {fr : Nat × Nat} {d : TypeDesc} (hg : w.heap[g]? = some (.cells cs t fr)) (hu : Try.prog.underlying ty = some d) (hd : d.isRow = true) (hi : (Try.prog.info? ty).map (·.size) = some cs.size) : (Instr.loadAt ty (.pointer (some ⟨g, 0, none⟩))).run Try.prog w = .ok (.agg cs) w := by
  have h := run_loadVar_row w g t ty cs fr d hg hu (by cases d <;> first | rfl | cases hd) hi
  simp only [Instr.loadAt, Instr.sureAddr, Sem.run_bind, Sem.run_pure, Result.andThen_ok, h]
theorem wpl_load {P : Program} {w : World} {ops : Array Oper} {rest : List Oper} {o : Oper} {a : Act} {Q : Exit → Act → World → Prop} {t ty : TypeId} {v p : Value} {ds : Option Tmp} {ps : String} {af : Array Edge} (x : Operand)
    (ho : o = ⟨ds, .load t x, ty, ps, af, none⟩) (hx : a.eval x = p) (hld : (Instr.loadAt t p).run P w = .ok v w)
    (h : wpList P ops Q rest (a.put ds v) w) : wpList P ops Q (o :: rest) a w := by
  subst ho
  subst hx
  refine wpList_plain rfl fun K hK => ?_
  unfold Oper.wp execOp
  simp only [Sem.run_bind, Sem.run_pure, Result.andThen_ok, hld]
  exact hK _ _ h
theorem wpl_store {P : Program} {w w' : World} {ops : Array Oper} {rest : List Oper} {o : Oper} {a : Act} {Q : Exit → Act → World → Prop} {t ty : TypeId} {v p : Value} {ds : Option Tmp} {ps : String} {af : Array Edge} (x y : Operand)
    (ho : o = ⟨ds, .store t x y, ty, ps, af, none⟩) (hx : a.eval x = p) (hy : a.eval y = v) (hst : (Instr.storeAt t p v).run P w = .ok () w')
    (h : wpList P ops Q rest (a.put ds undef) w') : wpList P ops Q (o :: rest) a w := by
  subst ho
  subst hx
  subst hy
  refine wpList_plain rfl fun K hK => ?_
  unfold Oper.wp execOp
  simp only [Sem.run_bind, Sem.run_pure, Result.andThen_ok, hst]
  exact hK _ _ h
theorem store_row {w : World} {g : Nat} {t ty : TypeId} {cs us : Array Value} (hg : w.heap[g]? = some (.cells cs t (0, 0))) (hl : us.size = cs.size) (hi : (Try.prog.info? ty).map (·.size) = some us.size) (h1 : us.all (·.oneCell') = true) : (Instr.storeAt ty (.pointer (some ⟨g, 0, none⟩)) (.agg us)).run Try.prog w = .ok () (w.setCells g 0 us.toList) := by
  refine run_storeAt_mid w g 0 ty us (fun j hj => ?_) hi h1
  rw [Nat.zero_add]
  refine ⟨?_, frozen_blk hg j⟩
  rw [cell_blk hg j, Array.getElem?_eq_getElem (by omega)]
  rfl
theorem setCells_gen {R : Nat} {t : TypeId} {fr : Nat × Nat} : ∀ (vs : List Value) (o : Nat) (w : World) (cs : Array Value), w.heap[R]? = some (.cells cs t fr) → o + vs.length ≤ cs.size →
    (∃ ds : Array Value, (w.setCells R o vs).heap[R]? = some (.cells ds t fr) ∧ ds.toList = cs.toList.take o ++ vs ++ cs.toList.drop (o + vs.length)) ∧ (∀ k, k ≠ R → (w.setCells R o vs).heap[k]? = w.heap[k]?) ∧ (w.setCells R o vs).heap.size = w.heap.size ∧ (w.setCells R o vs).os = w.os ∧ (w.setCells R o vs).tape = w.tape ∧ (w.setCells R o vs).output = w.output
  | [], o, w, cs, h, _ => ⟨⟨cs, h, by simp⟩, fun _ _ => rfl, rfl, rfl, rfl, rfl⟩
  | v :: r, o, w, cs, h, hl => by
    simp only [List.length_cons] at hl
    obtain ⟨⟨ds, h1, h2⟩, h3, h4, h5, h6, h7⟩ := setCells_gen r (o + 1) (w.setCell ⟨R, o, none⟩ v) (cs.setIfInBounds o v) (set_blk h v) (by simp; omega)
    refine ⟨⟨ds, h1, ?_⟩, fun k hk => (h3 k hk).trans (set_other (a := ⟨R, o, none⟩) _ hk), h4.trans (by simp [World.setCell]), h5, h6, h7⟩
    have ho : o < cs.toList.length := by simp; omega
    rw [h2, Array.toList_setIfInBounds, List.drop_set_of_lt (by omega), List.take_add_one, List.take_set_of_le (Nat.le_refl _), List.getElem?_set_self ho]
    simp [List.length_cons, Nat.add_assoc, Nat.add_comm 1]
theorem sets_row {w : World} {R : Nat} {cs : Array Value} {t : TypeId} {fr : Nat × Nat} (h : w.heap[R]? = some (.cells cs t fr)) (vs : Array Value) (hl : vs.size = cs.size) : ∃ W, W = w.setCells R 0 vs.toList ∧ W.heap[R]? = some (.cells vs t fr) ∧ Fr w W (fun k => k = R) := by
  obtain ⟨⟨ds, h1, h2⟩, h3, h4, h5, h6, h7⟩ := setCells_gen vs.toList 0 w cs h (by simp; omega)
  refine ⟨_, rfl, ?_, ⟨h5, h6, h7, by omega, fun k _ hk => h3 k hk⟩⟩
  have e : ds = vs := by
    apply Array.toList_inj.1
    rw [h2]
    simp [hl]
  rw [h1, e]
theorem load_var {w : World} {g : Nat} {t ty : TypeId} {cs : Array Value} {fr : Nat × Nat} {d : TypeDesc} (hg : w.heap[g]? = some (.cells cs t fr)) (hu : Try.prog.underlying ty = some d) (hd : d.isRow = true) (hi : (Try.prog.info? ty).map (·.size) = some cs.size) : (loadVar ty ⟨g, 0, none⟩).run Try.prog w = .ok (.agg cs) w :=
  run_loadVar_row w g t ty cs fr d hg hu (by cases d <;> first | rfl | cases hd) hi
theorem results_one {fn : Func} {t : Tmp} {ty : TypeId} {ad : Addr} {v : Value} {tmps : Array Value} {w : World} (h : fn.results = #[.cell t ty]) (ha : tmps.getD t undef = .pointer (some ad)) (hl : (loadVar ty ad).run Try.prog w = .ok v w) : (results fn tmps).run Try.prog w = .ok v w := by
  have ha2 : tmps[t]?.getD undef = .pointer (some ad) := by simpa using ha
  simp [results, h, ha2, asAddr, hl]
theorem Lr.shape {α : Type} {E : World → α → List Value → Prop} {c : Nat} {w : World} {L : List α} {v : Value} (h : Lr E c w L v) : ∃ ad cap, v = .slice ad L.length cap ∧ cap ≤ maxLen ∧ L.length ≤ cap := by
  obtain ⟨ad, cap, e, _, h1, h2, _⟩ := h
  exact ⟨ad, cap, e, h2, h1⟩
theorem keep_rowB {w w' : World} {B : Nat} {T : Nat → Prop} {e : TypeId} {c n : Nat} {v : Value} {xs : List Value} (hr : w.ownsRow B e c v n xs) (hf : Fr w w' T) (ht : ∀ k, T k → ∀ cs, w.heap[k]? ≠ some (.cells cs e (0, 0))) : w'.ownsRow B e c v n xs :=
  row_keep hr hf (fun j hj q => by
    obtain ⟨cs, t⟩ := own_tag hr j hj
    exact ht j q cs t)
/-! ### The elements -/
theorem bnew (w : World) (o : Obj) : Below w.heap.size w (w.alloc o) := (Below.refl _ w).alloc (Nat.le_refl _) o
theorem bgo {w W X : World} (h : Below w.heap.size w W) (k : Below W.heap.size W X) : Below w.heap.size w X := h.trans (k.mono h.size)
structure Sm where
  key : ByteArray
  ts : Int
abbrev smL (x : Sm) : List Value := [.string x.key, .int .i64 x.ts]
theorem smL_len (x : Sm) : (smL x).length = 2 := rfl
def smE (_ : World) (x : Sm) (cs : List Value) : Prop := cs = smL x
theorem smE_held : Held smE := fun _ _ _ _ _ h => h
structure Wr where
  key : ByteArray
  val : ByteArray
  dead : Bool
abbrev wrL (x : Wr) : List Value := [.string x.key, .string x.val, .bool x.dead]
theorem wrL_len (x : Wr) : (wrL x).length = 3 := rfl
def wrE (_ : World) (x : Wr) (cs : List Value) : Prop := cs = wrL x
theorem wrE_held : Held wrE := fun _ _ _ _ _ h => h
structure Rd where
  lo : ByteArray
  hi : ByteArray
  seen : List Sm
/-- A read's cells, what it saw as a slice. -/
abbrev Gr := Rd × Value
abbrev grL (g : Gr) : List Value := [.string g.1.lo, .string g.1.hi, g.2]
theorem grL_len (g : Gr) : (grL g).length = 3 := rfl
def rdE (w : World) (x : Rd) (cs : List Value) : Prop := ∃ sa sc, cs = grL (x, .slice sa x.seen.length sc) ∧ Lr smE 2 w x.seen (.slice sa x.seen.length sc)
theorem rdE_held : Held rdE := fun _ _ _ _ hb ⟨sa, sc, e, h⟩ => ⟨sa, sc, e, h.on smE_held hb⟩
/-- A slice's three parts. -/
structure Sv where
  a : Option Addr
  n : Nat
  c : Nat
abbrev Sv.v (s : Sv) : Value := .slice s.a s.n s.c
def Sv.nil : Sv := ⟨none, 0, 0⟩
/-- A part's cells: its lists as slices. -/
structure Gp where
  sh : Int
  r : Sv
  w : Sv
abbrev gpL (g : Gp) : List Value := [.int .i64 g.sh, .slice g.r.a g.r.n g.r.c, .slice g.w.a g.w.n g.w.c]
theorem gpL_len (g : Gp) : (gpL g).length = 3 := rfl
abbrev gpA (g : Gp) : Array Value := #[.int .i64 g.sh, .slice g.r.a g.r.n g.r.c, .slice g.w.a g.w.n g.w.c]
def gpE (_ : World) (x : Gp) (cs : List Value) : Prop := cs = gpL x
theorem gpE_held : Held gpE := fun _ _ _ _ _ h => h
end Go.Proofs.Ytfokgalgdlajlaa
