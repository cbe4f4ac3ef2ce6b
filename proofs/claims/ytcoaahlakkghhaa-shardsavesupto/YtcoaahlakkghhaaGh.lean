/- A shard, plain and in memory. -/
import Derived.Test.YtcoaahlakkghhaaGg
import Derived.Test.YtcoaahlakkghhaaGd
import Derived.Test.YtcoaahlakkghhaaGc
import Derived.Test.YtcoaahlakkghhaaGf
namespace Go.Proofs.Ytcoaahlakkghhaa
open Go.RowKit
/-! ### Rows of things of c cells -/
section
variable {α : Type} {f : α → List Value} {c : Nat} {w w' : World} {B : Nat} {T : TypeId} {v : Value} {L : List α}
theorem fl_len (hc : ∀ x, (f x).length = c) : ∀ L : List α, (L.flatMap f).length = L.length * c
  | [] => by simp
  | x :: L => by
    rw [List.flatMap_cons, List.length_append, hc, fl_len hc L, List.length_cons, Nat.succ_mul]
    omega
theorem fl_get (hc : ∀ x, (f x).length = c) : ∀ (L : List α) (k : Nat) (hk : k < L.length) (j : Nat), j < c → (L.flatMap f)[k * c + j]? = (f L[k])[j]?
  | x :: L, 0, _, j, hj => by
    rw [List.flatMap_cons, Nat.zero_mul, Nat.zero_add, List.getElem?_append_left (by rw [hc]; exact hj)]
    rfl
  | x :: L, k + 1, hk, j, hj => by
    have e : (k + 1) * c + j = (f x).length + (k * c + j) := by rw [hc, Nat.succ_mul]; omega
    rw [List.flatMap_cons, e, List.getElem?_append_right (by omega), Nat.add_sub_cancel_left]
    exact fl_get hc L k (by simpa using hk) j hj
theorem Lr.own (hc : ∀ x, (f x).length = c) (h : w.ownsRow B T c v L.length (L.flatMap f)) : Lr (fun _ x cs => cs = f x) c w L v := by
  have h' := own_mono h (Nat.zero_le B)
  rcases h.2 with ⟨hv, hz⟩ | ⟨g, cap, cur, hv, hg, hcc, h1, h2, hr⟩
  · exact ⟨none, 0, by rw [hv, hz], fun _ => rfl, by omega, Nat.zero_le _, fun i hi => by omega⟩
  · subst hv
    refine ⟨_, cap, rfl, fun q => (by cases q), h1, h2, fun i hi => ⟨g, 0, f L[i], rfl, blk_lt hcc, rfl, hc _, fun j u hu => ?_⟩⟩
    have hj : j < c := by
      have := (List.getElem?_eq_some_iff.1 hu).1
      rwa [hc] at this
    have hlt : i * c + j < L.length * c := by
      have : (i + 1) * c ≤ L.length * c := Nat.mul_le_mul_right c hi
      rw [Nat.succ_mul] at this
      omega
    rw [Nat.zero_add, h'.cellAt _ hlt, fl_get hc L i hi j hj]
    exact hu
end
theorem snL_len (x : Sn) : (snL x).length = 2 := rfl
theorem wrL_len (x : Wr) : (wrL x).length = 3 := rfl
theorem rcL_len (x : Rc) : (rcL x).length = 4 := rfl
theorem tdL_len (x : Td) : (tdL x).length = 3 := rfl
theorem smL_len (x : Sm) : (smL x).length = 2 := rfl
/-! ### Plain -/
structure Sh where
  rows : List Rw
  locks : List Lk
  recs : List Rc
  over : List Td
  high : Int
def Sh.nil : Sh := ⟨[], [], [], [], 0⟩
def recOf (R : List Rc) (t : Td) : Option Int := (R.find? fun r => decide (r.1 = t)).map Prod.snd
def lockI (L : List Lk) (t : Td) : Int := fidx (fun l => decide (l.txn = t)) L
theorem recOf_snoc (R : List Rc) (t : Td) (n : Int) (h : recOf R t = none) (x : Td) : recOf (R ++ [(t, n)]) x = if x = t then some n else recOf R x := by
  unfold recOf at h ⊢
  rw [List.find?_append]
  by_cases e : x = t
  · subst e
    rw [if_pos rfl]
    rw [Option.map_eq_none_iff] at h
    rw [h]
    simp
  · rw [if_neg e]
    have : [(t, n)].find? (fun r => decide (r.1 = x)) = none := by
      have e' : ¬ t = x := fun q => e q.symm
      simp [e']
    rw [this, Option.or_none]
/-! ### In memory -/
abbrev Gl := Lk × Value × Value
def glL (g : Gl) : List Value := [.int .i64 g.1.txn.1, .int .i64 g.1.txn.2.1, .int .i64 g.1.txn.2.2, .int .i64 g.1.home, .int .i64 g.1.til, g.2.1, g.2.2]
theorem glL_len (g : Gl) : (glL g).length = 7 := rfl
structure Sx (w : World) (A : Nat) (S1 S2 : Nat → Prop) (s : Sh) (P M N : Nat) (G : List Gl) (lv rv ov : Value) : Prop where
  ob : w.heap[A]? = some (.cells #[.pointer (some ⟨P, 0, none⟩), lv, rv, .map (some M), ov, .map (some N), .int .i64 s.high] 92 (0, 0))
  st : Sb w P S1 s.rows
  lks : w.ownsRow 0 68 7 lv G.length (G.flatMap glL)
  gl : G.map Prod.fst = s.locks
  sp : ∀ g ∈ G, w.ownsRow 0 57 2 g.2.1 g.1.spans.length (g.1.spans.flatMap snL)
  wr : ∀ g ∈ G, w.ownsRow 0 55 3 g.2.2 g.1.writes.length (g.1.writes.flatMap wrL)
  rcs : w.ownsRow 0 101 4 rv s.recs.length (s.recs.flatMap rcL)
  ovs : w.ownsRow 0 37 3 ov s.over.length (s.over.flatMap tdL)
  tm : Mt w M s.recs.length (fun t => (recOf s.recs t).map (fun n => .int .i64 n))
  en : Mt w N s.over.length (fun t => if t ∈ s.over then some (.agg #[]) else none)
  mn : M ≠ N
  cA : S2 A
  cM : S2 M
  cN : S2 N
  cl : ∀ k, lv.ownBlock = some k → S2 k
  cr : ∀ k, rv.ownBlock = some k → S2 k
  co : ∀ k, ov.ownBlock = some k → S2 k
  cs : ∀ g ∈ G, ∀ k, g.2.1.ownBlock = some k → S2 k
  cw : ∀ g ∈ G, ∀ k, g.2.2.ownBlock = some k → S2 k
  lt : ∀ k, S2 k → k < w.heap.size
  off : ∀ k, S1 k → ¬ S2 k
  fl : G.length ≤ 800000
  fr : s.recs.length ≤ 800000
  fo : s.over.length ≤ 800000
section
variable {w w' : World} {A : Nat} {S1 S2 T : Nat → Prop} {s : Sh} {P M N : Nat} {G : List Gl} {lv rv ov : Value}
theorem Sx.stays (h : Sx w A S1 S2 s P M N G lv rv ov) (hf : Fr w w' T) (h1 : ∀ k, S1 k → ¬ T k) (h2 : ∀ k, S2 k → ¬ T k) : Sx w' A S1 S2 s P M N G lv rv ov where
  ob := (hf.block A (h.lt A h.cA) (h2 A h.cA)).trans h.ob
  st := h.st.stays hf h1
  lks := row_keep h.lks hf (fun j hj => h2 j (h.cl j hj))
  gl := h.gl
  sp := fun g hg => row_keep (h.sp g hg) hf (fun j hj => h2 j (h.cs g hg j hj))
  wr := fun g hg => row_keep (h.wr g hg) hf (fun j hj => h2 j (h.cw g hg j hj))
  rcs := row_keep h.rcs hf (fun j hj => h2 j (h.cr j hj))
  ovs := row_keep h.ovs hf (fun j hj => h2 j (h.co j hj))
  tm := h.tm.like (hf.block M (h.lt M h.cM) (h2 M h.cM))
  en := h.en.like (hf.block N (h.lt N h.cN) (h2 N h.cN))
  mn := h.mn
  cA := h.cA
  cM := h.cM
  cN := h.cN
  cl := h.cl
  cr := h.cr
  co := h.co
  cs := h.cs
  cw := h.cw
  lt := fun k hk => Nat.lt_of_lt_of_le (h.lt k hk) hf.size
  off := h.off
  fl := h.fl
  fr := h.fr
  fo := h.fo
theorem Sx.on (h : Sx w A S1 S2 s P M N G lv rv ov) (hb : Below w.heap.size w w') : Sx w' A S1 S2 s P M N G lv rv ov := h.stays (Fr.ofBelow (fun _ => False) hb) (fun _ _ q => q) (fun _ _ q => q)
theorem Sx.locks (h : Sx w A S1 S2 s P M N G lv rv ov) : Lr lkE 7 w s.locks lv := by
  obtain ⟨ad, cap, e, h0, h1, h2, h3⟩ := Lr.own (f := glL) glL_len h.lks
  have hl : G.length = s.locks.length := by rw [← h.gl, List.length_map]
  refine ⟨ad, cap, by rw [e, hl], h0, by omega, h2, fun i hi => ?_⟩
  obtain ⟨b, o, cs, ha, hb, hE, hc, hh⟩ := h3 i (by omega)
  have hg : G[i]'(by omega) ∈ G := List.getElem_mem _
  have hx : s.locks[i] = (G[i]'(by omega)).1 := by
    have : s.locks[i] = (G.map Prod.fst)[i]'(by rw [h.gl]; exact hi) := by simp only [h.gl]
    rw [this, List.getElem_map]
  have hE' : cs = glL (G[i]'(by omega)) := hE
  obtain ⟨sa, sc, e1⟩ := own_shape (h.sp _ hg)
  obtain ⟨wa, wc, e2⟩ := own_shape (h.wr _ hg)
  refine ⟨b, o, cs, ha, hb, ⟨sa, sc, wa, wc, ?_, ?_, ?_⟩, hc, hh⟩
  · rw [hE', hx]
    unfold glL
    rw [e1, e2]
  · rw [hx, ← e1]
    exact Lr.own snL_len (h.sp _ hg)
  · rw [hx, ← e2]
    exact Lr.own wrL_len (h.wr _ hg)
theorem Sx.shape (h : Sx w A S1 S2 s P M N G lv rv ov) : ∃ ad cap, lv = .slice ad G.length cap := own_shape h.lks
end
/-- A shard at A, in the blocks S. -/
def Sy (w : World) (A : Nat) (S : Nat → Prop) (s : Sh) : Prop := ∃ S1 S2 P M N G lv rv ov, Sx w A S1 S2 s P M N G lv rv ov ∧ ∀ k, S k ↔ S1 k ∨ S2 k
section
variable {w w' : World} {A : Nat} {S T : Nat → Prop} {s : Sh}
theorem Sy.stays (h : Sy w A S s) (hf : Fr w w' T) (hd : ∀ k, S k → ¬ T k) : Sy w' A S s := by
  obtain ⟨S1, S2, P, M, N, G, lv, rv, ov, h, hS⟩ := h
  exact ⟨S1, S2, P, M, N, G, lv, rv, ov, h.stays hf (fun k hk => hd k ((hS k).2 (.inl hk))) (fun k hk => hd k ((hS k).2 (.inr hk))), hS⟩
theorem Sy.on (h : Sy w A S s) (hb : Below w.heap.size w w') : Sy w' A S s := h.stays (Fr.ofBelow (fun _ => False) hb) (fun _ _ q => q)
theorem Sy.lt (h : Sy w A S s) : ∀ k, S k → k < w.heap.size := by
  obtain ⟨S1, S2, P, M, N, G, lv, rv, ov, h, hS⟩ := h
  intro k hk
  rcases (hS k).1 hk with q | q
  · exact h.st.lt k q
  · exact h.lt k q
end
end Go.Proofs.Ytcoaahlakkghhaa
/- Single operations; the walks of isOver, Record, lockOf. -/
namespace Go.Proofs.Ytcoaahlakkghhaa
open Go.RowKit
section
variable {ρ : Operand → Value} {X : World} {d : Option Tmp} {ty : TypeId} {ps : String} {af : Array Edge} {g : Option (Nat × Bool)}
theorem op_f92_0 {x : Operand} {B o : Nat} (e : ρ x = .pointer (some ⟨B, o, none⟩)) : (execOp ρ ⟨d, .fieldAddr 92 x 0, ty, ps, af, g⟩).run Try.prog X = .ok (.value (.pointer (some ⟨B, o, none⟩))) X := by
  simp only [execOp, e]
  go_simp
theorem op_f92_1 {x : Operand} {B o : Nat} (e : ρ x = .pointer (some ⟨B, o, none⟩)) : (execOp ρ ⟨d, .fieldAddr 92 x 1, ty, ps, af, g⟩).run Try.prog X = .ok (.value (.pointer (some ⟨B, o + 1, none⟩))) X := by
  simp only [execOp, e]
  go_simp
theorem op_f92_2 {x : Operand} {B o : Nat} (e : ρ x = .pointer (some ⟨B, o, none⟩)) : (execOp ρ ⟨d, .fieldAddr 92 x 2, ty, ps, af, g⟩).run Try.prog X = .ok (.value (.pointer (some ⟨B, o + 2, none⟩))) X := by
  simp only [execOp, e]
  go_simp
theorem op_f92_3 {x : Operand} {B o : Nat} (e : ρ x = .pointer (some ⟨B, o, none⟩)) : (execOp ρ ⟨d, .fieldAddr 92 x 3, ty, ps, af, g⟩).run Try.prog X = .ok (.value (.pointer (some ⟨B, o + 3, none⟩))) X := by
  simp only [execOp, e]
  go_simp
theorem op_f92_4 {x : Operand} {B o : Nat} (e : ρ x = .pointer (some ⟨B, o, none⟩)) : (execOp ρ ⟨d, .fieldAddr 92 x 4, ty, ps, af, g⟩).run Try.prog X = .ok (.value (.pointer (some ⟨B, o + 4, none⟩))) X := by
  simp only [execOp, e]
  go_simp
theorem op_f92_5 {x : Operand} {B o : Nat} (e : ρ x = .pointer (some ⟨B, o, none⟩)) : (execOp ρ ⟨d, .fieldAddr 92 x 5, ty, ps, af, g⟩).run Try.prog X = .ok (.value (.pointer (some ⟨B, o + 5, none⟩))) X := by
  simp only [execOp, e]
  go_simp
theorem op_load89 {x : Operand} {B i : Nat} {n : Option Nat} (e : ρ x = .pointer (some ⟨B, i, none⟩)) (y : X.cell? ⟨B, i, none⟩ = some (.map n)) : (execOp ρ ⟨d, .load 89 x, ty, ps, af, g⟩).run Try.prog X = .ok (.value (.map n)) X := by
  simp only [execOp, e]
  go_simp
theorem op_load90 {x : Operand} {B i : Nat} {n : Option Nat} (e : ρ x = .pointer (some ⟨B, i, none⟩)) (y : X.cell? ⟨B, i, none⟩ = some (.map n)) : (execOp ρ ⟨d, .load 90 x, ty, ps, af, g⟩).run Try.prog X = .ok (.value (.map n)) X := by
  simp only [execOp, e]
  go_simp
theorem op_load37 {x : Operand} {B i : Nat} {t : Td} (e : ρ x = .pointer (some ⟨B, i, none⟩)) (y0 : X.cell? ⟨B, i, none⟩ = some (.int .i64 t.1)) (y1 : X.cell? ⟨B, i + 1, none⟩ = some (.int .i64 t.2.1)) (y2 : X.cell? ⟨B, i + 2, none⟩ = some (.int .i64 t.2.2)) : (execOp ρ ⟨d, .load 37 x, ty, ps, af, g⟩).run Try.prog X = .ok (.value (tdV t)) X := by
  simp only [execOp, e]
  go_simp
theorem op_lookup {T : TypeId} {x y : Operand} {v1 v2 v : Value} {b : Bool} (e : ρ x = v1) (e2 : ρ y = v2) (h : (Instr.lookup T v1 v2 b).run Try.prog X = .ok v X) : (execOp ρ ⟨d, .lookup T x y b, ty, ps, af, g⟩).run Try.prog X = .ok (.value v) X := by
  simp only [execOp, e, e2]
  simp [h]
theorem op_extract0 {x : Operand} {u v : Value} (e : ρ x = .tuple #[u, v]) : (execOp ρ ⟨d, .extract x 0, ty, ps, af, g⟩).run Try.prog X = .ok (.value u) X := by
  simp only [execOp, e]
  go_simp
theorem op_extract1 {x : Operand} {u v : Value} (e : ρ x = .tuple #[u, v]) : (execOp ρ ⟨d, .extract x 1, ty, ps, af, g⟩).run Try.prog X = .ok (.value v) X := by
  simp only [execOp, e]
  go_simp
theorem op_alloc154 : (execOp ρ ⟨d, .alloc 154, ty, ps, af, g⟩).run Try.prog X = .ok (.value (.pointer (some ⟨X.heap.size, 0, none⟩))) (X.alloc (.cells #[] 154)) := by
  simp only [execOp]
  go_simp
theorem op_store154 {x y : Operand} {B : Nat} (e : ρ x = .pointer (some ⟨B, 0, none⟩)) (e2 : ρ y = .agg #[]) : (execOp ρ ⟨d, .store 154 x y, ty, ps, af, g⟩).run Try.prog X = .ok .skip X := by
  simp only [execOp, e, e2]
  go_simp
end
theorem zero3 (w : World) : (zeroValue 3).run Try.prog w = .ok (.int .i64 0) w := by kernel_rfl
theorem zero154 (w : World) : (zeroValue 154).run Try.prog w = .ok (.agg #[]) w := by kernel_rfl
end Go.Proofs.Ytcoaahlakkghhaa
/- The walks of isOver, Record, lockOf. -/
namespace Go.Proofs.Ytcoaahlakkghhaa
open Go.RowKit
section
variable {w w' : World} {A : Nat} {S1 S2 : Nat → Prop} {s : Sh} {P M N : Nat} {G : List Gl} {lv rv ov : Value}
set_option maxHeartbeats 2000000 in
set_option maxRecDepth 100000 in
theorem isOver_any (h : Sx w A S1 S2 s P M N G lv rv ov) {t : Td} (ht : TdOk t) : Calls Try.prog 50 #[.pointer (some ⟨A, 0, none⟩), tdV t] w fun e w' => e = .returned (.bool (decide (t ∈ s.over))) ∧ Below w.heap.size w w' := by
  obtain ⟨W, hW⟩ : ∃ W, W = w.alloc (.cells #[.int .i64 t.1, .int .i64 t.2.1, .int .i64 t.2.2] 37) := ⟨_, rfl⟩
  have hb : Below w.heap.size w W := by rw [hW]; exact (Below.refl _ w).alloc (Nat.le_refl _) _
  obtain ⟨Y, hY⟩ : ∃ Y, w.heap.size = Y := ⟨_, rfl⟩
  have jY : W.heap[Y]? = some (.cells #[.int .i64 t.1, .int .i64 t.2.1, .int .i64 t.2.2] 37 (0, 0)) := by rw [hW, ← hY]; exact heap_alloc_new w _
  have b0 : W.cell? ⟨Y, 0, none⟩ = some (.int .i64 t.1) := cell_blk jY 0
  have b1 : W.cell? ⟨Y, 1, none⟩ = some (.int .i64 t.2.1) := cell_blk jY 1
  have b2 : W.cell? ⟨Y, 2, none⟩ = some (.int .i64 t.2.2) := cell_blk jY 2
  have HW := Lib.hid hW
  have HY := Lib.hid hY
  have HB := Lib.hid hb
  have hlk : ∀ X, Below W.heap.size W X → (Instr.lookup 90 (.map (some N)) (tdV t) true).run Try.prog X = .ok (.tuple #[.agg #[], .bool (decide (t ∈ s.over))]) X := fun X hX => by
    have := ((h.en.on hb).on hX).look Try.underlying90 (zero154 X) ht
    rw [this]
    by_cases q : t ∈ s.over
    · simp [q]
    · simp [q]
  have a5 : W.cell? ⟨A, 5, none⟩ = some (.map (some N)) := cell_on hb (cell_blk h.ob 5)
  have HLK := Lib.hid hlk
  clear hW hY hb jY hlk h
  go_enter Try.func50, Try.ntmps50
  go_upto_region 1 with fail
  rw [← HW.out, HY.out]
  refine wp_region_fb (fun _ X9 => Below W.heap.size W X9) (fun _ _ => True) [
    fun v9 _ => v9 = .pointer (some ⟨A, 0, none⟩),
    fun v9 _ => v9 = .pointer (some ⟨A, 0, none⟩),
    fun v9 _ => v9 = .pointer (some ⟨A, 5, none⟩),
    fun v9 _ => v9 = .map (some N),
    fun v9 _ => v9 = tdV t,
    fun v9 _ => v9 = .tuple #[.agg #[], .bool (decide (t ∈ s.over))],
    fun v9 _ => v9 = .tuple #[.agg #[], .bool (decide (t ∈ s.over))],
    fun v9 _ => v9 = .agg #[],
    fun v9 _ => v9 = .bool (decide (t ∈ s.over)),
    fun v9 _ => ∃ Z, v9 = .pointer (some ⟨Z, 0, none⟩),
    fun _ _ => True,
    fun v9 _ => v9 = .bool (decide (t ∈ s.over))]
    (by kernel_rfl) (by kernel_rfl) (by kernel_rfl) ?st ?g0 ?os ?en
  case st => exact ⟨fun _ _ _ _ h => h, fun _ _ _ _ h => h, fun _ _ _ _ h => h, fun _ _ _ _ h => h, fun _ _ _ _ h => h, fun _ _ _ _ h => h, fun _ _ _ _ h => h, fun _ _ _ _ h => h, fun _ _ _ _ h => h, fun _ _ _ _ h => h, fun _ _ _ _ h => h, fun _ _ _ _ h => h, trivial⟩
  case g0 => exact ⟨rfl, rfl, rfl, Nat.le_refl _, fun _ _ => rfl⟩
  case os =>
    refine ⟨?_, ?_, ?_, ?_, ?_, ?_, ?_, ?_, ?_, ?_, ?_, ?_, trivial⟩
    · exact fun ρ X9 fl hg hn hl hp ho hc hf hr => .inl ⟨rfl, Runs.val _ (op_move (show ρ (.tmp 0) = .pointer (some ⟨A, 0, none⟩) from ho 0 rfl)) ⟨hg, trivial, rfl⟩⟩
    · exact fun ρ X9 fl hg hn hl hp ho hc hf hr => .inl ⟨rfl, Runs.val _ (op_nil (show ρ (.tmp 8) = .pointer (some ⟨A, 0, none⟩) from hr 0 8 rfl rfl)) ⟨hg, trivial, rfl⟩⟩
    · exact fun ρ X9 fl hg hn hl hp ho hc hf hr => .inl ⟨rfl, Runs.val _ (op_f92_5 (show ρ (.tmp 9) = .pointer (some ⟨A, 0, none⟩) from hr 1 9 rfl rfl)) ⟨hg, trivial, rfl⟩⟩
    · exact fun ρ X9 fl hg hn hl hp ho hc hf hr => .inl ⟨rfl, Runs.val _ (op_load90 (show ρ (.tmp 10) = .pointer (some ⟨A, 5, none⟩) from hr 2 10 rfl rfl) (cell_on hg a5)) ⟨hg, trivial, rfl⟩⟩
    · exact fun ρ X9 fl hg hn hl hp ho hc hf hr => .inl ⟨rfl, Runs.val _ (op_load37 (show ρ (.tmp 3) = .pointer (some ⟨Y, 0, none⟩) from ho 3 rfl) (cell_on hg b0) (cell_on hg b1) (cell_on hg b2)) ⟨hg, trivial, rfl⟩⟩
    · exact fun ρ X9 fl hg hn hl hp ho hc hf hr => .inl ⟨rfl, Runs.val _ (op_lookup (show ρ (.tmp 11) = .map (some N) from hr 3 11 rfl rfl) (show ρ (.tmp 12) = tdV t from hr 4 12 rfl rfl) (HLK.out X9 hg)) ⟨hg, trivial, rfl⟩⟩
    · exact fun ρ X9 fl hg hn hl hp ho hc hf hr => .inl ⟨rfl, Runs.val _ (op_move (show ρ (.tmp 13) = .tuple #[.agg #[], .bool (decide (t ∈ s.over))] from hr 5 13 rfl rfl)) ⟨hg, trivial, rfl⟩⟩
    · exact fun ρ X9 fl hg hn hl hp ho hc hf hr => .inl ⟨rfl, Runs.val _ (op_extract0 (show ρ (.tmp 7) = .tuple #[.agg #[], .bool (decide (t ∈ s.over))] from hr 6 7 rfl rfl)) ⟨hg, trivial, rfl⟩⟩
    · exact fun ρ X9 fl hg hn hl hp ho hc hf hr => .inl ⟨rfl, Runs.val _ (op_extract1 (show ρ (.tmp 7) = .tuple #[.agg #[], .bool (decide (t ∈ s.over))] from hr 6 7 rfl rfl)) ⟨hg, trivial, rfl⟩⟩
    · refine fun ρ X9 fl hg hn hl hp ho hc hf hr => .inl ⟨rfl, ?_⟩
      exact Runs.val _ op_alloc154 ⟨hg.alloc hg.size _, trivial, _, rfl⟩
    · refine fun ρ X9 fl hg hn hl hp ho hc hf hr => .inl ⟨rfl, ?_⟩
      obtain ⟨Z, e⟩ : ∃ Z, ρ (.tmp 5) = .pointer (some ⟨Z, 0, none⟩) := hr 9 5 rfl rfl
      exact Runs.skips (op_store154 e (show ρ (.tmp 14) = .agg #[] from hr 7 14 rfl rfl)) ⟨hg, trivial, trivial⟩
    · exact fun ρ X9 fl hg hn hl hp ho hc hf hr => .inl ⟨rfl, Runs.val _ (op_assign (show ρ (.tmp 15) = .bool (decide (t ∈ s.over)) from hr 8 15 rfl rfl)) ⟨hg, trivial, rfl⟩⟩
  case en =>
    intro a X9 fl hfl hG hs hd ho hr
    obtain ⟨x, hx, hxt⟩ := act_put hs hd ho
    have x6 : x 6 = .bool (decide (t ∈ s.over)) := (hxt 6).symm.trans (hr 11 6 rfl)
    change a = putAll _ x [8, 9, 10, 11, 12, 13, 7, 14, 15, 5, 6] at hx
    simp only [putAll, Act.put, List.setIfInBounds_toArray, List.set_cons_zero, List.set_cons_succ, x6] at hx
    have HBX := Lib.hid (HB.out.trans (hG.mono HB.out.size))
    clear hG hs hd ho hr hxt x6
    subst hx
    go_wp2
    go_ret
    exact ⟨rfl, HBX.out⟩
set_option maxHeartbeats 2000000 in
set_option maxRecDepth 100000 in
theorem record_any (h : Sx w A S1 S2 s P M N G lv rv ov) {t : Td} (ht : TdOk t) : Calls Try.prog 18 #[.pointer (some ⟨A, 0, none⟩), tdV t] w fun e w' => e = .returned (.tuple #[.int .i64 ((recOf s.recs t).getD 0), .bool (recOf s.recs t).isSome]) ∧ Below w.heap.size w w' := by
  obtain ⟨W, hW⟩ : ∃ W, W = w.alloc (.cells #[.int .i64 t.1, .int .i64 t.2.1, .int .i64 t.2.2] 37) := ⟨_, rfl⟩
  have hb : Below w.heap.size w W := by rw [hW]; exact (Below.refl _ w).alloc (Nat.le_refl _) _
  obtain ⟨Y, hY⟩ : ∃ Y, w.heap.size = Y := ⟨_, rfl⟩
  have jY : W.heap[Y]? = some (.cells #[.int .i64 t.1, .int .i64 t.2.1, .int .i64 t.2.2] 37 (0, 0)) := by rw [hW, ← hY]; exact heap_alloc_new w _
  have b0 : W.cell? ⟨Y, 0, none⟩ = some (.int .i64 t.1) := cell_blk jY 0
  have b1 : W.cell? ⟨Y, 1, none⟩ = some (.int .i64 t.2.1) := cell_blk jY 1
  have b2 : W.cell? ⟨Y, 2, none⟩ = some (.int .i64 t.2.2) := cell_blk jY 2
  have HW := Lib.hid hW
  have HY := Lib.hid hY
  have HB := Lib.hid hb
  have hlk : ∀ X, Below W.heap.size W X → (Instr.lookup 89 (.map (some M)) (tdV t) true).run Try.prog X = .ok (.tuple #[.int .i64 ((recOf s.recs t).getD 0), .bool (recOf s.recs t).isSome]) X := fun X hX => by
    have := ((h.tm.on hb).on hX).look Try.underlying89 (zero3 X) ht
    rw [this]
    cases recOf s.recs t <;> rfl
  have a3 : W.cell? ⟨A, 3, none⟩ = some (.map (some M)) := cell_on hb (cell_blk h.ob 3)
  have HLK := Lib.hid hlk
  obtain ⟨rn, hrn⟩ : ∃ rn, (recOf s.recs t).getD 0 = rn := ⟨_, rfl⟩
  obtain ⟨rb, hrb⟩ : ∃ rb, (recOf s.recs t).isSome = rb := ⟨_, rfl⟩
  rw [hrn, hrb] at HLK
  rw [hrn, hrb]
  clear hW hY hb jY hlk h hrn hrb
  go_enter Try.func18, Try.ntmps18
  go_upto_region 1 with fail
  rw [← HW.out, HY.out]
  go_upto_region 3 with fail
  refine wp_region_fb (fun _ X9 => Below W.heap.size W X9) (fun _ _ => True) [
    fun v9 _ => v9 = .pointer (some ⟨A, 0, none⟩),
    fun v9 _ => v9 = .pointer (some ⟨A, 0, none⟩),
    fun v9 _ => v9 = .pointer (some ⟨A, 3, none⟩),
    fun v9 _ => v9 = .map (some M),
    fun v9 _ => v9 = tdV t,
    fun v9 _ => v9 = .tuple #[.int .i64 rn, .bool rb],
    fun v9 _ => v9 = .tuple #[.int .i64 rn, .bool rb],
    fun v9 _ => v9 = .int .i64 rn,
    fun v9 _ => v9 = .bool rb,
    fun v9 _ => v9 = .int .i64 rn,
    fun v9 _ => v9 = .bool rb]
    (by kernel_rfl) (by kernel_rfl) (by kernel_rfl) ?st ?g0 ?os ?en
  case st => exact ⟨fun _ _ _ _ h => h, fun _ _ _ _ h => h, fun _ _ _ _ h => h, fun _ _ _ _ h => h, fun _ _ _ _ h => h, fun _ _ _ _ h => h, fun _ _ _ _ h => h, fun _ _ _ _ h => h, fun _ _ _ _ h => h, fun _ _ _ _ h => h, fun _ _ _ _ h => h, trivial⟩
  case g0 => exact ⟨rfl, rfl, rfl, Nat.le_refl _, fun _ _ => rfl⟩
  case os =>
    refine ⟨?_, ?_, ?_, ?_, ?_, ?_, ?_, ?_, ?_, ?_, ?_, trivial⟩
    · exact fun ρ X9 fl hg hn hl hp ho hc hf hr => .inl ⟨rfl, Runs.val _ (op_move (show ρ (.tmp 0) = .pointer (some ⟨A, 0, none⟩) from ho 0 rfl)) ⟨hg, trivial, rfl⟩⟩
    · exact fun ρ X9 fl hg hn hl hp ho hc hf hr => .inl ⟨rfl, Runs.val _ (op_nil (show ρ (.tmp 11) = .pointer (some ⟨A, 0, none⟩) from hr 0 11 rfl rfl)) ⟨hg, trivial, rfl⟩⟩
    · exact fun ρ X9 fl hg hn hl hp ho hc hf hr => .inl ⟨rfl, Runs.val _ (op_f92_3 (show ρ (.tmp 12) = .pointer (some ⟨A, 0, none⟩) from hr 1 12 rfl rfl)) ⟨hg, trivial, rfl⟩⟩
    · exact fun ρ X9 fl hg hn hl hp ho hc hf hr => .inl ⟨rfl, Runs.val _ (op_load89 (show ρ (.tmp 13) = .pointer (some ⟨A, 3, none⟩) from hr 2 13 rfl rfl) (cell_on hg a3)) ⟨hg, trivial, rfl⟩⟩
    · exact fun ρ X9 fl hg hn hl hp ho hc hf hr => .inl ⟨rfl, Runs.val _ (op_load37 (show ρ (.tmp 3) = .pointer (some ⟨Y, 0, none⟩) from ho 3 rfl) (cell_on hg b0) (cell_on hg b1) (cell_on hg b2)) ⟨hg, trivial, rfl⟩⟩
    · exact fun ρ X9 fl hg hn hl hp ho hc hf hr => .inl ⟨rfl, Runs.val _ (op_lookup (show ρ (.tmp 14) = .map (some M) from hr 3 14 rfl rfl) (show ρ (.tmp 15) = tdV t from hr 4 15 rfl rfl) (HLK.out X9 hg)) ⟨hg, trivial, rfl⟩⟩
    · exact fun ρ X9 fl hg hn hl hp ho hc hf hr => .inl ⟨rfl, Runs.val _ (op_move (show ρ (.tmp 16) = .tuple #[.int .i64 rn, .bool rb] from hr 5 16 rfl rfl)) ⟨hg, trivial, rfl⟩⟩
    · exact fun ρ X9 fl hg hn hl hp ho hc hf hr => .inl ⟨rfl, Runs.val _ (op_extract0 (show ρ (.tmp 10) = .tuple #[.int .i64 rn, .bool rb] from hr 6 10 rfl rfl)) ⟨hg, trivial, rfl⟩⟩
    · exact fun ρ X9 fl hg hn hl hp ho hc hf hr => .inl ⟨rfl, Runs.val _ (op_extract1 (show ρ (.tmp 10) = .tuple #[.int .i64 rn, .bool rb] from hr 6 10 rfl rfl)) ⟨hg, trivial, rfl⟩⟩
    · exact fun ρ X9 fl hg hn hl hp ho hc hf hr => .inl ⟨rfl, Runs.val _ (op_assign (show ρ (.tmp 17) = .int .i64 rn from hr 7 17 rfl rfl)) ⟨hg, trivial, rfl⟩⟩
    · exact fun ρ X9 fl hg hn hl hp ho hc hf hr => .inl ⟨rfl, Runs.val _ (op_assign (show ρ (.tmp 18) = .bool rb from hr 8 18 rfl rfl)) ⟨hg, trivial, rfl⟩⟩
  case en =>
    intro a X9 fl hfl hG hs hd ho hr
    obtain ⟨x, hx, hxt⟩ := act_put hs hd ho
    have x6 : x 6 = .int .i64 rn := (hxt 6).symm.trans (hr 9 6 rfl)
    have x7 : x 7 = .bool rb := (hxt 7).symm.trans (hr 10 7 rfl)
    change a = putAll _ x [11, 12, 13, 14, 15, 16, 10, 17, 18, 6, 7] at hx
    simp only [putAll, Act.put, List.setIfInBounds_toArray, List.set_cons_zero, List.set_cons_succ, x6, x7] at hx
    have HBX := Lib.hid (HB.out.trans (hG.mono HB.out.size))
    clear hG hs hd ho hr hxt x6 x7
    subst hx
    go_wp2
    refine bodyPost_ret (v := .tuple #[.int .i64 rn, .bool rb]) (by simp [results, Try.results18, go_sem]) rfl ?_
    exact ⟨rfl, HBX.out⟩
theorem record_nil (w : World) (t : Td) : Calls Try.prog 18 #[.pointer none, tdV t] w fun e w' => e = .returned (.tuple #[.int .i64 0, .bool false]) ∧ Below w.heap.size w w' := by
  have HB : Hid (∀ o, Below w.heap.size w (w.alloc o)) := fun o => (Below.refl _ w).alloc (Nat.le_refl _) o
  go_enter Try.func18, Try.ntmps18
  go_wp2
  refine bodyPost_ret (v := .tuple #[.int .i64 0, .bool false]) (by simp [results, Try.results18, go_sem]) rfl ?_
  exact ⟨rfl, HB.out _⟩
set_option maxHeartbeats 1000000 in
set_option maxRecDepth 100000 in
theorem ofL_f {l : Lk} {sa wa : Option Addr} {sc wc Z : Nat} {t : Td} (c0 : w.cell? ⟨Z, 0, none⟩ = some (.int .i64 t.1)) (c1 : w.cell? ⟨Z, 1, none⟩ = some (.int .i64 t.2.1)) (c2 : w.cell? ⟨Z, 2, none⟩ = some (.int .i64 t.2.2)) : Calls Try.prog 83 #[lkV l sa sc wa wc, .pointer (some ⟨Z, 0, none⟩)] w fun e w' => e = .returned (.bool (decide (l.txn = t))) ∧ Below w.heap.size w w' := by
  obtain ⟨W, hW⟩ : ∃ W, W = w.alloc (lkO l sa sc wa wc) := ⟨_, rfl⟩
  have hb : Below w.heap.size w W := by rw [hW]; exact (Below.refl _ w).alloc (Nat.le_refl _) _
  obtain ⟨Y, hY⟩ : ∃ Y, w.heap.size = Y := ⟨_, rfl⟩
  have jY : W.heap[Y]? = some (.cells #[.int .i64 l.txn.1, .int .i64 l.txn.2.1, .int .i64 l.txn.2.2, .int .i64 l.home, .int .i64 l.til, .slice sa l.spans.length sc, .slice wa l.writes.length wc] 68 (0, 0)) := by rw [hW, ← hY]; exact heap_alloc_new w _
  have b0 : W.cell? ⟨Y, 0, none⟩ = some (.int .i64 l.txn.1) := cell_blk jY 0
  have b1 : W.cell? ⟨Y, 1, none⟩ = some (.int .i64 l.txn.2.1) := cell_blk jY 1
  have b2 : W.cell? ⟨Y, 2, none⟩ = some (.int .i64 l.txn.2.2) := cell_blk jY 2
  have d0 := cell_on hb c0
  have d1 := cell_on hb c1
  have d2 := cell_on hb c2
  have HW := Lib.hid hW
  have HY := Lib.hid hY
  have HB := Lib.hid hb
  have HQ : Hid (decide (l.txn = t) = (decide (l.txn.1 = t.1) && (decide (l.txn.2.1 = t.2.1) && decide (l.txn.2.2 = t.2.2)))) := by
    show _ = _
    obtain ⟨x, y, z⟩ := t
    rw [show l.txn = (l.txn.1, l.txn.2.1, l.txn.2.2) from rfl]
    simp only [Prod.mk.injEq, Bool.decide_and]
  rw [HQ.out]
  obtain ⟨x0, hx0⟩ : ∃ x0, l.txn.1 = x0 := ⟨_, rfl⟩
  obtain ⟨x1, hx1⟩ : ∃ x1, l.txn.2.1 = x1 := ⟨_, rfl⟩
  obtain ⟨x2, hx2⟩ : ∃ x2, l.txn.2.2 = x2 := ⟨_, rfl⟩
  obtain ⟨y0, hy0⟩ : ∃ y0, t.1 = y0 := ⟨_, rfl⟩
  obtain ⟨y1, hy1⟩ : ∃ y1, t.2.1 = y1 := ⟨_, rfl⟩
  obtain ⟨y2, hy2⟩ : ∃ y2, t.2.2 = y2 := ⟨_, rfl⟩
  rw [hx0] at b0 ⊢
  rw [hx1] at b1 ⊢
  rw [hx2] at b2 ⊢
  rw [hy0] at d0 ⊢
  rw [hy1] at d1 ⊢
  rw [hy2] at d2 ⊢
  clear hW hY hb jY c0 c1 c2 HQ hx0 hx1 hx2 hy0 hy1 hy2
  go_enter Try.func83, Try.ntmps83
  go_upto_region 1 with fail
  rw [← HW.out, HY.out]
  by_cases q0 : x0 = y0
  · by_cases q1 : x1 = y1
    · by_cases q2 : x2 = y2
      · go_wp2
        go_ret
        exact ⟨by simp [q0, q1, q2], HB.out⟩
      · go_wp2
        go_ret
        exact ⟨by simp [q0, q1, q2], HB.out⟩
    · go_wp2
      go_ret
      exact ⟨by simp [q0, q1], HB.out⟩
  · go_wp2
    go_ret
    exact ⟨by simp [q0], HB.out⟩
set_option maxHeartbeats 2000000 in
set_option maxRecDepth 100000 in
theorem lockOf_any (h : Sx w A S1 S2 s P M N G lv rv ov) {t : Td}  : Calls Try.prog 51 #[.pointer (some ⟨A, 0, none⟩), tdV t] w fun e w' => e = .returned (.int .i64 (lockI s.locks t)) ∧ Below w.heap.size w w' := by
  obtain ⟨W, hW⟩ : ∃ W, W = w.alloc (.cells #[.int .i64 t.1, .int .i64 t.2.1, .int .i64 t.2.2] 37) := ⟨_, rfl⟩
  have hb : Below w.heap.size w W := by rw [hW]; exact (Below.refl _ w).alloc (Nat.le_refl _) _
  obtain ⟨Y, hY⟩ : ∃ Y, w.heap.size = Y := ⟨_, rfl⟩
  have jY : W.heap[Y]? = some (.cells #[.int .i64 t.1, .int .i64 t.2.1, .int .i64 t.2.2] 37 (0, 0)) := by rw [hW, ← hY]; exact heap_alloc_new w _
  have b0 : W.cell? ⟨Y, 0, none⟩ = some (.int .i64 t.1) := cell_blk jY 0
  have b1 : W.cell? ⟨Y, 1, none⟩ = some (.int .i64 t.2.1) := cell_blk jY 1
  have b2 : W.cell? ⟨Y, 2, none⟩ = some (.int .i64 t.2.2) := cell_blk jY 2
  have HW := Lib.hid hW
  have HY := Lib.hid hY
  have HB := Lib.hid hb
  have hl := (h.on hb).locks
  obtain ⟨lad, lcap, e1, _⟩ := hl
  have hl := (h.on hb).locks
  have a1 : W.cell? ⟨A, 1, none⟩ = some lv := cell_on hb (cell_blk h.ob 1)
  rw [e1] at a1 hl
  have hix := ixL_of (p := fun l => decide (l.txn = t)) (c := .pointer (some ⟨Y, 0, none⟩)) hl (fun X hX i hi sa sc wa wc _ _ => ofL_f (t := t) (cell_on hX b0) (cell_on hX b1) (cell_on hX b2))
  have HI : Hid (lockI s.locks t = fidx (fun l => decide (l.txn = t)) s.locks) := rfl
  rw [HI.out]
  clear hW hY hb jY h hl e1 HI
  go_enter Try.func51, Try.ntmps51
  go_upto_region 1 with fail
  rw [← HW.out, HY.out]
  go_wp2_with fail
  refine hix.mono ?_
  rintro e w1 ⟨rfl, b1⟩
  go_wp2
  go_ret
  exact ⟨rfl, HB.out.trans (b1.mono HB.out.size)⟩
end
end Go.Proofs.Ytcoaahlakkghhaa
