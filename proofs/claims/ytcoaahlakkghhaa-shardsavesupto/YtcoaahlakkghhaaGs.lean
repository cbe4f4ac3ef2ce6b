/- Locks copied: the walks of slices.Clone at locks, cloneLocks and Locks. -/
import Derived.Test.YtcoaahlakkghhaaGq
import Derived.Test.YtcoaahlakkghhaaGe
namespace Go.Proofs.Ytcoaahlakkghhaa
open Go.RowKit
section
variable {ρ : Operand → Value} {X : World} {d : Option Tmp} {ty : TypeId} {ps : String} {af : Array Edge} {g : Option (Nat × Bool)}
theorem op_f68_3 {x : Operand} {B o : Nat} (e : ρ x = .pointer (some ⟨B, o, none⟩)) : (execOp ρ ⟨d, .fieldAddr 68 x 3, ty, ps, af, g⟩).run Try.prog X = .ok (.value (.pointer (some ⟨B, o + 5, none⟩))) X := by
  simp only [execOp, e]
  go_simp
theorem op_f68_4 {x : Operand} {B o : Nat} (e : ρ x = .pointer (some ⟨B, o, none⟩)) : (execOp ρ ⟨d, .fieldAddr 68 x 4, ty, ps, af, g⟩).run Try.prog X = .ok (.value (.pointer (some ⟨B, o + 6, none⟩))) X := by
  simp only [execOp, e]
  go_simp
theorem op_i31 {x y : Operand} {B n m i : Nat} (e : ρ x = .slice (some ⟨B, 0, none⟩) n m) (e2 : ρ y = .int .i64 (i : Int)) (h : i < n) : (execOp ρ ⟨d, .indexAddr 31 x y, ty, ps, af, g⟩).run Try.prog X = .ok (.value (.pointer (some ⟨B, i * 7, none⟩))) X := by
  have := op_i31o (X := X) (d := d) (ty := ty) (ps := ps) (af := af) (g := g) e e2 h
  rwa [Nat.zero_add] at this
theorem call63 {v : Value} : Sem.run Try.prog (callFunc 63 #[v]) X = .ok (.enter 63 #[v]) X := by go_simp
end
theorem pick_locks {w : World} {L : List Lk} {v : Value} (h : Lr lkE 7 w L v) : ∃ K : List Gl, K.map Prod.fst = L ∧ Lr (fun _ x cs => cs = glL x) 7 w K v ∧ (∀ g ∈ K, Lr snE 2 w g.1.spans g.2.1) ∧ ∀ g ∈ K, Lr wrE 3 w g.1.writes g.2.2 := by
  obtain ⟨ad, cap, rfl, h0, h1, h2, h3⟩ := h
  have hex : ∀ i : Fin L.length, ∃ u : Value × Value, Lr snE 2 w L[i].spans u.1 ∧ Lr wrE 3 w L[i].writes u.2 ∧ ∃ b o, ad = some ⟨b, o, none⟩ ∧ b < w.heap.size ∧ ∀ j x, (glL (L[i], u.1, u.2))[j]? = some x → w.cell? ⟨b, o + i.1 * 7 + j, none⟩ = some x := fun i => by
    obtain ⟨b, o, cs, ha, hl, ⟨sa, sc, wa, wc, rfl, hs, hw⟩, _, hh⟩ := h3 i.1 i.2
    exact ⟨(_, _), hs, hw, b, o, ha, hl, hh⟩
  obtain ⟨f, hf⟩ := Classical.axiomOfChoice hex
  refine ⟨List.ofFn (fun i : Fin L.length => (L[i], (f i).1, (f i).2)), ?_, ⟨ad, cap, by rw [List.length_ofFn], h0, by rw [List.length_ofFn]; exact h1, h2, fun i hi => ?_⟩, fun g hg => ?_, fun g hg => ?_⟩
  · apply List.ext_getElem
    · simp
    · intro i h1 h2
      simp
  · have hi' : i < L.length := by rw [List.length_ofFn] at hi; exact hi
    obtain ⟨_, _, b, o, ha, hl, hh⟩ := hf ⟨i, hi'⟩
    exact ⟨b, o, glL (L[i], (f ⟨i, hi'⟩).1, (f ⟨i, hi'⟩).2), ha, hl, by simp, rfl, hh⟩
  · rw [List.mem_ofFn] at hg
    obtain ⟨i, rfl⟩ := hg
    exact (hf i).1
  · rw [List.mem_ofFn] at hg
    obtain ⟨i, rfl⟩ := hg
    exact (hf i).2.1
theorem gl_oneL {w : World} {K : List Gl} (h1 : ∀ g ∈ K, Lr snE 2 w g.1.spans g.2.1) (h2 : ∀ g ∈ K, Lr wrE 3 w g.1.writes g.2.2) : ∀ u ∈ K.flatMap glL, u.oneCell' = true := fun u hu => by
  obtain ⟨x, hx, hu⟩ := List.mem_flatMap.1 hu
  obtain ⟨sa, sc, e, _⟩ := h1 x hx
  obtain ⟨wa, wc, e2, _⟩ := h2 x hx
  unfold glL at hu
  rw [e, e2] at hu
  simp at hu
  rcases hu with rfl | rfl | rfl | rfl | rfl | rfl | rfl <;> rfl
theorem gl_set : ∀ (K : List Gl) (i : Nat) (hi : i < K.length) (a b : Value), ((K.flatMap glL).set (i * 7 + 5) a).set (i * 7 + 6) b = (K.set i (K[i].1, a, b)).flatMap glL
  | [], _, hi, _, _ => absurd hi (by simp)
  | x :: K, 0, _, a, b => rfl
  | x :: K, i + 1, hi, a, b => by
    have hi' : i < K.length := by simpa using hi
    have e := gl_set K i hi' a b
    show ((_ :: _ :: _ :: _ :: _ :: _ :: _ :: K.flatMap glL).set ((i + 1) * 7 + 5) a).set ((i + 1) * 7 + 6) b = _ :: _ :: _ :: _ :: _ :: _ :: _ :: (K.set i (K[i].1, a, b)).flatMap glL
    rw [show (i + 1) * 7 + 5 = (i * 7 + 5) + 1 + 1 + 1 + 1 + 1 + 1 + 1 from by omega, show (i + 1) * 7 + 6 = (i * 7 + 6) + 1 + 1 + 1 + 1 + 1 + 1 + 1 from by omega]
    simp only [List.set_cons_succ]
    rw [e]
section
variable {w w' V X : World} {K : List Gl} {L : List Lk} {v : Value}
set_option maxHeartbeats 1000000 in
set_option maxRecDepth 100000 in
theorem cloneL_any (hl : Lr (fun _ x cs => cs = glL x) 7 w K v) (h1 : ∀ g ∈ K, Lr snE 2 w g.1.spans g.2.1) (h2 : ∀ g ∈ K, Lr wrE 3 w g.1.writes g.2.2) (hz : K.length ≤ 900000) : Calls Try.prog 62 #[v] w fun e w' => ∃ ad cap, e = .returned (.slice ad K.length cap) ∧ w'.ownsRow w.heap.size 68 7 (.slice ad K.length cap) K.length (K.flatMap glL) ∧ Below w.heap.size w w' := by
  have hl' := hl
  obtain ⟨ad, cap, rfl, h0, h01, h02, _⟩ := hl'
  cases ad with
  | none =>
    have e0 : K = [] := by
      rcases Lr.src (f := glL) glL_len hl with ⟨_, q, _⟩ | ⟨a, q, _⟩
      · exact List.eq_nil_of_length_eq_zero q
      · cases q
    subst e0
    have hc0 := h0 rfl
    subst hc0
    clear h0 h1 h2 hl h01 h02
    have hq : ∀ w, (binOp BinOp.eql 31 (.slice none 0 0) (.slice none 0 0)).run Try.prog w = .ok (.bool true) w := fun _ => by kernel_rfl
    go_enter Try.func62, Try.ntmps62
    go_wp2
    refine bodyPost_ret (v := .slice none 0 0) (by simp [results, Try.results62, go_sem]) rfl ?_
    exact ⟨none, 0, rfl, World.ownsRow_nil _ _ _ _, Below.refl _ _⟩
  | some a =>
    have hal : Below w.heap.size w (w.alloc (.cells #[] 68)) := (Below.refl _ w).alloc (Nat.le_refl _) _
    have hemp := emptyRow w w.heap.size 68 7 (Nat.le_refl _)
    obtain ⟨ad', cap', w', hrun, ho, hg, _⟩ := run_lk hemp hal.size (Lr.src (f := glL) glL_len (hl.on (fun _ _ _ _ _ h => h) hal)) (gl_oneL h1 h2) (by omega)
    rw [Nat.zero_add, List.nil_append] at ho
    rw [Nat.zero_add] at hrun
    have hb := hal.grown hg hal.size (fun k hk => (hemp.lt k hk).1)
    have HO := Lib.hid ho
    have HB := Lib.hid hb
    clear h0 h1 h2 hl ho hb hg hal hemp h01 h02
    have hq : ∀ w, (binOp BinOp.eql 31 (.slice (some a) K.length cap) (.slice none 0 0)).run Try.prog w = .ok (.bool false) w := fun _ => by kernel_rfl
    go_enter Try.func62, Try.ntmps62
    go_wp2_with (at_builtin; refine wpl_run2 _ _ rfl (by simp [Act.eval]) (by simp [Act.eval]) hrun ?_)
    refine bodyPost_ret (v := .slice ad' K.length cap') (by simp [results, Try.results62, go_sem]) rfl ?_
    exact ⟨ad', cap', rfl, HO.out, HB.out⟩
/-- Locks of its own. -/
structure OwnL (N : Nat) (X : World) (G : List Gl) (v : Value) : Prop where
  row : X.ownsRow N 68 7 v G.length (G.flatMap glL)
  sp : ∀ g ∈ G, X.ownsRow N 57 2 g.2.1 g.1.spans.length (g.1.spans.flatMap snL)
  wr : ∀ g ∈ G, X.ownsRow N 55 3 g.2.2 g.1.writes.length (g.1.writes.flatMap wrL)
theorem OwnL.on {N : Nat} {G : List Gl} (h : OwnL N X G v) (hb : Below X.heap.size X w') : OwnL N w' G v :=
  ⟨own_below h.row hb, fun g hg => own_below (h.sp g hg) hb, fun g hg => own_below (h.wr g hg) hb⟩
def LkAns (w : World) (L : List Lk) (e : Ending) (w' : World) : Prop := ∃ G ad cap, G.map Prod.fst = L ∧ e = .returned (.slice ad G.length cap) ∧ OwnL w.heap.size w' G (.slice ad G.length cap) ∧ Below w.heap.size w w'
/-- Amid the copying: the first j are copied whole. -/
structure Cl (w V : World) (L : List Lk) (K : List Gl) (v3 : Value) (j : Nat) : Prop where
  kf : K.map Prod.fst = L
  row : V.ownsRow w.heap.size 68 7 v3 K.length (K.flatMap glL)
  sp : ∀ i (h : i < K.length), i < j → V.ownsRow w.heap.size 57 2 K[i].2.1 K[i].1.spans.length (K[i].1.spans.flatMap snL)
  wr : ∀ i (h : i < K.length), i < j → V.ownsRow w.heap.size 55 3 K[i].2.2 K[i].1.writes.length (K[i].1.writes.flatMap wrL)
  bl : Below w.heap.size w V
/-- What stands while two slices are stored. -/
def GG (w V : World) (g n cap i : Nat) (xs : List Value) (a0 b0 : Value) (l : Lk) (f1 f2 : Bool) (X : World) : Prop :=
  Fr V X (fun k => k = g) ∧ ∃ a b, X.ownsRow w.heap.size 68 7 (.slice (some ⟨g, 0, none⟩) n cap) n ((xs.set (i * 7 + 5) a).set (i * 7 + 6) b) ∧
    (f1 = false → a = a0) ∧ (f1 = true → X.ownsRow w.heap.size 57 2 a l.spans.length (l.spans.flatMap snL)) ∧ (f2 = false → b = b0) ∧ (f2 = true → X.ownsRow w.heap.size 55 3 b l.writes.length (l.writes.flatMap wrL))
theorem GG.on {g n cap i : Nat} {xs : List Value} {a0 b0 : Value} {l : Lk} {f1 f2 : Bool} (h : GG w V g n cap i xs a0 b0 l f1 f2 X) (hb : Below X.heap.size X w') : GG w V g n cap i xs a0 b0 l f1 f2 w' := by
  obtain ⟨hf, a, b, h1, h2, h3, h4, h5⟩ := h
  exact ⟨hf.below hb, a, b, own_below h1 hb, h2, fun q => own_below (h3 q) hb, h4, fun q => own_below (h5 q) hb⟩
theorem tag68 {N : Nat} {g n cap : Nat} {xs : List Value} {t : TypeId} (h : X.ownsRow N 68 7 (.slice (some ⟨g, 0, none⟩) n cap) n xs) (ht : t ≠ 68) : ∀ k, k = g → ∀ cs, X.heap[k]? ≠ some (.cells cs t (0, 0)) := by
  rintro k rfl cs hk
  obtain ⟨cs', h'⟩ := own_tag h k rfl
  rw [h'] at hk
  simp only [Option.some.injEq, Obj.cells.injEq] at hk
  exact ht hk.2.1.symm
theorem set_two {xs : List Value} {i : Nat} {a b a' : Value} : ((xs.set (i * 7 + 5) a).set (i * 7 + 6) b).set (i * 7 + 5) a' = (xs.set (i * 7 + 5) a').set (i * 7 + 6) b := by
  rw [List.set_comm _ _ (by omega), List.set_set]
theorem set_two' {xs : List Value} {i : Nat} {a b b' : Value} : ((xs.set (i * 7 + 5) a).set (i * 7 + 6) b).set (i * 7 + 6) b' = (xs.set (i * 7 + 5) a).set (i * 7 + 6) b' := by rw [List.set_set]
theorem cell_in {N : Nat} {g n cap j : Nat} {xs : List Value} (h : X.ownsRow N 68 7 (.slice (some ⟨g, 0, none⟩) n cap) n xs) (hj : j < n * 7) : (∃ u, X.cell? ⟨g, j, none⟩ = some u) ∧ X.frozen? ⟨g, j, none⟩ = false := by
  have hl := h.1
  have hc := h.cells (g := g) rfl j xs[j] (List.getElem?_eq_getElem (by omega))
  rw [add_at, Nat.zero_add] at hc
  rcases h.2 with ⟨hv, _⟩ | ⟨g', cap', cur, hv, _, hg, _⟩
  · cases hv
  · cases hv
    exact ⟨⟨_, hc⟩, frozen_blk hg j⟩
theorem GG.one {g n cap i : Nat} {xs : List Value} {a0 b0 u : Value} {l : Lk} {f2 : Bool} (h : GG w V g n cap i xs a0 b0 l false f2 X) (hu : X.ownsRow w.heap.size 57 2 u l.spans.length (l.spans.flatMap snL)) : GG w V g n cap i xs a0 b0 l true f2 (X.setCell ⟨g, i * 7 + 5, none⟩ u) := by
  obtain ⟨hf, a, b, h1, h2, h3, h4, h5⟩ := h
  have f0 : Fr X (X.setCell ⟨g, i * 7 + 5, none⟩ u) (fun k => k = g) := Fr.set (S := fun k => k = g) (a := ⟨g, i * 7 + 5, none⟩) (Fr.refl X _) (.inl rfl) _
  refine ⟨hf.trans f0, u, b, ?_, fun q => by (cases q), fun _ => ?_, h4, fun q => ?_⟩
  · have := row_setc h1 (i * 7 + 5) u
    rw [set_two] at this
    exact this
  · exact keep_rowB hu f0 (tag68 h1 (by decide))
  · exact keep_rowB (h5 q) f0 (tag68 h1 (by decide))
theorem GG.two {g n cap i : Nat} {xs : List Value} {a0 b0 u : Value} {l : Lk} {f1 : Bool} (h : GG w V g n cap i xs a0 b0 l f1 false X) (hu : X.ownsRow w.heap.size 55 3 u l.writes.length (l.writes.flatMap wrL)) : GG w V g n cap i xs a0 b0 l f1 true (X.setCell ⟨g, i * 7 + 6, none⟩ u) := by
  obtain ⟨hf, a, b, h1, h2, h3, h4, h5⟩ := h
  have f0 : Fr X (X.setCell ⟨g, i * 7 + 6, none⟩ u) (fun k => k = g) := Fr.set (S := fun k => k = g) (a := ⟨g, i * 7 + 6, none⟩) (Fr.refl X _) (.inl rfl) _
  refine ⟨hf.trans f0, a, u, ?_, h2, fun q => ?_, fun q => by (cases q), fun _ => ?_⟩
  · have := row_setc h1 (i * 7 + 6) u
    rw [set_two'] at this
    exact this
  · exact keep_rowB (h3 q) f0 (tag68 h1 (by decide))
  · exact keep_rowB hu f0 (tag68 h1 (by decide))
theorem GG.cell {g n cap i j : Nat} {xs : List Value} {a0 b0 : Value} {l : Lk} {f1 f2 : Bool} (h : GG w V g n cap i xs a0 b0 l f1 f2 X) (hj : j < n * 7) : (∃ u, X.cell? ⟨g, j, none⟩ = some u) ∧ X.frozen? ⟨g, j, none⟩ = false := by
  obtain ⟨_, a, b, h1, _⟩ := h
  exact cell_in h1 hj
/-- A row that is its own, in whatever slice. -/
def Ow (N : Nat) (t : TypeId) (c n : Nat) (xs : List Value) (X : World) (u : Value) : Prop := ∃ ad cap, u = .slice ad n cap ∧ X.ownsRow N t c u n xs
theorem Ow.fr {N n c g : Nat} {t : TypeId} {xs : List Value} {u : Value} (h : Ow N t c n xs X u) (hf : Fr X w' (fun k => k = g)) (ht : t ≠ 68) (hg : ∃ cs, X.heap[g]? = some (.cells cs 68 (0, 0))) : Ow N t c n xs w' u := by
  obtain ⟨ad, cap, e, h⟩ := h
  obtain ⟨cs, hg⟩ := hg
  refine ⟨ad, cap, e, keep_rowB h hf ?_⟩
  rintro k rfl cs' hk
  rw [hg] at hk
  simp only [Option.some.injEq, Obj.cells.injEq] at hk
  exact ht hk.2.1.symm
theorem set_same {α : Type} : ∀ {xs : List α} {i : Nat} {a : α}, xs[i]? = some a → xs.set i a = xs
  | [], _, _, h => by simp at h
  | x :: xs, 0, a, h => by simp at h; rw [h]; rfl
  | x :: xs, i + 1, a, h => by rw [List.set_cons_succ, set_same (by simpa using h)]
theorem GG.tag {g n cap i : Nat} {xs : List Value} {a0 b0 : Value} {l : Lk} {f1 f2 : Bool} (h : GG w V g n cap i xs a0 b0 l f1 f2 X) : ∃ cs, X.heap[g]? = some (.cells cs 68 (0, 0)) := by
  obtain ⟨_, a, b, h1, _⟩ := h
  exact own_tag h1 g rfl
/-- From one moment of the region to the next. -/
def SS (g : Nat) (X X' : World) : Prop := Fr X X' (fun k => k = g) ∧ ∃ cs, X.heap[g]? = some (.cells cs 68 (0, 0))
theorem Ow.ss {N n c g : Nat} {t : TypeId} {xs : List Value} {u : Value} (ht : t ≠ 68) (h : Ow N t c n xs X u) (hs : SS g X w') : Ow N t c n xs w' u := h.fr hs.1 ht hs.2
set_option maxHeartbeats 4000000 in
set_option maxRecDepth 100000 in
theorem cloneLocks_any (hl : Lr lkE 7 w L v) (hz : L.length ≤ 800000) (hzs : ∀ l ∈ L, l.spans.length ≤ 800000 ∧ l.writes.length ≤ 800000) : Calls Try.prog 36 #[v] w fun e w' => LkAns w L e w' := by
  obtain ⟨K0, hK0, hKl, hKs, hKw⟩ := pick_locks hl
  have hn0 : K0.length = L.length := by rw [← hK0, List.length_map]
  have hcl := cloneL_any hKl hKs hKw (by omega)
  have HLR := Lib.hid hl
  obtain ⟨ad, cap, rfl, _, _, hcap, _⟩ := hl
  obtain ⟨n, hn⟩ : ∃ n, L.length = n := ⟨_, rfl⟩
  have hmx : (n : Int) ≤ 9223372036854775807 := by omega
  rw [hn0, hn] at hcl
  rw [hn]
  have HN := Lib.hid hn
  have HK0 := Lib.hid hK0
  have HZS := Lib.hid hzs
  have HNK := Lib.hid (hn0.trans hn)
  clear hn hn0 hKl hKs hKw hK0 hcap hzs
  go_enter Try.func36, Try.ntmps36
  go_wp2_with (go_at_call 62; refine hcl.mono ?_; rintro e w1 ⟨ad3, cap3, rfl, ho, hb⟩; refine Hid.out ?_)
  refine Lib.hid ?_
  have H0 : Hid (Cl w w1 L K0 (.slice ad3 n cap3) 0) := Lib.hid ⟨HK0.out, by rw [HNK.out]; exact ho, fun i _ h => by omega, fun i _ h => by omega, hb⟩
  clear hcl ho hb
  go_wp2
  go_loopw [10] (fun iv wr => ∃ (j : Nat) (K : List Gl), j ≤ n ∧ iv = .int .i64 (j : Int) ∧ Cl w wr L K (.slice ad3 n cap3) j) (fun iv _ => n - (intOf iv).toNat)
  case atStart => exact ⟨0, K0, Nat.zero_le _, rfl, H0.out⟩
  case round =>
    clear H0
    obtain ⟨j, K, hj, rfl, hcl⟩ := hrel
    obtain ⟨V, rfl⟩ : ∃ V, V = wr := ⟨_, rfl⟩
    have hKn : K.length = n := by rw [← HN.out, ← hcl.kf, List.length_map]
    by_cases hlt : j < n
    · have hjL : j < L.length := by rw [HN.out]; exact hlt
      have k0 : (0 : Int) ≤ j := by omega
      have k1 : (j : Int) < n := by omega
      obtain ⟨_, _, e1, _, _, _, hcs⟩ := HLR.out
      obtain ⟨b, o, cs, ha, hbl, ⟨sa, sc, wa, wc, rfl, hls, hlw⟩, _, hcell⟩ := hcs j hjL
      cases e1
      subst ha
      have hzl := HZS.out _ (List.getElem_mem hjL)
      have hKj : ∀ h : j < K.length, (K[j]'h).1 = L[j] := fun h => by
        have : (K.map Prod.fst)[j]'(by rw [hcl.kf]; exact hjL) = L[j] := by simp only [hcl.kf]
        rw [← this, List.getElem_map]
      obtain ⟨l, hlj⟩ : ∃ l, L[j] = l := ⟨_, rfl⟩
      rw [hlj] at hls hlw hcell hzl hKj
      have c0 := cell_on hcl.bl (hcell 0 _ rfl)
      have c1 := cell_on hcl.bl (hcell 1 _ rfl)
      have c2 := cell_on hcl.bl (hcell 2 _ rfl)
      have c3 := cell_on hcl.bl (hcell 3 _ rfl)
      have c4 := cell_on hcl.bl (hcell 4 _ rfl)
      have c5 := cell_on hcl.bl (hcell 5 _ rfl)
      have c6 := cell_on hcl.bl (hcell 6 _ rfl)
      simp only [Nat.add_zero] at c0
      obtain ⟨W1, hW1⟩ : ∃ W1, W1 = V.alloc (lkO l sa sc wa wc) := ⟨_, rfl⟩
      obtain ⟨Z, hZ⟩ : ∃ Z, V.heap.size = Z := ⟨_, rfl⟩
      have b1 : Below V.heap.size V W1 := by rw [hW1]; exact (Below.refl _ V).alloc (Nat.le_refl _) _
      have jZ : W1.heap[Z]? = some (lkO l sa sc wa wc) := by rw [hW1, ← hZ]; exact heap_alloc_new V _
      obtain ⟨g, rfl⟩ : ∃ g, ad3 = some ⟨g, 0, none⟩ := by
        rcases hcl.row.2 with ⟨_, h0⟩ | ⟨g, cap'', cur, hv, _⟩
        · omega
        · simp only [Value.slice.injEq] at hv
          exact ⟨g, hv.1⟩
      have hgV := hcl.row.lt g rfl
      have hgZ : Z ≠ g := by omega
      obtain ⟨a0, ha0⟩ : ∃ a0, (K[j]'(by omega)).2.1 = a0 := ⟨_, rfl⟩
      obtain ⟨b0, hb0⟩ : ∃ b0, (K[j]'(by omega)).2.2 = b0 := ⟨_, rfl⟩
      have hG0 : GG w W1 g n cap3 j (K.flatMap glL) a0 b0 l false false W1.drew := by
        rw [← ha0, ← hb0]
        have hr1 := own_below hcl.row b1
        rw [hKn] at hr1
        refine ⟨⟨rfl, rfl, rfl, Nat.le_refl _, fun _ _ _ => rfl⟩, _, _, ?_, fun _ => rfl, fun q => by (cases q), fun _ => rfl, fun q => by (cases q)⟩
        have e5 : (K.flatMap glL)[j * 7 + 5]? = some (K[j]'(by omega)).2.1 := fl_get glL_len K j (by omega) 5 (by decide)
        have e6 : (K.flatMap glL)[j * 7 + 6]? = some (K[j]'(by omega)).2.2 := fl_get glL_len K j (by omega) 6 (by decide)
        rw [set_same e5, set_same e6]
        exact hr1
      have HG0 := Lib.hid hG0
      have HCL := Lib.hid hcl
      have HB1 := Lib.hid b1
      have HJZ := Lib.hid jZ
      have HLJ := Lib.hid hlj
      have HKN := Lib.hid hKn
      have HKJ := Lib.hid hKj
      have HBW : Hid (∀ X, Fr W1 X (fun k => k = g) → Below w.heap.size w X) := Lib.hid (fun X hX => by
        have q := hcl.bl.trans (b1.mono hcl.bl.size)
        exact q.trans (hX.toBelow (fun k hk e => by have e' : k = g := e; omega) q.size))
      have HVX : Hid (∀ X, Fr W1 X (fun k => k = g) → Lr snE 2 X l.spans (.slice sa l.spans.length sc) ∧ Lr wrE 3 X l.writes (.slice wa l.writes.length wc)) := Lib.hid (fun X hX => ⟨hls.on snE_held (HBW.out X hX), hlw.on wrE_held (HBW.out X hX)⟩)
      have HW1 := Lib.hid hW1
      have HZ := Lib.hid hZ
      clear ha0 hb0 hcl b1 jZ hls hlw hlj hKn hKj hG0 hgV hW1 hZ hcs hcell
      go_upto_region 5 with fail
      rw [← HW1.out, HZ.out]
      clear c0 c1 c2 c3 c4 c5 c6
      refine wp_region_fb (fun fl X9 => GG w W1 g n cap3 j (K.flatMap glL) a0 b0 l (fl 12) (fl 15) X9) (SS g) [
        fun v9 _ => v9 = .slice (some ⟨g, 0, none⟩) n cap3,
        fun v9 _ => v9 = .int .i64 (j : Int),
        fun v9 _ => v9 = .slice (some ⟨g, 0, none⟩) n cap3,
        fun v9 _ => v9 = .int .i64 (j : Int),
        fun v9 _ => v9 = .pointer (some ⟨Z, 5, none⟩),
        fun v9 _ => v9 = .slice sa l.spans.length sc,
        fun v9 X9 => Ow w.heap.size 57 2 l.spans.length (l.spans.flatMap snL) X9 v9,
        fun v9 _ => v9 = .pointer (some ⟨Z, 6, none⟩),
        fun v9 _ => v9 = .slice wa l.writes.length wc,
        fun v9 X9 => Ow w.heap.size 55 3 l.writes.length (l.writes.flatMap wrL) X9 v9,
        fun v9 _ => v9 = .pointer (some ⟨g, j * 7, none⟩),
        fun v9 _ => v9 = .pointer (some ⟨g, j * 7 + 5, none⟩),
        fun _ _ => True,
        fun v9 _ => v9 = .pointer (some ⟨g, j * 7, none⟩),
        fun v9 _ => v9 = .pointer (some ⟨g, j * 7 + 6, none⟩),
        fun _ _ => True]
        (by kernel_rfl) (by kernel_rfl) (by kernel_rfl) ?st ?g0 ?os ?en
      case st => exact ⟨fun _ _ _ _ h => h, fun _ _ _ _ h => h, fun _ _ _ _ h => h, fun _ _ _ _ h => h, fun _ _ _ _ h => h, fun _ _ _ _ h => h, fun _ _ _ hs h => h.ss (by decide) hs, fun _ _ _ _ h => h, fun _ _ _ _ h => h, fun _ _ _ hs h => h.ss (by decide) hs, fun _ _ _ _ h => h, fun _ _ _ _ h => h, fun _ _ _ _ h => h, fun _ _ _ _ h => h, fun _ _ _ _ h => h, fun _ _ _ _ h => h, trivial⟩
      case g0 => exact HG0.out
      case os =>
        refine ⟨?_, ?_, ?_, ?_, ?_, ?_, ?_, ?_, ?_, ?_, ?_, ?_, ?_, ?_, ?_, ?_, trivial⟩
        · exact fun ρ X9 fl hg hn hl hp ho hc hf hr => .inl ⟨rfl, Runs.val _ (op_move (show ρ (.tmp 3) = .slice (some ⟨g, 0, none⟩) n cap3 from ho 3 rfl)) ⟨hg, ⟨⟨rfl, rfl, rfl, Nat.le_refl _, fun _ _ _ => rfl⟩, hg.tag⟩, rfl⟩⟩
        · exact fun ρ X9 fl hg hn hl hp ho hc hf hr => .inl ⟨rfl, Runs.val _ (op_move (show ρ (.tmp 4) = .int .i64 (j : Int) from ho 4 rfl)) ⟨hg, ⟨⟨rfl, rfl, rfl, Nat.le_refl _, fun _ _ _ => rfl⟩, hg.tag⟩, rfl⟩⟩
        · exact fun ρ X9 fl hg hn hl hp ho hc hf hr => .inl ⟨rfl, Runs.val _ (op_move (show ρ (.tmp 3) = .slice (some ⟨g, 0, none⟩) n cap3 from ho 3 rfl)) ⟨hg, ⟨⟨rfl, rfl, rfl, Nat.le_refl _, fun _ _ _ => rfl⟩, hg.tag⟩, rfl⟩⟩
        · exact fun ρ X9 fl hg hn hl hp ho hc hf hr => .inl ⟨rfl, Runs.val _ (op_move (show ρ (.tmp 4) = .int .i64 (j : Int) from ho 4 rfl)) ⟨hg, ⟨⟨rfl, rfl, rfl, Nat.le_refl _, fun _ _ _ => rfl⟩, hg.tag⟩, rfl⟩⟩
        · exact fun ρ X9 fl hg hn hl hp ho hc hf hr => .inl ⟨rfl, Runs.val _ (op_f68_3 (show ρ (.tmp 5) = .pointer (some ⟨Z, 0, none⟩) from ho 5 rfl)) ⟨hg, ⟨⟨rfl, rfl, rfl, Nat.le_refl _, fun _ _ _ => rfl⟩, hg.tag⟩, rfl⟩⟩
        · exact fun ρ X9 fl hg hn hl hp ho hc hf hr => .inl ⟨rfl, Runs.val _ (op_load66 (show ρ (.tmp 19) = .pointer (some ⟨Z, 5, none⟩) from hr 4 19 rfl rfl) (cell_blk ((hg.1.block Z (blk_lt HJZ.out) hgZ).trans HJZ.out) 5)) ⟨hg, ⟨⟨rfl, rfl, rfl, Nat.le_refl _, fun _ _ _ => rfl⟩, hg.tag⟩, rfl⟩⟩
        · exact fun ρ X9 fl hg hn hl hp ho hc hf hr => .inl ⟨rfl, Runs.goes 63 #[.slice sa l.spans.length sc] (op_call1 hf call63 (show ρ (.tmp 20) = .slice sa l.spans.length sc from hr 5 20 rfl rfl)) ((cloneS_any (HVX.out X9 hg.1).1 (by omega)).mono fun e7 w7 ⟨ad7, cap7, e7', o7, b7⟩ => ⟨_, e7', hg.on b7, ⟨Fr.ofBelow _ b7, hg.tag⟩, ad7, cap7, rfl, own_mono o7 ((HBW.out X9 hg.1).size)⟩)⟩
        · exact fun ρ X9 fl hg hn hl hp ho hc hf hr => .inl ⟨rfl, Runs.val _ (op_f68_4 (show ρ (.tmp 5) = .pointer (some ⟨Z, 0, none⟩) from ho 5 rfl)) ⟨hg, ⟨⟨rfl, rfl, rfl, Nat.le_refl _, fun _ _ _ => rfl⟩, hg.tag⟩, rfl⟩⟩
        · exact fun ρ X9 fl hg hn hl hp ho hc hf hr => .inl ⟨rfl, Runs.val _ (op_load39 (show ρ (.tmp 22) = .pointer (some ⟨Z, 6, none⟩) from hr 7 22 rfl rfl) (cell_blk ((hg.1.block Z (blk_lt HJZ.out) hgZ).trans HJZ.out) 6)) ⟨hg, ⟨⟨rfl, rfl, rfl, Nat.le_refl _, fun _ _ _ => rfl⟩, hg.tag⟩, rfl⟩⟩
        · exact fun ρ X9 fl hg hn hl hp ho hc hf hr => .inl ⟨rfl, Runs.goes 64 #[.slice wa l.writes.length wc] (op_call1 hf call64 (show ρ (.tmp 23) = .slice wa l.writes.length wc from hr 8 23 rfl rfl)) ((cloneW_any (HVX.out X9 hg.1).2 (by omega)).mono fun e7 w7 ⟨ad7, cap7, e7', o7, b7⟩ => ⟨_, e7', hg.on b7, ⟨Fr.ofBelow _ b7, hg.tag⟩, ad7, cap7, rfl, own_mono o7 ((HBW.out X9 hg.1).size)⟩)⟩
        · exact fun ρ X9 fl hg hn hl hp ho hc hf hr => .inl ⟨rfl, Runs.val _ (op_i31 (show ρ (.tmp 15) = .slice (some ⟨g, 0, none⟩) n cap3 from hr 0 15 rfl rfl) (show ρ (.tmp 16) = .int .i64 (j : Int) from hr 1 16 rfl rfl) hlt) ⟨hg, ⟨⟨rfl, rfl, rfl, Nat.le_refl _, fun _ _ _ => rfl⟩, hg.tag⟩, rfl⟩⟩
        · exact fun ρ X9 fl hg hn hl hp ho hc hf hr => .inl ⟨rfl, Runs.val _ (op_f68_3 (show ρ (.tmp 25) = .pointer (some ⟨g, j * 7, none⟩) from hr 10 25 rfl rfl)) ⟨hg, ⟨⟨rfl, rfl, rfl, Nat.le_refl _, fun _ _ _ => rfl⟩, hg.tag⟩, rfl⟩⟩
        · refine fun ρ X9 fl hg hn hl hp ho hc hf hr => .inl ⟨rfl, ?_⟩
          obtain ⟨ad7, cap7, e7, o7⟩ : Ow w.heap.size 57 2 l.spans.length (l.spans.flatMap snL) X9 (ρ (.tmp 21)) := hr 6 21 rfl rfl
          obtain ⟨⟨u7, c7⟩, f7⟩ := hg.cell (j := j * 7 + 5) (by omega)
          have hn' : fl 12 = false := hn
          have hg2 : GG w W1 g n cap3 j (K.flatMap glL) a0 b0 l (fl 12) (fl 15) X9 := hg
          rw [hn'] at hg2
          rw [e7] at o7
          exact Runs.skips (op_store66 (show ρ (.tmp 26) = .pointer (some ⟨g, j * 7 + 5, none⟩) from hr 11 26 rfl rfl) e7 c7 f7) ⟨hg2.one o7, ⟨Fr.set (S := fun k => k = g) (a := ⟨g, j * 7 + 5, none⟩) (Fr.refl X9 _) (.inl rfl) _, hg.tag⟩, trivial⟩
        · exact fun ρ X9 fl hg hn hl hp ho hc hf hr => .inl ⟨rfl, Runs.val _ (op_i31 (show ρ (.tmp 17) = .slice (some ⟨g, 0, none⟩) n cap3 from hr 2 17 rfl rfl) (show ρ (.tmp 18) = .int .i64 (j : Int) from hr 3 18 rfl rfl) hlt) ⟨hg, ⟨⟨rfl, rfl, rfl, Nat.le_refl _, fun _ _ _ => rfl⟩, hg.tag⟩, rfl⟩⟩
        · exact fun ρ X9 fl hg hn hl hp ho hc hf hr => .inl ⟨rfl, Runs.val _ (op_f68_4 (show ρ (.tmp 27) = .pointer (some ⟨g, j * 7, none⟩) from hr 13 27 rfl rfl)) ⟨hg, ⟨⟨rfl, rfl, rfl, Nat.le_refl _, fun _ _ _ => rfl⟩, hg.tag⟩, rfl⟩⟩
        · refine fun ρ X9 fl hg hn hl hp ho hc hf hr => .inl ⟨rfl, ?_⟩
          obtain ⟨ad7, cap7, e7, o7⟩ : Ow w.heap.size 55 3 l.writes.length (l.writes.flatMap wrL) X9 (ρ (.tmp 24)) := hr 9 24 rfl rfl
          obtain ⟨⟨u7, c7⟩, f7⟩ := hg.cell (j := j * 7 + 6) (by omega)
          have hn' : fl 15 = false := hn
          have hg2 : GG w W1 g n cap3 j (K.flatMap glL) a0 b0 l (fl 12) (fl 15) X9 := hg
          rw [hn'] at hg2
          rw [e7] at o7
          exact Runs.skips (op_store39 (show ρ (.tmp 28) = .pointer (some ⟨g, j * 7 + 6, none⟩) from hr 14 28 rfl rfl) e7 c7 f7) ⟨hg2.two o7, ⟨Fr.set (S := fun k => k = g) (a := ⟨g, j * 7 + 6, none⟩) (Fr.refl X9 _) (.inl rfl) _, hg.tag⟩, trivial⟩
      case en =>
        intro a9 X9 fl hfl hg hs9 hd9 ho9 hr9
        obtain ⟨x9, hx, hxt⟩ := act_put hs9 hd9 ho9
        change a9 = putAll _ x9 [15, 16, 17, 18, 19, 20, 21, 22, 23, 24, 25, 26, 27, 28] at hx
        simp only [putAll, Act.put, List.setIfInBounds_toArray, List.set_cons_zero, List.set_cons_succ] at hx
        rw [hfl 12 (by decide), hfl 15 (by decide)] at hg
        have HG := Lib.hid hg
        clear hfl hg hs9 hd9 ho9 hr9 hxt
        subst hx
        generalize x9 15 = z15, x9 16 = z16, x9 17 = z17, x9 18 = z18, x9 19 = z19, x9 20 = z20, x9 21 = z21, x9 22 = z22, x9 23 = z23, x9 24 = z24, x9 25 = z25, x9 26 = z26, x9 27 = z27, x9 28 = z28
        go_wp2
        go_roundw
        case rel =>
          obtain ⟨hf, a, b2, h1, _, h3, _, h5⟩ := HG.out
          have hkn := HKN.out
          have hc := HCL.out
          have hjK : j < K.length := by omega
          refine ⟨j + 1, K.set j (K[j].1, a, b2), hlt, by go_num, ⟨?_, ?_, fun i hi hij => ?_, fun i hi hij => ?_, HBW.out X9 hf⟩⟩
          · rw [List.map_set]
            have : (K.map Prod.fst).set j K[j].1 = K.map Prod.fst := by
              refine set_same ?_
              rw [List.getElem?_map, List.getElem?_eq_getElem hjK]
              rfl
            rw [this]
            exact hc.kf
          · rw [List.length_set, ← gl_set K j hjK, hkn]
            exact h1
          · rw [List.length_set] at hi
            rw [List.getElem_set]
            split
            · have := h3 rfl
              rw [HKJ.out hjK]
              exact this
            · have := hc.sp i hi (by omega)
              exact keep_rowB (own_below this HB1.out) hf (fun k hk cs => tag68 (own_below (by have q := hc.row; rw [hkn] at q; exact q) HB1.out) (by decide) k hk cs)
          · rw [List.length_set] at hi
            rw [List.getElem_set]
            split
            · have := h5 rfl
              rw [HKJ.out hjK]
              exact this
            · have := hc.wr i hi (by omega)
              exact keep_rowB (own_below this HB1.out) hf (fun k hk cs => tag68 (own_below (by have q := hc.row; rw [hkn] at q; exact q) HB1.out) (by decide) k hk cs)
        case measure => simp [intOf]; omega
    · have k1 : ¬ ((j : Int) < n) := by omega
      have ej : j = n := by omega
      have HCL := Lib.hid hcl
      have HKN := Lib.hid hKn
      clear hcl hKn
      go_wp2
      refine bodyPost_ret (v := .slice ad3 n cap3) (by simp [results, Try.results36, go_sem]) rfl ?_
      have hk := HKN.out
      have hc := HCL.out
      refine ⟨K, ad3, cap3, hc.kf, by rw [hk], ⟨by have q := hc.row; rw [hk] at q ⊢; exact q, fun x hx => ?_, fun x hx => ?_⟩, hc.bl⟩
      · obtain ⟨i, hi, rfl⟩ := List.getElem_of_mem hx
        exact hc.sp i hi (by omega)
      · obtain ⟨i, hi, rfl⟩ := List.getElem_of_mem hx
        exact hc.wr i hi (by omega)
end
end Go.Proofs.Ytcoaahlakkghhaa
/- The walks of Locks and of the document's Holds and Covers; the law ShardLocks. -/
namespace Go.Proofs.Ytcoaahlakkghhaa
open Go.RowKit
/-- Locks read no more than so many spans. -/
def Few (s : Sh) (B : Nat) : Prop := ∀ l ∈ s.locks, l.spans.length ≤ B
theorem few_act {s : Sh} {B : Nat} (h : Few s B) (a : Int) (c : Cm) (hc : c.reads.length ≤ B) : Few (s.act a c).1 B := by
  by_cases h1 : c.kind = 1
  · unfold Sh.act
    rw [if_pos h1]
    unfold Sh.prepare
    split
    · exact h
    · split
      · exact h
      · split
        · exact h
        · intro l hl
          rcases List.mem_append.1 (show l ∈ s.locks ++ [newL c] from hl) with q | q
          · exact h l q
          · rw [List.mem_singleton.1 q]
            show (c.reads.map Rn.span).length ≤ B
            rw [List.length_map]
            exact hc
  · by_cases h4 : c.kind = 4
    · have e : s.act a c = s.resolve c := by
        unfold Sh.act
        rw [if_neg h1, if_neg (by omega), if_neg (by omega), if_pos h4]
      rw [e]
      intro l hl
      rcases resolve_locks s c with q | ⟨i, hi, _, q⟩
      · rw [q] at hl
        exact h l hl
      · rw [q] at hl
        exact h l (List.mem_of_mem_eraseIdx hl)
    · intro l hl
      rw [(act_locks_other a h1 h4).1] at hl
      exact h l hl
theorem few_acts {s : Sh} {B : Nat} (h : Few s B) : ∀ L : List Oq, (∀ q ∈ L, q.2.reads.length ≤ B) → Few (s.acts L) B := by
  intro L hL
  induction L generalizing s with
  | nil => exact h
  | cons q L ih => exact ih (few_act h q.1 q.2 (hL q List.mem_cons_self)) (fun x hx => hL x (List.mem_cons_of_mem _ hx))
section
variable {w w' V X : World} {A : Nat} {S1 S2 : Nat → Prop} {s : Sh} {P M N : Nat} {G : List Gl} {lv rv ov : Value}
set_option maxHeartbeats 1000000 in
set_option maxRecDepth 100000 in
theorem locks_any (h : Sx w A S1 S2 s P M N G lv rv ov) (hz : ∀ l ∈ s.locks, l.spans.length ≤ 800000 ∧ l.writes.length ≤ 800000) : Calls Try.prog 21 #[.pointer (some ⟨A, 0, none⟩)] w fun e w' => LkAns w s.locks e w' := by
  have hlen : s.locks.length ≤ 800000 := by rw [← h.gl, List.length_map]; exact h.fl
  have hcl := cloneLocks_any h.locks hlen hz
  obtain ⟨ad, cap, rfl⟩ := h.shape
  have c1 : w.cell? ⟨A, 1, none⟩ = some (.slice ad G.length cap) := cell_blk h.ob 1
  have hq : ∀ w, (binOp BinOp.eql 25 (.pointer (some ⟨A, 0, none⟩)) (.pointer none)).run Try.prog w = .ok (.bool false) w := fun _ => by kernel_rfl
  have HCL := Lib.hid hcl
  clear h hz hlen hcl
  go_enter Try.func21, Try.ntmps21
  go_wp2_with (go_at_call 36; refine HCL.out.mono ?_; rintro e w1 ⟨G1, ad1, cap1, hG1, rfl, ho, hb⟩; refine Hid.out ?_)
  refine Lib.hid ?_
  have HA : Hid (LkAns w s.locks (.returned (.slice ad1 G1.length cap1)) w1) := Lib.hid ⟨G1, ad1, cap1, hG1, rfl, ho, hb⟩
  clear hG1 ho hb
  go_wp2
  refine bodyPost_ret (v := .slice ad1 G1.length cap1) (by simp [results, Try.results21, go_sem]) rfl ?_
  exact HA.out
set_option maxHeartbeats 1000000 in
set_option maxRecDepth 100000 in
theorem holdsR_any {l : Lk} {sa wa : Option Addr} {sc wc : Nat} {k : ByteArray} (hw : Lr wrE 3 w l.writes (.slice wa l.writes.length wc)) : Calls Try.prog 22 #[lkV l sa sc wa wc, .string k] w fun e w' => e = .returned (.bool (holdsB l k)) ∧ Below w.heap.size w w' := by
  obtain ⟨W, hW⟩ : ∃ W, W = w.alloc (lkO l sa sc wa wc) := ⟨_, rfl⟩
  obtain ⟨Y, hY⟩ : ∃ Y, w.heap.size = Y := ⟨_, rfl⟩
  have hb : Below w.heap.size w W := by rw [hW]; exact (Below.refl _ w).alloc (Nat.le_refl _) _
  have jY : W.heap[Y]? = some (lkO l sa sc wa wc) := by rw [hW, ← hY]; exact heap_alloc_new w _
  have y6 : W.cell? ⟨Y, 6, none⟩ = some (.slice wa l.writes.length wc) := cell_blk jY 6
  obtain ⟨_, _, e1, _, h1, h2, hcs⟩ := hw.on wrE_held hb
  cases e1
  have hmx : (l.writes.length : Int) ≤ 9223372036854775807 := by unfold maxLen at h2; omega
  have HB := Lib.hid hb
  have HW := Lib.hid hW
  have HY := Lib.hid hY
  have HCS := Lib.hid hcs
  clear hW hY hb jY hcs hw h1 h2
  go_enter Try.func22, Try.ntmps22
  go_upto_region 1 with fail
  rw [← HW.out, HY.out]
  go_wp2
  go_loopw [5] (fun iv wr => ∃ i : Nat, i ≤ l.writes.length ∧ iv = .int .i64 (i : Int) ∧ Hid (∀ j (h : j < l.writes.length), j < i → l.writes[j].key ≠ k) ∧ wr = W) (fun iv _ => l.writes.length - (intOf iv).toNat)
  case atStart => exact ⟨0, Nat.zero_le _, rfl, Lib.hid (fun j _ h => by omega), rfl⟩
  case round =>
    obtain ⟨i, hi, rfl, HK, rfl⟩ := hrel
    by_cases hlt : i < l.writes.length
    · obtain ⟨b, o, cs, rfl, _, hE, _, hcell⟩ := HCS.out i hlt
      have hE' : cs = wrL l.writes[i] := hE
      subst hE'
      have c0 := hcell 0 _ rfl
      simp only [Nat.add_zero] at c0
      have k1 : (i : Int) < l.writes.length := by omega
      have k0 : (0 : Int) ≤ i := by omega
      have hse := same_eq l.writes[i].key k
      by_cases hc : l.writes[i].key = k
      · rw [decide_eq_true hc] at hse
        have HR : Hid (holdsB l k = true) := Lib.hid (List.any_eq_true.2 ⟨l.writes[i], List.getElem_mem hlt, decide_eq_true hc⟩)
        obtain ⟨ky, hky⟩ : ∃ ky, l.writes[i].key = ky := ⟨_, rfl⟩
        rw [hky] at c0 hse
        clear hc hcell hE hky
        go_wp2
        go_ret
        rw [HR.out]
        exact ⟨rfl, HB.out⟩
      · rw [decide_eq_false hc] at hse
        have HK2 : Hid (∀ j (h : j < l.writes.length), j < i + 1 → l.writes[j].key ≠ k) := Lib.hid (fun j h hj => by
          by_cases e : j = i
          · subst e
            exact hc
          · exact HK.out j h (by omega))
        obtain ⟨ky, hky⟩ : ∃ ky, l.writes[i].key = ky := ⟨_, rfl⟩
        rw [hky] at c0 hse
        clear hc hcell hE HK hky
        go_wp2
        go_roundw
        case rel => exact ⟨i + 1, hlt, by go_num, HK2, trivial⟩
        case measure => simp [intOf]; omega
    · have k1 : ¬ ((i : Int) < l.writes.length) := by omega
      have HR : Hid (holdsB l k = false) := Lib.hid (by
        unfold holdsB
        rw [List.any_eq_false]
        intro x hx q
        obtain ⟨j, hj, rfl⟩ := List.getElem_of_mem hx
        exact HK.out j hj (by omega) (of_decide_eq_true q))
      clear HK
      go_wp2
      go_ret
      rw [HR.out]
      exact ⟨rfl, HB.out⟩
set_option maxHeartbeats 1000000 in
set_option maxRecDepth 100000 in
theorem coversR_any {l : Lk} {sa wa : Option Addr} {sc wc : Nat} {k : ByteArray} (hk : k.size ≤ maxLen) (hz : ∀ p ∈ l.spans, p.lo.size ≤ maxLen ∧ p.hi.size ≤ maxLen) (hw : Lr snE 2 w l.spans (.slice sa l.spans.length sc)) : Calls Try.prog 23 #[lkV l sa sc wa wc, .string k] w fun e w' => e = .returned (.bool (coversB l k)) ∧ Below w.heap.size w w' := by
  obtain ⟨W, hW⟩ : ∃ W, W = w.alloc (lkO l sa sc wa wc) := ⟨_, rfl⟩
  obtain ⟨Y, hY⟩ : ∃ Y, w.heap.size = Y := ⟨_, rfl⟩
  have hb : Below w.heap.size w W := by rw [hW]; exact (Below.refl _ w).alloc (Nat.le_refl _) _
  have jY : W.heap[Y]? = some (lkO l sa sc wa wc) := by rw [hW, ← hY]; exact heap_alloc_new w _
  have HLW := Lib.hid (hw.on snE_held hb)
  obtain ⟨_, _, e1, _, h1, h2, _⟩ := hw
  cases e1
  have hmx : (l.spans.length : Int) ≤ 9223372036854775807 := by unfold maxLen at h2; omega
  have HB := Lib.hid hb
  have HW := Lib.hid hW
  have HY := Lib.hid hY
  have HJ := Lib.hid jY
  clear hW hY hb jY h1 h2
  go_enter Try.func23, Try.ntmps23
  go_upto_region 1 with fail
  rw [← HW.out, HY.out]
  go_wp2
  go_loopw [5] (fun iv wr => ∃ i : Nat, i ≤ l.spans.length ∧ iv = .int .i64 (i : Int) ∧ Hid (∀ j (h : j < l.spans.length), j < i → inSn l.spans[j] k = false) ∧ Below W.heap.size W wr) (fun iv _ => l.spans.length - (intOf iv).toNat)
  case atStart => exact ⟨0, Nat.zero_le _, rfl, Lib.hid (fun j _ h => by omega), Below.refl _ _⟩
  case round =>
    obtain ⟨i, hi, rfl, HK, hbw⟩ := hrel
    obtain ⟨V, rfl⟩ : ∃ V, V = wr := ⟨_, rfl⟩
    have y5 : V.cell? ⟨Y, 5, none⟩ = some (.slice sa l.spans.length sc) := cell_on hbw (cell_blk HJ.out 5)
    by_cases hlt : i < l.spans.length
    · obtain ⟨_, _, e1, _, _, _, hcs⟩ := HLW.out.on snE_held hbw
      cases e1
      obtain ⟨b, o, cs, rfl, _, hE, _, hcell⟩ := hcs i hlt
      have hE' : cs = snL l.spans[i] := hE
      subst hE'
      have c0 := hcell 0 _ rfl
      have c1 := hcell 1 _ rfl
      simp only [Nat.add_zero] at c0
      have k1 : (i : Int) < l.spans.length := by omega
      have k0 : (0 : Int) ≤ i := by omega
      have hpz := hz _ (List.getElem_mem hlt)
      have hwi := within_any V k l.spans[i].lo l.spans[i].hi hk hpz.1 hpz.2
      obtain ⟨bb, hbb⟩ : ∃ bb, inSn l.spans[i] k = bb := ⟨_, rfl⟩
      have hwi2 : Calls Try.prog 48 #[.string k, .agg #[.string l.spans[i].lo, .string l.spans[i].hi]] V fun e w' => e = .returned (.bool bb) ∧ Below V.heap.size V w' := by rw [← hbb]; exact hwi
      have HBB := Lib.hid hbb
      have HBW := Lib.hid hbw
      obtain ⟨p, hp⟩ : ∃ p, l.spans[i] = p := ⟨_, rfl⟩
      rw [hp] at c0 c1 hwi2
      clear hwi hbb hcs hcell hE hbw hp
      go_wp2_with (go_at_call 48; refine hwi2.mono ?_; rintro e w2 ⟨rfl, hb2⟩; refine Hid.out ?_)
      refine Lib.hid ?_
      have HB2 := Lib.hid (HBW.out.trans (hb2.mono HBW.out.size))
      clear hb2 hwi2
      cases bb with
      | true =>
        have HR : Hid (coversB l k = true) := Lib.hid (List.any_eq_true.2 ⟨l.spans[i], List.getElem_mem hlt, HBB.out⟩)
        go_wp2
        go_ret
        rw [HR.out]
        exact ⟨rfl, HB.out.trans (HB2.out.mono HB.out.size)⟩
      | false =>
        have HK2 : Hid (∀ j (h : j < l.spans.length), j < i + 1 → inSn l.spans[j] k = false) := Lib.hid (fun j h hj => by
          by_cases e : j = i
          · subst e
            exact HBB.out
          · exact HK.out j h (by omega))
        go_wp2
        go_roundw
        case rel => exact ⟨i + 1, hlt, by go_num, HK2, HB2.out⟩
        case measure => simp [intOf]; omega
    · have k1 : ¬ ((i : Int) < l.spans.length) := by omega
      have HR : Hid (coversB l k = false) := Lib.hid (by
        unfold coversB
        rw [List.any_eq_false]
        intro x hx q
        obtain ⟨j, hj, rfl⟩ := List.getElem_of_mem hx
        have := HK.out j hj (by omega)
        rw [this] at q
        cases q)
      have HBW := Lib.hid hbw
      clear HK hbw
      go_wp2
      go_ret
      rw [HR.out]
      exact ⟨rfl, HB.out.trans (HBW.out.mono HB.out.size)⟩
end
end Go.Proofs.Ytcoaahlakkghhaa
