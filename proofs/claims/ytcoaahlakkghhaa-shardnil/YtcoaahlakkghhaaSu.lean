/- The walks of slices.Delete and unlock. -/
import Derived.Test.YtcoaahlakkghhaaSt
namespace Go.Proofs.Ytcoaahlakkghhaa
open Go.RowKit
section
variable {ρ : Operand → Value} {X : World} {d : Option Tmp} {ty : TypeId} {ps : String} {af : Array Edge} {g : Option (Nat × Bool)}
theorem op_slice31lo {x y : Operand} {v1 v2 v' : Value} (hx : ρ x = v1) (hy : ρ y = v2) (hrun : ∀ X : World, (Instr.sliceAt 31 v1 (some v2) none none).run Try.prog X = .ok v' X) : (execOp ρ ⟨d, .slice 31 x (some y) none none, ty, ps, af, g⟩).run Try.prog X = .ok (.value v') X := by
  simp only [execOp, Option.map_some, Option.map_none, hx, hy, Sem.run_bind, hrun, Result.andThen_ok, Sem.run_pure]
theorem op_slice31hi {x y : Operand} {v1 v2 v' : Value} (hx : ρ x = v1) (hy : ρ y = v2) (hrun : ∀ X : World, (Instr.sliceAt 31 v1 none (some v2) none).run Try.prog X = .ok v' X) : (execOp ρ ⟨d, .slice 31 x none (some y) none, ty, ps, af, g⟩).run Try.prog X = .ok (.value v') X := by
  simp only [execOp, Option.map_some, Option.map_none, hx, hy, Sem.run_bind, hrun, Result.andThen_ok, Sem.run_pure]
end
section
variable {w w' : World} {G : List Gl} {g n cap i : Nat}
theorem row_blk {e : TypeId} {c n : Nat} {xs : List Value} (h : w.ownsRow 0 e c (.slice (some ⟨g, 0, none⟩) n cap) n xs) : ∃ cur, w.heap[g]? = some (.cells cur e (0, 0)) ∧ n ≤ cap ∧ cap ≤ maxLen ∧ cur.size = cap * c ∧ cur.toList.take (n * c) = xs := by
  rcases h.2 with ⟨hv, _⟩ | ⟨g', cap', cur, hv, h0, hg, h1, h2, h3, h4⟩
  · cases hv
  · cases hv
    exact ⟨cur, hg, h1, h2, h3, h4⟩
/-- What is cleared behind a row leaves it. -/
theorem own_clear {n : Nat} {xs : List Value} (h : w.ownsRow 0 68 7 (.slice (some ⟨g, 0, none⟩) n cap) n xs) (hc : n + 1 ≤ cap) : (w.setCells g (n * 7) zL).ownsRow 0 68 7 (.slice (some ⟨g, 0, none⟩) n cap) n xs ∧ Fr w (w.setCells g (n * 7) zL) (fun k => k = g) := by
  obtain ⟨cur, hg, h1, h2, h3, h4⟩ := row_blk h
  obtain ⟨⟨ds, d1, d2⟩, e1, e2, e3, e4, e5⟩ := setCells_gen zL (n * 7) w cur hg (by rw [zL_len, h3]; omega)
  refine ⟨⟨h.1, .inr ⟨g, cap, ds, rfl, Nat.zero_le _, d1, h1, h2, ?_, ?_⟩⟩, ⟨e3, e4, e5, by omega, fun k _ hk => e1 k hk⟩⟩
  · have := congrArg List.length d2
    rw [Array.length_toList, List.length_append, List.length_append, List.length_take, List.length_drop, zL_len, Array.length_toList] at this
    omega
  · rw [d2, List.append_assoc, List.take_append_of_le_length (by rw [List.length_take, Array.length_toList]; omega), List.take_take, Nat.min_self]
    exact h4
theorem gl_one (h : ∀ x ∈ G, (∃ a n m, x.2.1 = Value.slice a n m) ∧ ∃ a n m, x.2.2 = Value.slice a n m) : ∀ u ∈ G.flatMap glL, u.oneCell' = true := by
  intro u hu
  obtain ⟨x, hx, hu⟩ := List.mem_flatMap.1 hu
  obtain ⟨⟨a, n, m, e1⟩, b, p, q, e2⟩ := h x hx
  unfold glL at hu
  rw [e1, e2] at hu
  simp at hu
  rcases hu with rfl | rfl | rfl | rfl | rfl | rfl | rfl <;> rfl
/-- The rest of the row, and what is made of it. -/
theorem del_src (hlc : G.length ≤ cap) (hcm : cap ≤ maxLen) (hi : i < G.length) (h1 : ∀ u ∈ G.flatMap glL, u.oneCell' = true) :
    ∃ sa sc, (∀ X : World, (Instr.sliceAt 31 (.slice (some ⟨g, 0, none⟩) G.length cap) (some (.int .i64 ((i : Int) + 1))) none none).run Try.prog X = .ok (.slice sa (G.length - (i + 1)) sc) X) ∧
      ∀ X : World, X.ownsRow 0 68 7 (.slice (some ⟨g, 0, none⟩) G.length cap) G.length (G.flatMap glL) → ∃ w', (Builtin.append_ #[31, 31] 31 #[.slice (some ⟨g, 0, none⟩) i cap, .slice sa (G.length - (i + 1)) sc]).run Try.prog X = .ok (.slice (some ⟨g, 0, none⟩) (G.length - 1) cap) w' ∧
        w'.ownsRow 0 68 7 (.slice (some ⟨g, 0, none⟩) (G.length - 1) cap) (G.length - 1) ((G.eraseIdx i).flatMap glL) ∧ Fr X w' (fun k => k = g) := by
  have hm : (cap : Int) ≤ 9223372036854775807 := by unfold maxLen at hcm; omega
  have q0 : (0 : Int) ≤ (i : Int) + 1 := by omega
  have q1 : (i : Int) + 1 ≤ (G.length : Int) := by omega
  have q2 : ((i : Int) + 1).toNat = i + 1 := by omega
  have q3 : (G.length : Int) ≤ (cap : Int) := by omega
  by_cases hc : cap = i + 1
  · have hn : G.length = i + 1 := by omega
    refine ⟨some ⟨g, 0, none⟩, 0, fun X => ?_, fun X hX => ?_⟩
    · have z : G.length - (i + 1) = 0 := by omega
      have z3 : G.length = cap := by omega
      rw [z]
      rw [z3, hc] at *
      go_simp
    · obtain ⟨w', _, ho, hf, he⟩ := del_run hX hi h1
      have := he hn.symm
      subst this
      refine ⟨w', ?_, ho, hf⟩
      have z : G.length - (i + 1) = 0 := by omega
      have z2 : G.length - 1 = i := by omega
      rw [z, z2]
      exact append_none31 w' _ _ i cap 0 (by omega)
  · refine ⟨some ⟨g, (i + 1) * 7, none⟩, cap - (i + 1), fun X => ?_, fun X hX => ?_⟩
    · have z2 : ¬ cap = i + 1 := hc
      go_simp
    · obtain ⟨w', hr, ho, hf, _⟩ := del_run hX hi h1
      exact ⟨w', hr _, ho, hf⟩
set_option maxHeartbeats 4000000 in
set_option maxRecDepth 100000 in
theorem delete_any (h : w.ownsRow 0 68 7 (.slice (some ⟨g, 0, none⟩) G.length cap) G.length (G.flatMap glL)) (hi : i < G.length) (h1 : ∀ u ∈ G.flatMap glL, u.oneCell' = true) :
    Calls Try.prog 91 #[.slice (some ⟨g, 0, none⟩) G.length cap, .int .i64 (i : Int), .int .i64 ((i : Int) + 1)] w fun e w' => e = .returned (.slice (some ⟨g, 0, none⟩) (G.length - 1) cap) ∧ w'.ownsRow 0 68 7 (.slice (some ⟨g, 0, none⟩) (G.length - 1) cap) (G.length - 1) ((G.eraseIdx i).flatMap glL) ∧ Fr w w' (fun k => k = g) := by
  obtain ⟨cur, hg, hlc, hcm, _, _⟩ := row_blk h
  obtain ⟨sa, sc, hs1, hs2⟩ := del_src (g := g) hlc hcm hi h1
  have hm : (cap : Int) ≤ 9223372036854775807 := by unfold maxLen at hcm; omega
  have hm2 : (G.length : Int) ≤ 9223372036854775807 := by omega
  have q0 : (0 : Int) ≤ (i : Int) := by omega
  have q00 : (0 : Int) ≤ (i : Int) + 1 := by omega
  have q1 : (i : Int) ≤ (i : Int) + 1 := by omega
  have q2 : (i : Int) + 1 ≤ (G.length : Int) := by omega
  have q3 : (G.length : Int) ≤ (cap : Int) := by omega
  have q4 : ¬ (i : Int) = (i : Int) + 1 := by omega
  have hsl : ∀ X : World, (Instr.sliceAt 31 (.slice (some ⟨g, 0, none⟩) G.length cap) none (some (.int .i64 (i : Int))) none).run Try.prog X = .ok (.slice (some ⟨g, 0, none⟩) i cap) X := fun X => by
    have z : (i : Int) ≤ (cap : Int) := by omega
    have z2 : ¬ cap = 0 := by omega
    go_simp
  obtain ⟨m, hmm⟩ : ∃ m, G.length - 1 = m := ⟨_, rfl⟩
  have hgm : (G.length : Int) = (m : Int) + 1 := by omega
  have hgn : G.length = m + 1 := by omega
  have hsl2 : ∀ X : World, (Instr.sliceAt 31 (.slice (some ⟨g, 0, none⟩) m cap) (some (.int .i64 (m : Int))) (some (.int .i64 (G.length : Int))) none).run Try.prog X = .ok (.slice (some ⟨g, m * 7, none⟩) 1 (cap - m)) X := fun X => by
    have z0 : (0 : Int) ≤ (m : Int) := by omega
    have z1 : (m : Int) ≤ (G.length : Int) := by omega
    have z2 : ¬ cap = m := by omega
    have z4 : G.length - m = 1 := by omega
    clear hgm hgn hmm
    go_simp
  rw [hmm] at hs2 ⊢
  have HS1 := Lib.hid hs1
  have HS2 := Lib.hid hs2
  have HSL := Lib.hid hsl
  have HO := Lib.hid h
  have HLC := Lib.hid hlc
  have HGN := Lib.hid hgn
  clear hs1 hs2 hsl hg h hcm h1 hmm hgm hgn hlc
  go_enter Try.func91, Try.ntmps91
  go_upto_region 5 with fail
  refine wp_region_once 6 (fun d X9 => Fr w X9 (fun k => k = g) ∧ (d = false → Below w.heap.size w X9)) (fun X9 X' => Below X9.heap.size X9 X') (fun X9 X' => Fr X9 X' (fun k => k = g)) [
    fun v9 _ => v9 = (.slice (some ⟨g, 0, none⟩) G.length cap),
    fun v9 _ => v9 = .int .i64 (i : Int),
    fun v9 _ => v9 = .slice (some ⟨g, 0, none⟩) i cap,
    fun v9 _ => v9 = (.slice (some ⟨g, 0, none⟩) G.length cap),
    fun v9 _ => v9 = .int .i64 ((i : Int) + 1),
    fun v9 _ => v9 = .slice sa (G.length - (i + 1)) sc,
    fun v9 X9 => v9 = .slice (some ⟨g, 0, none⟩) m cap ∧ X9.ownsRow 0 68 7 (.slice (some ⟨g, 0, none⟩) m cap) m ((G.eraseIdx i).flatMap glL) ∧ Fr w X9 (fun k => k = g)]
    (fun v9 X9 => v9 = .slice (some ⟨g, 0, none⟩) m cap ∧ X9.ownsRow 0 68 7 (.slice (some ⟨g, 0, none⟩) m cap) m ((G.eraseIdx i).flatMap glL) ∧ Fr w X9 (fun k => k = g)) rfl (by kernel_rfl) (by kernel_rfl) (by kernel_rfl) (by kernel_rfl) ?st ?stm ?g0 (by decide) ?os ?la ?en
  case st => exact ⟨fun _ _ _ _ h => h, fun _ _ _ _ h => h, fun _ _ _ _ h => h, fun _ _ _ _ h => h, fun _ _ _ _ h => h, fun _ _ _ _ h => h, fun _ _ _ hs ⟨e, o1, o2⟩ => ⟨e, own_below o1 hs, o2.below hs⟩, trivial⟩
  case stm => exact ⟨fun _ _ _ _ h => h, fun _ _ _ _ h => h, fun _ _ _ _ h => h, fun _ _ _ _ h => h, fun _ _ _ _ h => h, fun _ _ _ _ h => h, fun _ _ _ _ h => h, trivial⟩
  case g0 => exact ⟨⟨rfl, rfl, rfl, Nat.le_refl _, fun _ _ _ => rfl⟩, fun _ => ⟨rfl, rfl, rfl, Nat.le_refl _, fun _ _ => rfl⟩⟩
  case os =>
    refine ⟨?_, ?_, ?_, ?_, ?_, ?_, ?_, trivial⟩
    · exact ⟨rfl, fun _ ρ X9 d hg ho hc hf hr => Runs.val _ (op_move (show ρ (.tmp 0) = (.slice (some ⟨g, 0, none⟩) G.length cap) from ho 0 rfl)) ⟨hg, Below.refl _ _, rfl⟩, fun e => absurd e (by decide)⟩
    · exact ⟨rfl, fun _ ρ X9 d hg ho hc hf hr => Runs.val _ (op_move (show ρ (.tmp 1) = .int .i64 (i : Int) from ho 1 rfl)) ⟨hg, Below.refl _ _, rfl⟩, fun e => absurd e (by decide)⟩
    · exact ⟨rfl, fun _ ρ X9 d hg ho hc hf hr => Runs.val _ (op_slice31hi (show ρ (.tmp 20) = (.slice (some ⟨g, 0, none⟩) G.length cap) from hr 0 20 rfl rfl) (show ρ (.tmp 21) = .int .i64 (i : Int) from hr 1 21 rfl rfl) HSL.out) ⟨hg, Below.refl _ _, rfl⟩, fun e => absurd e (by decide)⟩
    · exact ⟨rfl, fun _ ρ X9 d hg ho hc hf hr => Runs.val _ (op_move (show ρ (.tmp 0) = (.slice (some ⟨g, 0, none⟩) G.length cap) from ho 0 rfl)) ⟨hg, Below.refl _ _, rfl⟩, fun e => absurd e (by decide)⟩
    · exact ⟨rfl, fun _ ρ X9 d hg ho hc hf hr => Runs.val _ (op_move (show ρ (.tmp 2) = .int .i64 ((i : Int) + 1) from ho 2 rfl)) ⟨hg, Below.refl _ _, rfl⟩, fun e => absurd e (by decide)⟩
    · exact ⟨rfl, fun _ ρ X9 d hg ho hc hf hr => Runs.val _ (op_slice31lo (show ρ (.tmp 23) = (.slice (some ⟨g, 0, none⟩) G.length cap) from hr 3 23 rfl rfl) (show ρ (.tmp 24) = .int .i64 ((i : Int) + 1) from hr 4 24 rfl rfl) HS1.out) ⟨hg, Below.refl _ _, rfl⟩, fun e => absurd e (by decide)⟩
    · refine ⟨rfl, fun e => absurd rfl e, fun _ ρ X9 hg ho hc hf hr => ?_⟩
      obtain ⟨w9, hrun, o9, f9⟩ := HS2.out X9 (own_below HO.out (hg.2 rfl))
      exact Runs.val _ (op_appendT (show ρ (.tmp 22) = .slice (some ⟨g, 0, none⟩) i cap from hr 2 22 rfl rfl) (show ρ (.tmp 25) = .slice sa (G.length - (i + 1)) sc from hr 5 25 rfl rfl) hrun) ⟨⟨hg.1.trans f9, fun z => by cases z⟩, f9, rfl, o9, hg.1.trans f9⟩
  case la =>
    refine ⟨rfl, fun ρ X9 hg ho hc hf hr => ?_⟩
    obtain ⟨e, o1, o2⟩ : (ρ (.tmp 26)) = .slice (some ⟨g, 0, none⟩) m cap ∧ X9.ownsRow 0 68 7 (.slice (some ⟨g, 0, none⟩) m cap) m ((G.eraseIdx i).flatMap glL) ∧ Fr w X9 (fun k => k = g) := hr 6 26 (by decide) rfl
    exact Runs.val _ (op_assign e) ⟨rfl, o1, o2⟩
  case en =>
    intro a X9 Xb v9 hF hs hd ho hv9 hr
    obtain ⟨x, hx, hxt⟩ := act_put hs hd ho
    obtain ⟨e9, o9, f9⟩ := hF
    have x0 : x 0 = .slice (some ⟨g, 0, none⟩) m cap := ((hxt 0).symm.trans (hv9 0 rfl)).trans e9
    change a = putAll _ x [20, 21, 22, 23, 24, 25, 26, 0] at hx
    simp only [putAll, Act.put, List.setIfInBounds_toArray, List.set_cons_zero, List.set_cons_succ, x0] at hx
    obtain ⟨cur, jg, _, _, hsz, _⟩ := row_blk o9
    have hcl := fun ty => clear_run31 (w := X9) (g := g) (o := m * 7) (cap := cap - m) ty jg (by have z1 := HLC.out; have z2 := HGN.out; omega)
    obtain ⟨k1, k2⟩ := own_clear o9 (by have z1 := HLC.out; have z2 := HGN.out; omega)
    have HA : Hid ((X9.setCells g (m * 7) zL).ownsRow 0 68 7 (.slice (some ⟨g, 0, none⟩) m cap) m ((G.eraseIdx i).flatMap glL) ∧ Fr w (X9.setCells g (m * 7) zL) (fun k => k = g)) := ⟨k1, f9.trans k2⟩
    clear hs hd ho hr hv9 hxt x0 e9 o9 f9 jg hsz k1 k2
    subst hx
    go_wp2_with (at_builtin; refine wpl_clear _ rfl (hcl _) ?_)
    refine bodyPost_ret (v := .slice (some ⟨g, 0, none⟩) m cap) (by simp [results, Try.results91, go_sem]) rfl ?_
    exact ⟨rfl, HA.out⟩
end
section
variable {w w' X : World} {A : Nat} {S1 S2 : Nat → Prop} {s : Sh} {P M N : Nat} {G : List Gl} {lv rv ov lv' : Value}
def Sh.cut (s : Sh) (i : Nat) : Sh := { s with locks := s.locks.eraseIdx i }
theorem erase_map {α β : Type} (f : α → β) : ∀ (l : List α) (i : Nat), (l.eraseIdx i).map f = (l.map f).eraseIdx i
  | [], _ => rfl
  | _ :: _, 0 => rfl
  | x :: l, i + 1 => by
    simp only [List.eraseIdx_cons_succ, List.map_cons]
    rw [erase_map f l i]
theorem Sx.cutLock (h : Sx w A S1 S2 s P M N G lv rv ov) {i : Nat} (hi : i < G.length) (hf : Fr w w' (fun k => k = A ∨ lv.ownBlock = some k))
    (hob : w'.heap[A]? = some (.cells #[.pointer (some ⟨P, 0, none⟩), lv', rv, .map (some M), ov, .map (some N), .int .i64 s.high] 92 (0, 0)))
    (ho : w'.ownsRow 0 68 7 lv' (G.length - 1) ((G.eraseIdx i).flatMap glL)) (hb : ∀ j, lv'.ownBlock = some j → lv.ownBlock = some j) :
    Sx w' A S1 S2 (s.cut i) P M N (G.eraseIdx i) lv' rv ov ∧ Fr w w' S2 := by
  obtain ⟨es, cl, hM⟩ := h.tm.isMap
  obtain ⟨es2, cl2, hN⟩ := h.en.isMap
  have tag : ∀ {e : TypeId}, e ≠ 92 → e ≠ 68 → ∀ k, (k = A ∨ lv.ownBlock = some k) → ∀ cs, w.heap[k]? ≠ some (.cells cs e (0, 0)) := by
    rintro e q1 q2 k (rfl | q) cs hk
    · rw [h.ob] at hk
      simp only [Option.some.injEq, Obj.cells.injEq] at hk
      exact q1 hk.2.1.symm
    · obtain ⟨cs', t⟩ := own_tag h.lks k q
      rw [t] at hk
      simp only [Option.some.injEq, Obj.cells.injEq] at hk
      exact q2 hk.2.1.symm
  have mapK : ∀ B es cl, w.heap[B]? = some (.map es cl) → ¬ (B = A ∨ lv.ownBlock = some B) := by
    rintro B es cl hB (q | q)
    · rw [q, h.ob] at hB
      cases hB
    · obtain ⟨cs, t⟩ := own_tag h.lks B q
      rw [hB] at t
      cases t
  have hT : ∀ k, (k = A ∨ lv.ownBlock = some k) → S2 k := by
    rintro k (rfl | q)
    · exact h.cA
    · exact h.cl k q
  have hmem : ∀ {g : Gl}, g ∈ G.eraseIdx i → g ∈ G := fun hg => List.mem_of_mem_eraseIdx hg
  have hl : (G.eraseIdx i).length = G.length - 1 := by rw [List.length_eraseIdx, if_pos hi]
  refine ⟨{ ob := hob, st := h.st.stays hf (fun k hk q => h.off k hk (hT k q)), lks := by rw [hl]; exact ho, gl := by rw [erase_map, h.gl]; rfl,
            sp := fun g hg => keep_row (h.sp g (hmem hg)) hf (tag (by decide) (by decide)), wr := fun g hg => keep_row (h.wr g (hmem hg)) hf (tag (by decide) (by decide)),
            rcs := keep_row h.rcs hf (tag (by decide) (by decide)), ovs := keep_row h.ovs hf (tag (by decide) (by decide)), tm := h.tm.like (hf.block M (h.lt M h.cM) (mapK M es cl hM)), en := h.en.like (hf.block N (h.lt N h.cN) (mapK N es2 cl2 hN)), mn := h.mn,
            cA := h.cA, cM := h.cM, cN := h.cN, cl := fun k hk => h.cl k (hb k hk), cr := h.cr, co := h.co,
            cs := fun g hg k hk => h.cs g (hmem hg) k hk, cw := fun g hg k hk => h.cw g (hmem hg) k hk, lt := fun k hk => Nat.lt_of_lt_of_le (h.lt k hk) hf.size, off := h.off, fl := by rw [hl]; have := h.fl; omega, fr := h.fr, fo := h.fo }, hf.mono hT⟩
end
end Go.Proofs.Ytcoaahlakkghhaa
