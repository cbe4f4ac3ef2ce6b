/- New. -/
import Derived.Test.YtfokgalgdlajlaaCw
namespace Go.Proofs.Ytfokgalgdlajlaa
open Go.RowKit
section
variable {ρ : Operand → Value} {X : World} {d : Option Tmp} {ty : TypeId} {ps : String} {af : Array Edge} {g : Option (Nat × Bool)}
abbrev dl0 (t0 t1 t2 cl vr tl : Int) (L : List Gp) : Dl := ⟨t0, t1, t2, cl, vr, tl, 0, false, L, 0, [], 0, 0, 0⟩
theorem op_b82 {x y z u v : Operand} {t0 t1 t2 cl vr tl : Int} {L : List Gp} {a : Option Addr} {n c : Nat} (hn : L.length = n) (e0 : ρ x = .agg #[.int .i64 t0, .int .i64 t1, .int .i64 t2]) (e1 : ρ y = .int .i64 cl) (e2 : ρ z = .int .i64 vr) (e3 : ρ u = .int .i64 tl) (e4 : ρ v = .slice a n c) : (execOp ρ ⟨d, .build 82 #[(0, x), (1, y), (2, z), (3, u), (6, v)], ty, ps, af, g⟩).run Try.prog X = .ok (.value (.agg (dlA (dl0 t0 t1 t2 cl vr tl L) a c none 0))) X := by
  subst hn
  simp only [execOp]
  simp [e0, e1, e2, e3, e4]
  go_simp
theorem op_x82 {x : Operand} {q : Dl} {a b : Option Addr} {m n : Nat} (e : ρ x = .agg (dlA q a m b n)) : (execOp ρ ⟨d, .box 82 x, ty, ps, af, g⟩).run Try.prog X = .ok (.value (.pointer (some ⟨X.heap.size, 0, none⟩))) (X.alloc (.cells (dlA q a m b n) 82)) := by
  simp only [execOp]
  simp [e]
  go_simp
end
/-- The parts of a deal, in a row from B on. -/
structure PaIn (B : Nat) (Ls : List PP) (X : World) (pa : Option Addr) (pc : Nat) (L : List Gp) : Prop where
  ln : L.length = Ls.length
  row : X.ownsRow B 84 3 (.slice pa Ls.length pc) Ls.length (L.flatMap gpL)
  pt : ∀ i (h : i < L.length) (h' : i < Ls.length), PtIn B X L[i] Ls[i]
theorem PaIn.on {B : Nat} {Ls : List PP} {X X' : World} {pa : Option Addr} {pc : Nat} {L : List Gp} (h : PaIn B Ls X pa pc L) (hb : Below X.heap.size X X') : PaIn B Ls X' pa pc L := ⟨h.ln, own_below h.row hb, fun i h1 h2 => (h.pt i h1 h2).on hb⟩
theorem PaIn.mono {B B' : Nat} {Ls : List PP} {X : World} {pa : Option Addr} {pc : Nat} {L : List Gp} (h : PaIn B Ls X pa pc L) (hb : B' ≤ B) : PaIn B' Ls X pa pc L := ⟨h.ln, own_mono h.row hb, fun i h1 h2 => ⟨(h.pt i h1 h2).sh, (h.pt i h1 h2).r.mono hb, own_mono (h.pt i h1 h2).w hb, (h.pt i h1 h2).rn, (h.pt i h1 h2).wn⟩⟩
/-- A block of deals changes, and nothing that the parts are made of. -/
theorem PaIn.fr {B A : Nat} {Ls : List PP} {X X' : World} {pa : Option Addr} {pc : Nat} {L : List Gp} {cs : Array Value} (h : PaIn B Ls X pa pc L) (hA : X.heap[A]? = some (.cells cs 82 (0, 0))) (hf : Fr X X' (fun k => k = A)) : PaIn B Ls X' pa pc L := by
  refine ⟨h.ln, keep_rowB h.row hf (fun k hk cs' hc => ?_), fun i h1 h2 => (h.pt i h1 h2).tag hf fun k hk => ?_⟩
  · have hk' : k = A := hk
    rw [hk', hA] at hc
    simp only [Option.some.injEq, Obj.cells.injEq] at hc
    exact absurd hc.2.1 (by decide)
  · have hk' : k = A := hk
    subst hk'
    exact ⟨_, _, hA, by decide, by decide, by decide⟩
/-- What New answers: a deal that prepares all its parts. -/
def NwAns (w : World) (t0 t1 t2 cl vr tl : Int) (Ls : List PP) (e : Ending) (w' : World) : Prop := ∃ (A : Nat) (pa : Option Addr) (pc : Nat) (L : List Gp), e = .returned (.pointer (some ⟨A, 0, none⟩)) ∧ w.heap.size ≤ A ∧ PaIn w.heap.size Ls w' pa pc L ∧ (∃ h : 0 < L.length, Dx w' A ⟨t0, t1, t2, cl, vr, tl, L[0].sh, false, L, 1, L, 0, 0, 0⟩ pa pc pa pc) ∧ Below w.heap.size w w'
section
variable {w : World}
set_option maxHeartbeats 4000000 in
set_option maxRecDepth 100000 in
theorem newD_any {S : Nat} {ra wa ta : Option Addr} {rn rc wn wc tn tc : Nat} {Ls : List PP} (hpo : ∀ X, Below w.heap.size w X → Calls Try.prog 20 #[.agg #[.slice ra rn rc, .slice wa wn wc, .slice ta tn tc], .pointer (some ⟨S, 0, none⟩)] X (PaAns X Ls)) (hls : 0 < Ls.length ∧ Ls.length ≤ 900000) (t0 t1 t2 cl vr tl : Int) : Calls Try.prog 9 #[.agg #[.int .i64 t0, .int .i64 t1, .int .i64 t2], .int .i64 cl, .int .i64 vr, .int .i64 tl, .agg #[.slice ra rn rc, .slice wa wn wc, .slice ta tn tc], .pointer (some ⟨S, 0, none⟩)] w (NwAns w t0 t1 t2 cl vr tl Ls) := by
  obtain ⟨W, hW⟩ : ∃ W, W = (w.alloc (.cells #[.int .i64 t0, .int .i64 t1, .int .i64 t2] 37)).alloc (.cells #[.slice ra rn rc, .slice wa wn wc, .slice ta tn tc] 26) := ⟨_, rfl⟩
  obtain ⟨Y, hY⟩ : ∃ Y, w.heap.size = Y := ⟨_, rfl⟩
  obtain ⟨Z, hZ⟩ : ∃ Z, Y + 1 = Z := ⟨_, rfl⟩
  have hb : Below w.heap.size w W := by rw [hW]; exact ((Below.refl _ w).alloc (Nat.le_refl _) _).alloc (by simp) _
  have jY : W.heap[Y]? = some (.cells #[.int .i64 t0, .int .i64 t1, .int .i64 t2] 37 (0, 0)) := by
    have := heap_alloc_new w (.cells #[.int .i64 t0, .int .i64 t1, .int .i64 t2] 37)
    rw [hW, ← hY, Below.heap_alloc _ _ _ (by simp only [World.size_alloc]; omega)]
    exact this
  have jZ : W.heap[Z]? = some (.cells #[.slice ra rn rc, .slice wa wn wc, .slice ta tn tc] 26 (0, 0)) := by
    have := heap_alloc_new (w.alloc (.cells #[.int .i64 t0, .int .i64 t1, .int .i64 t2] 37)) (.cells #[.slice ra rn rc, .slice wa wn wc, .slice ta tn tc] 26)
    simp only [World.size_alloc] at this
    rw [hW, ← hZ, ← hY]
    exact this
  have HW := Lib.hid hW
  have HN := Lib.hid (And.intro hY hZ)
  have HB := Lib.hid hb
  have HJ := Lib.hid (And.intro jY jZ)
  have HPO := Lib.hid hpo
  have HLS := Lib.hid hls
  clear hW hY hZ hb jY jZ hpo hls
  go_enter Try.func9, Try.ntmps9
  go_upto_region 1 with fail
  rw [← HW.out, HN.out.1, HN.out.2]
  refine wp_region_fb (fun _ X9 => Below W.heap.size W X9) (fun X9 X8 => Below X9.heap.size X9 X8) [
    fun v9 _ => v9 = .agg #[.int .i64 t0, .int .i64 t1, .int .i64 t2],
    fun v9 _ => v9 = .int .i64 cl,
    fun v9 _ => v9 = .int .i64 vr,
    fun v9 _ => v9 = .int .i64 tl,
    fun v9 _ => v9 = .agg #[.slice ra rn rc, .slice wa wn wc, .slice ta tn tc],
    fun v9 _ => v9 = .pointer (some ⟨S, 0, none⟩),
    fun v9 X9 => ∃ pa pc L, v9 = .slice pa Ls.length pc ∧ PaIn W.heap.size Ls X9 pa pc L,
    fun v9 X9 => ∃ pa pc L, v9 = .agg (dlA (dl0 t0 t1 t2 cl vr tl L) pa pc none 0) ∧ PaIn W.heap.size Ls X9 pa pc L,
    fun v9 X9 => ∃ A pa pc L, v9 = .pointer (some ⟨A, 0, none⟩) ∧ W.heap.size ≤ A ∧ X9.heap[A]? = some (.cells (dlA (dl0 t0 t1 t2 cl vr tl L) pa pc none 0) 82 (0, 0)) ∧ PaIn W.heap.size Ls X9 pa pc L,
    fun v9 X9 => ∃ A pa pc L, v9 = .pointer (some ⟨A, 0, none⟩) ∧ W.heap.size ≤ A ∧ X9.heap[A]? = some (.cells (dlA (dl0 t0 t1 t2 cl vr tl L) pa pc none 0) 82 (0, 0)) ∧ PaIn W.heap.size Ls X9 pa pc L]
    (by kernel_rfl) (by kernel_rfl) (by kernel_rfl) ?st ?g0 ?os ?en
  case st => exact ⟨fun _ _ _ _ h => h, fun _ _ _ _ h => h, fun _ _ _ _ h => h, fun _ _ _ _ h => h, fun _ _ _ _ h => h, fun _ _ _ _ h => h, (fun _ _ _ hb h => by
  obtain ⟨pa, pc, L, e9, h1⟩ := h
  exact ⟨pa, pc, L, e9, h1.on hb⟩), (fun _ _ _ hb h => by
  obtain ⟨pa, pc, L, e9, h1⟩ := h
  exact ⟨pa, pc, L, e9, h1.on hb⟩), (fun _ _ _ hb h => by
  obtain ⟨A, pa, pc, L, e9, h0, h2, h1⟩ := h
  exact ⟨A, pa, pc, L, e9, h0, (hb.block _ (blk_lt h2)).trans h2, h1.on hb⟩), (fun _ _ _ hb h => by
  obtain ⟨A, pa, pc, L, e9, h0, h2, h1⟩ := h
  exact ⟨A, pa, pc, L, e9, h0, (hb.block _ (blk_lt h2)).trans h2, h1.on hb⟩), trivial⟩
  case g0 => exact ⟨rfl, rfl, rfl, Nat.le_refl _, fun _ _ => rfl⟩
  case os =>
    refine ⟨?_, ?_, ?_, ?_, ?_, ?_, ?_, ?_, ?_, ?_, trivial⟩
    · exact fun ρ X9 fl hg hn hl hp ho hc hf hr => .inl ⟨rfl, Runs.val _ (op_loadAt (show ρ (.tmp 6) = .pointer (some ⟨Y, 0, none⟩) from ho 6 rfl) (load_row ((hg.block _ (blk_lt HJ.out.1)).trans HJ.out.1) Try.underlying37 rfl size37)) ⟨hg, Below.refl _ _, rfl⟩⟩
    · exact fun ρ X9 fl hg hn hl hp ho hc hf hr => .inl ⟨rfl, Runs.val _ (op_move (show ρ (.tmp 1) = .int .i64 cl from ho 1 rfl)) ⟨hg, Below.refl _ _, rfl⟩⟩
    · exact fun ρ X9 fl hg hn hl hp ho hc hf hr => .inl ⟨rfl, Runs.val _ (op_move (show ρ (.tmp 2) = .int .i64 vr from ho 2 rfl)) ⟨hg, Below.refl _ _, rfl⟩⟩
    · exact fun ρ X9 fl hg hn hl hp ho hc hf hr => .inl ⟨rfl, Runs.val _ (op_move (show ρ (.tmp 3) = .int .i64 tl from ho 3 rfl)) ⟨hg, Below.refl _ _, rfl⟩⟩
    · exact fun ρ X9 fl hg hn hl hp ho hc hf hr => .inl ⟨rfl, Runs.val _ (op_loadAt (show ρ (.tmp 10) = .pointer (some ⟨Z, 0, none⟩) from ho 10 rfl) (load_row ((hg.block _ (blk_lt HJ.out.2)).trans HJ.out.2) Try.underlying26 rfl size26)) ⟨hg, Below.refl _ _, rfl⟩⟩
    · exact fun ρ X9 fl hg hn hl hp ho hc hf hr => .inl ⟨rfl, Runs.val _ (op_move (show ρ (.tmp 5) = .pointer (some ⟨S, 0, none⟩) from ho 5 rfl)) ⟨hg, Below.refl _ _, rfl⟩⟩
    · intro ρ X9 fl hg hn hl hp ho hc hf hr
      have hc9 := HPO.out X9 (bgo HB.out hg)
      refine .inl ⟨rfl, ?_⟩
      refine Runs.goes 20 #[.agg #[.slice ra rn rc, .slice wa wn wc, .slice ta tn tc], .pointer (some ⟨S, 0, none⟩)] (op_call2 hf (by go_simp) (show ρ (.tmp 18) = .agg #[.slice ra rn rc, .slice wa wn wc, .slice ta tn tc] from hr 4 18 rfl rfl) (show ρ (.tmp 19) = .pointer (some ⟨S, 0, none⟩) from hr 5 19 rfl rfl)) (hc9.mono ?_)
      rintro e7 w7 ⟨pa, pc, L, rfl, h1, h2, h3, b7⟩
      exact ⟨_, rfl, bgo hg b7, b7, pa, pc, L, rfl, (PaIn.mk h1 h2 h3).mono hg.size⟩
    · intro ρ X9 fl hg hn hl hp ho hc hf hr
      obtain ⟨pa, pc, L, e9, h9⟩ : ∃ pa pc L, ρ (.tmp 20) = .slice pa Ls.length pc ∧ PaIn W.heap.size Ls X9 pa pc L := hr 6 20 rfl rfl
      exact .inl ⟨rfl, Runs.val _ (op_b82 h9.ln (show ρ (.tmp 14) = .agg #[.int .i64 t0, .int .i64 t1, .int .i64 t2] from hr 0 14 rfl rfl) (show ρ (.tmp 15) = .int .i64 cl from hr 1 15 rfl rfl) (show ρ (.tmp 16) = .int .i64 vr from hr 2 16 rfl rfl) (show ρ (.tmp 17) = .int .i64 tl from hr 3 17 rfl rfl) e9) ⟨hg, Below.refl _ _, pa, pc, L, rfl, h9⟩⟩
    · intro ρ X9 fl hg hn hl hp ho hc hf hr
      obtain ⟨pa, pc, L, e9, h9⟩ : ∃ pa pc L, ρ (.tmp 21) = .agg (dlA (dl0 t0 t1 t2 cl vr tl L) pa pc none 0) ∧ PaIn W.heap.size Ls X9 pa pc L := hr 7 21 rfl rfl
      exact .inl ⟨rfl, Runs.val _ (op_x82 e9) ⟨bgo hg (bnew _ _), bnew _ _, X9.heap.size, pa, pc, L, rfl, hg.size, heap_alloc_new _ _, h9.on (bnew _ _)⟩⟩
    · intro ρ X9 fl hg hn hl hp ho hc hf hr
      exact .inl ⟨rfl, Runs.val _ (op_assign rfl) ⟨hg, Below.refl _ _, (show ∃ A pa pc L, ρ (.tmp 22) = .pointer (some ⟨A, 0, none⟩) ∧ W.heap.size ≤ A ∧ X9.heap[A]? = some (.cells (dlA (dl0 t0 t1 t2 cl vr tl L) pa pc none 0) 82 (0, 0)) ∧ PaIn W.heap.size Ls X9 pa pc L from hr 8 22 rfl rfl)⟩⟩
  case en =>
    intro a9 w6 fl hfl hG9 hs9 hd9 ho9 hr9
    obtain ⟨x9, hx, hxt⟩ := act_put hs9 hd9 ho9
    obtain ⟨A, pa, pc, L, q13, h0, h2, h1⟩ := hr9 9 13 rfl
    have xk13 : x9 13 = .pointer (some ⟨A, 0, none⟩) := (hxt 13).symm.trans q13
    change a9 = putAll _ x9 [14, 15, 16, 17, 18, 19, 20, 21, 22, 13] at hx
    simp only [putAll, Act.put, List.setIfInBounds_toArray, List.set_cons_zero, List.set_cons_succ, xk13] at hx
    subst hx
    clear hs9 hd9 ho9 hr9 hxt hfl xk13 q13
    generalize x9 14 = z14, x9 15 = z15, x9 16 = z16, x9 17 = z17, x9 18 = z18, x9 19 = z19, x9 20 = z20, x9 21 = z21, x9 22 = z22
    obtain ⟨g, rfl, hn0⟩ : ∃ g, pa = some ⟨g, 0, none⟩ ∧ 0 < L.length := by
      have hl := h1.ln
      have hp := HLS.out
      rcases h1.row.2 with ⟨_, q⟩ | ⟨g, _, _, q, _⟩
      · omega
      · injection q with q1
        exact ⟨g, q1, by omega⟩
    have hgA : g ≠ A := fun q => by
      obtain ⟨cs, t9⟩ := own_tag h1.row g rfl
      rw [q, h2] at t9
      simp only [Option.some.injEq, Obj.cells.injEq] at t9
      exact absurd t9.2.1 (by decide)
    have hln := h1.ln
    have c8 : w6.cell? ⟨A, 8, none⟩ = some (.slice (some ⟨g, 0, none⟩) L.length pc) := cell_blk h2 8
    have cg : w6.cell? ⟨g, 0, none⟩ = some (.int .i64 L[0].sh) := by
      have h9 := (own_mono h1.row (Nat.zero_le _)).cellAt 0 (by omega)
      rw [h9]
      exact fl_get gpL_len L 0 hn0 0 (by decide)
    obtain ⟨w7, hw7⟩ : ∃ w7, w7 = w6.setCell ⟨A, 6, none⟩ (.int .i64 L[0].sh) := ⟨_, rfl⟩
    have c6 : w6.cell? ⟨A, 6, none⟩ = some (.int .i64 0) := cell_blk h2 6
    have z6 : w6.frozen? ⟨A, 6, none⟩ = false := frozen_blk h2 _
    have hst : (Instr.storeAt 3 (.pointer (some ⟨A, 6, none⟩)) (.int .i64 L[0].sh)).run Try.prog w6 = .ok () w7 := by rw [hw7]; go_simp
    have f7 : Fr w6 w7 (fun k => k = A) := by rw [hw7]; exact (Fr.refl w6 (fun k => k = A)).set (a := ⟨A, 6, none⟩) (.inl rfl) _
    have j7 : w7.heap[A]? = some (.cells (dlA ⟨t0, t1, t2, cl, vr, tl, L[0].sh, false, L, 0, [], 0, 0, 0⟩ (some ⟨g, 0, none⟩) pc none 0) 82 (0, 0)) := by rw [hw7]; exact set_blk h2 _
    have hp7 := h1.fr h2 f7
    have hAW := h0
    have hd7 : Dx w7 A ⟨t0, t1, t2, cl, vr, tl, L[0].sh, false, L, 0, [], 0, 0, 0⟩ (some ⟨g, 0, none⟩) pc none 0 := by
      refine ⟨j7, fun V q1 q2 => ?_, fun V q1 q2 => ⟨none, 0, rfl, fun _ => rfl, Nat.le_refl _, Nat.zero_le _, fun i hi => absurd hi (by simp)⟩⟩
      have hrow := hp7.row
      rw [← hp7.ln] at hrow
      refine Lr.own (B := W.heap.size) gpL_len (T := 84) ⟨hrow.1, ?_⟩
      rcases hrow.2 with q | ⟨g9, cap, cur, e9, h09, hg9, q⟩
      · exact .inl q
      · refine .inr ⟨g9, cap, cur, e9, h09, (q2 g9 (blk_lt hg9) (fun q => ?_)).trans hg9, q⟩
        injection e9 with e10
        simp only [Option.some.injEq, Addr.mk.injEq] at e10
        exact hgA (e10.1.trans q)
    have hent := enter_any hd7 1
    have HST := Lib.hid hst
    have HENT := Lib.hid hent
    have HP7 := Lib.hid hp7
    have HB7 := Lib.hid (below_put (bgo HB.out hG9) (Nat.le_refl _) f7 (Nat.le_trans HB.out.size hAW))
    have HJ7 := Lib.hid j7
    have HA := Lib.hid hAW
    have hmx : (L.length : Int) ≤ 9223372036854775807 := by
      have := HLS.out
      omega
    have k1 : (0 : Int) < (L.length : Int) := by omega
    rw [hln] at c8 hmx k1
    clear hG9 h0 h1 h2 hgA hw7 c6 z6 hst f7 j7 hp7 hAW hd7 hent
    go_upto_region 3 with (refine wpl_store _ _ rfl (by first | rfl | simp [Act.eval]) (by first | rfl | simp [Act.eval]) HST.out ?_)
    go_wp2_with fail
    refine HENT.out.mono ?_
    rintro e w8 ⟨rfl, h8, f8⟩
    have HE := Lib.hid (And.intro h8 (And.intro (HP7.out.fr HJ7.out f8) (below_put HB7.out (Nat.le_refl _) f8 (Nat.le_trans HB.out.size HA.out))))
    clear h8 f8 c8 cg
    go_wp2
    refine bodyPost_ret (v := .pointer (some ⟨A, 0, none⟩)) (by simp [results, Try.results9, go_sem]) rfl ?_
    exact ⟨A, some ⟨g, 0, none⟩, pc, L, rfl, Nat.le_trans HB.out.size HA.out, HE.out.2.1.mono HB.out.size, ⟨hn0, HE.out.1⟩, HE.out.2.2⟩
end
end Go.Proofs.Ytfokgalgdlajlaa
