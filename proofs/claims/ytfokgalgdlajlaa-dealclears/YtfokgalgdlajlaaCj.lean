/- cloneReads. -/
import Derived.Test.YtfokgalgdlajlaaCb
import Derived.Test.YtfokgalgdlajlaaCd
import Derived.Test.YtfokgalgdlajlaaCf
namespace Go.Proofs.Ytfokgalgdlajlaa
open Go.RowKit
theorem pick_reads {w : World} {L : List Rd} {v : Value} (h : Lr rdE 3 w L v) : ∃ K : List Gr, K.map Prod.fst = L ∧ Lr (fun _ x cs => cs = grL x) 3 w K v ∧ ∀ g ∈ K, Lr smE 2 w g.1.seen g.2 := by
  obtain ⟨ad, cap, rfl, h0, h1, h2, h3⟩ := h
  have hex : ∀ i : Fin L.length, ∃ u : Value, Lr smE 2 w L[i].seen u ∧ ∃ b o, ad = some ⟨b, o, none⟩ ∧ b < w.heap.size ∧ ∀ j x, (grL (L[i], u))[j]? = some x → w.cell? ⟨b, o + i.1 * 3 + j, none⟩ = some x := fun i => by
    obtain ⟨b, o, cs, ha, hl, ⟨sa, sc, rfl, hs⟩, _, hh⟩ := h3 i.1 i.2
    exact ⟨_, hs, b, o, ha, hl, hh⟩
  obtain ⟨f, hf⟩ := Classical.axiomOfChoice hex
  refine ⟨List.ofFn (fun i : Fin L.length => (L[i], f i)), ?_, ⟨ad, cap, by rw [List.length_ofFn], h0, by rw [List.length_ofFn]; exact h1, h2, fun i hi => ?_⟩, fun g hg => ?_⟩
  · apply List.ext_getElem
    · simp
    · intro i h1 h2
      simp
  · have hi' : i < L.length := by rw [List.length_ofFn] at hi; exact hi
    obtain ⟨_, b, o, ha, hl, hh⟩ := hf ⟨i, hi'⟩
    exact ⟨b, o, grL (L[i], f ⟨i, hi'⟩), ha, hl, by simp, rfl, hh⟩
  · rw [List.mem_ofFn] at hg
    obtain ⟨i, rfl⟩ := hg
    exact (hf i).1
theorem Lr.reads {w : World} {K : List Gr} {L : List Rd} {v : Value} (hK : K.map Prod.fst = L) (h : Lr (fun _ x cs => cs = grL x) 3 w K v) (hs : ∀ g ∈ K, Lr smE 2 w g.1.seen g.2) : Lr rdE 3 w L v := by
  subst hK
  obtain ⟨ad, cap, rfl, h0, h1, h2, h3⟩ := h
  refine ⟨ad, cap, by rw [List.length_map], h0, by rw [List.length_map]; exact h1, h2, fun i hi => ?_⟩
  have hi' : i < K.length := by rw [List.length_map] at hi; exact hi
  obtain ⟨b, o, cs, ha, hl, hE, hc, hh⟩ := h3 i hi'
  have hE' : cs = grL K[i] := hE
  have hsi := hs K[i] (List.getElem_mem hi')
  obtain ⟨sa, sc, e, _⟩ := hsi
  refine ⟨b, o, cs, ha, hl, ?_, hc, hh⟩
  rw [List.getElem_map, hE']
  refine ⟨sa, sc, ?_, ?_⟩
  · show [_, _, K[i].2] = _
    rw [e]
  · rw [← e]
    exact hs K[i] (List.getElem_mem hi')
theorem gr_set : ∀ (K : List Gr) (i : Nat) (hi : i < K.length) (u : Value), (K.flatMap grL).set (i * 3 + 2) u = (K.set i (K[i].1, u)).flatMap grL
  | [], _, hi, _ => absurd hi (by simp)
  | x :: K, 0, _, u => rfl
  | x :: K, i + 1, hi, u => by
    have hi' : i < K.length := by simpa using hi
    have e := gr_set K i hi' u
    show (_ :: _ :: _ :: K.flatMap grL).set ((i + 1) * 3 + 2) u = _ :: _ :: _ :: (K.set i (K[i].1, u)).flatMap grL
    rw [show (i + 1) * 3 + 2 = (i * 3 + 2) + 1 + 1 + 1 from by omega]
    simp only [List.set_cons_succ]
    rw [e]
theorem gr_one {K : List Gr} {w : World} (h : ∀ g ∈ K, Lr smE 2 w g.1.seen g.2) : ∀ u ∈ K.flatMap grL, u.oneCell' = true := fun u hu => by
  obtain ⟨x, hx, hu⟩ := List.mem_flatMap.1 hu
  obtain ⟨sa, sc, e, _⟩ := h x hx
  unfold grL at hu
  rw [e] at hu
  simp at hu
  rcases hu with rfl | rfl | rfl <;> rfl

/-- Reads whose lists lie in memory of their own, from B on. -/
def RdRow (B : Nat) (w : World) (R : List Rd) (v : Value) : Prop := ∃ K : List Gr, K.map Prod.fst = R ∧ w.ownsRow B 67 3 v R.length (K.flatMap grL) ∧ ∀ g ∈ K, w.ownsRow B 64 2 g.2 g.1.seen.length (g.1.seen.flatMap smL)
theorem RdRow.lr {B : Nat} {w : World} {R : List Rd} {v : Value} (h : RdRow B w R v) : Lr rdE 3 w R v := by
  obtain ⟨K, h1, h2, h3⟩ := h
  refine Lr.reads h1 ?_ fun g hg => Lr.own smL_len (h3 g hg)
  have e : R.length = K.length := by rw [← h1, List.length_map]
  rw [e] at h2
  exact Lr.own grL_len h2
theorem RdRow.on {B : Nat} {w w' : World} {R : List Rd} {v : Value} (h : RdRow B w R v) (hb : Below w.heap.size w w') : RdRow B w' R v := by
  obtain ⟨K, h1, h2, h3⟩ := h
  exact ⟨K, h1, own_below h2 hb, fun g hg => own_below (h3 g hg) hb⟩
theorem RdRow.mono {B B' : Nat} {w : World} {R : List Rd} {v : Value} (h : RdRow B w R v) (hb : B' ≤ B) : RdRow B' w R v := by
  obtain ⟨K, h1, h2, h3⟩ := h
  exact ⟨K, h1, own_mono h2 hb, fun g hg => own_mono (h3 g hg) hb⟩
/-- Amid the copying. -/
structure Cr (w : World) (R : List Rd) (v : Value) (V : World) (j : Nat) (K : List Gr) : Prop where
  kr : K.map Prod.fst = R
  rs : V.ownsRow w.heap.size 67 3 v R.length (K.flatMap grL)
  dn : ∀ i (h : i < K.length), i < j → V.ownsRow w.heap.size 64 2 K[i].2 K[i].1.seen.length (K[i].1.seen.flatMap smL)
  lw : Below w.heap.size w V
theorem Cr.next {w V X : World} {R : List Rd} {g j cap0 n : Nat} {K : List Gr} (h : Cr w R (.slice (some ⟨g, 0, none⟩) n cap0) V j K) (hj : j < K.length) {ad : Option Addr} {cap : Nat} (hX : Below V.heap.size V X) (ho : X.ownsRow V.heap.size 64 2 (.slice ad K[j].1.seen.length cap) K[j].1.seen.length (K[j].1.seen.flatMap smL)) :
    Cr w R (.slice (some ⟨g, 0, none⟩) n cap0) (X.setCell ⟨g, j * 3 + 2, none⟩ (.slice ad K[j].1.seen.length cap)) (j + 1) (K.set j (K[j].1, .slice ad K[j].1.seen.length cap)) := by
  have rX := own_below h.rs hX
  have hgw := (rX.lt g rfl).1
  have hgt : ∃ cs, X.heap[g]? = some (.cells cs 67 (0, 0)) := own_tag rX g rfl
  have f : Fr X (X.setCell ⟨g, j * 3 + 2, none⟩ (.slice ad K[j].1.seen.length cap)) (fun k => k = g) := Fr.set (a := ⟨g, j * 3 + 2, none⟩) (Fr.refl X (fun k => k = g)) (Or.inl rfl) _
  have tag : ∀ k, k = g → ∀ cs, X.heap[k]? ≠ some (.cells cs 64 (0, 0)) := by
    rintro k rfl cs hk
    obtain ⟨cs', t⟩ := hgt
    rw [t] at hk
    simp only [Option.some.injEq, Obj.cells.injEq] at hk
    exact absurd hk.2.1.symm (by decide)
  have en : R.length = n := by
    obtain ⟨_, _, q⟩ := own_shape h.rs
    cases q
    rfl
  subst en
  refine ⟨?_, ?_, ?_, ?_⟩
  · rw [List.map_set, ← h.kr]
    apply List.ext_getElem
    · simp
    · intro i h1 h2
      rw [List.getElem_set]
      split
      · rename_i e
        subst e
        simp
      · rfl
  · rw [← gr_set K j hj]
    exact row_setc rX _ _
  · intro i hi hij
    rw [List.length_set] at hi
    by_cases e : i = j
    · subst e
      rw [List.getElem_set_self]
      exact keep_rowB (own_mono ho h.lw.size) f tag
    · rw [List.getElem_set_ne (fun q => e q.symm)]
      exact keep_rowB (own_below (h.dn i hi (by omega)) hX) f tag
  · have b1 : Below w.heap.size w X := h.lw.trans (hX.mono h.lw.size)
    exact below_put b1 (Nat.le_refl _) f hgw
abbrev grA (g : Gr) : Array Value := #[.string g.1.lo, .string g.1.hi, g.2]
set_option maxHeartbeats 4000000 in
set_option maxRecDepth 100000 in
theorem cloneReads_any {w : World} {R : List Rd} {v : Value} (h : Lr rdE 3 w R v) (hz : R.length ≤ 900000) (hs : ∀ x ∈ R, x.seen.length ≤ 900000) : Calls Try.prog 36 #[v] w fun e w' => ∃ ad cap, e = .returned (.slice ad R.length cap) ∧ RdRow w.heap.size w' R (.slice ad R.length cap) ∧ Below w.heap.size w w' := by
  obtain ⟨K0, hK, hL, hS⟩ := pick_reads h
  subst hK
  have hc := cloneR_any hL (by simpa using hz) (gr_one hS)
  have hL9 := hL
  obtain ⟨la, lc, rfl, _, z1, z2, hX⟩ := hL9
  clear z1 h
  have hl : (K0.map Prod.fst).length = K0.length := List.length_map ..
  rw [hl] at hz
  have hmx : (K0.length : Int) ≤ 9223372036854775807 := by omega
  have HX := Lib.hid hX
  have HS := Lib.hid hS
  have HC := Lib.hid hc
  have HSZ : Hid (∀ g ∈ K0, g.1.seen.length ≤ 900000) := Lib.hid fun g hg => hs g.1 (List.mem_map_of_mem hg)
  have HL := Lib.hid hl
  clear hX hS hc hz hs hL hl z2
  go_enter Try.func36, Try.ntmps36
  go_wp2_with (go_at_call 57; refine HC.out.mono ?_; rintro e v1 ⟨ca, cc, rfl, o1, b1⟩; refine Hid.out ?_)
  refine Lib.hid ?_
  have HI : Hid (Cr w (K0.map Prod.fst) (.slice ca K0.length cc) v1 0 K0) := Lib.hid ⟨rfl, by rw [HL.out]; exact o1, fun i _ hi => by omega, b1⟩
  clear o1 b1
  go_wp2
  go_loopw [10] (fun iv wr => ∃ (j : Nat) (K : List Gr), j ≤ K0.length ∧ iv = .int .i64 (j : Int) ∧ Cr w (K0.map Prod.fst) (.slice ca K0.length cc) wr j K) (fun iv _ => K0.length - (intOf iv).toNat)
  case atStart => exact ⟨0, K0, Nat.zero_le _, rfl, HI.out⟩
  case round =>
    obtain ⟨j, K, hi, rfl, hcr⟩ := hrel
    obtain ⟨V, rfl⟩ : ∃ V, V = wr := ⟨_, rfl⟩
    have hKl : K.length = K0.length := by
      have := congrArg List.length hcr.kr
      simpa using this
    have HCR := Lib.hid hcr
    have HKL := Lib.hid hKl
    clear hKl
    by_cases hlt : j < K0.length
    · obtain ⟨b, o, cs', rfl, hbl, hE, _, hcell⟩ := HX.out j hlt
      have hE' : cs' = grL K0[j] := hE
      subst hE'
      have hb := hcr.lw
      have hk1 : K[j]'(by rw [HKL.out]; exact hlt) = (K0[j].1, (K[j]'(by rw [HKL.out]; exact hlt)).2) := by
        have h1 : (K[j]'(by rw [HKL.out]; exact hlt)).1 = K0[j].1 := by
          have h2 := congrArg (fun l => l[j]?) hcr.kr
          simp only [List.getElem?_map, List.getElem?_eq_getElem hlt, List.getElem?_eq_getElem (show j < K.length by rw [HKL.out]; exact hlt), Option.map_some, Option.some.injEq] at h2
          exact h2
        rw [← h1]
      have hs0 := HS.out K0[j] (List.getElem_mem hlt)
      have hz0 := HSZ.out K0[j] (List.getElem_mem hlt)
      obtain ⟨q1, q2⟩ : ∃ x : Rd, ∃ u : Value, K0[j] = (x, u) := ⟨_, _, rfl⟩
      obtain ⟨u0, e0⟩ := q2
      rw [e0] at hcell hs0 hz0 hk1
      have hs0 : Lr smE 2 w q1.seen u0 := hs0
      obtain ⟨sa, sc, rfl, sc1, sc2⟩ := Lr.shape hs0
      have hld : (Instr.loadAt 67 (.pointer (some ⟨b, o + j * 3, none⟩))).run Try.prog V = .ok (.agg (grA (q1, .slice sa q1.seen.length sc))) V := run_loadAt_mid V b (o + j * 3) 67 (grL (q1, .slice sa q1.seen.length sc)) _ (fun i u hu => cell_on hb (hcell i u hu)) Try.underlying67 rfl size67
      obtain ⟨V2, e2, k2, f2⟩ := st_row (heap_alloc_new V (.cells #[.string ⟨#[]⟩, .string ⟨#[]⟩, .slice none 0 0] 67)) (us := grA (q1, .slice sa q1.seen.length sc)) rfl size67 (by simp [Value.oneCell'])
      have b2 : Below V.heap.size V V2 := below_put (bnew V _) (Nat.le_refl _) f2 (Nat.le_refl _)
      have l2 : V2.cell? ⟨V.heap.size, 2, none⟩ = some (.slice sa q1.seen.length sc) := cell_blk k2 2
      have hcl := cloneS_any (hs0.on smE_held (bgo hb b2)) hz0
      have k0 : (0 : Int) ≤ j := by omega
      have k1 : (j : Int) < K0.length := by omega
      obtain ⟨ga, gc, hca, hgc⟩ : ∃ ga gc, ca = some ⟨ga, 0, none⟩ ∧ gc = cc := by
        rcases hcr.rs.2 with ⟨q, q0⟩ | ⟨g, cap, cur, q, _⟩
        · rw [List.length_map] at q0
          omega
        · rw [List.length_map] at q
          cases q
          exact ⟨g, cc, rfl, rfl⟩
      subst hca
      subst hgc
      have HLD := Lib.hid hld
      have HS2 := Lib.hid e2
      have HB2 := Lib.hid b2
      have HK1 := Lib.hid hk1
      have HCL := Lib.hid hcl
      clear hb hcell hld e2 k2 f2 b2 hs0 hz0 hk1 hcl hcr sc1 sc2 e0
      go_wp2_with (first | (refine wpl_load _ rfl (by first | rfl | simp [Act.eval]) HLD.out ?_) | (refine wpl_store _ _ rfl (by first | rfl | simp [Act.eval]) (by first | rfl | simp [Act.eval]) HS2.out ?_))
      refine HCL.out.mono ?_
      rintro e v3 ⟨na, nc, rfl, o3, b3⟩
      have b23 := bgo HB2.out b3
      have hnx := Cr.next (ad := na) (cap := nc) HCR.out (by rw [HKL.out]; exact hlt) b23 (by rw [HK1.out]; exact own_mono o3 HB2.out.size)
      rw [HK1.out] at hnx
      have hcur := own_below HCR.out.rs b23
      rw [HL.out] at hcur
      obtain ⟨u3, y3⟩ : ∃ u, v3.cell? ⟨ga, j * 3 + 2, none⟩ = some u := by
        have h9 := (own_mono hcur (Nat.zero_le _)).cellAt (j * 3 + 2) (by omega)
        have h8 : j * 3 + 2 < (K.flatMap grL).length := by rw [hcur.1]; omega
        rw [List.getElem?_eq_getElem h8] at h9
        exact ⟨_, h9⟩
      obtain ⟨cs9, t9⟩ := own_tag hcur ga rfl
      have z3 : v3.frozen? ⟨ga, j * 3 + 2, none⟩ = false := frozen_blk t9 _
      obtain ⟨X3, hX3⟩ : ∃ X3, X3 = v3.setCell ⟨ga, j * 3 + 2, none⟩ (.slice na q1.seen.length nc) := ⟨_, rfl⟩
      have hst : (Instr.storeAt 65 (.pointer (some ⟨ga, j * 3 + 2, none⟩)) (.slice na q1.seen.length nc)).run Try.prog v3 = .ok () X3 := by rw [hX3]; go_simp
      rw [← hX3] at hnx
      have HST := Lib.hid hst
      have HNX := Lib.hid hnx
      clear hX3 hst hnx y3 z3 hcur b23 o3 b3 t9
      go_wp2_with (refine wpl_store _ _ rfl (by first | rfl | simp [Act.eval]) (by first | rfl | simp [Act.eval]) HST.out ?_)
      go_roundw
      case rel => exact ⟨j + 1, _, hlt, by go_num, HNX.out⟩
      case measure => simp [intOf]; omega
    · obtain rfl : j = K0.length := by omega
      have k1 : ¬ (K0.length : Int) < K0.length := by omega
      clear hcr
      go_wp2
      refine bodyPost_ret (v := .slice ca K0.length cc) (by simp [results, Try.results36, go_sem]) rfl ?_
      have hcr := HCR.out
      have hrs := hcr.rs
      have e9 := HL.out
      refine ⟨ca, cc, (by first | rfl | rw [e9]), ⟨K, hcr.kr, (by first | exact hrs | (rw [e9] at hrs ⊢; exact hrs)), fun g hg => ?_⟩, hcr.lw⟩
      obtain ⟨i, hi9, rfl⟩ := List.getElem_of_mem hg
      exact hcr.dn i hi9 (by rw [← HKL.out]; exact hi9)
end Go.Proofs.Ytfokgalgdlajlaa
