import Derived.Test.YtkfnphhoebknnaaQNd
import Derived.Test.YtkfnphhoebknnaaQNa
import Derived.Test.YtkfnphhoebknnaaQHa
import Derived.Test.YtkfnphhoebknnaaQOa
import Derived.Deep.CutBlock
namespace Go.Proofs.Ytkfnphhoebknnaa
open Go.RowKit Go.Maps
/-- Behind an inner loop of the document's Right: the ids so far. -/
def CutC (w W : World) (Y : Nat) (box : Array Value) (T : Nat) (tb : Array Value) (L : List Int) (P : Prop) (v : Value) (wx : World) : Prop := ∃ ad ln cap, v = .slice ad ln cap ∧ Hid (L.length = ln) ∧ Hid (RJ w W Y box wx v L) ∧ Hid (wx.heap[T]? = some (.cells tb 54 (0, 0))) ∧ Hid P
theorem ids_cells {w : World} {B : Nat} {ad : Option Addr} {cap : Nat} {L : List Int} (h : w.ownsRow B 3 1 (.slice ad L.length cap) L.length (inV L)) : ∀ j (hj : j < L.length), ∃ g, ad = some ⟨g, 0, none⟩ ∧ w.cell? ⟨g, j, none⟩ = some (.int .i64 L[j]) := by
  intro j hj
  rcases h.2 with ⟨hv, h0⟩ | ⟨g, cap', cur, hv, r⟩
  · omega
  · have e : ad = some ⟨g, 0, none⟩ := by
      have := hv
      simp only [Value.slice.injEq] at this
      exact this.1
    refine ⟨g, e, ?_⟩
    subst e
    have hc := h.cells (g := g) rfl j (.int .i64 L[j]) (by simp [inV, hj])
    rw [add_at] at hc
    simpa using hc
section
variable {w : World}
set_option maxHeartbeats 16000000 in
set_option maxRecDepth 100000 in
theorem right_ref {s : Sc} {tv : Value} (hL : Lr tbE 5 w s.tabs tv) : Calls Try.prog 12 #[scV s tv] w fun e w' => e = .returned (.bool (rightS s)) ∧ Below w.heap.size w w' := by
  obtain ⟨ta, tc, rfl, hr0⟩ := hL
  have hL : Lr tbE 5 w s.tabs (.slice ta s.tabs.length tc) := ⟨ta, tc, rfl, hr0⟩
  have HX := Lib.hid hr0.2.2.2
  have HLN : Hid (s.tabs.length ≤ tc ∧ tc ≤ maxLen) := Lib.hid ⟨hr0.2.1, hr0.2.2.1⟩
  obtain ⟨n, hn⟩ : ∃ n, s.tabs.length = n := ⟨_, rfl⟩
  have hnm : (n : Int) ≤ 9223372036854775807 := by have := HLN.out; unfold maxLen at this; omega
  rw [hn] at hL
  unfold scV
  rw [hn]
  obtain ⟨W, hW⟩ : ∃ W, W = w.alloc (.cells #[.int .i64 s.ver, .int .i64 s.last, .slice ta n tc] 24) := ⟨_, rfl⟩
  have hbW : Below w.heap.size w W := by rw [hW]; exact bnew _ _
  obtain ⟨Y, hY⟩ : ∃ Y, w.heap.size = Y := ⟨_, rfl⟩
  have jY : W.heap[Y]? = some (.cells #[.int .i64 s.ver, .int .i64 s.last, .slice ta n tc] 24 (0, 0)) := by rw [hW, ← hY]; exact heap_alloc_new w _
  have c0 : W.cell? ⟨Y, 0, none⟩ = some (.int .i64 s.ver) := cell_blk jY 0
  have c1 : W.cell? ⟨Y, 1, none⟩ = some (.int .i64 s.last) := cell_blk jY 1
  have c2 : W.cell? ⟨Y, 2, none⟩ = some (.slice ta n tc) := cell_blk jY 2
  have HL := Lib.hid hL
  have HN := Lib.hid hn
  have HW := Lib.hid hW
  have HBW := Lib.hid hbW
  have HWS : Hid (w.heap.size ≤ W.heap.size) := Lib.hid hbW.size
  have HY := Lib.hid hY
  have H0 : Hid (RJ w W Y #[.int .i64 s.ver, .int .i64 s.last, .slice ta n tc] W (.slice none 0 0) []) := Lib.hid ⟨jY, World.ownsRow_nil _ _ 3 1, hbW, Nat.le_refl _⟩
  have HNO : Hid (∀ P : Prop, (rightS s = true → P) → ¬ P → rightS s = false) := Lib.hid fun P h1 h2 => by
    cases e : rightS s with
    | false => rfl
    | true => exact absurd (h1 e) h2
  clear hW hbW hY jY hL hr0 hn
  go_enter Try.func12, Try.ntmps12
  go_upto_region 1 with fail
  rw [← HW.out, HY.out]
  by_cases v1 : s.ver < 0
  · have v1' : decide (s.ver < 0) = true := decide_eq_true v1
    have HE : Hid (rightS s = false) := Lib.hid (HNO.out (0 ≤ s.ver) (fun q => (right_doc.1 q).1.1) (by omega))
    skip
    go_wp2
    go_ret
    exact ⟨by rw [HE.out]; rfl, HBW.out⟩
  have v1' : decide (s.ver < 0) = false := decide_eq_false v1
  by_cases v2 : 1125899906842624 < s.ver
  · have v2' : decide (1125899906842624 < s.ver) = true := decide_eq_true v2
    have HE : Hid (rightS s = false) := Lib.hid (HNO.out (s.ver ≤ 1125899906842624) (fun q => (right_doc.1 q).1.2) (by omega))
    skip
    go_wp2
    go_ret
    exact ⟨by rw [HE.out]; rfl, HBW.out⟩
  have v2' : decide (1125899906842624 < s.ver) = false := decide_eq_false v2
  by_cases v3 : s.last < 0
  · have v3' : decide (s.last < 0) = true := decide_eq_true v3
    have HE : Hid (rightS s = false) := Lib.hid (HNO.out (0 ≤ s.last) (fun q => (right_doc.1 q).2.1.1) (by omega))
    skip
    go_wp2
    go_ret
    exact ⟨by rw [HE.out]; rfl, HBW.out⟩
  have v3' : decide (s.last < 0) = false := decide_eq_false v3
  by_cases v4 : 1125899906842624 < s.last
  · have v4' : decide (1125899906842624 < s.last) = true := decide_eq_true v4
    have HE : Hid (rightS s = false) := Lib.hid (HNO.out (s.last ≤ 1125899906842624) (fun q => (right_doc.1 q).2.1.2) (by omega))
    skip
    go_wp2
    go_ret
    exact ⟨by rw [HE.out]; rfl, HBW.out⟩
  have v4' : decide (1125899906842624 < s.last) = false := decide_eq_false v4
  by_cases v5 : (6 : Int) < (n : Int)
  · have v5' : decide ((6 : Int) < (n : Int)) = true := decide_eq_true v5
    have HE : Hid (rightS s = false) := Lib.hid (HNO.out (n ≤ 6) (fun q => by have := (right_doc.1 q).2.2.1; rw [HN.out] at this; exact this) (by omega))
    skip
    go_wp2
    go_ret
    exact ⟨by rw [HE.out]; rfl, HBW.out⟩
  have v5' : decide ((6 : Int) < (n : Int)) = false := decide_eq_false v5
  have HN6 : Hid (n ≤ 6) := Lib.hid (by omega)
  have HF : Hid ((0 ≤ s.ver ∧ s.ver ≤ 1125899906842624) ∧ (0 ≤ s.last ∧ s.last ≤ 1125899906842624)) := Lib.hid ⟨⟨by omega, by omega⟩, ⟨by omega, by omega⟩⟩
  go_wp2
  clear c0 c1 c2 v1 v2 v3 v4 v5 v1' v2' v3' v4' v5'
  go_loopw [3, 4] (fun dv iv wr => ∃ i : Nat, i ≤ n ∧ iv = .int .i64 (i : Int) ∧ RJ w W Y #[.int .i64 s.ver, .int .i64 s.last, .slice ta n tc] wr dv (idsS (s.tabs.take i)) ∧ ∀ j (hj : j < s.tabs.length), j < i → TabR s.tabs j s.tabs[j]) (fun _ iv _ => n - (intOf iv).toNat)
  case atStart => exact ⟨0, Nat.zero_le _, rfl, by rw [List.take_zero]; exact H0.out, fun j _ hj => absurd hj (Nat.not_lt_zero _)⟩
  case round =>
    clear H0
    obtain ⟨i, hi, rfl, hJ, hall⟩ := hrel
    obtain ⟨V, rfl⟩ : ∃ V, V = wr := ⟨_, rfl⟩
    have HALL := Lib.hid hall
    obtain ⟨da, dc, hds⟩ := own_shape hJ.row
    subst hds
    have c0 : V.cell? ⟨Y, 0, none⟩ = some (.int .i64 s.ver) := cell_blk hJ.y 0
    have c1 : V.cell? ⟨Y, 1, none⟩ = some (.int .i64 s.last) := cell_blk hJ.y 1
    have c2 : V.cell? ⟨Y, 2, none⟩ = some (.slice ta n tc) := cell_blk hJ.y 2
    have HJ := Lib.hid hJ
    by_cases hlt : i < n
    · have hiL : i < s.tabs.length := by rw [HN.out]; exact hlt
      have k0 : (0 : Int) ≤ i := by omega
      have k1 : (i : Int) < n := by omega
      obtain ⟨b, p, cs, rfl, hbl, hE, hcl, hcell⟩ := HX.out i hiL
      obtain ⟨cv, iv, kv, rfl, h3⟩ := hE
      obtain ⟨t, ht⟩ : ∃ t, s.tabs[i] = t := ⟨_, rfl⟩
      rw [ht] at hcell h3
      obtain ⟨ca, cc, hcv, hs1⟩ := h3.c.shape
      obtain ⟨ia, ic, hiv, hs2⟩ := h3.i.shape
      obtain ⟨ka, kc, hkv, hs3⟩ := h3.k.shape
      obtain ⟨nc, hnc⟩ : ∃ n, t.cols.length = n := ⟨_, rfl⟩
      obtain ⟨ni, hni⟩ : ∃ n, t.ixs.length = n := ⟨_, rfl⟩
      obtain ⟨nk, hnk⟩ : ∃ n, t.fks.length = n := ⟨_, rfl⟩
      rw [hnc] at hcv
      rw [hni] at hiv
      rw [hnk] at hkv
      subst hcv hiv hkv
      have m1 : (nc : Int) ≤ 9223372036854775807 := by have := hs1; unfold maxLen at this; omega
      have m2 : (ni : Int) ≤ 9223372036854775807 := by have := hs2; unfold maxLen at this; omega
      have m3 : (nk : Int) ≤ 9223372036854775807 := by have := hs3; unfold maxLen at this; omega
      have d0 : V.cell? ⟨b, p + i * 5, none⟩ = some (.int .i64 t.id) := cell_on hJ.b (hcell 0 _ rfl)
      have d1 : V.cell? ⟨b, p + i * 5 + 1, none⟩ = some (.string t.nm) := cell_on hJ.b (hcell 1 _ rfl)
      have d2 : V.cell? ⟨b, p + i * 5 + 2, none⟩ = some (.slice ca nc cc) := cell_on hJ.b (hcell 2 _ rfl)
      have d3 : V.cell? ⟨b, p + i * 5 + 3, none⟩ = some (.slice ia ni ic) := cell_on hJ.b (hcell 3 _ rfl)
      have d4 : V.cell? ⟨b, p + i * 5 + 4, none⟩ = some (.slice ka nk kc) := cell_on hJ.b (hcell 4 _ rfl)
      have HNT : Hid (∀ P : Prop, (TabR s.tabs i t → P) → ¬ P → rightS s = false) := Lib.hid fun P h1 h2 => HNO.out P (fun q => h1 (ht ▸ (right_doc.1 q).2.2.2.1 i hiL)) h2
      obtain ⟨V1, hV1⟩ : ∃ V1, V1 = V.alloc (.cells #[.int .i64 t.id, .string t.nm, .slice ca nc cc, .slice ia ni ic, .slice ka nk kc] 54) := ⟨_, rfl⟩
      obtain ⟨T, hT⟩ : ∃ T, V.heap.size = T := ⟨_, rfl⟩
      have bV1 : Below V.heap.size V V1 := by rw [hV1]; exact bnew _ _
      have jT : V1.heap[T]? = some (.cells #[.int .i64 t.id, .string t.nm, .slice ca nc cc, .slice ia ni ic, .slice ka nk kc] 54 (0, 0)) := by rw [hV1, ← hT]; exact heap_alloc_new V _
      have hJ1 := hJ.below bV1
      have HV1 := Lib.hid hV1
      have HTT := Lib.hid hT
      have H3 := Lib.hid h3
      have HTI := Lib.hid ht
      have HNC := Lib.hid hnc
      have HNI := Lib.hid hni
      have HNK := Lib.hid hnk
      clear hcell hcl hbl hs1 hs2 hs3 h3 hV1 hT bV1 hJ HJ hall hnc hni hnk
      go_upto_region 8 with fail
      rw [← HV1.out, HTT.out]
      clear c0 c1 c2 d0 d1 d2 d3 d4
      have HJ := Lib.hid hJ1
      have HB1 := Lib.hid hJ1.b
      have JT := Lib.hid jT
      have c0 : V1.cell? ⟨Y, 0, none⟩ = some (.int .i64 s.ver) := cell_blk hJ1.y 0
      have c1 : V1.cell? ⟨Y, 1, none⟩ = some (.int .i64 s.last) := cell_blk hJ1.y 1
      have c2 : V1.cell? ⟨Y, 2, none⟩ = some (.slice (some ⟨b, p, none⟩) n tc) := cell_blk hJ1.y 2
      have t0 : V1.cell? ⟨T, 0, none⟩ = some (.int .i64 t.id) := cell_blk jT 0
      have t1 : V1.cell? ⟨T, 1, none⟩ = some (.string t.nm) := cell_blk jT 1
      have t2 : V1.cell? ⟨T, 2, none⟩ = some (.slice ca nc cc) := cell_blk jT 2
      have t3 : V1.cell? ⟨T, 3, none⟩ = some (.slice ia ni ic) := cell_blk jT 3
      have t4 : V1.cell? ⟨T, 4, none⟩ = some (.slice ka nk kc) := cell_blk jT 4
      have hnmc := named_ref (w := V1) t.nm
      have hta := tabAt_any (w := V1) (s := s) (tv := .slice (some ⟨b, p, none⟩) n tc) (HL.out.on tbE_held hJ1.b) t.nm
      clear hJ1 jT
      cases hnb : nameB t.nm with
      | false =>
        rw [hnb] at hnmc
        have HE : Hid (rightS s = false) := Lib.hid (HNT.out (nameB t.nm = true) (fun q => q.nm) (by rw [hnb]; decide))
        clear hnb hta
        go_wp2_with (go_at_call 21; refine hnmc.mono ?_; rintro e w2 ⟨rfl, rfl⟩; refine Hid.out ?_)
        refine Lib.hid ?_
        clear hnmc
        go_wp2
        go_ret
        exact ⟨by rw [HE.out]; rfl, HB1.out⟩
      | true =>
        rw [hnb] at hnmc
        have HNB := Lib.hid hnb
        clear hnb
        obtain ⟨f, hf⟩ : ∃ f, fidx (fun x => decide (x.nm = t.nm)) s.tabs = f := ⟨_, rfl⟩
        rw [hf] at hta
        have HFI := Lib.hid hf
        clear hf
        go_wp2_with (go_at_call 21; refine hnmc.mono ?_; rintro e w2 ⟨rfl, rfl⟩; refine Hid.out ?_)
        refine Lib.hid ?_
        clear hnmc
        go_wp2_with (go_at_call 22; refine hta.mono ?_; rintro e V2 ⟨rfl, b2⟩; refine Hid.out ?_)
        refine Lib.hid ?_
        have hJ2 := HJ.out.below b2
        have HB2 := Lib.hid hJ2.b
        have jT2 := (b2.block T (blk_lt JT.out)).trans JT.out
        clear hta c0 c1 c2 t0 t1 t2 t3 t4
        have c0 : V2.cell? ⟨Y, 0, none⟩ = some (.int .i64 s.ver) := cell_blk hJ2.y 0
        have c1 : V2.cell? ⟨Y, 1, none⟩ = some (.int .i64 s.last) := cell_blk hJ2.y 1
        have c2 : V2.cell? ⟨Y, 2, none⟩ = some (.slice (some ⟨b, p, none⟩) n tc) := cell_blk hJ2.y 2
        have t0 : V2.cell? ⟨T, 0, none⟩ = some (.int .i64 t.id) := cell_blk jT2 0
        have t1 : V2.cell? ⟨T, 1, none⟩ = some (.string t.nm) := cell_blk jT2 1
        have t2 : V2.cell? ⟨T, 2, none⟩ = some (.slice ca nc cc) := cell_blk jT2 2
        have t3 : V2.cell? ⟨T, 3, none⟩ = some (.slice ia ni ic) := cell_blk jT2 3
        have t4 : V2.cell? ⟨T, 4, none⟩ = some (.slice ka nk kc) := cell_blk jT2 4
        have HJ2 := Lib.hid hJ2
        have JT2 := Lib.hid jT2
        clear hJ2 jT2 b2 HJ JT
        by_cases q0 : f = (i : Int)
        · subst q0
          by_cases q1 : (nc : Int) < 1
          · have q1' : decide ((nc : Int) < 1) = true := decide_eq_true q1
            have HE : Hid (rightS s = false) := Lib.hid (HNT.out (1 ≤ nc) (fun q => by rw [← HNC.out]; exact q.c1) (by omega))
            go_wp2
            go_ret
            exact ⟨by rw [HE.out]; rfl, HB2.out⟩
          have q1' : decide ((nc : Int) < 1) = false := decide_eq_false q1
          by_cases q2 : (8 : Int) < nc
          · have q2' : decide ((8 : Int) < nc) = true := decide_eq_true q2
            have HE : Hid (rightS s = false) := Lib.hid (HNT.out (nc ≤ 8) (fun q => by rw [← HNC.out]; exact q.c8) (by omega))
            go_wp2
            go_ret
            exact ⟨by rw [HE.out]; rfl, HB2.out⟩
          have q2' : decide ((8 : Int) < nc) = false := decide_eq_false q2
          by_cases q3 : (8 : Int) < ni
          · have q3' : decide ((8 : Int) < ni) = true := decide_eq_true q3
            have HE : Hid (rightS s = false) := Lib.hid (HNT.out (ni ≤ 8) (fun q => by rw [← HNI.out]; exact q.i8) (by omega))
            go_wp2
            go_ret
            exact ⟨by rw [HE.out]; rfl, HB2.out⟩
          have q3' : decide ((8 : Int) < ni) = false := decide_eq_false q3
          by_cases q4 : (8 : Int) < nk
          · have q4' : decide ((8 : Int) < nk) = true := decide_eq_true q4
            have HE : Hid (rightS s = false) := Lib.hid (HNT.out (nk ≤ 8) (fun q => by rw [← HNK.out]; exact q.k8) (by omega))
            go_wp2
            go_ret
            exact ⟨by rw [HE.out]; rfl, HB2.out⟩
          have q4' : decide ((8 : Int) < nk) = false := decide_eq_false q4
          go_upto_region 10 with fail
          obtain ⟨L0, hL0⟩ : ∃ L, idsS (s.tabs.take i) = L := ⟨_, rfl⟩
          have h0z : L0.length ≤ 150 := by
            have q := idsS_len (l := s.tabs.take i) (fun x hx => by
              obtain ⟨j, hj, rfl⟩ := List.getElem_of_mem hx
              have hj' := hj
              rw [List.length_take] at hj'
              rw [List.getElem_take]
              have z := HALL.out j (by omega) (by omega)
              exact ⟨z.c8, z.i8, z.k8⟩)
            rw [hL0, List.length_take] at q
            have := HN6.out
            omega
          have hJ2 := HJ2.out
          rw [hL0] at hJ2 ⊢
          have HL0 := Lib.hid hL0
          have HZ0 := Lib.hid h0z
          obtain ⟨ad, cap, V3, hrun, hJ3, kp⟩ := hJ2.push HWS.out t.id (by omega)
          have H3J : Hid (RJ w W Y #[.int .i64 s.ver, .int .i64 s.last, .slice (some ⟨b, p, none⟩) n tc] V3 (.slice ad (L0.length + 1) cap) (L0 ++ [t.id] ++ (t.cols.take 0).map Col.id) ∧ V3.heap[T]? = some (.cells #[.int .i64 t.id, .string t.nm, .slice ca nc cc, .slice ia ni ic, .slice ka nk kc] 54 (0, 0))) := Lib.hid ⟨by simpa using hJ3, kp T _ 54 (by decide) JT2.out⟩
          have HQ : Hid (nc ≤ 8 ∧ ni ≤ 8 ∧ nk ≤ 8 ∧ 1 ≤ nc) := Lib.hid ⟨by omega, by omega, by omega, by omega⟩
          clear hJ2 hJ3 kp hL0 h0z HJ2 JT2 q1 q2 q3 q4 q1' q2' q3' q4'
          go_upto_block 2 with (at_builtin; refine wpl_run2 _ _ rfl (by simp [Act.eval]) (by simp [Act.eval]) hrun ?_)
          clear hrun c0 c1 c2 t0 t1 t2 t3 t4
          go_cut [3] (fun v wx => CutC w W Y #[.int .i64 s.ver, .int .i64 s.last, .slice (some ⟨b, p, none⟩) n tc] T #[.int .i64 t.id, .string t.nm, .slice ca nc cc, .slice ia ni ic, .slice ka nk kc] (L0 ++ [t.id] ++ t.cols.map Col.id) (∀ j (hj : j < t.cols.length), ColR t j t.cols[j]) v wx)
          case first =>
            as_aux_lemma =>
              go_wp2
              go_loopw [3, 6] (fun dv xv wr => ∃ k : Nat, k ≤ nc ∧ xv = .int .i64 (k : Int) ∧ RJ w W Y #[.int .i64 s.ver, .int .i64 s.last, .slice (some ⟨b, p, none⟩) n tc] wr dv (L0 ++ [t.id] ++ (t.cols.take k).map Col.id) ∧ wr.heap[T]? = some (.cells #[.int .i64 t.id, .string t.nm, .slice ca nc cc, .slice ia ni ic, .slice ka nk kc] 54 (0, 0)) ∧ ∀ j (hj : j < t.cols.length), j < k → ColR t j t.cols[j]) (fun _ xv _ => nc - (intOf xv).toNat)
              case atStart => exact ⟨0, Nat.zero_le _, rfl, H3J.out.1, H3J.out.2, fun j _ hj => absurd hj (Nat.not_lt_zero _)⟩
              case round =>
                clear H3J
                obtain ⟨k, hk, rfl, hJ, jT, hcs⟩ := hrel
                obtain ⟨U, rfl⟩ : ∃ U, U = wr := ⟨_, rfl⟩
                have HCS := Lib.hid hcs
                obtain ⟨ea, ec, hes⟩ := own_shape hJ.row
                obtain ⟨ln, hln⟩ : ∃ ln, (L0 ++ [t.id] ++ (t.cols.take k).map Col.id).length = ln := ⟨_, rfl⟩
                rw [hln] at hes
                have HLN2 := Lib.hid hln
                clear hln
                subst hes
                have c0 : U.cell? ⟨Y, 0, none⟩ = some (.int .i64 s.ver) := cell_blk hJ.y 0
                have c1 : U.cell? ⟨Y, 1, none⟩ = some (.int .i64 s.last) := cell_blk hJ.y 1
                have c2 : U.cell? ⟨Y, 2, none⟩ = some (.slice (some ⟨b, p, none⟩) n tc) := cell_blk hJ.y 2
                have t0 : U.cell? ⟨T, 0, none⟩ = some (.int .i64 t.id) := cell_blk jT 0
                have t1 : U.cell? ⟨T, 1, none⟩ = some (.string t.nm) := cell_blk jT 1
                have t2 : U.cell? ⟨T, 2, none⟩ = some (.slice ca nc cc) := cell_blk jT 2
                have t3 : U.cell? ⟨T, 3, none⟩ = some (.slice ia ni ic) := cell_blk jT 3
                have t4 : U.cell? ⟨T, 4, none⟩ = some (.slice ka nk kc) := cell_blk jT 4
                by_cases hkc : k < nc
                · have hkL : k < t.cols.length := by rw [HNC.out]; exact hkc
                  have g0 : (0 : Int) ≤ k := by omega
                  have g1 : (k : Int) < nc := by omega
                  obtain ⟨cb, cp, cs, rfl, hbl, hE, hcl, hcell⟩ := H3.out.c.cells2 k hkL
                  cases hE
                  obtain ⟨c, hc⟩ : ∃ c, t.cols[k] = c := ⟨_, rfl⟩
                  rw [hc] at hcell
                  have HNC2 : Hid (∀ P : Prop, (ColR t k c → P) → ¬ P → rightS s = false) := Lib.hid fun P h1 h2 => HNT.out P (fun q => h1 (hc ▸ q.cs k hkL)) h2
                  have x0 : U.cell? ⟨cb, cp + k * 7, none⟩ = some (.int .i64 c.id) := cell_on hJ.b (hcell 0 _ rfl)
                  have x1 : U.cell? ⟨cb, cp + k * 7 + 1, none⟩ = some (.string c.nm) := cell_on hJ.b (hcell 1 _ rfl)
                  have x2 : U.cell? ⟨cb, cp + k * 7 + 2, none⟩ = some (.int .i64 c.kd) := cell_on hJ.b (hcell 2 _ rfl)
                  have x3 : U.cell? ⟨cb, cp + k * 7 + 3, none⟩ = some (.int .i64 c.st) := cell_on hJ.b (hcell 3 _ rfl)
                  have x4 : U.cell? ⟨cb, cp + k * 7 + 4, none⟩ = some (.int .i64 c.df.k) := cell_on hJ.b (hcell 4 _ rfl)
                  have x5 : U.cell? ⟨cb, cp + k * 7 + 5, none⟩ = some (.int .i64 c.df.n) := cell_on hJ.b (hcell 5 _ rfl)
                  have x6 : U.cell? ⟨cb, cp + k * 7 + 6, none⟩ = some (.string c.df.s) := cell_on hJ.b (hcell 6 _ rfl)
                  obtain ⟨U1, hU1⟩ : ∃ U1, U1 = U.alloc (.cells #[.int .i64 c.id, .string c.nm, .int .i64 c.kd, .int .i64 c.st, .int .i64 c.df.k, .int .i64 c.df.n, .string c.df.s] 65) := ⟨_, rfl⟩
                  obtain ⟨C, hC⟩ : ∃ C, U.heap.size = C := ⟨_, rfl⟩
                  have bU1 : Below U.heap.size U U1 := by rw [hU1]; exact bnew _ _
                  have jC : U1.heap[C]? = some (.cells #[.int .i64 c.id, .string c.nm, .int .i64 c.kd, .int .i64 c.st, .int .i64 c.df.k, .int .i64 c.df.n, .string c.df.s] 65 (0, 0)) := by rw [hU1, ← hC]; exact heap_alloc_new U _
                  have HU1 := Lib.hid hU1
                  have HC := Lib.hid hC
                  have HJ1 := Lib.hid (hJ.below bU1)
                  have JT1 : Hid (U1.heap[T]? = some (.cells _ 54 (0, 0))) := Lib.hid ((bU1.block T (blk_lt jT)).trans jT)
                  have JC := Lib.hid jC
                  have HBU := Lib.hid (hJ.below bU1).b
                  clear hcell hcl hbl hU1 hC bU1 jC hJ jT hcs
                  go_upto_region 15 with fail
                  rw [← HU1.out, HC.out]
                  clear c0 c1 c2 t0 t1 t2 t3 t4 x0 x1 x2 x3 x4 x5 x6
                  have c0 : U1.cell? ⟨Y, 0, none⟩ = some (.int .i64 s.ver) := cell_blk HJ1.out.y 0
                  have c1 : U1.cell? ⟨Y, 1, none⟩ = some (.int .i64 s.last) := cell_blk HJ1.out.y 1
                  have c2 : U1.cell? ⟨Y, 2, none⟩ = some (.slice (some ⟨b, p, none⟩) n tc) := cell_blk HJ1.out.y 2
                  have t0 : U1.cell? ⟨T, 0, none⟩ = some (.int .i64 t.id) := cell_blk JT1.out 0
                  have t1 : U1.cell? ⟨T, 1, none⟩ = some (.string t.nm) := cell_blk JT1.out 1
                  have t2 : U1.cell? ⟨T, 2, none⟩ = some (.slice (some ⟨cb, cp, none⟩) nc cc) := cell_blk JT1.out 2
                  have t3 : U1.cell? ⟨T, 3, none⟩ = some (.slice ia ni ic) := cell_blk JT1.out 3
                  have t4 : U1.cell? ⟨T, 4, none⟩ = some (.slice ka nk kc) := cell_blk JT1.out 4
                  have u0 : U1.cell? ⟨C, 0, none⟩ = some (.int .i64 c.id) := cell_blk JC.out 0
                  have u1 : U1.cell? ⟨C, 1, none⟩ = some (.string c.nm) := cell_blk JC.out 1
                  have u2 : U1.cell? ⟨C, 2, none⟩ = some (.int .i64 c.kd) := cell_blk JC.out 2
                  have u3 : U1.cell? ⟨C, 3, none⟩ = some (.int .i64 c.st) := cell_blk JC.out 3
                  have u4 : U1.cell? ⟨C, 4, none⟩ = some (.int .i64 c.df.k) := cell_blk JC.out 4
                  have u5 : U1.cell? ⟨C, 5, none⟩ = some (.int .i64 c.df.n) := cell_blk JC.out 5
                  have u6 : U1.cell? ⟨C, 6, none⟩ = some (.string c.df.s) := cell_blk JC.out 6
                  have hnmc := named_ref (w := U1) c.nm
                  have hta := colAt_any (w := U1) (H3.out.on HBU.out) c.nm
                  cases hnb : nameB c.nm with
                  | false =>
                    rw [hnb] at hnmc
                    have HE : Hid (rightS s = false) := Lib.hid (HNC2.out (nameB c.nm = true) (fun q => q.1) (by rw [hnb]; decide))
                    clear hnb hta
                    go_wp2_with (go_at_call 21; refine hnmc.mono ?_; rintro e w9 ⟨rfl, rfl⟩; refine Hid.out ?_)
                    refine Lib.hid ?_
                    clear hnmc
                    go_wp2
                    go_ret
                    exact ⟨by rw [HE.out]; rfl, HBU.out⟩
                  | true =>
                    rw [hnb] at hnmc
                    have HNB2 := Lib.hid hnb
                    clear hnb
                    obtain ⟨f, hf⟩ : ∃ f, fidx (fun x => decide (x.nm = c.nm)) t.cols = f := ⟨_, rfl⟩
                    rw [hf] at hta
                    have HFI2 := Lib.hid hf
                    clear hf
                    go_wp2_with (go_at_call 21; refine hnmc.mono ?_; rintro e w9 ⟨rfl, rfl⟩; refine Hid.out ?_)
                    refine Lib.hid ?_
                    clear hnmc
                    go_wp2_with (go_at_call 23; refine hta.mono ?_; rintro e U2 ⟨rfl, b2⟩; refine Hid.out ?_)
                    refine Lib.hid ?_
                    have HJx := Lib.hid (HJ1.out.below b2)
                    have JTx : Hid (U2.heap[T]? = some (.cells #[.int .i64 t.id, .string t.nm, .slice (some ⟨cb, cp, none⟩) nc cc, .slice ia ni ic, .slice ka nk kc] 54 (0, 0))) := Lib.hid ((b2.block T (blk_lt JT1.out)).trans JT1.out)
                    have JCx : Hid (U2.heap[C]? = some (.cells #[.int .i64 c.id, .string c.nm, .int .i64 c.kd, .int .i64 c.st, .int .i64 c.df.k, .int .i64 c.df.n, .string c.df.s] 65 (0, 0))) := Lib.hid ((b2.block C (blk_lt JC.out)).trans JC.out)
                    clear HJ1 JT1 JC c0 c1 c2 t0 t1 t2 t3 t4 u0 u1 u2 u3 u4 u5 u6
                    have HJ1 := HJx
                    have JT1 := JTx
                    have JC := JCx
                    have HBX := Lib.hid HJ1.out.b
                    clear HJx JTx JCx
                    have c0 : U2.cell? ⟨Y, 0, none⟩ = some (.int .i64 s.ver) := cell_blk HJ1.out.y 0
                    have c1 : U2.cell? ⟨Y, 1, none⟩ = some (.int .i64 s.last) := cell_blk HJ1.out.y 1
                    have c2 : U2.cell? ⟨Y, 2, none⟩ = some (.slice (some ⟨b, p, none⟩) n tc) := cell_blk HJ1.out.y 2
                    have t0 : U2.cell? ⟨T, 0, none⟩ = some (.int .i64 t.id) := cell_blk JT1.out 0
                    have t1 : U2.cell? ⟨T, 1, none⟩ = some (.string t.nm) := cell_blk JT1.out 1
                    have t2 : U2.cell? ⟨T, 2, none⟩ = some (.slice (some ⟨cb, cp, none⟩) nc cc) := cell_blk JT1.out 2
                    have t3 : U2.cell? ⟨T, 3, none⟩ = some (.slice ia ni ic) := cell_blk JT1.out 3
                    have t4 : U2.cell? ⟨T, 4, none⟩ = some (.slice ka nk kc) := cell_blk JT1.out 4
                    have u0 : U2.cell? ⟨C, 0, none⟩ = some (.int .i64 c.id) := cell_blk JC.out 0
                    have u1 : U2.cell? ⟨C, 1, none⟩ = some (.string c.nm) := cell_blk JC.out 1
                    have u2 : U2.cell? ⟨C, 2, none⟩ = some (.int .i64 c.kd) := cell_blk JC.out 2
                    have u3 : U2.cell? ⟨C, 3, none⟩ = some (.int .i64 c.st) := cell_blk JC.out 3
                    have u4 : U2.cell? ⟨C, 4, none⟩ = some (.int .i64 c.df.k) := cell_blk JC.out 4
                    have u5 : U2.cell? ⟨C, 5, none⟩ = some (.int .i64 c.df.n) := cell_blk JC.out 5
                    have u6 : U2.cell? ⟨C, 6, none⟩ = some (.string c.df.s) := cell_blk JC.out 6
                    clear hta b2
                    by_cases q0 : f = (k : Int)
                    · subst q0
                      by_cases q1 : c.st < 1
                      · have q1' : decide (c.st < 1) = true := decide_eq_true q1
                        have HE : Hid (rightS s = false) := Lib.hid (HNC2.out (1 ≤ c.st) (fun q => q.2.2.1) (by omega))
                        go_wp2
                        go_ret
                        exact ⟨by rw [HE.out]; rfl, HBX.out⟩
                      have q1' : decide (c.st < 1) = false := decide_eq_false q1
                      by_cases q2 : 3 < c.st
                      · have q2' : decide (3 < c.st) = true := decide_eq_true q2
                        have HE : Hid (rightS s = false) := Lib.hid (HNC2.out (c.st ≤ 3) (fun q => q.2.2.2.1) (by omega))
                        go_wp2
                        go_ret
                        exact ⟨by rw [HE.out]; rfl, HBX.out⟩
                      have q2' : decide (3 < c.st) = false := decide_eq_false q2
                      by_cases hk0 : k = 0
                      · subst hk0
                        obtain ⟨sv, hsv⟩ : ∃ sv, c.st = sv := ⟨_, rfl⟩
                        rw [hsv] at q1 q1' q2 q2' u3
                        by_cases q3 : sv = 3
                        · subst q3
                          have hty := kind_ref (w := U2) c.kd
                          cases hkb : kindB c.kd with
                          | false =>
                            rw [hkb] at hty
                            have HE : Hid (rightS s = false) := Lib.hid (HNC2.out (kindB c.kd = true) (fun q => q.2.2.2.2.2.1) (by rw [hkb]; decide))
                            clear hkb
                            go_wp2_with (go_at_call 24; refine hty.mono ?_; rintro e w9 ⟨rfl, rfl⟩; refine Hid.out ?_)
                            refine Lib.hid ?_
                            clear hty
                            go_wp2
                            go_ret
                            exact ⟨by rw [HE.out]; rfl, HBX.out⟩
                          | true =>
                            rw [hkb] at hty
                            have HKB := Lib.hid hkb
                            clear hkb
                            have hft := fits_ref (w := U2) c.df c.kd
                            obtain ⟨fb, hfb⟩ : ∃ fb, fitB c.df c.kd = fb := ⟨_, rfl⟩
                            rw [hfb] at hft
                            have HFB := Lib.hid hfb
                            clear hfb
                            go_wp2_with (go_at_call 24; refine hty.mono ?_; rintro e w9 ⟨rfl, rfl⟩; refine Hid.out ?_)
                            refine Lib.hid ?_
                            clear hty
                            go_wp2_with (go_at_call 25; refine hft.mono ?_; rintro e U3 ⟨rfl, b3⟩; refine Hid.out ?_)
                            refine Lib.hid ?_
                            have HJx := Lib.hid (HJ1.out.below b3)
                            have JTx : Hid (U3.heap[T]? = some (.cells #[.int .i64 t.id, .string t.nm, .slice (some ⟨cb, cp, none⟩) nc cc, .slice ia ni ic, .slice ka nk kc] 54 (0, 0))) := Lib.hid ((b3.block T (blk_lt JT1.out)).trans JT1.out)
                            have JCx : Hid (U3.heap[C]? = some (.cells #[.int .i64 c.id, .string c.nm, .int .i64 c.kd, .int .i64 c.st, .int .i64 c.df.k, .int .i64 c.df.n, .string c.df.s] 65 (0, 0))) := Lib.hid ((b3.block C (blk_lt JC.out)).trans JC.out)
                            clear HJ1 JT1 JC c0 c1 c2 t0 t1 t2 t3 t4 u0 u1 u2 u3 u4 u5 u6
                            have HJ1 := HJx
                            have JT1 := JTx
                            have JC := JCx
                            have HBX := Lib.hid HJ1.out.b
                            clear HJx JTx JCx
                            have c0 : U3.cell? ⟨Y, 0, none⟩ = some (.int .i64 s.ver) := cell_blk HJ1.out.y 0
                            have c1 : U3.cell? ⟨Y, 1, none⟩ = some (.int .i64 s.last) := cell_blk HJ1.out.y 1
                            have c2 : U3.cell? ⟨Y, 2, none⟩ = some (.slice (some ⟨b, p, none⟩) n tc) := cell_blk HJ1.out.y 2
                            have t0 : U3.cell? ⟨T, 0, none⟩ = some (.int .i64 t.id) := cell_blk JT1.out 0
                            have t1 : U3.cell? ⟨T, 1, none⟩ = some (.string t.nm) := cell_blk JT1.out 1
                            have t2 : U3.cell? ⟨T, 2, none⟩ = some (.slice (some ⟨cb, cp, none⟩) nc cc) := cell_blk JT1.out 2
                            have t3 : U3.cell? ⟨T, 3, none⟩ = some (.slice ia ni ic) := cell_blk JT1.out 3
                            have t4 : U3.cell? ⟨T, 4, none⟩ = some (.slice ka nk kc) := cell_blk JT1.out 4
                            have u0 : U3.cell? ⟨C, 0, none⟩ = some (.int .i64 c.id) := cell_blk JC.out 0
                            have u1 : U3.cell? ⟨C, 1, none⟩ = some (.string c.nm) := cell_blk JC.out 1
                            have u2 : U3.cell? ⟨C, 2, none⟩ = some (.int .i64 c.kd) := cell_blk JC.out 2
                            have u3 : U3.cell? ⟨C, 3, none⟩ = some (.int .i64 c.st) := cell_blk JC.out 3
                            have u4 : U3.cell? ⟨C, 4, none⟩ = some (.int .i64 c.df.k) := cell_blk JC.out 4
                            have u5 : U3.cell? ⟨C, 5, none⟩ = some (.int .i64 c.df.n) := cell_blk JC.out 5
                            have u6 : U3.cell? ⟨C, 6, none⟩ = some (.string c.df.s) := cell_blk JC.out 6
                            clear hft b3
                            cases fb with
                            | false =>
                              have HE : Hid (rightS s = false) := Lib.hid (HNC2.out (fitB c.df c.kd = true) (fun q => q.2.2.2.2.2.2) (by rw [HFB.out]; decide))
                              go_wp2
                              go_ret
                              exact ⟨by rw [HE.out]; rfl, HBX.out⟩
                            | true =>
                              obtain ⟨ad3, cap3, U4, hrun, hJ4, kp⟩ := HJ1.out.push HWS.out c.id (by
                                simp only [List.length_append, List.length_map, List.length_take, List.length_cons, List.length_nil]
                                have := HZ0.out
                                have := HQ.out
                                have := HNC.out
                                omega)
                              rw [HLN2.out] at hrun hJ4
                              have H4 := Lib.hid (And.intro hJ4 (kp T _ 54 (by decide) JT1.out))
                              clear hJ4 kp
                              go_wp2_with (at_builtin; refine wpl_run2 _ _ rfl (by simp [Act.eval]) (by simp [Act.eval]) hrun ?_)
                              go_roundw
                              case rel =>
                                refine ⟨0 + 1, hkc, by go_num, ?_, H4.out.2, fun j hj hji => ?_⟩
                                · rw [map_next hkL, hc, ← List.append_assoc]
                                  exact H4.out.1
                                · by_cases ej : j = 0
                                  · subst ej
                                    rw [hc]
                                    exact ⟨HNB2.out, HFI2.out, by rw [hsv]; decide, by rw [hsv]; decide, fun _ => hsv, HKB.out, HFB.out⟩
                                  · exact HCS.out j hj (by omega)
                              case measure => simp [intOf]; omega
                        · have q3' : (sv == 3) = false := by rw [beq_eq_false_iff_ne]; exact q3
                          have q3'' : decide (sv = 3) = false := decide_eq_false q3
                          have HE : Hid (rightS s = false) := Lib.hid (HNC2.out (c.st = 3) (fun q => q.2.2.2.2.1 rfl) (by rw [hsv]; exact q3))
                          go_wp2
                          go_ret
                          exact ⟨by rw [HE.out]; rfl, HBX.out⟩
                      · have g2 : ((k : Int) == 0) = false := by rw [beq_eq_false_iff_ne]; omega
                        have g3 : ¬ (k : Int) = 0 := by omega
                        have hty := kind_ref (w := U2) c.kd
                        cases hkb : kindB c.kd with
                        | false =>
                          rw [hkb] at hty
                          have HE : Hid (rightS s = false) := Lib.hid (HNC2.out (kindB c.kd = true) (fun q => q.2.2.2.2.2.1) (by rw [hkb]; decide))
                          clear hkb
                          go_wp2_with (go_at_call 24; refine hty.mono ?_; rintro e w9 ⟨rfl, rfl⟩; refine Hid.out ?_)
                          refine Lib.hid ?_
                          clear hty
                          go_wp2
                          go_ret
                          exact ⟨by rw [HE.out]; rfl, HBX.out⟩
                        | true =>
                          rw [hkb] at hty
                          have HKB := Lib.hid hkb
                          clear hkb
                          have hft := fits_ref (w := U2) c.df c.kd
                          obtain ⟨fb, hfb⟩ : ∃ fb, fitB c.df c.kd = fb := ⟨_, rfl⟩
                          rw [hfb] at hft
                          have HFB := Lib.hid hfb
                          clear hfb
                          go_wp2_with (go_at_call 24; refine hty.mono ?_; rintro e w9 ⟨rfl, rfl⟩; refine Hid.out ?_)
                          refine Lib.hid ?_
                          clear hty
                          go_wp2_with (go_at_call 25; refine hft.mono ?_; rintro e U3 ⟨rfl, b3⟩; refine Hid.out ?_)
                          refine Lib.hid ?_
                          have HJx := Lib.hid (HJ1.out.below b3)
                          have JTx : Hid (U3.heap[T]? = some (.cells #[.int .i64 t.id, .string t.nm, .slice (some ⟨cb, cp, none⟩) nc cc, .slice ia ni ic, .slice ka nk kc] 54 (0, 0))) := Lib.hid ((b3.block T (blk_lt JT1.out)).trans JT1.out)
                          have JCx : Hid (U3.heap[C]? = some (.cells #[.int .i64 c.id, .string c.nm, .int .i64 c.kd, .int .i64 c.st, .int .i64 c.df.k, .int .i64 c.df.n, .string c.df.s] 65 (0, 0))) := Lib.hid ((b3.block C (blk_lt JC.out)).trans JC.out)
                          clear HJ1 JT1 JC c0 c1 c2 t0 t1 t2 t3 t4 u0 u1 u2 u3 u4 u5 u6
                          have HJ1 := HJx
                          have JT1 := JTx
                          have JC := JCx
                          have HBX := Lib.hid HJ1.out.b
                          clear HJx JTx JCx
                          have c0 : U3.cell? ⟨Y, 0, none⟩ = some (.int .i64 s.ver) := cell_blk HJ1.out.y 0
                          have c1 : U3.cell? ⟨Y, 1, none⟩ = some (.int .i64 s.last) := cell_blk HJ1.out.y 1
                          have c2 : U3.cell? ⟨Y, 2, none⟩ = some (.slice (some ⟨b, p, none⟩) n tc) := cell_blk HJ1.out.y 2
                          have t0 : U3.cell? ⟨T, 0, none⟩ = some (.int .i64 t.id) := cell_blk JT1.out 0
                          have t1 : U3.cell? ⟨T, 1, none⟩ = some (.string t.nm) := cell_blk JT1.out 1
                          have t2 : U3.cell? ⟨T, 2, none⟩ = some (.slice (some ⟨cb, cp, none⟩) nc cc) := cell_blk JT1.out 2
                          have t3 : U3.cell? ⟨T, 3, none⟩ = some (.slice ia ni ic) := cell_blk JT1.out 3
                          have t4 : U3.cell? ⟨T, 4, none⟩ = some (.slice ka nk kc) := cell_blk JT1.out 4
                          have u0 : U3.cell? ⟨C, 0, none⟩ = some (.int .i64 c.id) := cell_blk JC.out 0
                          have u1 : U3.cell? ⟨C, 1, none⟩ = some (.string c.nm) := cell_blk JC.out 1
                          have u2 : U3.cell? ⟨C, 2, none⟩ = some (.int .i64 c.kd) := cell_blk JC.out 2
                          have u3 : U3.cell? ⟨C, 3, none⟩ = some (.int .i64 c.st) := cell_blk JC.out 3
                          have u4 : U3.cell? ⟨C, 4, none⟩ = some (.int .i64 c.df.k) := cell_blk JC.out 4
                          have u5 : U3.cell? ⟨C, 5, none⟩ = some (.int .i64 c.df.n) := cell_blk JC.out 5
                          have u6 : U3.cell? ⟨C, 6, none⟩ = some (.string c.df.s) := cell_blk JC.out 6
                          clear hft b3
                          cases fb with
                          | false =>
                            have HE : Hid (rightS s = false) := Lib.hid (HNC2.out (fitB c.df c.kd = true) (fun q => q.2.2.2.2.2.2) (by rw [HFB.out]; decide))
                            go_wp2
                            go_ret
                            exact ⟨by rw [HE.out]; rfl, HBX.out⟩
                          | true =>
                            obtain ⟨ad3, cap3, U4, hrun, hJ4, kp⟩ := HJ1.out.push HWS.out c.id (by
                              simp only [List.length_append, List.length_map, List.length_take, List.length_cons, List.length_nil]
                              have := HZ0.out
                              have := HQ.out
                              have := HNC.out
                              omega)
                            rw [HLN2.out] at hrun hJ4
                            have H4 := Lib.hid (And.intro hJ4 (kp T _ 54 (by decide) JT1.out))
                            clear hJ4 kp
                            go_wp2_with (at_builtin; refine wpl_run2 _ _ rfl (by simp [Act.eval]) (by simp [Act.eval]) hrun ?_)
                            go_roundw
                            case rel =>
                              refine ⟨k + 1, hkc, by go_num, ?_, H4.out.2, fun j hj hji => ?_⟩
                              · rw [map_next hkL, hc, ← List.append_assoc]
                                exact H4.out.1
                              · by_cases ej : j = k
                                · subst ej
                                  rw [hc]
                                  exact ⟨HNB2.out, HFI2.out, by omega, by omega, fun z => absurd z hk0, HKB.out, HFB.out⟩
                                · exact HCS.out j hj (by omega)
                            case measure => simp [intOf]; omega
                    · have q0' : (f == (k : Int)) = false := by rw [beq_eq_false_iff_ne]; exact q0
                      have q0'' : decide (f = (k : Int)) = false := decide_eq_false q0
                      have HE : Hid (rightS s = false) := Lib.hid (HNC2.out (f = (k : Int)) (fun q => by rw [← HFI2.out]; exact q.2.1) (q0))
                      go_wp2
                      go_ret
                      exact ⟨by rw [HE.out]; rfl, HBX.out⟩
                · have g1 : ¬ (k : Int) < nc := by omega
                  have hkn : k = t.cols.length := by rw [HNC.out]; omega
                  have hJ9 : RJ w W Y #[.int .i64 s.ver, .int .i64 s.last, .slice (some ⟨b, p, none⟩) n tc] U (.slice ea ln ec) (L0 ++ [t.id] ++ t.cols.map Col.id) := by
                    have := hJ
                    rw [hkn, List.take_length] at this
                    exact this
                  have HL9 : Hid ((L0 ++ [t.id] ++ t.cols.map Col.id).length = ln) := by
                    have := HLN2.out
                    rw [hkn, List.take_length] at this
                    exact this
                  have HJ9 := Lib.hid hJ9
                  have JT9 := Lib.hid jT
                  have HP9 : Hid (∀ j (hj : j < t.cols.length), ColR t j t.cols[j]) := fun j hj => HCS.out j hj (by rw [hkn]; exact hj)
                  clear hJ9 hJ jT hkn HLN2
                  go_wp2
                  go_meet
                  exact ⟨ea, ln, ec, rfl, HL9, HJ9, JT9, HP9⟩
          case rest =>
            obtain ⟨ad0, ln0, cap0, rfl, HLEN0, HJ0, JT0, HP1⟩ := hcut
            obtain ⟨V5, rfl⟩ : ∃ V5, V5 = wc := ⟨_, rfl⟩
            clear H3J
            go_upto_block 4 with fail
            go_cut [3] (fun v wx => CutC w W Y #[.int .i64 s.ver, .int .i64 s.last, .slice (some ⟨b, p, none⟩) n tc] T #[.int .i64 t.id, .string t.nm, .slice ca nc cc, .slice ia ni ic, .slice ka nk kc] (L0 ++ [t.id] ++ t.cols.map Col.id ++ t.ixs.map Ix.id) (∀ j (hj : j < t.ixs.length), IxR t j t.ixs[j]) v wx)
            case first =>
              as_aux_lemma =>
                go_wp2
                go_loopw [3, 8] (fun dv xv wr => ∃ k : Nat, k ≤ ni ∧ xv = .int .i64 (k : Int) ∧ RJ w W Y #[.int .i64 s.ver, .int .i64 s.last, .slice (some ⟨b, p, none⟩) n tc] wr dv (L0 ++ [t.id] ++ t.cols.map Col.id ++ (t.ixs.take k).map Ix.id) ∧ wr.heap[T]? = some (.cells #[.int .i64 t.id, .string t.nm, .slice ca nc cc, .slice ia ni ic, .slice ka nk kc] 54 (0, 0)) ∧ ∀ j (hj : j < t.ixs.length), j < k → IxR t j t.ixs[j]) (fun _ xv _ => ni - (intOf xv).toNat)
                case atStart => exact ⟨0, Nat.zero_le _, rfl, by rw [List.take_zero]; simpa using HJ0.out, JT0.out, fun j _ hj => absurd hj (Nat.not_lt_zero _)⟩
                case round =>
                  clear HJ0 JT0 HLEN0
                  obtain ⟨k, hk, rfl, hJ, jT, hcs⟩ := hrel
                  obtain ⟨U, rfl⟩ : ∃ U, U = wr := ⟨_, rfl⟩
                  have HCS := Lib.hid hcs
                  obtain ⟨ea, ec, hes⟩ := own_shape hJ.row
                  obtain ⟨ln, hln⟩ : ∃ ln, (L0 ++ [t.id] ++ t.cols.map Col.id ++ (t.ixs.take k).map Ix.id).length = ln := ⟨_, rfl⟩
                  rw [hln] at hes
                  have HLN2 := Lib.hid hln
                  clear hln
                  subst hes
                  have HJ1 := Lib.hid hJ
                  have JT1 := Lib.hid jT
                  have c0 : U.cell? ⟨Y, 0, none⟩ = some (.int .i64 s.ver) := cell_blk HJ1.out.y 0
                  have c1 : U.cell? ⟨Y, 1, none⟩ = some (.int .i64 s.last) := cell_blk HJ1.out.y 1
                  have c2 : U.cell? ⟨Y, 2, none⟩ = some (.slice (some ⟨b, p, none⟩) n tc) := cell_blk HJ1.out.y 2
                  have t0 : U.cell? ⟨T, 0, none⟩ = some (.int .i64 t.id) := cell_blk JT1.out 0
                  have t1 : U.cell? ⟨T, 1, none⟩ = some (.string t.nm) := cell_blk JT1.out 1
                  have t2 : U.cell? ⟨T, 2, none⟩ = some (.slice ca nc cc) := cell_blk JT1.out 2
                  have t3 : U.cell? ⟨T, 3, none⟩ = some (.slice ia ni ic) := cell_blk JT1.out 3
                  have t4 : U.cell? ⟨T, 4, none⟩ = some (.slice ka nk kc) := cell_blk JT1.out 4
                  by_cases hkc : k < ni
                  · have hkL : k < t.ixs.length := by rw [HNI.out]; exact hkc
                    have g0 : (0 : Int) ≤ k := by omega
                    have g1 : (k : Int) < ni := by omega
                    obtain ⟨cb, cp, cs, rfl, hbl, hE, hcl, hcell⟩ := H3.out.i.cells2 k hkL
                    cases hE
                    obtain ⟨c, hc⟩ : ∃ c, t.ixs[k] = c := ⟨_, rfl⟩
                    rw [hc] at hcell
                    have HNC2 : Hid (∀ P : Prop, (IxR t k c → P) → ¬ P → rightS s = false) := Lib.hid fun P h1 h2 => HNT.out P (fun q => h1 (hc ▸ q.is k hkL)) h2
                    have x0 : U.cell? ⟨cb, cp + k * 5, none⟩ = some (.int .i64 c.id) := cell_on hJ.b (hcell 0 _ rfl)
                    have x1 : U.cell? ⟨cb, cp + k * 5 + 1, none⟩ = some (.string c.nm) := cell_on hJ.b (hcell 1 _ rfl)
                    have x2 : U.cell? ⟨cb, cp + k * 5 + 2, none⟩ = some (.int .i64 c.col) := cell_on hJ.b (hcell 2 _ rfl)
                    have x3 : U.cell? ⟨cb, cp + k * 5 + 3, none⟩ = some (.bool c.uq) := cell_on hJ.b (hcell 3 _ rfl)
                    have x4 : U.cell? ⟨cb, cp + k * 5 + 4, none⟩ = some (.int .i64 c.st) := cell_on hJ.b (hcell 4 _ rfl)
                    obtain ⟨U1, hU1⟩ : ∃ U1, U1 = U.alloc (.cells #[.int .i64 c.id, .string c.nm, .int .i64 c.col, .bool c.uq, .int .i64 c.st] 70) := ⟨_, rfl⟩
                    obtain ⟨C, hC⟩ : ∃ C, U.heap.size = C := ⟨_, rfl⟩
                    have bU1 : Below U.heap.size U U1 := by rw [hU1]; exact bnew _ _
                    have jC : U1.heap[C]? = some (.cells #[.int .i64 c.id, .string c.nm, .int .i64 c.col, .bool c.uq, .int .i64 c.st] 70 (0, 0)) := by rw [hU1, ← hC]; exact heap_alloc_new U _
                    have HU1 := Lib.hid hU1
                    have HC := Lib.hid hC
                    clear HJ1 JT1
                    have HJ1 := Lib.hid (hJ.below bU1)
                    have JT1 : Hid (U1.heap[T]? = some (.cells #[.int .i64 t.id, .string t.nm, .slice ca nc cc, .slice (some ⟨cb, cp, none⟩) ni ic, .slice ka nk kc] 54 (0, 0))) := Lib.hid ((bU1.block T (blk_lt jT)).trans jT)
                    have JC := Lib.hid jC
                    have HBU := Lib.hid (hJ.below bU1).b
                    clear hcell hcl hbl hU1 hC bU1 jC hJ jT hcs
                    go_upto_region 22 with fail
                    rw [← HU1.out, HC.out]
                    clear c0 c1 c2 t0 t1 t2 t3 t4 x0 x1 x2 x3 x4
                    have c0 : U1.cell? ⟨Y, 0, none⟩ = some (.int .i64 s.ver) := cell_blk HJ1.out.y 0
                    have c1 : U1.cell? ⟨Y, 1, none⟩ = some (.int .i64 s.last) := cell_blk HJ1.out.y 1
                    have c2 : U1.cell? ⟨Y, 2, none⟩ = some (.slice (some ⟨b, p, none⟩) n tc) := cell_blk HJ1.out.y 2
                    have t0 : U1.cell? ⟨T, 0, none⟩ = some (.int .i64 t.id) := cell_blk JT1.out 0
                    have t1 : U1.cell? ⟨T, 1, none⟩ = some (.string t.nm) := cell_blk JT1.out 1
                    have t2 : U1.cell? ⟨T, 2, none⟩ = some (.slice ca nc cc) := cell_blk JT1.out 2
                    have t3 : U1.cell? ⟨T, 3, none⟩ = some (.slice (some ⟨cb, cp, none⟩) ni ic) := cell_blk JT1.out 3
                    have t4 : U1.cell? ⟨T, 4, none⟩ = some (.slice ka nk kc) := cell_blk JT1.out 4
                    have u0 : U1.cell? ⟨C, 0, none⟩ = some (.int .i64 c.id) := cell_blk JC.out 0
                    have u1 : U1.cell? ⟨C, 1, none⟩ = some (.string c.nm) := cell_blk JC.out 1
                    have u2 : U1.cell? ⟨C, 2, none⟩ = some (.int .i64 c.col) := cell_blk JC.out 2
                    have u3 : U1.cell? ⟨C, 3, none⟩ = some (.bool c.uq) := cell_blk JC.out 3
                    have u4 : U1.cell? ⟨C, 4, none⟩ = some (.int .i64 c.st) := cell_blk JC.out 4
                    have hnmc := named_ref (w := U1) c.nm
                    have hta := ixAt_any (w := U1) (H3.out.on HBU.out) c.nm
                    cases hnb : nameB c.nm with
                    | false =>
                      rw [hnb] at hnmc
                      have HE : Hid (rightS s = false) := Lib.hid (HNC2.out (nameB c.nm = true) (fun q => q.1) (by rw [hnb]; decide))
                      clear hnb hta
                      go_wp2_with (go_at_call 21; refine hnmc.mono ?_; rintro e w9 ⟨rfl, rfl⟩; refine Hid.out ?_)
                      refine Lib.hid ?_
                      clear hnmc
                      go_wp2
                      go_ret
                      exact ⟨by rw [HE.out]; rfl, HBU.out⟩
                    | true =>
                      rw [hnb] at hnmc
                      have HNB2 := Lib.hid hnb
                      clear hnb
                      obtain ⟨f, hf⟩ : ∃ f, fidx (fun x => decide (x.nm = c.nm)) t.ixs = f := ⟨_, rfl⟩
                      rw [hf] at hta
                      have HFI2 := Lib.hid hf
                      clear hf
                      go_wp2_with (go_at_call 21; refine hnmc.mono ?_; rintro e w9 ⟨rfl, rfl⟩; refine Hid.out ?_)
                      refine Lib.hid ?_
                      clear hnmc
                      go_wp2_with (go_at_call 26; refine hta.mono ?_; rintro e U2 ⟨rfl, b2⟩; refine Hid.out ?_)
                      refine Lib.hid ?_
                      have HJx := Lib.hid (HJ1.out.below b2)
                      have JTx : Hid (U2.heap[T]? = some (.cells #[.int .i64 t.id, .string t.nm, .slice ca nc cc, .slice (some ⟨cb, cp, none⟩) ni ic, .slice ka nk kc] 54 (0, 0))) := Lib.hid ((b2.block T (blk_lt JT1.out)).trans JT1.out)
                      have JCx : Hid (U2.heap[C]? = some (.cells #[.int .i64 c.id, .string c.nm, .int .i64 c.col, .bool c.uq, .int .i64 c.st] 70 (0, 0))) := Lib.hid ((b2.block C (blk_lt JC.out)).trans JC.out)
                      clear HJ1 JT1 JC c0 c1 c2 t0 t1 t2 t3 t4 u0 u1 u2 u3 u4
                      have HJ1 := HJx
                      have JT1 := JTx
                      have JC := JCx
                      have HBX := Lib.hid HJ1.out.b
                      clear HJx JTx JCx
                      have c0 : U2.cell? ⟨Y, 0, none⟩ = some (.int .i64 s.ver) := cell_blk HJ1.out.y 0
                      have c1 : U2.cell? ⟨Y, 1, none⟩ = some (.int .i64 s.last) := cell_blk HJ1.out.y 1
                      have c2 : U2.cell? ⟨Y, 2, none⟩ = some (.slice (some ⟨b, p, none⟩) n tc) := cell_blk HJ1.out.y 2
                      have t0 : U2.cell? ⟨T, 0, none⟩ = some (.int .i64 t.id) := cell_blk JT1.out 0
                      have t1 : U2.cell? ⟨T, 1, none⟩ = some (.string t.nm) := cell_blk JT1.out 1
                      have t2 : U2.cell? ⟨T, 2, none⟩ = some (.slice ca nc cc) := cell_blk JT1.out 2
                      have t3 : U2.cell? ⟨T, 3, none⟩ = some (.slice (some ⟨cb, cp, none⟩) ni ic) := cell_blk JT1.out 3
                      have t4 : U2.cell? ⟨T, 4, none⟩ = some (.slice ka nk kc) := cell_blk JT1.out 4
                      have u0 : U2.cell? ⟨C, 0, none⟩ = some (.int .i64 c.id) := cell_blk JC.out 0
                      have u1 : U2.cell? ⟨C, 1, none⟩ = some (.string c.nm) := cell_blk JC.out 1
                      have u2 : U2.cell? ⟨C, 2, none⟩ = some (.int .i64 c.col) := cell_blk JC.out 2
                      have u3 : U2.cell? ⟨C, 3, none⟩ = some (.bool c.uq) := cell_blk JC.out 3
                      have u4 : U2.cell? ⟨C, 4, none⟩ = some (.int .i64 c.st) := cell_blk JC.out 4
                      clear hta b2
                      by_cases q0 : f = (k : Int)
                      · subst q0
                        by_cases q1 : c.st < 1
                        · have q1' : decide (c.st < 1) = true := decide_eq_true q1
                          have HE : Hid (rightS s = false) := Lib.hid (HNC2.out (1 ≤ c.st) (fun q => q.2.2.1) (by omega))
                          go_wp2
                          go_ret
                          exact ⟨by rw [HE.out]; rfl, HBX.out⟩
                        have q1' : decide (c.st < 1) = false := decide_eq_false q1
                        by_cases q2 : 3 < c.st
                        · have q2' : decide (3 < c.st) = true := decide_eq_true q2
                          have HE : Hid (rightS s = false) := Lib.hid (HNC2.out (c.st ≤ 3) (fun q => q.2.2.2.1) (by omega))
                          go_wp2
                          go_ret
                          exact ⟨by rw [HE.out]; rfl, HBX.out⟩
                        have q2' : decide (3 < c.st) = false := decide_eq_false q2
                        have hco := colOfR_any (w := U2) (H3.out.on HBX.out) c.col
                        obtain ⟨g, hg⟩ : ∃ g, fidx (fun x => decide (x.id = c.col)) t.cols = g := ⟨_, rfl⟩
                        rw [hg] at hco
                        have HGG := Lib.hid hg
                        clear hg
                        go_wp2_with (go_at_call 27; refine hco.mono ?_; rintro e U3 ⟨rfl, b3⟩; refine Hid.out ?_)
                        refine Lib.hid ?_
                        have HJx := Lib.hid (HJ1.out.below b3)
                        have JTx : Hid (U3.heap[T]? = some (.cells #[.int .i64 t.id, .string t.nm, .slice ca nc cc, .slice (some ⟨cb, cp, none⟩) ni ic, .slice ka nk kc] 54 (0, 0))) := Lib.hid ((b3.block T (blk_lt JT1.out)).trans JT1.out)
                        have JCx : Hid (U3.heap[C]? = some (.cells #[.int .i64 c.id, .string c.nm, .int .i64 c.col, .bool c.uq, .int .i64 c.st] 70 (0, 0))) := Lib.hid ((b3.block C (blk_lt JC.out)).trans JC.out)
                        clear HJ1 JT1 JC c0 c1 c2 t0 t1 t2 t3 t4 u0 u1 u2 u3 u4
                        have HJ1 := HJx
                        have JT1 := JTx
                        have JC := JCx
                        have HBX := Lib.hid HJ1.out.b
                        clear HJx JTx JCx
                        have c0 : U3.cell? ⟨Y, 0, none⟩ = some (.int .i64 s.ver) := cell_blk HJ1.out.y 0
                        have c1 : U3.cell? ⟨Y, 1, none⟩ = some (.int .i64 s.last) := cell_blk HJ1.out.y 1
                        have c2 : U3.cell? ⟨Y, 2, none⟩ = some (.slice (some ⟨b, p, none⟩) n tc) := cell_blk HJ1.out.y 2
                        have t0 : U3.cell? ⟨T, 0, none⟩ = some (.int .i64 t.id) := cell_blk JT1.out 0
                        have t1 : U3.cell? ⟨T, 1, none⟩ = some (.string t.nm) := cell_blk JT1.out 1
                        have t2 : U3.cell? ⟨T, 2, none⟩ = some (.slice ca nc cc) := cell_blk JT1.out 2
                        have t3 : U3.cell? ⟨T, 3, none⟩ = some (.slice (some ⟨cb, cp, none⟩) ni ic) := cell_blk JT1.out 3
                        have t4 : U3.cell? ⟨T, 4, none⟩ = some (.slice ka nk kc) := cell_blk JT1.out 4
                        have u0 : U3.cell? ⟨C, 0, none⟩ = some (.int .i64 c.id) := cell_blk JC.out 0
                        have u1 : U3.cell? ⟨C, 1, none⟩ = some (.string c.nm) := cell_blk JC.out 1
                        have u2 : U3.cell? ⟨C, 2, none⟩ = some (.int .i64 c.col) := cell_blk JC.out 2
                        have u3 : U3.cell? ⟨C, 3, none⟩ = some (.bool c.uq) := cell_blk JC.out 3
                        have u4 : U3.cell? ⟨C, 4, none⟩ = some (.int .i64 c.st) := cell_blk JC.out 4
                        clear hco b3
                        by_cases q3 : g < 0
                        · have q3' : decide (g < 0) = true := decide_eq_true q3
                          have HE : Hid (rightS s = false) := Lib.hid (HNC2.out (0 ≤ g) (fun q => by have z := q.2.2.2.2; unfold colOf at z; rw [HGG.out] at z; exact z) (by omega))
                          go_wp2
                          go_ret
                          exact ⟨by rw [HE.out]; rfl, HBX.out⟩
                        have q3' : decide (g < 0) = false := decide_eq_false q3
                        obtain ⟨ad3, cap3, U4, hrun, hJ4, kp⟩ := HJ1.out.push HWS.out c.id (by
                          simp only [List.length_append, List.length_map, List.length_take, List.length_cons, List.length_nil]
                          have := HZ0.out
                          have := HQ.out
                          have := HNC.out
                          have := HNI.out
                          omega)
                        rw [HLN2.out] at hrun hJ4
                        have H4 := Lib.hid (And.intro hJ4 (kp T _ 54 (by decide) JT1.out))
                        clear hJ4 kp
                        go_wp2_with (at_builtin; refine wpl_run2 _ _ rfl (by simp [Act.eval]) (by simp [Act.eval]) hrun ?_)
                        go_roundw
                        case rel =>
                          refine ⟨k + 1, hkc, by go_num, ?_, H4.out.2, fun j hj hji => ?_⟩
                          · rw [map_next hkL, hc, ← List.append_assoc]
                            exact H4.out.1
                          · by_cases ej : j = k
                            · subst ej
                              rw [hc]
                              exact ⟨HNB2.out, HFI2.out, by omega, by omega, by unfold colOf; rw [HGG.out]; omega⟩
                            · exact HCS.out j hj (by omega)
                        case measure => simp [intOf]; omega
                      · have q0' : (f == (k : Int)) = false := by rw [beq_eq_false_iff_ne]; exact q0
                        have q0'' : decide (f = (k : Int)) = false := decide_eq_false q0
                        have HE : Hid (rightS s = false) := Lib.hid (HNC2.out (f = (k : Int)) (fun q => by rw [← HFI2.out]; exact q.2.1) q0)
                        go_wp2
                        go_ret
                        exact ⟨by rw [HE.out]; rfl, HBX.out⟩
                  · have g1 : ¬ (k : Int) < ni := by omega
                    have hkn : k = t.ixs.length := by rw [HNI.out]; omega
                    have hJ9 : RJ w W Y #[.int .i64 s.ver, .int .i64 s.last, .slice (some ⟨b, p, none⟩) n tc] U (.slice ea ln ec) (L0 ++ [t.id] ++ t.cols.map Col.id ++ t.ixs.map Ix.id) := by
                      have := hJ
                      rw [hkn, List.take_length] at this
                      exact this
                    have HL9 : Hid ((L0 ++ [t.id] ++ t.cols.map Col.id ++ t.ixs.map Ix.id).length = ln) := by
                      have := HLN2.out
                      rw [hkn, List.take_length] at this
                      exact this
                    have HJ9 := Lib.hid hJ9
                    have JT9 := Lib.hid jT
                    have HP9 : Hid (∀ j (hj : j < t.ixs.length), IxR t j t.ixs[j]) := fun j hj => HCS.out j hj (by rw [hkn]; exact hj)
                    clear hJ9 hJ jT hkn HLN2
                    go_wp2
                    go_meet
                    exact ⟨ea, ln, ec, rfl, HL9, HJ9, JT9, HP9⟩
            case rest =>
              clear HJ0 JT0 HLEN0
              obtain ⟨ad1, ln1, cap1, rfl, HLEN0, HJ0, JT0, HP2⟩ := hcut
              obtain ⟨V6, rfl⟩ : ∃ V6, V6 = wc := ⟨_, rfl⟩
              go_upto_block 6 with fail
              as_aux_lemma =>
                go_wp2
                go_loopw [3, 10] (fun dv xv wr => ∃ k : Nat, k ≤ nk ∧ xv = .int .i64 (k : Int) ∧ RJ w W Y #[.int .i64 s.ver, .int .i64 s.last, .slice (some ⟨b, p, none⟩) n tc] wr dv (L0 ++ [t.id] ++ t.cols.map Col.id ++ t.ixs.map Ix.id ++ (t.fks.take k).map Fk.id) ∧ wr.heap[T]? = some (.cells #[.int .i64 t.id, .string t.nm, .slice ca nc cc, .slice ia ni ic, .slice ka nk kc] 54 (0, 0)) ∧ ∀ j (hj : j < t.fks.length), j < k → FkR s.tabs t j t.fks[j]) (fun _ xv _ => nk - (intOf xv).toNat)
                case atStart => exact ⟨0, Nat.zero_le _, rfl, by rw [List.take_zero]; simpa using HJ0.out, JT0.out, fun j _ hj => absurd hj (Nat.not_lt_zero _)⟩
                case round =>
                  clear HJ0 JT0 HLEN0
                  obtain ⟨k, hk, rfl, hJ, jT, hcs⟩ := hrel
                  obtain ⟨U, rfl⟩ : ∃ U, U = wr := ⟨_, rfl⟩
                  have HCS := Lib.hid hcs
                  obtain ⟨ea, ec, hes⟩ := own_shape hJ.row
                  obtain ⟨ln, hln⟩ : ∃ ln, (L0 ++ [t.id] ++ t.cols.map Col.id ++ t.ixs.map Ix.id ++ (t.fks.take k).map Fk.id).length = ln := ⟨_, rfl⟩
                  rw [hln] at hes
                  have HLN2 := Lib.hid hln
                  clear hln
                  subst hes
                  have HJ1 := Lib.hid hJ
                  have JT1 := Lib.hid jT
                  have c0 : U.cell? ⟨Y, 0, none⟩ = some (.int .i64 s.ver) := cell_blk HJ1.out.y 0
                  have c1 : U.cell? ⟨Y, 1, none⟩ = some (.int .i64 s.last) := cell_blk HJ1.out.y 1
                  have c2 : U.cell? ⟨Y, 2, none⟩ = some (.slice (some ⟨b, p, none⟩) n tc) := cell_blk HJ1.out.y 2
                  have t0 : U.cell? ⟨T, 0, none⟩ = some (.int .i64 t.id) := cell_blk JT1.out 0
                  have t1 : U.cell? ⟨T, 1, none⟩ = some (.string t.nm) := cell_blk JT1.out 1
                  have t2 : U.cell? ⟨T, 2, none⟩ = some (.slice ca nc cc) := cell_blk JT1.out 2
                  have t3 : U.cell? ⟨T, 3, none⟩ = some (.slice ia ni ic) := cell_blk JT1.out 3
                  have t4 : U.cell? ⟨T, 4, none⟩ = some (.slice ka nk kc) := cell_blk JT1.out 4
                  by_cases hkc : k < nk
                  · have hkL : k < t.fks.length := by rw [HNK.out]; exact hkc
                    have g0 : (0 : Int) ≤ k := by omega
                    have g1 : (k : Int) < nk := by omega
                    obtain ⟨cb, cp, cs, rfl, hbl, hE, hcl, hcell⟩ := H3.out.k.cells2 k hkL
                    cases hE
                    obtain ⟨c, hc⟩ : ∃ c, t.fks[k] = c := ⟨_, rfl⟩
                    rw [hc] at hcell
                    have HNC2 : Hid (∀ P : Prop, (FkR s.tabs t k c → P) → ¬ P → rightS s = false) := Lib.hid fun P h1 h2 => HNT.out P (fun q => h1 (hc ▸ q.ks k hkL)) h2
                    have x0 : U.cell? ⟨cb, cp + k * 5, none⟩ = some (.int .i64 c.id) := cell_on hJ.b (hcell 0 _ rfl)
                    have x1 : U.cell? ⟨cb, cp + k * 5 + 1, none⟩ = some (.string c.nm) := cell_on hJ.b (hcell 1 _ rfl)
                    have x2 : U.cell? ⟨cb, cp + k * 5 + 2, none⟩ = some (.int .i64 c.col) := cell_on hJ.b (hcell 2 _ rfl)
                    have x3 : U.cell? ⟨cb, cp + k * 5 + 3, none⟩ = some (.int .i64 c.par) := cell_on hJ.b (hcell 3 _ rfl)
                    have x4 : U.cell? ⟨cb, cp + k * 5 + 4, none⟩ = some (.int .i64 c.st) := cell_on hJ.b (hcell 4 _ rfl)
                    obtain ⟨U1, hU1⟩ : ∃ U1, U1 = U.alloc (.cells #[.int .i64 c.id, .string c.nm, .int .i64 c.col, .int .i64 c.par, .int .i64 c.st] 73) := ⟨_, rfl⟩
                    obtain ⟨C, hC⟩ : ∃ C, U.heap.size = C := ⟨_, rfl⟩
                    have bU1 : Below U.heap.size U U1 := by rw [hU1]; exact bnew _ _
                    have jC : U1.heap[C]? = some (.cells #[.int .i64 c.id, .string c.nm, .int .i64 c.col, .int .i64 c.par, .int .i64 c.st] 73 (0, 0)) := by rw [hU1, ← hC]; exact heap_alloc_new U _
                    have HU1 := Lib.hid hU1
                    have HC := Lib.hid hC
                    clear HJ1 JT1
                    have HJ1 := Lib.hid (hJ.below bU1)
                    have JT1 : Hid (U1.heap[T]? = some (.cells #[.int .i64 t.id, .string t.nm, .slice ca nc cc, .slice ia ni ic, .slice (some ⟨cb, cp, none⟩) nk kc] 54 (0, 0))) := Lib.hid ((bU1.block T (blk_lt jT)).trans jT)
                    have JC := Lib.hid jC
                    have HBU := Lib.hid (hJ.below bU1).b
                    clear hcell hcl hbl hU1 hC bU1 jC hJ jT hcs
                    go_upto_region 29 with fail
                    rw [← HU1.out, HC.out]
                    clear c0 c1 c2 t0 t1 t2 t3 t4 x0 x1 x2 x3 x4
                    have c0 : U1.cell? ⟨Y, 0, none⟩ = some (.int .i64 s.ver) := cell_blk HJ1.out.y 0
                    have c1 : U1.cell? ⟨Y, 1, none⟩ = some (.int .i64 s.last) := cell_blk HJ1.out.y 1
                    have c2 : U1.cell? ⟨Y, 2, none⟩ = some (.slice (some ⟨b, p, none⟩) n tc) := cell_blk HJ1.out.y 2
                    have t0 : U1.cell? ⟨T, 0, none⟩ = some (.int .i64 t.id) := cell_blk JT1.out 0
                    have t1 : U1.cell? ⟨T, 1, none⟩ = some (.string t.nm) := cell_blk JT1.out 1
                    have t2 : U1.cell? ⟨T, 2, none⟩ = some (.slice ca nc cc) := cell_blk JT1.out 2
                    have t3 : U1.cell? ⟨T, 3, none⟩ = some (.slice ia ni ic) := cell_blk JT1.out 3
                    have t4 : U1.cell? ⟨T, 4, none⟩ = some (.slice (some ⟨cb, cp, none⟩) nk kc) := cell_blk JT1.out 4
                    have u0 : U1.cell? ⟨C, 0, none⟩ = some (.int .i64 c.id) := cell_blk JC.out 0
                    have u1 : U1.cell? ⟨C, 1, none⟩ = some (.string c.nm) := cell_blk JC.out 1
                    have u2 : U1.cell? ⟨C, 2, none⟩ = some (.int .i64 c.col) := cell_blk JC.out 2
                    have u3 : U1.cell? ⟨C, 3, none⟩ = some (.int .i64 c.par) := cell_blk JC.out 3
                    have u4 : U1.cell? ⟨C, 4, none⟩ = some (.int .i64 c.st) := cell_blk JC.out 4
                    have hto := tabOfR_any (w := U1) (s := s) (tv := .slice (some ⟨b, p, none⟩) n tc) (HL.out.on tbE_held HBU.out) c.par
                    obtain ⟨pf, hpf⟩ : ∃ f, fidx (fun x => decide (x.id = c.par)) s.tabs = f := ⟨_, rfl⟩
                    rw [hpf] at hto
                    have HPF := Lib.hid hpf
                    clear hpf
                    go_wp2_with (go_at_call 28; refine hto.mono ?_; rintro e U2 ⟨rfl, b2⟩; refine Hid.out ?_)
                    refine Lib.hid ?_
                    have HJx := Lib.hid (HJ1.out.below b2)
                    have JTx : Hid (U2.heap[T]? = some (.cells #[.int .i64 t.id, .string t.nm, .slice ca nc cc, .slice ia ni ic, .slice (some ⟨cb, cp, none⟩) nk kc] 54 (0, 0))) := Lib.hid ((b2.block T (blk_lt JT1.out)).trans JT1.out)
                    have JCx : Hid (U2.heap[C]? = some (.cells #[.int .i64 c.id, .string c.nm, .int .i64 c.col, .int .i64 c.par, .int .i64 c.st] 73 (0, 0))) := Lib.hid ((b2.block C (blk_lt JC.out)).trans JC.out)
                    clear HJ1 JT1 JC c0 c1 c2 t0 t1 t2 t3 t4 u0 u1 u2 u3 u4
                    have HJ1 := HJx
                    have JT1 := JTx
                    have JC := JCx
                    have HBX := Lib.hid HJ1.out.b
                    clear HJx JTx JCx
                    have c0 : U2.cell? ⟨Y, 0, none⟩ = some (.int .i64 s.ver) := cell_blk HJ1.out.y 0
                    have c1 : U2.cell? ⟨Y, 1, none⟩ = some (.int .i64 s.last) := cell_blk HJ1.out.y 1
                    have c2 : U2.cell? ⟨Y, 2, none⟩ = some (.slice (some ⟨b, p, none⟩) n tc) := cell_blk HJ1.out.y 2
                    have t0 : U2.cell? ⟨T, 0, none⟩ = some (.int .i64 t.id) := cell_blk JT1.out 0
                    have t1 : U2.cell? ⟨T, 1, none⟩ = some (.string t.nm) := cell_blk JT1.out 1
                    have t2 : U2.cell? ⟨T, 2, none⟩ = some (.slice ca nc cc) := cell_blk JT1.out 2
                    have t3 : U2.cell? ⟨T, 3, none⟩ = some (.slice ia ni ic) := cell_blk JT1.out 3
                    have t4 : U2.cell? ⟨T, 4, none⟩ = some (.slice (some ⟨cb, cp, none⟩) nk kc) := cell_blk JT1.out 4
                    have u0 : U2.cell? ⟨C, 0, none⟩ = some (.int .i64 c.id) := cell_blk JC.out 0
                    have u1 : U2.cell? ⟨C, 1, none⟩ = some (.string c.nm) := cell_blk JC.out 1
                    have u2 : U2.cell? ⟨C, 2, none⟩ = some (.int .i64 c.col) := cell_blk JC.out 2
                    have u3 : U2.cell? ⟨C, 3, none⟩ = some (.int .i64 c.par) := cell_blk JC.out 3
                    have u4 : U2.cell? ⟨C, 4, none⟩ = some (.int .i64 c.st) := cell_blk JC.out 4
                    clear hto b2
                    have hco := colOfR_any (w := U2) (H3.out.on HBX.out) c.col
                    obtain ⟨cf, hcf⟩ : ∃ f, fidx (fun x => decide (x.id = c.col)) t.cols = f := ⟨_, rfl⟩
                    rw [hcf] at hco
                    have HCF := Lib.hid hcf
                    clear hcf
                    go_wp2_with (go_at_call 27; refine hco.mono ?_; rintro e U3 ⟨rfl, b3⟩; refine Hid.out ?_)
                    refine Lib.hid ?_
                    clear HBX
                    have HJx := Lib.hid (HJ1.out.below b3)
                    have JTx : Hid (U3.heap[T]? = some (.cells #[.int .i64 t.id, .string t.nm, .slice ca nc cc, .slice ia ni ic, .slice (some ⟨cb, cp, none⟩) nk kc] 54 (0, 0))) := Lib.hid ((b3.block T (blk_lt JT1.out)).trans JT1.out)
                    have JCx : Hid (U3.heap[C]? = some (.cells #[.int .i64 c.id, .string c.nm, .int .i64 c.col, .int .i64 c.par, .int .i64 c.st] 73 (0, 0))) := Lib.hid ((b3.block C (blk_lt JC.out)).trans JC.out)
                    clear HJ1 JT1 JC c0 c1 c2 t0 t1 t2 t3 t4 u0 u1 u2 u3 u4
                    have HJ1 := HJx
                    have JT1 := JTx
                    have JC := JCx
                    have HBX := Lib.hid HJ1.out.b
                    clear HJx JTx JCx
                    have c0 : U3.cell? ⟨Y, 0, none⟩ = some (.int .i64 s.ver) := cell_blk HJ1.out.y 0
                    have c1 : U3.cell? ⟨Y, 1, none⟩ = some (.int .i64 s.last) := cell_blk HJ1.out.y 1
                    have c2 : U3.cell? ⟨Y, 2, none⟩ = some (.slice (some ⟨b, p, none⟩) n tc) := cell_blk HJ1.out.y 2
                    have t0 : U3.cell? ⟨T, 0, none⟩ = some (.int .i64 t.id) := cell_blk JT1.out 0
                    have t1 : U3.cell? ⟨T, 1, none⟩ = some (.string t.nm) := cell_blk JT1.out 1
                    have t2 : U3.cell? ⟨T, 2, none⟩ = some (.slice ca nc cc) := cell_blk JT1.out 2
                    have t3 : U3.cell? ⟨T, 3, none⟩ = some (.slice ia ni ic) := cell_blk JT1.out 3
                    have t4 : U3.cell? ⟨T, 4, none⟩ = some (.slice (some ⟨cb, cp, none⟩) nk kc) := cell_blk JT1.out 4
                    have u0 : U3.cell? ⟨C, 0, none⟩ = some (.int .i64 c.id) := cell_blk JC.out 0
                    have u1 : U3.cell? ⟨C, 1, none⟩ = some (.string c.nm) := cell_blk JC.out 1
                    have u2 : U3.cell? ⟨C, 2, none⟩ = some (.int .i64 c.col) := cell_blk JC.out 2
                    have u3 : U3.cell? ⟨C, 3, none⟩ = some (.int .i64 c.par) := cell_blk JC.out 3
                    have u4 : U3.cell? ⟨C, 4, none⟩ = some (.int .i64 c.st) := cell_blk JC.out 4
                    clear hco b3
                    have hnmc := named_ref (w := U3) c.nm
                    have hta := keyAt_any (w := U3) (H3.out.on HBX.out) c.nm
                    cases hnb : nameB c.nm with
                    | false =>
                      rw [hnb] at hnmc
                      have HE : Hid (rightS s = false) := Lib.hid (HNC2.out (nameB c.nm = true) (fun q => q.1) (by rw [hnb]; decide))
                      clear hnb hta
                      go_wp2_with (go_at_call 21; refine hnmc.mono ?_; rintro e w9 ⟨rfl, rfl⟩; refine Hid.out ?_)
                      refine Lib.hid ?_
                      clear hnmc
                      go_wp2
                      go_ret
                      exact ⟨by rw [HE.out]; rfl, HBX.out⟩
                    | true =>
                      rw [hnb] at hnmc
                      have HNB2 := Lib.hid hnb
                      clear hnb
                      obtain ⟨f, hf⟩ : ∃ f, fidx (fun x => decide (x.nm = c.nm)) t.fks = f := ⟨_, rfl⟩
                      rw [hf] at hta
                      have HFI2 := Lib.hid hf
                      clear hf
                      go_wp2_with (go_at_call 21; refine hnmc.mono ?_; rintro e w9 ⟨rfl, rfl⟩; refine Hid.out ?_)
                      refine Lib.hid ?_
                      clear hnmc
                      go_wp2_with (go_at_call 29; refine hta.mono ?_; rintro e U4 ⟨rfl, b4⟩; refine Hid.out ?_)
                      refine Lib.hid ?_
                      clear HBX
                      have HJx := Lib.hid (HJ1.out.below b4)
                      have JTx : Hid (U4.heap[T]? = some (.cells #[.int .i64 t.id, .string t.nm, .slice ca nc cc, .slice ia ni ic, .slice (some ⟨cb, cp, none⟩) nk kc] 54 (0, 0))) := Lib.hid ((b4.block T (blk_lt JT1.out)).trans JT1.out)
                      have JCx : Hid (U4.heap[C]? = some (.cells #[.int .i64 c.id, .string c.nm, .int .i64 c.col, .int .i64 c.par, .int .i64 c.st] 73 (0, 0))) := Lib.hid ((b4.block C (blk_lt JC.out)).trans JC.out)
                      clear HJ1 JT1 JC c0 c1 c2 t0 t1 t2 t3 t4 u0 u1 u2 u3 u4
                      have HJ1 := HJx
                      have JT1 := JTx
                      have JC := JCx
                      have HBX := Lib.hid HJ1.out.b
                      clear HJx JTx JCx
                      have c0 : U4.cell? ⟨Y, 0, none⟩ = some (.int .i64 s.ver) := cell_blk HJ1.out.y 0
                      have c1 : U4.cell? ⟨Y, 1, none⟩ = some (.int .i64 s.last) := cell_blk HJ1.out.y 1
                      have c2 : U4.cell? ⟨Y, 2, none⟩ = some (.slice (some ⟨b, p, none⟩) n tc) := cell_blk HJ1.out.y 2
                      have t0 : U4.cell? ⟨T, 0, none⟩ = some (.int .i64 t.id) := cell_blk JT1.out 0
                      have t1 : U4.cell? ⟨T, 1, none⟩ = some (.string t.nm) := cell_blk JT1.out 1
                      have t2 : U4.cell? ⟨T, 2, none⟩ = some (.slice ca nc cc) := cell_blk JT1.out 2
                      have t3 : U4.cell? ⟨T, 3, none⟩ = some (.slice ia ni ic) := cell_blk JT1.out 3
                      have t4 : U4.cell? ⟨T, 4, none⟩ = some (.slice (some ⟨cb, cp, none⟩) nk kc) := cell_blk JT1.out 4
                      have u0 : U4.cell? ⟨C, 0, none⟩ = some (.int .i64 c.id) := cell_blk JC.out 0
                      have u1 : U4.cell? ⟨C, 1, none⟩ = some (.string c.nm) := cell_blk JC.out 1
                      have u2 : U4.cell? ⟨C, 2, none⟩ = some (.int .i64 c.col) := cell_blk JC.out 2
                      have u3 : U4.cell? ⟨C, 3, none⟩ = some (.int .i64 c.par) := cell_blk JC.out 3
                      have u4 : U4.cell? ⟨C, 4, none⟩ = some (.int .i64 c.st) := cell_blk JC.out 4
                      clear hta b4
                      by_cases q0 : f = (k : Int)
                      · subst q0
                        by_cases q1 : c.st < 1
                        · have q1' : decide (c.st < 1) = true := decide_eq_true q1
                          have HE : Hid (rightS s = false) := Lib.hid (HNC2.out (1 ≤ c.st) (fun q => q.2.2.1) (by omega))
                          go_wp2
                          go_ret
                          exact ⟨by rw [HE.out]; rfl, HBX.out⟩
                        have q1' : decide (c.st < 1) = false := decide_eq_false q1
                        by_cases q2 : 3 < c.st
                        · have q2' : decide (3 < c.st) = true := decide_eq_true q2
                          have HE : Hid (rightS s = false) := Lib.hid (HNC2.out (c.st ≤ 3) (fun q => q.2.2.2.1) (by omega))
                          go_wp2
                          go_ret
                          exact ⟨by rw [HE.out]; rfl, HBX.out⟩
                        have q2' : decide (3 < c.st) = false := decide_eq_false q2
                        have HFK : Hid (fkB s.tabs t c = true → 0 ≤ cf ∧ 0 ≤ pf) := fun q => by
                          obtain ⟨c9, hc9, p9, hp9, e1, e2, _⟩ := fkB_places.1 q
                          unfold colOf at e1
                          unfold tabOf at e2
                          rw [HCF.out] at e1
                          rw [HPF.out] at e2
                          omega
                        by_cases q3 : cf < 0
                        · have q3' : decide (cf < 0) = true := decide_eq_true q3
                          have HE : Hid (rightS s = false) := Lib.hid (HNC2.out (0 ≤ cf) (fun q => (HFK.out q.2.2.2.2).1) (by omega))
                          go_wp2
                          go_ret
                          exact ⟨by rw [HE.out]; rfl, HBX.out⟩
                        have q3' : decide (cf < 0) = false := decide_eq_false q3
                        by_cases q4 : pf < 0
                        · have q4' : decide (pf < 0) = true := decide_eq_true q4
                          have HE : Hid (rightS s = false) := Lib.hid (HNC2.out (0 ≤ pf) (fun q => (HFK.out q.2.2.2.2).2) (by omega))
                          go_wp2
                          go_ret
                          exact ⟨by rw [HE.out]; rfl, HBX.out⟩
                        have q4' : decide (pf < 0) = false := decide_eq_false q4
                        obtain ⟨cn, hcn, ecn⟩ : ∃ (cn : Nat) (h : cn < t.cols.length), cf = (cn : Int) := by
                          rcases fidx_cases (fun x => decide (x.id = c.col)) t.cols with ⟨z, _⟩ | ⟨j9, h9, e9, _⟩
                          · rw [HCF.out] at z; omega
                          · rw [HCF.out] at e9; exact ⟨j9, h9, e9⟩
                        obtain ⟨pn, hpn, epn⟩ : ∃ (pn : Nat) (h : pn < s.tabs.length), pf = (pn : Int) := by
                          rcases fidx_cases (fun x => decide (x.id = c.par)) s.tabs with ⟨z, _⟩ | ⟨j9, h9, e9, _⟩
                          · rw [HPF.out] at z; omega
                          · rw [HPF.out] at e9; exact ⟨j9, h9, e9⟩
                        subst ecn epn
                        have HFK2 : Hid (fkB s.tabs t c = true ↔ keyKd s.tabs[pn] = some t.cols[cn].kd) := by
                          constructor
                          · intro q
                            obtain ⟨c9, hc9, p9, hp9, e1, e2, e3⟩ := fkB_places.1 q
                            unfold colOf at e1
                            unfold tabOf at e2
                            rw [HCF.out] at e1
                            rw [HPF.out] at e2
                            obtain rfl : cn = c9 := by omega
                            obtain rfl : pn = p9 := by omega
                            exact e3
                          · intro q
                            exact fkB_places.2 ⟨cn, hcn, pn, hpn, by unfold colOf; exact HCF.out, by unfold tabOf; exact HPF.out, q⟩
                        obtain ⟨b9, p9, cs9, e9, _, hE9, _, hcell9⟩ := HX.out pn hpn
                        cases e9
                        obtain ⟨cv9, iv9, kv9, rfl, h39⟩ := hE9
                        obtain ⟨t9, ht9⟩ : ∃ t9, s.tabs[pn] = t9 := ⟨_, rfl⟩
                        rw [ht9] at hcell9 h39 HFK2
                        obtain ⟨ca9, cc9, hcv9, hs9⟩ := h39.c.shape
                        subst hcv9
                        obtain ⟨n9, hn9⟩ : ∃ n9, t9.cols.length = n9 := ⟨_, rfl⟩
                        rw [hn9] at hcell9 h39
                        have y2 : U4.cell? ⟨b, p + pn * 5 + 2, none⟩ = some (.slice ca9 n9 cc9) := cell_on HBX.out (hcell9 2 _ rfl)
                        have m9 : (n9 : Int) ≤ 9223372036854775807 := by have := hs9; unfold maxLen at this; omega
                        have z0 : (0 : Int) ≤ (pn : Int) := by omega
                        have z1 : (pn : Int) < (n : Int) := by have := HN.out; omega
                        have z2 : (0 : Int) ≤ (cn : Int) := by omega
                        have z3 : (cn : Int) < (nc : Int) := by have := HNC.out; omega
                        have H39 := Lib.hid h39
                        have HN9 := Lib.hid hn9
                        clear hcell9 h39 hs9 q3 q4 q3' q4'
                        by_cases q5 : n9 = 0
                        · have q5' : ((n9 : Int) == 0) = true := by rw [beq_iff_eq]; omega
                          have q5'' : decide ((n9 : Int) = 0) = true := decide_eq_true (by omega)
                          have HE : Hid (rightS s = false) := Lib.hid (HNC2.out (keyKd t9 = some t.cols[cn].kd) (fun q => HFK2.out.1 q.2.2.2.2) (by
                            have hz : t9.cols = [] := List.eq_nil_of_length_eq_zero (by rw [HN9.out]; exact q5)
                            unfold keyKd
                            rw [hz]
                            simp))
                          clear q5
                          go_upto_region 33 with fail
                          go_quiet (fail)
                          have HBY : Hid (Below w.heap.size w (U4.drewN nq)) := ⟨HBX.out.os, HBX.out.tape, HBX.out.output, HBX.out.size, HBX.out.block⟩
                          go_wp2
                          go_ret
                          exact ⟨by rw [HE.out]; rfl, HBY.out⟩
                        have q5' : ((n9 : Int) == 0) = false := by rw [beq_eq_false_iff_ne]; omega
                        have q5'' : decide ((n9 : Int) = 0) = false := decide_eq_false (by omega)
                        have z4 : (0 : Int) < (n9 : Int) := by omega
                        obtain ⟨cb9, cp9, cs8, rfl, _, hE8, _, hcell8⟩ := H39.out.c.cells2 0 (by rw [HN9.out]; omega)
                        cases hE8
                        obtain ⟨d9, hd9⟩ : ∃ d9, t9.cols[0]'(by rw [HN9.out]; omega) = d9 := ⟨_, rfl⟩
                        rw [hd9] at hcell8
                        have y3 : U4.cell? ⟨cb9, cp9 + 2, none⟩ = some (.int .i64 d9.kd) := by have := cell_on HBX.out (hcell8 2 _ rfl); simpa using this
                        obtain ⟨cb7, cp7, cs7, rfl, _, hE7, _, hcell7⟩ := H3.out.c.cells2 cn hcn
                        cases hE7
                        obtain ⟨d7, hd7⟩ : ∃ d7, t.cols[cn] = d7 := ⟨_, rfl⟩
                        rw [hd7] at hcell7 HFK2
                        have y4 : U4.cell? ⟨cb7, cp7 + cn * 7 + 2, none⟩ = some (.int .i64 d7.kd) := cell_on HBX.out (hcell7 2 _ rfl)
                        have hkk : keyKd t9 = some d9.kd := by
                          unfold keyKd
                          rw [List.head?_eq_getElem?, List.getElem?_eq_getElem (by rw [HN9.out]; omega), hd9]
                          rfl
                        have HFK3 : Hid (fkB s.tabs t c = true ↔ d9.kd = d7.kd) := by
                          have := HFK2.out
                          rw [hkk] at this
                          exact this.trans ⟨Option.some.inj, fun q => by rw [q]⟩
                        clear hcell8 hcell7 hkk hd9 hd7 q5 HFK2
                        obtain ⟨k9, hk9⟩ : ∃ k9, d9.kd = k9 := ⟨_, rfl⟩
                        obtain ⟨k7, hk7⟩ : ∃ k7, d7.kd = k7 := ⟨_, rfl⟩
                        rw [hk9] at y3 HFK3
                        rw [hk7] at y4 HFK3
                        clear hk9 hk7
                        by_cases q6 : k9 = k7
                        · have HFB := Lib.hid (HFK3.out.2 q6)
                          subst q6
                          go_upto_region 33 with fail
                          go_quiet (fail)
                          obtain ⟨U5, hU5⟩ : ∃ U5, U5 = U4.drewN nq := ⟨_, rfl⟩
                          have b5 : Below U4.heap.size U4 U5 := by rw [hU5]; exact ⟨rfl, rfl, rfl, Nat.le_refl _, fun _ _ => rfl⟩
                          rw [← hU5]
                          clear hU5 y2 y3 y4 HBX
                          have HJx := Lib.hid (HJ1.out.below b5)
                          have JTx : Hid (U5.heap[T]? = some (.cells #[.int .i64 t.id, .string t.nm, .slice (some ⟨cb7, cp7, none⟩) nc cc, .slice ia ni ic, .slice (some ⟨cb, cp, none⟩) nk kc] 54 (0, 0))) := Lib.hid ((b5.block T (blk_lt JT1.out)).trans JT1.out)
                          have JCx : Hid (U5.heap[C]? = some (.cells #[.int .i64 c.id, .string c.nm, .int .i64 c.col, .int .i64 c.par, .int .i64 c.st] 73 (0, 0))) := Lib.hid ((b5.block C (blk_lt JC.out)).trans JC.out)
                          clear HJ1 JT1 JC c0 c1 c2 t0 t1 t2 t3 t4 u0 u1 u2 u3 u4
                          have HJ1 := HJx
                          have JT1 := JTx
                          have JC := JCx
                          have HBX := Lib.hid HJ1.out.b
                          clear HJx JTx JCx
                          have c0 : U5.cell? ⟨Y, 0, none⟩ = some (.int .i64 s.ver) := cell_blk HJ1.out.y 0
                          have c1 : U5.cell? ⟨Y, 1, none⟩ = some (.int .i64 s.last) := cell_blk HJ1.out.y 1
                          have c2 : U5.cell? ⟨Y, 2, none⟩ = some (.slice (some ⟨b, p, none⟩) n tc) := cell_blk HJ1.out.y 2
                          have t0 : U5.cell? ⟨T, 0, none⟩ = some (.int .i64 t.id) := cell_blk JT1.out 0
                          have t1 : U5.cell? ⟨T, 1, none⟩ = some (.string t.nm) := cell_blk JT1.out 1
                          have t2 : U5.cell? ⟨T, 2, none⟩ = some (.slice (some ⟨cb7, cp7, none⟩) nc cc) := cell_blk JT1.out 2
                          have t3 : U5.cell? ⟨T, 3, none⟩ = some (.slice ia ni ic) := cell_blk JT1.out 3
                          have t4 : U5.cell? ⟨T, 4, none⟩ = some (.slice (some ⟨cb, cp, none⟩) nk kc) := cell_blk JT1.out 4
                          have u0 : U5.cell? ⟨C, 0, none⟩ = some (.int .i64 c.id) := cell_blk JC.out 0
                          have u1 : U5.cell? ⟨C, 1, none⟩ = some (.string c.nm) := cell_blk JC.out 1
                          have u2 : U5.cell? ⟨C, 2, none⟩ = some (.int .i64 c.col) := cell_blk JC.out 2
                          have u3 : U5.cell? ⟨C, 3, none⟩ = some (.int .i64 c.par) := cell_blk JC.out 3
                          have u4 : U5.cell? ⟨C, 4, none⟩ = some (.int .i64 c.st) := cell_blk JC.out 4
                          clear b5
                          obtain ⟨ad3, cap3, U6, hrun, hJ4, kp⟩ := HJ1.out.push HWS.out c.id (by
                            simp only [List.length_append, List.length_map, List.length_take, List.length_cons, List.length_nil]
                            have := HZ0.out
                            have := HQ.out
                            have := HNC.out
                            have := HNI.out
                            have := HNK.out
                            omega)
                          rw [HLN2.out] at hrun hJ4
                          have H4 := Lib.hid (And.intro hJ4 (kp T _ 54 (by decide) JT1.out))
                          clear hJ4 kp
                          go_wp2_with (at_builtin; refine wpl_run2 _ _ rfl (by simp [Act.eval]) (by simp [Act.eval]) hrun ?_)
                          go_roundw
                          case rel =>
                            refine ⟨k + 1, hkc, by go_num, ?_, H4.out.2, fun j hj hji => ?_⟩
                            · rw [map_next hkL, hc, ← List.append_assoc]
                              exact H4.out.1
                            · by_cases ej : j = k
                              · subst ej
                                rw [hc]
                                exact ⟨HNB2.out, HFI2.out, by omega, by omega, HFB.out⟩
                              · exact HCS.out j hj (by omega)
                          case measure => simp [intOf]; omega
                        · have q6' : (k9 == k7) = false := by rw [beq_eq_false_iff_ne]; exact q6
                          have q6'' : decide (k9 = k7) = false := decide_eq_false q6
                          have HE : Hid (rightS s = false) := Lib.hid (HNC2.out (k9 = k7) (fun q => HFK3.out.1 q.2.2.2.2) q6)
                          go_upto_region 33 with fail
                          go_quiet (fail)
                          have HBY : Hid (Below w.heap.size w (U4.drewN nq)) := ⟨HBX.out.os, HBX.out.tape, HBX.out.output, HBX.out.size, HBX.out.block⟩
                          go_wp2
                          go_ret
                          exact ⟨by rw [HE.out]; rfl, HBY.out⟩
                      · have q0' : (f == (k : Int)) = false := by rw [beq_eq_false_iff_ne]; exact q0
                        have q0'' : decide (f = (k : Int)) = false := decide_eq_false q0
                        have HE : Hid (rightS s = false) := Lib.hid (HNC2.out (f = (k : Int)) (fun q => by rw [← HFI2.out]; exact q.2.1) q0)
                        go_wp2
                        go_ret
                        exact ⟨by rw [HE.out]; rfl, HBX.out⟩
                  · have g1 : ¬ (k : Int) < nk := by omega
                    have hkn : k = t.fks.length := by rw [HNK.out]; omega
                    have hJ9 : RJ w W Y #[.int .i64 s.ver, .int .i64 s.last, .slice (some ⟨b, p, none⟩) n tc] U (.slice ea ln ec) (L0 ++ [t.id] ++ t.cols.map Col.id ++ t.ixs.map Ix.id ++ t.fks.map Fk.id) := by
                      have := hJ
                      rw [hkn, List.take_length] at this
                      exact this
                    have HL9 : Hid ((L0 ++ [t.id] ++ t.cols.map Col.id ++ t.ixs.map Ix.id ++ t.fks.map Fk.id).length = ln) := by
                      have := HLN2.out
                      rw [hkn, List.take_length] at this
                      exact this
                    have HJ9 := Lib.hid hJ9
                    have JT9 := Lib.hid jT
                    have HP9 : Hid (∀ j (hj : j < t.fks.length), FkR s.tabs t j t.fks[j]) := fun j hj => HCS.out j hj (by rw [hkn]; exact hj)
                    clear hJ9 hJ jT hkn HLN2
                    go_wp2
                    go_roundw
                    case rel =>
                      refine ⟨i + 1, hlt, by go_num, ?_, fun j hj hji => ?_⟩
                      · rw [ids_next hiL, HTI.out, idsT_parts, HL0.out]
                        have := HJ9.out
                        simpa [List.append_assoc] using this
                      · by_cases ej : j = i
                        · subst ej
                          rw [HTI.out]
                          have hq := HQ.out
                          exact ⟨HNB.out, HFI.out, by rw [HNC.out]; exact hq.2.2.2, by rw [HNC.out]; exact hq.1, by rw [HNI.out]; exact hq.2.1, by rw [HNK.out]; exact hq.2.2.1, HP1.out, HP2.out, HP9.out⟩
                        · exact HALL.out j hj (by omega)
                    case measure => simp [intOf]; omega
        · have q0' : (f == (i : Int)) = false := by rw [beq_eq_false_iff_ne]; exact q0
          have q0'' : decide (f = (i : Int)) = false := decide_eq_false q0
          have HE : Hid (rightS s = false) := Lib.hid (HNT.out (f = (i : Int)) (fun q => by rw [← HFI.out]; exact q.at_) q0)
          go_wp2
          go_ret
          exact ⟨by rw [HE.out]; rfl, HB2.out⟩
    · have k1 : ¬ (i : Int) < n := by omega
      as_aux_lemma =>
        have hin : i = n := by omega
        have HALL2 : Hid (∀ j (hj : j < s.tabs.length), TabR s.tabs j s.tabs[j]) := fun j hj => HALL.out j hj (by have := HN.out; omega)
        have htk : s.tabs.take i = s.tabs := List.take_of_length_le (by have := HN.out; omega)
        rw [htk] at HJ ⊢
        obtain ⟨L, hLL⟩ : ∃ L, idsS s.tabs = L := ⟨_, rfl⟩
        rw [hLL] at HJ ⊢
        obtain ⟨ln, hln⟩ : ∃ ln, L.length = ln := ⟨_, rfl⟩
        have hlz : (ln : Int) ≤ 9223372036854775807 := by
          have q := idsS_len (l := s.tabs) (fun x hx => by
            obtain ⟨j, hj, rfl⟩ := List.getElem_of_mem hx
            have z := HALL2.out j hj
            exact ⟨z.c8, z.i8, z.k8⟩)
          rw [hLL] at q
          have := HN.out
          have := HN6.out
          omega
        have HLL := Lib.hid hLL
        rw [hln] at HJ ⊢
        have HLN3 := Lib.hid hln
        have hrow := HJ.out.row
        rw [← hln] at hrow
        have HCELL : Hid (∀ X : World, Below V.heap.size V X → ∀ j (hj : j < L.length), ∃ g, da = some ⟨g, 0, none⟩ ∧ X.cell? ⟨g, j, none⟩ = some (.int .i64 L[j])) := fun X hX j hj => by
          obtain ⟨g, e1, e2⟩ := ids_cells hrow j hj
          exact ⟨g, e1, cell_on hX e2⟩
        have HBV := Lib.hid HJ.out.b
        have HYV := Lib.hid HJ.out.y
        clear hLL hln hrow htk HALL c0 hJ hall HX HL
        go_wp2
        go_loopw [14] (fun iv wr => ∃ a : Nat, a ≤ ln ∧ iv = .int .i64 (a : Int) ∧ Hid (∀ j (hj : j < L.length), j < a → (1 ≤ L[j] ∧ L[j] ≤ s.last) ∧ ∀ k (hk : k < L.length), k < j → L[k] ≠ L[j]) ∧ Hid (Below V.heap.size V wr)) (fun iv _ => ln - (intOf iv).toNat)
        case atStart => exact ⟨0, Nat.zero_le _, rfl, fun j _ hj => absurd hj (Nat.not_lt_zero _), Below.refl _ _⟩
        case round =>
          obtain ⟨a, ha, rfl, HA, HBA⟩ := hrel
          obtain ⟨X, rfl⟩ : ∃ X, X = wr := ⟨_, rfl⟩
          have e1 : X.cell? ⟨Y, 1, none⟩ = some (.int .i64 s.last) := cell_on HBA.out (cell_blk HYV.out 1)
          clear c1 c2
          by_cases hal : a < ln
          · have haL : a < L.length := by rw [HLN3.out]; exact hal
            have a0 : (0 : Int) ≤ (a : Int) := by omega
            have a1 : (a : Int) < (ln : Int) := by omega
            obtain ⟨g, rfl, ea⟩ := HCELL.out X HBA.out a haL
            obtain ⟨x, hx⟩ : ∃ x, L[a] = x := ⟨_, rfl⟩
            rw [hx] at ea
            have HNO2 : Hid (∀ P : Prop, ((1 ≤ x ∧ x ≤ s.last) → P) → ¬ P → rightS s = false) := Lib.hid fun P h1 h2 => HNO.out P (fun q => h1 ((right_doc.1 q).2.2.2.2.1 x (by rw [HLL.out, ← hx]; exact List.getElem_mem haL))) h2
            by_cases p1 : x < 1
            · have p1' : decide (x < 1) = true := decide_eq_true p1
              have HE : Hid (rightS s = false) := Lib.hid (HNO2.out (1 ≤ x) (fun q => q.1) (by omega))
              go_upto_region 39 with fail
              go_quiet (fail)
              have HBY : Hid (Below w.heap.size w (X.drewN nq)) := Lib.hid (HBV.out.trans (Below.mono (show Below V.heap.size V (X.drewN nq) from ⟨HBA.out.os, HBA.out.tape, HBA.out.output, HBA.out.size, HBA.out.block⟩) HBV.out.size))
              go_wp2
              go_ret
              exact ⟨by rw [HE.out]; rfl, HBY.out⟩
            have p1' : decide (x < 1) = false := decide_eq_false p1
            by_cases p2 : s.last < x
            · have p2' : decide (s.last < x) = true := decide_eq_true p2
              have HE : Hid (rightS s = false) := Lib.hid (HNO2.out (x ≤ s.last) (fun q => q.2) (by omega))
              go_upto_region 39 with fail
              go_quiet (fail)
              have HBY : Hid (Below w.heap.size w (X.drewN nq)) := Lib.hid (HBV.out.trans (Below.mono (show Below V.heap.size V (X.drewN nq) from ⟨HBA.out.os, HBA.out.tape, HBA.out.output, HBA.out.size, HBA.out.block⟩) HBV.out.size))
              go_wp2
              go_ret
              exact ⟨by rw [HE.out]; rfl, HBY.out⟩
            have p2' : decide (s.last < x) = false := decide_eq_false p2
            go_upto_region 39 with fail
            go_quiet (fail)
            obtain ⟨X2, hX2⟩ : ∃ X2, X2 = X.drewN nq := ⟨_, rfl⟩
            have HB2 : Hid (Below V.heap.size V X2) := by rw [hX2]; exact ⟨HBA.out.os, HBA.out.tape, HBA.out.output, HBA.out.size, HBA.out.block⟩
            rw [← hX2]
            have HPX : Hid (1 ≤ x ∧ x ≤ s.last) := Lib.hid ⟨by omega, by omega⟩
            have HXX := Lib.hid hx
            clear hX2 ea e1 HBA hx p1 p2 p1' p2'
            go_wp2
            go_loopw [15] (fun xv wr => ∃ k : Nat, k ≤ a ∧ xv = .int .i64 (k : Int) ∧ Hid (∀ j (hj : j < L.length), j < k → L[j] ≠ x) ∧ Hid (Below V.heap.size V wr)) (fun xv _ => a - (intOf xv).toNat)
            case atStart => exact ⟨0, Nat.zero_le _, rfl, fun j _ hj => absurd hj (Nat.not_lt_zero _), HB2⟩
            case round =>
              clear HB2
              obtain ⟨k, hk, rfl, HK, HBK⟩ := hrel
              obtain ⟨Z, rfl⟩ : ∃ Z, Z = wr := ⟨_, rfl⟩
              by_cases hka : k < a
              · have hkL : k < L.length := by omega
                have k0 : (0 : Int) ≤ (k : Int) := by omega
                have k2 : (k : Int) < (a : Int) := by omega
                have k3 : (k : Int) < (ln : Int) := by omega
                obtain ⟨g1, eg1, f1⟩ := HCELL.out Z HBK.out k hkL
                cases eg1
                obtain ⟨g2, eg2, f2⟩ := HCELL.out Z HBK.out a haL
                cases eg2
                rw [HXX.out] at f2
                obtain ⟨y, hy⟩ : ∃ y, L[k] = y := ⟨_, rfl⟩
                rw [hy] at f1
                by_cases r1 : y = x
                · have HE : Hid (rightS s = false) := Lib.hid (HNO.out (L[k] ≠ L[a]) (fun q => nodup_loops.1 (by have z := (right_doc.1 q).2.2.2.2.2; rw [HLL.out] at z; exact z) a haL k hkL hka) (by rw [hy, HXX.out, r1]; simp))
                  subst r1
                  go_upto_region 44 with fail
                  go_quiet (fail)
                  have HBY : Hid (Below w.heap.size w (Z.drewN nq)) := Lib.hid (HBV.out.trans (Below.mono (show Below V.heap.size V (Z.drewN nq) from ⟨HBK.out.os, HBK.out.tape, HBK.out.output, HBK.out.size, HBK.out.block⟩) HBV.out.size))
                  go_wp2
                  go_ret
                  exact ⟨by rw [HE.out]; rfl, HBY.out⟩
                · have r1' : (y == x) = false := by rw [beq_eq_false_iff_ne]; exact r1
                  have r1'' : decide (y = x) = false := decide_eq_false r1
                  have HK2 : Hid (∀ j (hj : j < L.length), j < k + 1 → L[j] ≠ x) := fun j hj hjk => by
                    by_cases ej : j = k
                    · subst ej
                      rw [hy]
                      exact r1
                    · exact HK.out j hj (by omega)
                  clear hy HK
                  go_upto_region 44 with fail
                  go_quiet (fail)
                  have HBY : Hid (Below V.heap.size V (Z.drewN nq)) := ⟨HBK.out.os, HBK.out.tape, HBK.out.output, HBK.out.size, HBK.out.block⟩
                  go_wp2
                  exact ⟨⟨k + 1, by omega, by go_num, HK2, HBY⟩, by simp [intOf]; omega⟩
              · have k2 : ¬ (k : Int) < (a : Int) := by omega
                have HA2 : Hid (∀ j (hj : j < L.length), j < a + 1 → (1 ≤ L[j] ∧ L[j] ≤ s.last) ∧ ∀ k (hk : k < L.length), k < j → L[k] ≠ L[j]) := fun j hj hja => by
                  by_cases ej : j = a
                  · subst ej
                    rw [HXX.out]
                    exact ⟨HPX.out, fun k9 hk9 hkj => HK.out k9 hk9 (by omega)⟩
                  · exact HA.out j hj (by omega)
                clear HK HA
                go_wp2
                go_roundw
                case rel => exact ⟨a + 1, by omega, by go_num, HA2, HBK⟩
                case measure => simp [intOf]; omega
          · have a1 : ¬ (a : Int) < (ln : Int) := by omega
            have HE : Hid (rightS s = true) := by
              refine right_doc.2 ⟨HF.out.1, HF.out.2, by have := HN6.out; rw [HN.out]; exact this, HALL2.out, ?_, ?_⟩
              · rw [HLL.out]
                intro x hx
                obtain ⟨j, hj, rfl⟩ := List.getElem_of_mem hx
                exact (HA.out j hj (by have := HLN3.out; omega)).1
              · rw [HLL.out]
                exact nodup_loops.2 fun j hj k hk hkj => (HA.out j hj (by have := HLN3.out; omega)).2 k hk hkj
            go_wp2
            go_ret
            exact ⟨by rw [HE.out]; rfl, HBV.out.trans (HBA.out.mono HBV.out.size)⟩
end
end Go.Proofs.Ytkfnphhoebknnaa
