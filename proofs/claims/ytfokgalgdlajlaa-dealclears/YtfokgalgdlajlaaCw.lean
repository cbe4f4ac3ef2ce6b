/- The walk of partsOf, of one read and one write. -/
import Derived.Test.YtfokgalgdlajlaaCv
namespace Go.Proofs.Ytfokgalgdlajlaa
open Go.RowKit
theorem take_set {α β : Type} (f : α → β) (P : List α) (j n : Nat) (hj : j < P.length) (hn : n = j) (y : β) : ((P.take j).map f ++ [y]).set n (f P[j]) = (P.take (j + 1)).map f := by
  subst hn
  rw [List.take_add_one, List.getElem?_eq_getElem hj, List.map_append, List.set_append_right _ _ (by rw [List.length_map, List.length_take]; omega)]
  have e : n - ((P.take n).map f).length = 0 := by simp; omega
  rw [e]
  simp
/-- What partsOf answers. -/
def PaAns (w : World) (Ls : List PP) (e : Ending) (w' : World) : Prop := ∃ (pa : Option Addr) (pc : Nat) (L : List Gp), e = .returned (.slice pa Ls.length pc) ∧ L.length = Ls.length ∧ w'.ownsRow w.heap.size 84 3 (.slice pa Ls.length pc) Ls.length (L.flatMap gpL) ∧ (∀ i (h : i < L.length) (h' : i < Ls.length), PtIn w.heap.size w' L[i] Ls[i]) ∧ Below w.heap.size w w'
abbrev wrA (x : Wr) : Array Value := #[.string x.key, .string x.val, .bool x.dead]
section
variable {w : World}
set_option maxHeartbeats 16000000 in
set_option maxRecDepth 100000 in
theorem partsOf_one {S lo0 : Nat} {Lb : List ByteArray} (hsp : Sp w lo0 S Lb) {r : Rd} {x : Wr} {ra wa ta : Option Addr} {rc wc tn tc : Nat} (hr : Lr rdE 3 w [r] (.slice ra 1 rc)) (hw : Lr (fun _ x cs => cs = wrL x) 3 w [x] (.slice wa 1 wc)) (hs : r.seen.length ≤ 900000) {P : List Pt} (hP : partsB Lb r.lo r.hi (Lb.length + 1) = P) (hrise : ∀ i j (hi : i < P.length) (hj : j < P.length), i < j → P[i].sh < P[j].sh) (hP4 : P.length ≤ 4) {k : Nat} (hk : k < P.length) (hf : findB Lb x.key = P[k].sh) {Ls : List PP} (hLs : (P.map (rdOf r)).set k ⟨(P[k].sh : Int), [⟨P[k].lo, P[k].hi, seenP P[k].lo P[k].hi r.seen⟩], [x]⟩ = Ls) : Calls Try.prog 20 #[.agg #[.slice ra 1 rc, .slice wa 1 wc, .slice ta tn tc], .pointer (some ⟨S, 0, none⟩)] w (PaAns w Ls) := by
  obtain ⟨W0, hW0⟩ : ∃ W0, W0 = w.alloc (.cells #[.slice ra 1 rc, .slice wa 1 wc, .slice ta tn tc] 26) := ⟨_, rfl⟩
  have hb0 : Below w.heap.size w W0 := by rw [hW0]; exact bnew w _
  have jY0 : W0.heap[w.heap.size]? = some (.cells #[.slice ra 1 rc, .slice wa 1 wc, .slice ta tn tc] 26 (0, 0)) := by rw [hW0]; exact heap_alloc_new w _
  have s0 : W0.heap.size = w.heap.size + 1 := by rw [hW0]; simp
  obtain ⟨W, hW⟩ : ∃ W, W = W0.alloc (.cells #[.slice none 0 0] 79) := ⟨_, rfl⟩
  have hb1 : Below W0.heap.size W0 W := by rw [hW]; exact bnew W0 _
  have jP : W.heap[W0.heap.size]? = some (.cells #[.slice none 0 0] 79 (0, 0)) := by rw [hW]; exact heap_alloc_new W0 _
  obtain ⟨Y, hY⟩ : ∃ Y, w.heap.size = Y := ⟨_, rfl⟩
  obtain ⟨Pb, hPb⟩ : ∃ Pb, Y + 1 = Pb := ⟨_, rfl⟩
  have hWW : W = (w.alloc (.cells #[.slice ra 1 rc, .slice wa 1 wc, .slice ta tn tc] 26)).alloc (.cells #[.slice none 0 0] 79) := by rw [hW, hW0]
  have e0 : W0.heap.size = Pb := by omega
  have jY : W.heap[Y]? = some (.cells #[.slice ra 1 rc, .slice wa 1 wc, .slice ta tn tc] 26 (0, 0)) := by
    rw [← hY]
    exact (hb1.block _ (by rw [s0]; omega)).trans jY0
  rw [e0] at jP
  have hb : Below w.heap.size w W := bgo hb0 hb1
  have c0 : W.cell? ⟨Y, 0, none⟩ = some (.slice ra 1 rc) := cell_blk jY 0
  have hk4 : (P.length : Int) ≤ 9223372036854775807 := by omega
  have HW := Lib.hid hWW
  have HN := Lib.hid (And.intro hY hPb)
  have HB := Lib.hid hb
  have HJ := Lib.hid (And.intro jY jP)
  have HSP := Lib.hid hsp
  have HR := Lib.hid hr
  have HWR := Lib.hid hw
  have HSE := Lib.hid hs
  have HPP := Lib.hid hP
  have HRI := Lib.hid hrise
  have HK := Lib.hid hk
  have HF := Lib.hid hf
  have HP4 := Lib.hid hP4
  have HPW : Hid (Pb < W.heap.size) := Lib.hid (blk_lt jP)
  clear hW0 hb0 jY0 s0 hW hb1 jP hY hPb hWW e0 jY hb hsp hr hw hs hP hrise hf hP4
  have HLS := Lib.hid hLs
  have HLL : Hid (Ls.length = P.length) := Lib.hid (by rw [← hLs, List.length_set, List.length_map])
  clear hLs
  go_enter Try.func20, Try.ntmps20
  go_upto_region 2 with fail
  rw [← HW.out, HN.out.1, HN.out.2]
  go_wp2
  go_loopw [19] (fun iv wr => (iv = .int .i64 0 ∧ wr = W) ∨ (iv = .int .i64 1 ∧ ∃ L v, PS w.heap.size wr Pb (P.map (rdOf r)) L v ∧ Fr W wr (fun k => k = Pb))) (fun iv _ => 1 - (intOf iv).toNat)
  case atStart => exact .inl ⟨rfl, rfl⟩
  case round =>
    rcases hrel with ⟨rfl, hwr⟩ | ⟨rfl, L, v, hps, hfr⟩
    · have hwr' := hwr.symm
      subst hwr'
      clear c0 hwr
      obtain ⟨ra1, rc1, e9, _, _, _, hX⟩ := HR.out
      cases e9
      obtain ⟨b, o, cs', rfl, hbl, ⟨sa, sc, hcs, hsm⟩, _, hcell⟩ := hX 0 (by simp)
      have hcs' : cs' = grL (r, .slice sa r.seen.length sc) := hcs
      subst hcs'
      have hld : (Instr.loadAt 67 (.pointer (some ⟨b, o, none⟩))).run Try.prog W = .ok (.agg (grA (r, .slice sa r.seen.length sc))) W := run_loadAt_mid W b o 67 (grL (r, .slice sa r.seen.length sc)) _ (fun j u hu => cell_on HB.out (by have := hcell j u hu; simpa using this)) Try.underlying67 rfl size67
      obtain ⟨V1, e1, k1, f1⟩ := st_row (heap_alloc_new W (.cells #[.string ⟨#[]⟩, .string ⟨#[]⟩, .slice none 0 0] 67)) (us := grA (r, .slice sa r.seen.length sc)) rfl size67 (by simp [Value.oneCell'])
      have b1 : Below W.heap.size W V1 := below_put (bnew W _) (Nat.le_refl _) f1 (Nat.le_refl _)
      have p0 : V1.cell? ⟨W.heap.size, 0, none⟩ = some (.string r.lo) := cell_blk k1 0
      have p1 : V1.cell? ⟨W.heap.size, 1, none⟩ = some (.string r.hi) := cell_blk k1 1
      have hpt := parts_any (HSP.out.on (bgo HB.out b1)) r.lo r.hi
      rw [HPP.out] at hpt
      have HLD := Lib.hid hld
      have HS1 := Lib.hid e1
      have HK1 := Lib.hid k1
      have HB1 := Lib.hid b1
      have HPT := Lib.hid hpt
      have HSM := Lib.hid hsm
      clear hX hcell hld e1 k1 f1 b1 hpt hsm hcs
      go_wp2_with (first | (refine wpl_load _ rfl (by first | rfl | simp [Act.eval]) HLD.out ?_) | (refine wpl_store _ _ rfl (by first | rfl | simp [Act.eval]) (by first | rfl | simp [Act.eval]) HS1.out ?_))
      refine HPT.out.mono ?_
      rintro e v2 ⟨pa, pc, rfl, o2, b2⟩
      have HO2 := Lib.hid o2
      have HB2 := Lib.hid b2
      have HJ2 : Hid (v2.heap[Pb]? = some (.cells #[.slice none 0 0] 79 (0, 0))) := Lib.hid ((b2.block Pb (Nat.lt_of_lt_of_le HPW.out HB1.out.size)).trans ((HB1.out.block Pb HPW.out).trans HJ.out.2))
      clear o2 b2 p0 p1
      go_wp2
      go_loopw [28] (fun jv wr => ∃ (j : Nat) (L : List Gp) (v : Value), j ≤ P.length ∧ jv = .int .i64 (j : Int) ∧ PS v2.heap.size wr Pb ((P.take j).map (rdOf r)) L v ∧ Fr v2 wr (fun k => k = Pb)) (fun jv _ => P.length - (intOf jv).toNat)
      case atStart => exact ⟨0, [], _, Nat.zero_le _, rfl, ps_none _ HJ2.out, Fr.refl _ _⟩
      case round =>
        obtain ⟨j, L, v, hj, rfl, hps, hfr⟩ := hrel
        obtain ⟨V, rfl⟩ : ∃ V, V = wr := ⟨_, rfl⟩
        by_cases hlt : j < P.length
        · have HFR := Lib.hid hfr
          have HPS := Lib.hid hps
          obtain ⟨pg, rfl⟩ : ∃ pg, pa = some ⟨pg, 0, none⟩ := by
            rcases HO2.out.2 with ⟨_, q⟩ | ⟨g, _, _, q, _⟩
            · omega
            · injection q with q1
              exact ⟨g, q1⟩
          have hPW1 : Pb < V1.heap.size := Nat.lt_of_lt_of_le HPW.out HB1.out.size
          have hoV : V.ownsRow V1.heap.size 93 3 (.slice (some ⟨pg, 0, none⟩) P.length pc) P.length (ptC P) := row_keep HO2.out hfr (fun i hi q => by
            have := (HO2.out.lt i hi).1
            have q' : i = Pb := q
            omega)
          have hld2 : (Instr.loadAt 93 (.pointer (some ⟨pg, j * 3, none⟩))).run Try.prog V = .ok (.agg (ptA P[j])) V := run_loadAt_mid V pg (j * 3) 93 (ptL P[j]) _ (fun i u hu => by
            have hi3 : i < 3 := by
              have := (List.getElem?_eq_some_iff.1 hu).1
              exact this
            rw [(own_mono hoV (Nat.zero_le _)).cellAt (j * 3 + i) (by
              have : (j + 1) * 3 ≤ P.length * 3 := Nat.mul_le_mul_right 3 hlt
              omega)]
            exact (fl_get (f := ptL) (fun _ => rfl) P j hlt i hi3).trans hu) Try.underlying93 rfl size93
          obtain ⟨V3, e3, k3, f3⟩ := st_row (heap_alloc_new V (.cells #[.int .i64 0, .string ⟨#[]⟩, .string ⟨#[]⟩] 93)) (us := ptA P[j]) rfl size93 (by simp [Value.oneCell'])
          have b3 : Below V.heap.size V V3 := below_put (bnew V _) (Nat.le_refl _) f3 (Nat.le_refl _)
          have hps3 := hps.on b3
          have hLj : L.length = j := by
            have := hps.ln
            rw [List.length_map, List.length_take] at this
            omega
          have hsz3 : v2.heap.size ≤ V3.heap.size := Nat.le_trans hfr.size b3.size
          have hin := in_end hps3.pv hsz3 hps3.ne (t := (P[j].sh : Int)) (fun g hg => by
            obtain ⟨i, hi, rfl⟩ := List.getElem_of_mem hg
            have hij : i < j := by omega
            have hiP : i < P.length := by omega
            have h1 := (hps3.pt i hi (by rw [← hps3.ln]; exact hi)).sh
            have h2 := HRI.out i j hiP hlt hij
            have h3 : L[i].sh = (P[i].sh : Int) := by
              rw [h1]
              simp [rdOf]
            rw [h3]
            omega) (by have := HP4.out; omega)
          rw [hLj] at hin
          have hts := fun (y : PP) => take_set (rdOf r) P j j hlt rfl y
          generalize P[j] = p at *
          have n0 : V3.cell? ⟨V.heap.size, 0, none⟩ = some (.int .i64 (p.sh : Int)) := cell_blk k3 0
          have HLD2 := Lib.hid hld2
          have HS3 := Lib.hid e3
          have HK3 := Lib.hid k3
          have HB3 := Lib.hid b3
          have HPS3 := Lib.hid hps3
          have HIN := Lib.hid hin
          have HTS := Lib.hid hts
          have HLJ := Lib.hid hLj
          have j0 : (0 : Int) ≤ j := by omega
          have j1 : (j : Int) < P.length := by omega
          clear hfr hps hPW1 hoV hld2 e3 k3 f3 b3 hps3 hLj hsz3 hin hts
          go_wp2_with (first | (refine wpl_load _ rfl (by first | rfl | simp [Act.eval]) HLD2.out ?_) | (refine wpl_store _ _ rfl (by first | rfl | simp [Act.eval]) (by first | rfl | simp [Act.eval]) HS3.out ?_))
          refine HIN.out.mono ?_
          rintro e v4 ⟨g, cap, rfl, hpv, hgP, f4⟩
          go_upto_region 10 with fail
          have hVP : Pb < V.heap.size := Nat.lt_of_lt_of_le (blk_lt HJ2.out) HFR.out.size
          have hpv' : Pv v2.heap.size v4 Pb (L ++ [newP (p.sh : Int)]) (.slice (some ⟨g, 0, none⟩) (L.length + 1) cap) := by rw [HLJ.out]; exact hpv
          have hps4 := HPS3.out.new hpv' hgP f4
          rw [HLJ.out] at hps4
          have hgB : v2.heap.size ≤ g := (hps4.pv.row.lt g rfl).1
          have hgl : g < v4.heap.size := by
            obtain ⟨cs, t9⟩ := own_tag hps4.pv.row g rfl
            exact blk_lt t9
          have hF4 : Fr v2 v4 (fun k => k = Pb) := (HFR.out.trans (Fr.ofBelow _ HB3.out)).step f4 (fun k q => by
            rcases q with q | q
            · exact .inl q
            · exact .inr (HPS3.out.pv.row.lt k q).1)
          have hPW1 : Pb < V1.heap.size := Nat.lt_of_lt_of_le HPW.out HB1.out.size
          have hbw2 : Below w.heap.size w v2 := bgo HB.out (bgo HB1.out HB2.out)
          have hbw4 : Below w.heap.size w v4 := below_put hbw2 (Nat.le_refl _) hF4 (by have := HN.out; omega)
          have j8 : v4.heap[W.heap.size]? = some (.cells (grA (r, .slice sa r.seen.length sc)) 67 (0, 0)) := (hF4.block W.heap.size (Nat.lt_of_lt_of_le (blk_lt HK1.out) HB2.out.size) (fun q => by have := HPW.out; omega)).trans ((HB2.out.block _ (blk_lt HK1.out)).trans HK1.out)
          have j10 : v4.heap[V.heap.size]? = some (.cells (ptA p) 93 (0, 0)) := (f4.block V.heap.size (blk_lt HK3.out) (fun q => by
            rcases q with q | q
            · omega
            · obtain ⟨cs, t9⟩ := own_tag HPS.out.pv.row _ q
              have := blk_lt t9
              omega)).trans HK3.out
          have hg8 : W.heap.size ≠ g := fun q => by
            have h1 := blk_lt HK1.out
            have h2 := HB2.out.size
            omega
          have hg10 : V.heap.size ≠ g := fun q => by
            obtain ⟨cs, t9⟩ := own_tag hps4.pv.row g rfl
            rw [← q, j10] at t9
            simp only [Option.some.injEq, Obj.cells.injEq] at t9
            exact absurd t9.2.1 (by decide)
          obtain ⟨L4, hL4⟩ : ∃ L4, L ++ [newP (p.sh : Int)] = L4 := ⟨_, rfl⟩
          have hl4 : L4.length = j + 1 := by rw [← hL4, List.length_append, HLJ.out]; rfl
          have hj4 : j < L4.length := by omega
          have he4 : L4[j] = newP (p.sh : Int) := by
            subst hL4
            rw [List.getElem_append_right (by rw [HLJ.out]; exact Nat.le_refl _)]
            simp
          rw [hL4, ← hl4] at hps4
          obtain ⟨Sn, hSn⟩ : ∃ Sn, seenP p.lo p.hi r.seen = Sn := ⟨_, rfl⟩
          have hpr : Pr v2.heap.size v4 g cap L4 j (newP (p.sh : Int)) [⟨p.lo, p.hi, Sn⟩] false v4 := by
            refine ⟨.nil, Fr.refl _ _, ?_, fun _ => rfl, fun e => by cases e⟩
            have e8 : L4.set j ((newP (p.sh : Int)).withR .nil) = L4 := by
              have e7 : (newP (p.sh : Int)).withR .nil = L4[j] := he4.symm
              rw [e7, List.set_getElem_self]
            rw [e8]
            exact hps4.pv.row
          have HPR := Lib.hid hpr
          have HPS4 := Lib.hid hps4
          have HG := Lib.hid (And.intro hgB hgl)
          have HF4 := Lib.hid hF4
          have HW4 := Lib.hid hbw4
          have H8 := Lib.hid (And.intro j8 hg8)
          have H10 := Lib.hid (And.intro j10 hg10)
          have HL4 := Lib.hid (And.intro hl4 (And.intro hj4 he4))
          have HSN := Lib.hid hSn
          have HGW : Hid (w.heap.size ≤ g) := Lib.hid (Nat.le_trans hbw2.size hgB)
          have HS9 : Hid (v2.heap.size ≤ v4.heap.size) := Lib.hid hF4.size
          clear hpv hgP f4 hVP hpv' hps4 hgB hgl hF4 hPW1 hbw2 hbw4 j8 j10 hg8 hg10 hL4 hl4 he4 hSn hpr
          refine wp_region_fb (fun fl X9 => Pr v2.heap.size v4 g cap L4 j (newP (p.sh : Int)) [⟨p.lo, p.hi, Sn⟩] (fl 17) X9) (fun X9 X8 => Fr X9 X8 (fun k => k = g)) [
            fun v9 _ => v9 = .pointer (some ⟨g, j * 3, none⟩),
            fun v9 _ => v9 = .pointer (some ⟨g, j * 3, none⟩),
            fun v9 _ => v9 = .pointer (some ⟨g, j * 3, none⟩),
            fun v9 _ => v9 = .pointer (some ⟨g, j * 3 + 1, none⟩),
            fun v9 _ => v9 = .slice none 0 0,
            fun v9 _ => v9 = .pointer (some ⟨V.heap.size, 1, none⟩),
            fun v9 _ => v9 = .agg #[.string p.lo, .string p.hi],
            fun v9 _ => v9 = .pointer (some ⟨V.heap.size, 1, none⟩),
            fun v9 _ => v9 = .agg #[.string p.lo, .string p.hi],
            fun v9 _ => v9 = .pointer (some ⟨W.heap.size, 2, none⟩),
            fun v9 _ => v9 = .slice sa r.seen.length sc,
            fun v9 X9 => ∃ na nc, v9 = .slice na Sn.length nc ∧ X9.ownsRow v4.heap.size 64 2 (.slice na Sn.length nc) Sn.length (Sn.flatMap smL),
            fun v9 X9 => ∃ na nc, v9 = .agg #[.string p.lo, .string p.hi, .slice na Sn.length nc] ∧ X9.ownsRow v4.heap.size 64 2 (.slice na Sn.length nc) Sn.length (Sn.flatMap smL),
            fun v9 X9 => ∃ b na nc, v9 = .slice (some ⟨b, 0, none⟩) 1 1 ∧ v4.heap.size ≤ b ∧ X9.heap[b]? = some (.cells #[.string p.lo, .string p.hi, .slice na Sn.length nc] 67 (0, 0)) ∧ X9.ownsRow v4.heap.size 64 2 (.slice na Sn.length nc) Sn.length (Sn.flatMap smL),
            fun v9 X9 => ∃ u : Sv, v9 = .slice u.a u.n u.c ∧ RdRow v4.heap.size X9 [⟨p.lo, p.hi, Sn⟩] (.slice u.a u.n u.c),
            fun v9 _ => v9 = .pointer (some ⟨g, j * 3, none⟩),
            fun v9 _ => v9 = .pointer (some ⟨g, j * 3 + 1, none⟩),
            fun _ _ => True]
            (by kernel_rfl) (by kernel_rfl) (by kernel_rfl) ?st ?g0 ?os ?en
          case st => exact ⟨fun _ _ _ _ h => h, fun _ _ _ _ h => h, fun _ _ _ _ h => h, fun _ _ _ _ h => h, fun _ _ _ _ h => h, fun _ _ _ _ h => h, fun _ _ _ _ h => h, fun _ _ _ _ h => h, fun _ _ _ _ h => h, fun _ _ _ _ h => h, fun _ _ _ _ h => h, (fun _ _ _ hb h => by
            obtain ⟨na, nc, e9, h1⟩ := h
            exact ⟨na, nc, e9, row_keep h1 hb (fun i hi q => by
              have := (h1.lt i hi).1
              have h2 := HG.out.2
              have q' : i = g := q
              omega)⟩), (fun _ _ _ hb h => by
            obtain ⟨na, nc, e9, h1⟩ := h
            exact ⟨na, nc, e9, row_keep h1 hb (fun i hi q => by
              have := (h1.lt i hi).1
              have h2 := HG.out.2
              have q' : i = g := q
              omega)⟩), (fun _ _ _ hb h => by
            obtain ⟨b, na, nc, e9, h0, h3, h1⟩ := h
            exact ⟨b, na, nc, e9, h0, (hb.block b (blk_lt h3) (fun q => by
              have h2 := HG.out.2
              have q' : b = g := q
              omega)).trans h3, row_keep h1 hb (fun i hi q => by
              have := (h1.lt i hi).1
              have h2 := HG.out.2
              have q' : i = g := q
              omega)⟩), (fun _ _ _ hb h => by
            obtain ⟨u, e9, h1⟩ := h
            exact ⟨u, e9, h1.fr hb HG.out.2⟩), fun _ _ _ _ h => h, fun _ _ _ _ h => h, fun _ _ _ _ h => h, trivial⟩
          case g0 => exact HPR.out.below ⟨rfl, rfl, rfl, Nat.le_refl _, fun _ _ => rfl⟩
          case os =>
            refine ⟨?_, ?_, ?_, ?_, ?_, ?_, ?_, ?_, ?_, ?_, ?_, ?_, ?_, ?_, ?_, ?_, ?_, ?_, trivial⟩
            · exact fun ρ X9 fl hg hn hl hp ho hc hf hr => .inl ⟨rfl, Runs.val _ (op_move (show ρ (.tmp 11) = .pointer (some ⟨g, j * 3, none⟩) from ho 11 rfl)) ⟨hg, Fr.refl _ _, rfl⟩⟩
            · exact fun ρ X9 fl hg hn hl hp ho hc hf hr => .inl ⟨rfl, Runs.val _ (op_move (show ρ (.tmp 11) = .pointer (some ⟨g, j * 3, none⟩) from ho 11 rfl)) ⟨hg, Fr.refl _ _, rfl⟩⟩
            · exact fun ρ X9 fl hg hn hl hp ho hc hf hr => .inl ⟨rfl, Runs.val _ (op_nil (show ρ (.tmp 37) = .pointer (some ⟨g, j * 3, none⟩) from hr 1 37 rfl rfl)) ⟨hg, Fr.refl _ _, rfl⟩⟩
            · exact fun ρ X9 fl hg hn hl hp ho hc hf hr => .inl ⟨rfl, Runs.val _ (op_f84_1 (show ρ (.tmp 38) = .pointer (some ⟨g, j * 3, none⟩) from hr 2 38 rfl rfl)) ⟨hg, Fr.refl _ _, rfl⟩⟩
            · intro ρ X9 fl hg hn hl hp ho hc hf hr
              have n14 : fl 14 = false := by
                cases h9 : fl 14 with
                | false => rfl
                | true => exact absurd (hl 14 _ 4 rfl rfl h9) (by rw [hn]; decide)
              have n17 : fl 17 = false := by
                cases h9 : fl 17 with
                | false => rfl
                | true => exact absurd (hl 17 _ 14 rfl rfl h9) (by rw [n14]; decide)
              have hG : Pr v2.heap.size v4 g cap L4 j (newP (p.sh : Int)) [⟨p.lo, p.hi, Sn⟩] (fl 17) X9 := hg
              have hF : Fr v4 X9 (fun k => k = g) := (show Pr v2.heap.size v4 g cap L4 j (newP (p.sh : Int)) [⟨p.lo, p.hi, Sn⟩] (fl 17) X9 from hg).fr
              rw [n17] at hG
              exact .inl ⟨rfl, Runs.val _ (op_load22 (show ρ (.tmp 39) = .pointer (some ⟨g, j * 3 + 1, none⟩) from hr 3 39 rfl rfl) (hG.cell HL4.out.2.1).1) ⟨hg, Fr.refl _ _, rfl⟩⟩
            · exact fun ρ X9 fl hg hn hl hp ho hc hf hr => .inl ⟨rfl, Runs.val _ (op_f93_1 (show ρ (.tmp 10) = .pointer (some ⟨V.heap.size, 0, none⟩) from ho 10 rfl)) ⟨hg, Fr.refl _ _, rfl⟩⟩
            · intro ρ X9 fl hg hn hl hp ho hc hf hr
              have hG : Pr v2.heap.size v4 g cap L4 j (newP (p.sh : Int)) [⟨p.lo, p.hi, Sn⟩] (fl 17) X9 := hg
              have hF : Fr v4 X9 (fun k => k = g) := (show Pr v2.heap.size v4 g cap L4 j (newP (p.sh : Int)) [⟨p.lo, p.hi, Sn⟩] (fl 17) X9 from hg).fr
              have h9 : X9.heap[V.heap.size]? = some (.cells (ptA p) 93 (0, 0)) := (hF.block _ (blk_lt H10.out.1) H10.out.2).trans H10.out.1
              exact .inl ⟨rfl, Runs.val _ (op_loadAt (show ρ (.tmp 41) = .pointer (some ⟨V.heap.size, 1, none⟩) from hr 5 41 rfl rfl) (run_loadAt_mid X9 V.heap.size 1 62 [.string p.lo, .string p.hi] _ (fun i u hu => by
                match i, hu with
                | 0, hu => exact (cell_blk h9 1).trans hu
                | 1, hu => exact (cell_blk h9 2).trans hu
                | n + 2, hu => cases hu) Try.underlying62 rfl size62)) ⟨hg, Fr.refl _ _, rfl⟩⟩
            · exact fun ρ X9 fl hg hn hl hp ho hc hf hr => .inl ⟨rfl, Runs.val _ (op_f93_1 (show ρ (.tmp 10) = .pointer (some ⟨V.heap.size, 0, none⟩) from ho 10 rfl)) ⟨hg, Fr.refl _ _, rfl⟩⟩
            · intro ρ X9 fl hg hn hl hp ho hc hf hr
              have hG : Pr v2.heap.size v4 g cap L4 j (newP (p.sh : Int)) [⟨p.lo, p.hi, Sn⟩] (fl 17) X9 := hg
              have hF : Fr v4 X9 (fun k => k = g) := (show Pr v2.heap.size v4 g cap L4 j (newP (p.sh : Int)) [⟨p.lo, p.hi, Sn⟩] (fl 17) X9 from hg).fr
              have h9 : X9.heap[V.heap.size]? = some (.cells (ptA p) 93 (0, 0)) := (hF.block _ (blk_lt H10.out.1) H10.out.2).trans H10.out.1
              exact .inl ⟨rfl, Runs.val _ (op_loadAt (show ρ (.tmp 43) = .pointer (some ⟨V.heap.size, 1, none⟩) from hr 7 43 rfl rfl) (run_loadAt_mid X9 V.heap.size 1 62 [.string p.lo, .string p.hi] _ (fun i u hu => by
                match i, hu with
                | 0, hu => exact (cell_blk h9 1).trans hu
                | 1, hu => exact (cell_blk h9 2).trans hu
                | n + 2, hu => cases hu) Try.underlying62 rfl size62)) ⟨hg, Fr.refl _ _, rfl⟩⟩
            · exact fun ρ X9 fl hg hn hl hp ho hc hf hr => .inl ⟨rfl, Runs.val _ (op_f67_1 (show ρ (.tmp 8) = .pointer (some ⟨W.heap.size, 0, none⟩) from ho 8 rfl)) ⟨hg, Fr.refl _ _, rfl⟩⟩
            · intro ρ X9 fl hg hn hl hp ho hc hf hr
              have hG : Pr v2.heap.size v4 g cap L4 j (newP (p.sh : Int)) [⟨p.lo, p.hi, Sn⟩] (fl 17) X9 := hg
              have hF : Fr v4 X9 (fun k => k = g) := (show Pr v2.heap.size v4 g cap L4 j (newP (p.sh : Int)) [⟨p.lo, p.hi, Sn⟩] (fl 17) X9 from hg).fr
              have h9 := (hF.block _ (blk_lt H8.out.1) H8.out.2).trans H8.out.1
              exact .inl ⟨rfl, Runs.val _ (op_load65 (show ρ (.tmp 45) = .pointer (some ⟨W.heap.size, 2, none⟩) from hr 9 45 rfl rfl) (cell_blk h9 2)) ⟨hg, Fr.refl _ _, rfl⟩⟩
            · intro ρ X9 fl hg hn hl hp ho hc hf hr
              have hG : Pr v2.heap.size v4 g cap L4 j (newP (p.sh : Int)) [⟨p.lo, p.hi, Sn⟩] (fl 17) X9 := hg
              have hF : Fr v4 X9 (fun k => k = g) := (show Pr v2.heap.size v4 g cap L4 j (newP (p.sh : Int)) [⟨p.lo, p.hi, Sn⟩] (fl 17) X9 from hg).fr
              have hX : Lr smE 2 X9 r.seen (.slice sa r.seen.length sc) := HSM.out.on smE_held (below_put HW4.out (Nat.le_refl _) hF HGW.out)
              have hc9 := seen_any (lo := p.lo) (hi := p.hi) hX HSE.out
              rw [HSN.out] at hc9
              refine .inl ⟨rfl, ?_⟩
              refine Runs.goes 44 #[.agg #[.string p.lo, .string p.hi], .slice sa r.seen.length sc] (op_call2 hf (by go_simp) (show ρ (.tmp 44) = .agg #[.string p.lo, .string p.hi] from hr 8 44 rfl rfl) (show ρ (.tmp 46) = .slice sa r.seen.length sc from hr 10 46 rfl rfl)) (hc9.mono ?_)
              rintro e7 w7 ⟨na, nc, rfl, h7, b7⟩
              exact ⟨_, rfl, hG.below b7, Fr.ofBelow _ b7, na, nc, rfl, own_mono h7 hF.size⟩
            · intro ρ X9 fl hg hn hl hp ho hc hf hr
              obtain ⟨na, nc, e9, h9⟩ : ∃ na nc, ρ (.tmp 47) = .slice na Sn.length nc ∧ X9.ownsRow v4.heap.size 64 2 (.slice na Sn.length nc) Sn.length (Sn.flatMap smL) := hr 11 47 rfl rfl
              exact .inl ⟨rfl, Runs.val _ (op_b67 (show ρ (.tmp 42) = .agg #[.string p.lo, .string p.hi] from hr 6 42 rfl rfl) e9) ⟨hg, Fr.refl _ _, na, nc, rfl, h9⟩⟩
            · intro ρ X9 fl hg hn hl hp ho hc hf hr
              have hG : Pr v2.heap.size v4 g cap L4 j (newP (p.sh : Int)) [⟨p.lo, p.hi, Sn⟩] (fl 17) X9 := hg
              have hF : Fr v4 X9 (fun k => k = g) := (show Pr v2.heap.size v4 g cap L4 j (newP (p.sh : Int)) [⟨p.lo, p.hi, Sn⟩] (fl 17) X9 from hg).fr
              obtain ⟨na, nc, e9, h9⟩ : ∃ na nc, ρ (.tmp 48) = .agg #[.string p.lo, .string p.hi, .slice na Sn.length nc] ∧ X9.ownsRow v4.heap.size 64 2 (.slice na Sn.length nc) Sn.length (Sn.flatMap smL) := hr 12 48 rfl rfl
              exact .inl ⟨rfl, Runs.val _ (op_s22 e9) ⟨hG.below (bnew _ _), Fr.ofBelow _ (bnew _ _), X9.heap.size, na, nc, rfl, hF.size, heap_alloc_new _ _, own_below h9 (bnew _ _)⟩⟩
            · intro ρ X9 fl hg hn hl hp ho hc hf hr
              have hG : Pr v2.heap.size v4 g cap L4 j (newP (p.sh : Int)) [⟨p.lo, p.hi, Sn⟩] (fl 17) X9 := hg
              have hF : Fr v4 X9 (fun k => k = g) := (show Pr v2.heap.size v4 g cap L4 j (newP (p.sh : Int)) [⟨p.lo, p.hi, Sn⟩] (fl 17) X9 from hg).fr
              obtain ⟨b, na, nc, e9, h0, h3, h9⟩ : ∃ b na nc, ρ (.tmp 49) = .slice (some ⟨b, 0, none⟩) 1 1 ∧ v4.heap.size ≤ b ∧ X9.heap[b]? = some (.cells #[.string p.lo, .string p.hi, .slice na Sn.length nc] 67 (0, 0)) ∧ X9.ownsRow v4.heap.size 64 2 (.slice na Sn.length nc) Sn.length (Sn.flatMap smL) := hr 13 49 rfl rfl
              obtain ⟨ad, cp, X', hr9, ho9, hb9⟩ := push_gr (B := v4.heap.size) h3 hF.size
              exact .inl ⟨rfl, Runs.val _ (op_append (show ρ (.tmp 40) = .slice none 0 0 from hr 4 40 rfl rfl) e9 hr9) ⟨hG.below hb9, Fr.ofBelow _ hb9, ⟨ad, 1, cp⟩, rfl, ⟨[(⟨p.lo, p.hi, Sn⟩, .slice na Sn.length nc)], rfl, ho9, fun g hg => by
                obtain rfl : g = _ := List.mem_singleton.1 hg
                exact own_below h9 hb9⟩⟩⟩
            · exact fun ρ X9 fl hg hn hl hp ho hc hf hr => .inl ⟨rfl, Runs.val _ (op_nil (show ρ (.tmp 36) = .pointer (some ⟨g, j * 3, none⟩) from hr 0 36 rfl rfl)) ⟨hg, Fr.refl _ _, rfl⟩⟩
            · exact fun ρ X9 fl hg hn hl hp ho hc hf hr => .inl ⟨rfl, Runs.val _ (op_f84_1 (show ρ (.tmp 51) = .pointer (some ⟨g, j * 3, none⟩) from hr 15 51 rfl rfl)) ⟨hg, Fr.refl _ _, rfl⟩⟩
            · intro ρ X9 fl hg hn hl hp ho hc hf hr
              have hG : Pr v2.heap.size v4 g cap L4 j (newP (p.sh : Int)) [⟨p.lo, p.hi, Sn⟩] (fl 17) X9 := hg
              have hF : Fr v4 X9 (fun k => k = g) := (show Pr v2.heap.size v4 g cap L4 j (newP (p.sh : Int)) [⟨p.lo, p.hi, Sn⟩] (fl 17) X9 from hg).fr
              rw [show fl 17 = false from hn] at hG
              obtain ⟨u, e9, h9⟩ : ∃ u : Sv, ρ (.tmp 50) = .slice u.a u.n u.c ∧ RdRow v4.heap.size X9 [⟨p.lo, p.hi, Sn⟩] (.slice u.a u.n u.c) := hr 14 50 rfl rfl
              have hc9 := hG.cell HL4.out.2.1
              refine .inl ⟨rfl, Runs.skips (op_store22 (show ρ (.tmp 52) = .pointer (some ⟨g, j * 3 + 1, none⟩) from hr 16 52 rfl rfl) e9 hc9.1 (hc9.2 _)) ⟨hG.st HL4.out.2.1 HG.out.2 u h9, Fr.set (a := ⟨g, j * 3 + 1, none⟩) (Fr.refl X9 (fun k => k = g)) (.inl rfl) _, trivial⟩⟩
          case en =>
            intro a9 w6 fl hfl hG9 hs9 hd9 ho9 hr9
            obtain ⟨x9, hx, hxt⟩ := act_put hs9 hd9 ho9
            change a9 = putAll _ x9 [36, 37, 38, 39, 40, 41, 42, 43, 44, 45, 46, 47, 48, 49, 50, 51, 52] at hx
            simp only [putAll, Act.put, List.setIfInBounds_toArray, List.set_cons_zero, List.set_cons_succ] at hx
            subst hx
            clear hs9 hd9 ho9 hr9 hxt 
            generalize x9 36 = z36, x9 37 = z37, x9 38 = z38, x9 39 = z39, x9 40 = z40, x9 41 = z41, x9 42 = z42, x9 43 = z43, x9 44 = z44, x9 45 = z45, x9 46 = z46, x9 47 = z47, x9 48 = z48, x9 49 = z49, x9 50 = z50, x9 51 = z51, x9 52 = z52
            have H6 : Pr v2.heap.size v4 g cap L4 j (newP (p.sh : Int)) [⟨p.lo, p.hi, Sn⟩] true w6 := by
              have h9 := hG9
              rw [hfl 17 (by decide)] at h9
              exact h9
            have hr6 := H6.fr
            rw [← HL4.out.2.2] at H6
            have hjs : j < ((P.take j).map (rdOf r) ++ [(⟨(p.sh : Int), [], []⟩ : PP)]).length := by rw [← HPS4.out.ln]; exact HL4.out.2.1
            obtain ⟨L6, hl6, hps6⟩ := HPS4.out.setR HS9.out HL4.out.2.1 hjs H6 (by simp)
            have e6 : ({ ((P.take j).map (rdOf r) ++ [(⟨(p.sh : Int), [], []⟩ : PP)])[j]'hjs with R := [⟨p.lo, p.hi, Sn⟩] } : PP) = rdOf r p := by
              have h5 : ((P.take j).map (rdOf r) ++ [(⟨(p.sh : Int), [], []⟩ : PP)])[j]'hjs = ⟨(p.sh : Int), [], []⟩ := by
                rw [List.getElem_append_right (by rw [List.length_map, List.length_take]; omega)]
                simp
              rw [h5, ← HSN.out]
              rfl
            rw [e6, HTS.out] at hps6
            have HE6 := Lib.hid (And.intro hps6 (HF4.out.step hr6 (fun k q => .inr (by
              have q' : k = g := q
              rw [q']
              exact HG.out.1))))
            clear hG9 hfl H6 hr6 hjs hps6 hl6 e6
            go_wp2
            go_roundw
            case rel => exact ⟨j + 1, L6, _, hlt, by go_num, HE6.out.1, HE6.out.2⟩
            case measure => simp [intOf]; omega
        · obtain rfl : j = P.length := by omega
          have k1 : ¬ (P.length : Int) < (P.length : Int) := by omega
          rw [List.take_length] at hps
          have HPS := Lib.hid hps
          have HFR := Lib.hid hfr
          clear hps hfr
          go_wp2
          go_roundw
          case rel => exact .inr ⟨by go_num, L, v, HPS.out.mono (Nat.le_trans HB.out.size (Nat.le_trans HB1.out.size HB2.out.size)), ((Fr.ofBelow _ (bgo HB1.out HB2.out)).trans HFR.out)⟩
          case measure => simp [intOf]
    · obtain ⟨X3, rfl⟩ : ∃ X3, X3 = wr := ⟨_, rfl⟩
      have hYP : Y ≠ Pb := by have := HN.out; omega
      have y1 : X3.cell? ⟨Y, 1, none⟩ = some (.slice wa 1 wc) := (cell_like (hfr.block Y (blk_lt HJ.out.1) hYP) 1).trans (cell_blk HJ.out.1 1)
      have hbw3 : Below w.heap.size w X3 := below_put HB.out (Nat.le_refl _) hfr (by have := HN.out; omega)
      have HPS := Lib.hid hps
      have HW3 := Lib.hid hbw3
      clear hps hfr hYP hbw3 c0
      go_wp2
      go_loopw [58] (fun iv wr => (iv = .int .i64 0 ∧ wr = X3) ∨ (iv = .int .i64 1 ∧ ∃ L v, PS w.heap.size wr Pb Ls L v ∧ Below w.heap.size w wr)) (fun iv _ => 1 - (intOf iv).toNat)
      case atStart => exact .inl ⟨rfl, rfl⟩
      case round =>
        rcases hrel with ⟨rfl, hwr⟩ | ⟨rfl, L9, v9, hps9, hb9⟩
        · have hwr' := hwr.symm
          subst hwr'
          clear y1 hwr
          obtain ⟨wa1, wc1, e9, _, _, _, hX⟩ := HWR.out
          cases e9
          obtain ⟨b, o, cs', rfl, hbl, hE, _, hcell⟩ := hX 0 (by simp)
          have hcs' : cs' = wrL x := hE
          subst hcs'
          have hld : (Instr.loadAt 69 (.pointer (some ⟨b, o, none⟩))).run Try.prog X3 = .ok (.agg (wrA x)) X3 := run_loadAt_mid X3 b o 69 (wrL x) _ (fun j u hu => cell_on HW3.out (by have := hcell j u hu; simpa using this)) Try.underlying69 rfl size69
          obtain ⟨V5, e5, k5, f5⟩ := st_row (heap_alloc_new X3 (.cells #[.string ⟨#[]⟩, .string ⟨#[]⟩, .bool false] 69)) (us := wrA x) rfl size69 (by simp [Value.oneCell'])
          have b5 : Below X3.heap.size X3 V5 := below_put (bnew X3 _) (Nat.le_refl _) f5 (Nat.le_refl _)
          have q0 : V5.cell? ⟨X3.heap.size, 0, none⟩ = some (.string x.key) := cell_blk k5 0
          have hps5 := HPS.out.on b5
          have hfnd := find_any (HSP.out.on (bgo HW3.out b5)) x.key
          rw [HF.out] at hfnd
          have hkL : k < L.length := by rw [HPS.out.ln, List.length_map]; exact HK.out
          have hkM : k < (P.map (rdOf r)).length := by rw [List.length_map]; exact HK.out
          have hgm : (P.map (rdOf r))[k]'hkM = rdOf r P[k] := List.getElem_map ..
          have hpk := hps5.pt k hkL hkM
          rw [hgm] at hpk
          have hin := in_found hps5.pv hkL (t := (P[k].sh : Int)) hpk.sh
          have hwn : L[k].w = .nil := hpk.wn rfl
          have hset : (P.map (rdOf r)).set k { (P.map (rdOf r))[k]'hkM with W := [x] } = Ls := by
            rw [hgm, ← HLS.out]
            rfl
          have HLD := Lib.hid hld
          have HS5 := Lib.hid e5
          have HK5 := Lib.hid k5
          have HB5 := Lib.hid b5
          have HPS5 := Lib.hid hps5
          have HIN := Lib.hid hin
          have HFND := Lib.hid hfnd
          have HSET := Lib.hid hset
          have HKL := Lib.hid (And.intro hkL hkM)
          have HWN := Lib.hid hwn
          clear hX hcell hld e5 k5 f5 b5 hps5 hfnd hgm hpk hin hset hwn
          generalize P[k].sh = sh at HFND HIN
          go_wp2_with (first | (refine wpl_load _ rfl (by first | rfl | simp [Act.eval]) HLD.out ?_) | (refine wpl_store _ _ rfl (by first | rfl | simp [Act.eval]) (by first | rfl | simp [Act.eval]) HS5.out ?_))
          refine HFND.out.mono ?_
          rintro e v6 ⟨rfl, e6⟩
          have e6' := e6.symm
          subst e6'
          clear e6 q0
          go_wp2_with fail
          refine HIN.out.mono ?_
          rintro e v6 ⟨⟨g, hg, rfl⟩, b6⟩
          go_upto_region 17 with fail
          have hps6 := HPS5.out.on b6
          obtain ⟨cap, rfl⟩ : ∃ cap, v = .slice (some ⟨g, 0, none⟩) L.length cap := by
            rcases hps6.pv.row.2 with ⟨q, _⟩ | ⟨g9, cap, _, q, _⟩
            · rw [q] at hg
              cases hg
            · rw [q] at hg
              simp only [Value.ownBlock, Option.some.injEq] at hg
              exact ⟨cap, by rw [q, hg]⟩
          have hbw6 : Below w.heap.size w v6 := bgo HW3.out (bgo HB5.out b6)
          have hgB : w.heap.size ≤ g := (hps6.pv.row.lt g rfl).1
          have hgl : g < v6.heap.size := by
            obtain ⟨cs, t9⟩ := own_tag hps6.pv.row g rfl
            exact blk_lt t9
          have j13 : v6.heap[X3.heap.size]? = some (.cells (wrA x) 69 (0, 0)) := (b6.block _ (blk_lt HK5.out)).trans HK5.out
          have hg13 : X3.heap.size ≠ g := fun q => by
            obtain ⟨cs, t9⟩ := own_tag hps6.pv.row g rfl
            rw [← q, j13] at t9
            simp only [Option.some.injEq, Obj.cells.injEq] at t9
            exact absurd t9.2.1 (by decide)
          have hkL := HKL.out.1
          have hpw : Pww w.heap.size v6 g cap L k L[k] [x] false v6 := by
            refine ⟨.nil, Fr.refl _ _, ?_, fun _ => HWN.out.symm, fun e => by cases e⟩
            have e8 : L.set k (L[k].withW .nil) = L := by
              have e7 : L[k].withW .nil = L[k] := by
                unfold Gp.withW
                rw [← HWN.out]
              rw [e7, List.set_getElem_self]
            rw [e8]
            exact hps6.pv.row
          have HPW6 := Lib.hid hpw
          have HPS6 := Lib.hid hps6
          have HG := Lib.hid (And.intro hgB hgl)
          have HW6 := Lib.hid hbw6
          have H13 := Lib.hid (And.intro j13 hg13)
          clear hg b6 hps6 hbw6 hgB hgl j13 hg13 hpw
          refine wp_region_fb (fun fl X9 => Pww w.heap.size v6 g cap L k L[k] [x] (fl 10) X9) (fun X9 X8 => Fr X9 X8 (fun k => k = g)) [
            fun v9 _ => v9 = .pointer (some ⟨g, k * 3, none⟩),
            fun v9 _ => v9 = .pointer (some ⟨g, k * 3, none⟩),
            fun v9 _ => v9 = .pointer (some ⟨g, k * 3, none⟩),
            fun v9 _ => v9 = .pointer (some ⟨g, k * 3 + 2, none⟩),
            fun v9 _ => v9 = .slice none 0 0,
            fun v9 _ => v9 = .agg (wrA x),
            fun v9 X9 => ∃ b, v9 = .slice (some ⟨b, 0, none⟩) 1 1 ∧ v6.heap.size ≤ b ∧ X9.heap[b]? = some (.cells (wrA x) 69 (0, 0)),
            fun v9 X9 => ∃ u : Sv, v9 = .slice u.a u.n u.c ∧ X9.ownsRow v6.heap.size 69 3 (.slice u.a u.n u.c) 1 (wrL x),
            fun v9 _ => v9 = .pointer (some ⟨g, k * 3, none⟩),
            fun v9 _ => v9 = .pointer (some ⟨g, k * 3 + 2, none⟩),
            fun _ _ => True]
            (by kernel_rfl) (by kernel_rfl) (by kernel_rfl) ?st ?g0 ?os ?en
          case st => exact ⟨fun _ _ _ _ h => h, fun _ _ _ _ h => h, fun _ _ _ _ h => h, fun _ _ _ _ h => h, fun _ _ _ _ h => h, fun _ _ _ _ h => h, (fun _ _ _ hb h => by
        obtain ⟨b, e9, h0, h3⟩ := h
        exact ⟨b, e9, h0, (hb.block b (blk_lt h3) (fun q => by
          have h2 := HG.out.2
          have q' : b = g := q
          omega)).trans h3⟩), (fun _ _ _ hb h => by
        obtain ⟨u, e9, h1⟩ := h
        exact ⟨u, e9, row_keep h1 hb (fun i hi q => by
          have := (h1.lt i hi).1
          have h2 := HG.out.2
          have q' : i = g := q
          omega)⟩), fun _ _ _ _ h => h, fun _ _ _ _ h => h, fun _ _ _ _ h => h, trivial⟩
          case g0 => exact HPW6.out.below ⟨rfl, rfl, rfl, Nat.le_refl _, fun _ _ => rfl⟩
          case os =>
            refine ⟨?_, ?_, ?_, ?_, ?_, ?_, ?_, ?_, ?_, ?_, ?_, trivial⟩
            · exact fun ρ X9 fl hg hn hl hp ho hc hf hr => .inl ⟨rfl, Runs.val _ (op_move (show ρ (.tmp 14) = .pointer (some ⟨g, k * 3, none⟩) from ho 14 rfl)) ⟨hg, Fr.refl _ _, rfl⟩⟩
            · exact fun ρ X9 fl hg hn hl hp ho hc hf hr => .inl ⟨rfl, Runs.val _ (op_move (show ρ (.tmp 14) = .pointer (some ⟨g, k * 3, none⟩) from ho 14 rfl)) ⟨hg, Fr.refl _ _, rfl⟩⟩
            · exact fun ρ X9 fl hg hn hl hp ho hc hf hr => .inl ⟨rfl, Runs.val _ (op_nil (show ρ (.tmp 69) = .pointer (some ⟨g, k * 3, none⟩) from hr 1 69 rfl rfl)) ⟨hg, Fr.refl _ _, rfl⟩⟩
            · exact fun ρ X9 fl hg hn hl hp ho hc hf hr => .inl ⟨rfl, Runs.val _ (op_f84_2 (show ρ (.tmp 70) = .pointer (some ⟨g, k * 3, none⟩) from hr 2 70 rfl rfl)) ⟨hg, Fr.refl _ _, rfl⟩⟩
            · intro ρ X9 fl hg hn hl hp ho hc hf hr
              have n7 : fl 7 = false := by
                cases h9 : fl 7 with
                | false => rfl
                | true => exact absurd (hl 7 _ 4 rfl rfl h9) (by rw [hn]; decide)
              have n10 : fl 10 = false := by
                cases h9 : fl 10 with
                | false => rfl
                | true => exact absurd (hl 10 _ 7 rfl rfl h9) (by rw [n7]; decide)
              have hG : Pww w.heap.size v6 g cap L k L[k] [x] (fl 10) X9 := hg
              have hF : Fr v6 X9 (fun k => k = g) := (show Pww w.heap.size v6 g cap L k L[k] [x] (fl 10) X9 from hg).fr
              rw [n10] at hG
              have hc9 := (hG.cell HKL.out.1).1
              rw [HWN.out] at hc9
              exact .inl ⟨rfl, Runs.val _ (op_load23 (show ρ (.tmp 71) = .pointer (some ⟨g, k * 3 + 2, none⟩) from hr 3 71 rfl rfl) hc9) ⟨hg, Fr.refl _ _, rfl⟩⟩
            · intro ρ X9 fl hg hn hl hp ho hc hf hr
              have hG : Pww w.heap.size v6 g cap L k L[k] [x] (fl 10) X9 := hg
              have hF : Fr v6 X9 (fun k => k = g) := (show Pww w.heap.size v6 g cap L k L[k] [x] (fl 10) X9 from hg).fr
              exact .inl ⟨rfl, Runs.val _ (op_loadAt (show ρ (.tmp 13) = .pointer (some ⟨X3.heap.size, 0, none⟩) from ho 13 rfl) (load_row ((hF.block _ (blk_lt H13.out.1) H13.out.2).trans H13.out.1) Try.underlying69 rfl size69)) ⟨hg, Fr.refl _ _, rfl⟩⟩
            · intro ρ X9 fl hg hn hl hp ho hc hf hr
              have hG : Pww w.heap.size v6 g cap L k L[k] [x] (fl 10) X9 := hg
              have hF : Fr v6 X9 (fun k => k = g) := (show Pww w.heap.size v6 g cap L k L[k] [x] (fl 10) X9 from hg).fr
              exact .inl ⟨rfl, Runs.val _ (op_s23 (show ρ (.tmp 73) = .agg (wrA x) from hr 5 73 rfl rfl)) ⟨hG.below (bnew _ _), Fr.ofBelow _ (bnew _ _), X9.heap.size, rfl, hF.size, heap_alloc_new _ _⟩⟩
            · intro ρ X9 fl hg hn hl hp ho hc hf hr
              have hG : Pww w.heap.size v6 g cap L k L[k] [x] (fl 10) X9 := hg
              have hF : Fr v6 X9 (fun k => k = g) := (show Pww w.heap.size v6 g cap L k L[k] [x] (fl 10) X9 from hg).fr
              obtain ⟨b, e9, h0, h3⟩ : ∃ b, ρ (.tmp 74) = .slice (some ⟨b, 0, none⟩) 1 1 ∧ v6.heap.size ≤ b ∧ X9.heap[b]? = some (.cells (wrA x) 69 (0, 0)) := hr 6 74 rfl rfl
              obtain ⟨ad, cp, X', hr9, ho9, hb9⟩ := push_wr (B := v6.heap.size) (x := x) h3 hF.size
              exact .inl ⟨rfl, Runs.val _ (op_append (show ρ (.tmp 72) = .slice none 0 0 from hr 4 72 rfl rfl) e9 hr9) ⟨hG.below hb9, Fr.ofBelow _ hb9, ⟨ad, 1, cp⟩, rfl, ho9⟩⟩
            · exact fun ρ X9 fl hg hn hl hp ho hc hf hr => .inl ⟨rfl, Runs.val _ (op_nil (show ρ (.tmp 68) = .pointer (some ⟨g, k * 3, none⟩) from hr 0 68 rfl rfl)) ⟨hg, Fr.refl _ _, rfl⟩⟩
            · exact fun ρ X9 fl hg hn hl hp ho hc hf hr => .inl ⟨rfl, Runs.val _ (op_f84_2 (show ρ (.tmp 76) = .pointer (some ⟨g, k * 3, none⟩) from hr 8 76 rfl rfl)) ⟨hg, Fr.refl _ _, rfl⟩⟩
            · intro ρ X9 fl hg hn hl hp ho hc hf hr
              have hG : Pww w.heap.size v6 g cap L k L[k] [x] (fl 10) X9 := hg
              have hF : Fr v6 X9 (fun k => k = g) := (show Pww w.heap.size v6 g cap L k L[k] [x] (fl 10) X9 from hg).fr
              rw [show fl 10 = false from hn] at hG
              obtain ⟨u, e9, h9⟩ : ∃ u : Sv, ρ (.tmp 75) = .slice u.a u.n u.c ∧ X9.ownsRow v6.heap.size 69 3 (.slice u.a u.n u.c) 1 (wrL x) := hr 7 75 rfl rfl
              have hc9 := hG.cell HKL.out.1
              refine .inl ⟨rfl, Runs.skips (op_store23 (show ρ (.tmp 77) = .pointer (some ⟨g, k * 3 + 2, none⟩) from hr 9 77 rfl rfl) e9 hc9.1 (hc9.2 _)) ⟨hG.st HKL.out.1 HG.out.2 u (by simpa using h9), Fr.set (a := ⟨g, k * 3 + 2, none⟩) (Fr.refl X9 (fun k => k = g)) (.inl rfl) _, trivial⟩⟩
          case en =>
            intro a9 w6 fl hfl hG9 hs9 hd9 ho9 hr9
            obtain ⟨x9, hx, hxt⟩ := act_put hs9 hd9 ho9
            change a9 = putAll _ x9 [68, 69, 70, 71, 72, 73, 74, 75, 76, 77] at hx
            simp only [putAll, Act.put, List.setIfInBounds_toArray, List.set_cons_zero, List.set_cons_succ] at hx
            subst hx
            clear hs9 hd9 ho9 hr9 hxt 
            generalize x9 68 = z68, x9 69 = z69, x9 70 = z70, x9 71 = z71, x9 72 = z72, x9 73 = z73, x9 74 = z74, x9 75 = z75, x9 76 = z76, x9 77 = z77
            have H6 : Pww w.heap.size v6 g cap L k L[k] [x] true w6 := by
              have h9 := hG9
              rw [hfl 10 (by decide)] at h9
              exact h9
            have hr6 := H6.fr
            obtain ⟨L6, hl6, hps6⟩ := HPS6.out.setW HW6.out.size HKL.out.1 HKL.out.2 H6 (by simp)
            rw [HSET.out] at hps6
            have HE6 := Lib.hid (And.intro hps6 (below_put HW6.out (Nat.le_refl _) hr6 HG.out.1))
            clear hG9 hfl H6 hr6 hps6 hl6
            go_wp2
            go_roundw
            case rel => exact .inr ⟨by go_num, L6, _, HE6.out.1, HE6.out.2⟩
            case measure => simp [intOf]
        · obtain ⟨V9, rfl⟩ : ∃ V9, V9 = wr := ⟨_, rfl⟩
          obtain ⟨va, vc, rfl⟩ := own_shape hps9.pv.row
          have t5 : V9.cell? ⟨Pb, 0, none⟩ = some (.slice va L9.length vc) := cell_blk hps9.pv.blk 0
          have hl9 : L9.length = Ls.length := hps9.ln
          have hl0 : ¬ (L9.length : Int) = 0 := by
            rw [hl9, HLL.out]
            have := HK.out
            omega
          have HPS9 := Lib.hid hps9
          have HB9 := Lib.hid hb9
          have HL9 := Lib.hid hl9
          clear hps9 hb9 y1 hl9
          go_wp2
          refine bodyPost_ret (v := .slice va L9.length vc) (by simp [results, Try.results20, go_sem]) rfl ?_
          have h9 := HPS9.out
          have e9 := HL9.out
          have hrow := h9.pv.row
          rw [e9] at hrow ⊢
          exact ⟨va, vc, L9, rfl, e9, hrow, h9.pt, HB9.out⟩
end
end Go.Proofs.Ytfokgalgdlajlaa
