/- The document's Changes: from none to a row. -/
import Derived.Test.YtbepekgaipipjaaSa
namespace Go.Proofs.Ytbepekgaipipjaa
open Go.RowKit
/-- Amid the document's Changes: the table's box, the key value's, the writes so far. -/
structure Cr (w X : World) (K : Nat) (k : V) (Ws : List Wr) (v : Value) : Prop where
  hb : Below w.heap.size w X
  jk : X.heap[K]? = some (.cells (vlA k) 23 (0, 0))
  row : X.ownsRow w.heap.size 78 3 v Ws.length (Ws.flatMap wrL)
structure Cq (w X : World) (K : Nat) (k : V) (Y0 : Nat) (ta : Array Value) (Q P U : Nat) (x : Ix) (v u : V) (Ws : List Wr) (r : Value) : Prop where
  cr : Cr w X K k Ws r
  jt : X.heap[Y0]? = some (.cells ta 55 (0, 0))
  jq : X.heap[Q]? = some (.cells (ixA x) 96 (0, 0))
  jp : X.heap[P]? = some (.cells (vlA v) 23 (0, 0))
  ju : X.heap[U]? = some (.cells (vlA u) 23 (0, 0))
section
variable {w X X' : World} {K Y0 Q P U : Nat} {ta : Array Value} {k v u : Go.Proofs.Ytbepekgaipipjaa.V} {x : Ix} {Ws : List Wr} {r r' : Value}
theorem Cr.below (h : Cr w X K k Ws r) (b : Below X.heap.size X X') : Cr w X' K k Ws r := ⟨h.hb.trans (b.mono h.hb.size), (b.block _ (blk_lt h.jk)).trans h.jk, own_below h.row b⟩
theorem Cr.app (h : Cr w X K k Ws r) {y : Wr} (g : (X.alloc (.cells (wrA y) 78)).grownBy X' r.ownBlock) (ho : X'.ownsRow w.heap.size 78 3 r' (Ws.length + 1) (Ws.flatMap wrL ++ wrL y)) : Cr w X' K k (Ws ++ [y]) r' :=
  ⟨(h.hb.alloc h.hb.size _).grown g (by have := h.hb.size; simp; omega) (fun k hk => (h.row.lt k hk).1), kp_grow h.row y g _ _ _ h.jk (by decide) (by decide), own_wr ho⟩
theorem Cq.below (h : Cq w X K k Y0 ta Q P U x v u Ws r) (b : Below X.heap.size X X') : Cq w X' K k Y0 ta Q P U x v u Ws r :=
  ⟨h.cr.below b, (b.block _ (blk_lt h.jt)).trans h.jt, (b.block _ (blk_lt h.jq)).trans h.jq, (b.block _ (blk_lt h.jp)).trans h.jp, (b.block _ (blk_lt h.ju)).trans h.ju⟩
theorem Cq.app (h : Cq w X K k Y0 ta Q P U x v u Ws r) {y : Wr} (g : (X.alloc (.cells (wrA y) 78)).grownBy X' r.ownBlock) (ho : X'.ownsRow w.heap.size 78 3 r' (Ws.length + 1) (Ws.flatMap wrL ++ wrL y)) : Cq w X' K k Y0 ta Q P U x v u (Ws ++ [y]) r' :=
  ⟨h.cr.app g ho, kp_grow h.cr.row y g _ _ _ h.jt (by decide) (by decide), kp_grow h.cr.row y g _ _ _ h.jq (by decide) (by decide), kp_grow h.cr.row y g _ _ _ h.jp (by decide) (by decide), kp_grow h.cr.row y g _ _ _ h.ju (by decide) (by decide)⟩
end
set_option maxHeartbeats 8000000 in
set_option maxRecDepth 100000 in
theorem rchanges_ft {w : World} {t : Tb} {old new : List Ce} {cv iv kv ov nv' : Value} (h3 : Three w t cv iv kv) (hO : Lr ceE 4 w old ov) (hN : Lr ceE 4 w new nv') (hfO : ∀ c ∈ old, FitC c) (hfN : ∀ c ∈ new, FitC c) (hid : Fit t.id) (hix : ∀ x ∈ t.ixs, Fit x.id) (hln : new.length ≤ 1000) (hli : t.ixs.length ≤ 400) (hok : okC 0 new = true) (hcp : 0 < t.cols.length) (hwas : old.length = 0) (his : 0 < new.length) : Calls Try.prog 29 #[tbV t cv iv kv, ov, nv'] w fun e w' => ∃ v, e = .returned v ∧ Lr wrE 3 w' (changesP t old new) v ∧ Below w.heap.size w w' := by
  obtain ⟨iW, hi, hz0, hz1, hz2⟩ := info_parts info78
  have htb : (t.cols.length : Int) ≤ 9223372036854775807 := by obtain ⟨_, _, _, q⟩ := h3.c.len0; exact q
  obtain ⟨ca, cc, hcv, _⟩ := h3.c.len0
  obtain ⟨ia, ic, hiv, _⟩ := h3.i.len0
  obtain ⟨ka, kc, hkv, _⟩ := h3.k.len0
  subst hcv hiv hkv
  obtain ⟨oa, oc, rfl, hox⟩ := hO.len0
  obtain ⟨na, nc, rfl, hnx⟩ := hN.len0
  obtain ⟨W, hW⟩ : ∃ W, W = w.alloc (.cells #[.int .i64 t.id, .string t.nm, .slice ca t.cols.length cc, .slice ia t.ixs.length ic, .slice ka t.fks.length kc] 55) := ⟨_, rfl⟩
  obtain ⟨Y0, hY0⟩ : ∃ Y, w.heap.size = Y := ⟨_, rfl⟩
  have hbW : Below w.heap.size w W := by rw [hW]; exact bnew _ _
  have j0 : W.heap[Y0]? = some (.cells #[.int .i64 t.id, .string t.nm, .slice ca t.cols.length cc, .slice ia t.ixs.length ic, .slice ka t.fks.length kc] 55 (0, 0)) := by rw [hW, ← hY0]; exact heap_alloc_new w _
  have hput := refPut_any W (hN.on ceE_held hbW) hfN hln
  have HW := Lib.hid hW
  have HY0 := Lib.hid hY0
  have HB := Lib.hid hbW
  have HJ := Lib.hid j0
  have HO := Lib.hid hO
  have HN := Lib.hid hN
  have H3 := Lib.hid h3
  rw [(putS_ok hok).1, (putS_ok hok).2] at hput
  obtain ⟨cb, co, cc2, hcs, hccW⟩ := (h3.c.on colE_held hbW).cols hcp
  cases hcs
  have hHC : chgK t old new = keyV (t.cols[0]'hcp).id old new := chgK_at t old new hcp
  obtain ⟨cid, hcid⟩ : ∃ cid, (t.cols[0]'hcp).id = cid := ⟨_, rfl⟩
  rw [hcid] at hccW hHC
  have HOE : Hid (old.isEmpty = true) := Lib.hid (isE_none hwas)
  have HNE : Hid (new.isEmpty = false) := Lib.hid (isE_some his)
  have HCC := Lib.hid hccW
  have HP : Hid (changesP t old new = headW t new (chgK t old new) :: t.ixs.flatMap (ixW old new (chgK t old new))) := Lib.hid (by
    unfold changesP
    rw [chgB_some hok hcp (.inr his)]
    rfl)
  have hfk : Fit (chgK t old new).n := fit_key hfO hfN
  have hc0 : ((t.cols.length : Int) == 0) = false := by rw [beq_eq_false_iff_ne]; omega
  have hc1 : (0 : Int) < t.cols.length := by omega
  have HOF : Hid (∀ X c, Below w.heap.size w X → Calls Try.prog 31 #[.slice oa old.length oc, .int .i64 c] X fun e w' => e = .returned (vlV (ofP old c)) ∧ Below X.heap.size X w') := Lib.hid fun X c hX => refOf_any c X (hO.on ceE_held hX)
  have HNF : Hid (∀ X c, Below w.heap.size w X → Calls Try.prog 31 #[.slice na new.length nc, .int .i64 c] X fun e w' => e = .returned (vlV (ofP new c)) ∧ Below X.heap.size X w') := Lib.hid fun X c hX => refOf_any c X (hN.on ceE_held hX)
  have HFO : Hid (∀ c, Fit (ofP old c).n) := Lib.hid (fit_of hfO)
  have HFN : Hid (∀ c, Fit (ofP new c).n) := Lib.hid (fit_of hfN)
  have HIX := Lib.hid hix
  have HID := Lib.hid hid
  have HIS := Lib.hid h3.i
  obtain ⟨on, hon⟩ : ∃ on, old.length = on := ⟨_, rfl⟩
  obtain ⟨nn, hnn⟩ : ∃ nn, new.length = nn := ⟨_, rfl⟩
  obtain ⟨RB, hRB⟩ : ∃ RB, bs (rowB new) = RB := ⟨_, rfl⟩
  obtain ⟨kk, hkk⟩ : ∃ kk, chgK t old new = kk := ⟨_, rfl⟩
  have HHW : Hid (headW t new kk = ⟨bs (rowK t.id kk), RB, false⟩) := Lib.hid (by unfold headW; rw [HNE.out, hRB])
  rw [hkk] at hfk HP hHC
  have HKK : Hid (ofP new cid = kk) := Lib.hid (by rw [hHC]; unfold keyV; rw [HOE.out]; rfl)
  rw [hon] at HOF hox hwas ⊢
  rw [hnn] at HNF hput hnx his ⊢
  rw [hRB] at hput
  have HFK := Lib.hid hfk
  subst hwas

  have hn0 : ((nn : Int) == 0) = false := by rw [beq_eq_false_iff_ne]; omega
  have hn1 : 0 < nn := his
  have hmx : (t.ixs.length : Int) ≤ 400 := by omega
  have d2 : W.cell? ⟨Y0, 2, none⟩ = some (.slice (some ⟨cb, co, none⟩) t.cols.length cc) := cell_blk HJ.out 2
  clear hW hY0 hbW j0 hO hN h3 hfO hfN hix hid hln hok hcp hfk hRB hkk  his htb hox hnx hHC hcid hccW hon hnn
  go_enter Try.func29, Try.ntmps29
  go_upto_region 1 with fail
  rw [← HW.out, HY0.out]
  go_wp2_with (go_at_call 23; refine hput.mono ?_; rintro e w1 ⟨rfl, b1⟩; refine Hid.out ?_)
  refine Lib.hid ?_
  have HB1 := Lib.hid (HB.out.trans (b1.mono HB.out.size))
  have J1 := Lib.hid ((b1.block Y0 (blk_lt HJ.out)).trans HJ.out)
  clear hput d2
  have d2 : w1.cell? ⟨Y0, 2, none⟩ = some (.slice (some ⟨cb, co, none⟩) t.cols.length cc) := cell_blk J1.out 2
  have e0 : w1.cell? ⟨cb, co, none⟩ = some (.int .i64 cid) := cell_on b1 HCC.out
  have hof := HOF.out w1 cid HB1.out
  clear b1
  go_upto_region 7 with (go_at_call 31; refine hof.mono ?_; rintro e w2 ⟨rfl, b2⟩; refine Hid.out ?_)
  refine Lib.hid ?_
  obtain ⟨V3, hV3⟩ : ∃ V3, V3 = w2.alloc (.cells (vlA (ofP old cid)) 23) := ⟨_, rfl⟩
  obtain ⟨K, hK⟩ : ∃ K, w2.heap.size = K := ⟨_, rfl⟩
  have bV3 : Below w2.heap.size w2 V3 := by rw [hV3]; exact bnew _ _
  have jK : V3.heap[K]? = some (.cells (vlA (ofP old cid)) 23 (0, 0)) := by rw [hV3, ← hK]; exact heap_alloc_new w2 _
  have b23 := bgo b2 bV3
  have HB3 := Lib.hid (bgo HB1.out b23)
  have J3 := Lib.hid ((b23.block Y0 (blk_lt J1.out)).trans J1.out)
  have JK := Lib.hid jK
  have HKW : Hid (w.heap.size ≤ K) := Lib.hid (by have := (HB1.out.trans (b2.mono HB1.out.size)).size; omega)
  have HE3 := Lib.hid (cell_on b23 e0)
  have HV3 := Lib.hid hV3
  have HK := Lib.hid hK
  clear hof b2 hV3 hK bV3 jK b23 d2 e0
  go_upto_region 7 with fail
  rw [← HV3.out, HK.out]
  have d2 : V3.cell? ⟨Y0, 2, none⟩ = some (.slice (some ⟨cb, co, none⟩) t.cols.length cc) := cell_blk J3.out 2
  have e0 := HE3.out
  have hof := HNF.out V3 cid HB3.out
  rw [HKK.out] at hof
  go_wp2_with (go_at_call 31; refine hof.mono ?_; rintro e w4 ⟨rfl, b4⟩; refine Hid.out ?_)
  refine Lib.hid ?_
  obtain ⟨V5, hst, j', f'⟩ := st_row ((b4.block K (blk_lt JK.out)).trans JK.out) (us := vlA kk) rfl size23 (by simp [Value.oneCell'])
  have HB4 := Lib.hid (HB3.out.trans (b4.mono HB3.out.size))
  have HB5 : Hid (Below w.heap.size w V5) := Lib.hid (HB4.out.trans (f'.toBelow (fun k hk q => by have := HKW.out; omega) HB4.out.size))
  have J5 : Hid (V5.heap[Y0]? = some (.cells #[.int .i64 t.id, .string t.nm, .slice (some ⟨cb, co, none⟩) t.cols.length cc, .slice ia t.ixs.length ic, .slice ka t.fks.length kc] 55 (0, 0))) := Lib.hid (by
    have := (b4.block Y0 (blk_lt J3.out)).trans J3.out
    exact (f'.block Y0 (blk_lt this) (tag_ne this ((b4.block K (blk_lt JK.out)).trans JK.out) (by decide))).trans this)
  have JK5 := Lib.hid j'
  clear hof b4 d2 e0 j' f'
  go_upto_region 9 with (refine wpl_store _ _ rfl (by simp [Act.eval]) (by simp [Act.eval]) hst ?_)
  clear hst
  have y0 : V5.cell? ⟨Y0, 0, none⟩ = some (.int .i64 t.id) := cell_blk J5.out 0
  have k0 : V5.cell? ⟨K, 0, none⟩ = some (.int .i64 kk.k) := cell_blk JK5.out 0
  have k1 : V5.cell? ⟨K, 1, none⟩ = some (.int .i64 kk.n) := cell_blk JK5.out 1
  have k2 : V5.cell? ⟨K, 2, none⟩ = some (.string kk.s) := cell_blk JK5.out 2
  have hrow := refRow_any HID.out HFK.out V5
  go_wp2_with (go_at_call 12; refine hrow.mono ?_; rintro e w6 ⟨rfl, b6⟩; refine Hid.out ?_)
  refine Lib.hid ?_
  obtain ⟨RK, hRK⟩ : ∃ RK, bs (rowK t.id kk) = RK := ⟨_, rfl⟩
  have hRK2 : bs (encS [nv 0, nv t.id, kk]) = RK := hRK
  rw [hRK2]
  obtain ⟨V7, hV7⟩ : ∃ V7, V7 = w6.alloc (.cells #[.string RK, .string RB, .bool false] 78) := ⟨_, rfl⟩
  obtain ⟨R0, hR0⟩ : ∃ R0, w6.heap.size = R0 := ⟨_, rfl⟩
  have bV7 : Below w6.heap.size w6 V7 := by rw [hV7]; exact bnew _ _
  have ho7 : V7.ownsRow w6.heap.size 78 3 (.slice (some ⟨w6.heap.size, 0, none⟩) 1 1) 1 [.string RK, .string RB, .bool false] := by rw [hV7]; exact own_fresh w6 _ 78 3 1 rfl (by unfold maxLen; decide)
  rw [hR0] at ho7
  have HB6 := Lib.hid (HB5.out.trans (b6.mono HB5.out.size))
  have b67 := bgo b6 bV7
  have HC7 : Hid (Cr w V7 K kk [headW t new kk] (.slice (some ⟨R0, 0, none⟩) 1 1)) := Lib.hid ⟨bgo HB5.out b67, (b67.block _ (blk_lt JK5.out)).trans JK5.out, by rw [HHW.out, hRK]; exact own_mono ho7 (by have := HB6.out.size; omega)⟩
  have J7 := Lib.hid ((b67.block Y0 (blk_lt J5.out)).trans J5.out)
  have HV7 := Lib.hid hV7
  have HR0 := Lib.hid hR0
  clear hrow y0 k0 k1 k2 b6 hV7 hR0 bV7 ho7 b67 hRK hRK2
  go_upto_region 10 with fail
  rw [← HV7.out, HR0.out]
  obtain ⟨ta, hta⟩ : ∃ ta : Array Value, #[.int .i64 t.id, .string t.nm, .slice (some ⟨cb, co, none⟩) t.cols.length cc, .slice ia t.ixs.length ic, .slice ka t.fks.length kc] = ta := ⟨_, rfl⟩
  rw [hta] at J7
  go_wp2
  go_loopw [10, 11] (fun rv iv wr => ∃ i : Nat, i ≤ t.ixs.length ∧ iv = .int .i64 (i : Int) ∧ Cr w wr K kk (headW t new kk :: (t.ixs.take i).flatMap (ixW old new kk)) rv ∧ wr.heap[Y0]? = some (.cells ta 55 (0, 0))) (fun _ iv _ => t.ixs.length - (intOf iv).toNat)
  case atStart => exact ⟨0, Nat.zero_le _, rfl, HC7.out, J7.out⟩
  case round =>
    clear HC7 J7
    obtain ⟨i, hi9, rfl, hcs, hjt⟩ := hrel
    have HC := Lib.hid hcs
    have HJT := Lib.hid hjt
    have HTA := Lib.hid hta
    have y3 : wr.cell? ⟨Y0, 3, none⟩ = some (.slice ia t.ixs.length ic) := by rw [← hta] at hjt; exact cell_blk hjt 3
    obtain ⟨ra, rc, hrv⟩ := own_shape hcs.row
    subst hrv
    clear hcs hjt hta
    by_cases hlt : i < t.ixs.length
    · obtain ⟨b, o, cap, hsl, c0, c1, c2, c3, c4⟩ := (HIS.out.on ixE_held HC.out.hb).ixs i hlt
      obtain ⟨hia, hic⟩ : ia = some ⟨b, o, none⟩ ∧ ic = cap := by cases hsl; exact ⟨rfl, rfl⟩
      rw [hia] at y3
      clear hsl
      obtain ⟨x, hx⟩ : ∃ x, t.ixs[i] = x := ⟨_, rfl⟩
      rw [hx] at c0 c1 c2 c3 c4
      have hfx : Fit x.id := by rw [← hx]; exact HIX.out _ (List.getElem_mem hlt)
      have HFX := Lib.hid hfx
      have HX := Lib.hid hx
      have HLT : Hid (i < t.ixs.length) := Lib.hid hlt
      have HIA := Lib.hid hia
      have hlen : (headW t new kk :: (t.ixs.take i).flatMap (ixW old new kk)).length ≤ 900 := by
        have h1 := ixs_len old new kk (t.ixs.take i)
        have h2 : (t.ixs.take i).length ≤ i := List.length_take_le _ _
        simp only [List.length_cons]
        omega
      obtain ⟨Ws, hWs⟩ : ∃ Ws, headW t new kk :: (t.ixs.take i).flatMap (ixW old new kk) = Ws := ⟨_, rfl⟩
      rw [hWs] at HC hlen ⊢
      have HWS := Lib.hid hWs
      have q1 : (i : Int) < t.ixs.length := by omega
      have q0 : (0 : Int) ≤ i := by omega
      obtain ⟨V1, hV1⟩ : ∃ V1, V1 = wr.alloc (.cells (ixA x) 96) := ⟨_, rfl⟩
      obtain ⟨Q, hQ⟩ : ∃ Q, wr.heap.size = Q := ⟨_, rfl⟩
      have bV1 : Below wr.heap.size wr V1 := by rw [hV1]; exact bnew _ _
      have jQ : V1.heap[Q]? = some (.cells (ixA x) 96 (0, 0)) := by rw [hV1, ← hQ]; exact heap_alloc_new wr _
      have JQ := Lib.hid jQ
      have HC1 := Lib.hid (HC.out.below bV1)
      have HJ1 := Lib.hid ((bV1.block Y0 (blk_lt HJT.out)).trans HJT.out)
      have d2 : V1.cell? ⟨Q, 2, none⟩ = some (.int .i64 x.col) := cell_blk jQ 2
      have hof := HOF.out V1 x.col HC1.out.hb
      have HV1 := Lib.hid hV1
      have HQ := Lib.hid hQ
      clear hx hfx hV1 hQ bV1 jQ hWs hia hic
      go_upto_region 14 with fail
      rw [← HV1.out, HQ.out]
      clear c0 c1 c2 c3 c4 y3
      go_upto_region 15 with (go_at_call 31; refine hof.mono ?_; rintro e w2 ⟨rfl, b2⟩; refine Hid.out ?_)
      refine Lib.hid ?_
      obtain ⟨V2, hV2⟩ : ∃ V2, V2 = w2.alloc (.cells (vlA (ofP old x.col)) 23) := ⟨_, rfl⟩
      obtain ⟨P, hP⟩ : ∃ P, w2.heap.size = P := ⟨_, rfl⟩
      have bV2 : Below w2.heap.size w2 V2 := by rw [hV2]; exact bnew _ _
      have jP : V2.heap[P]? = some (.cells (vlA (ofP old x.col)) 23 (0, 0)) := by rw [hV2, ← hP]; exact heap_alloc_new w2 _
      have b22 := bgo b2 bV2
      have HC2 := Lib.hid (HC1.out.below b22)
      have HJ2 := Lib.hid ((b22.block Y0 (blk_lt HJ1.out)).trans HJ1.out)
      have JQ2 := Lib.hid ((b22.block Q (blk_lt JQ.out)).trans JQ.out)
      have JP := Lib.hid jP
      have HV2 := Lib.hid hV2
      have HPP := Lib.hid hP
      clear hof d2 b2 hV2 hP bV2 jP b22
      go_upto_region 15 with fail
      rw [← HV2.out, HPP.out]
      have d2 : V2.cell? ⟨Q, 2, none⟩ = some (.int .i64 x.col) := cell_blk JQ2.out 2
      have hof := HNF.out V2 x.col HC2.out.hb
      go_upto_region 16 with (go_at_call 31; refine hof.mono ?_; rintro e w3 ⟨rfl, b3⟩; refine Hid.out ?_)
      refine Lib.hid ?_
      obtain ⟨V3, hV3⟩ : ∃ V3, V3 = w3.alloc (.cells (vlA (ofP new x.col)) 23) := ⟨_, rfl⟩
      obtain ⟨U, hU9⟩ : ∃ U, w3.heap.size = U := ⟨_, rfl⟩
      have bV3 : Below w3.heap.size w3 V3 := by rw [hV3]; exact bnew _ _
      have jU : V3.heap[U]? = some (.cells (vlA (ofP new x.col)) 23 (0, 0)) := by rw [hV3, ← hU9]; exact heap_alloc_new w3 _
      have b33 := bgo b3 bV3
      have HCK : Hid (Cq w V3 K kk Y0 ta Q P U x (ofP old x.col) (ofP new x.col) Ws (.slice ra Ws.length rc)) := Lib.hid ⟨HC2.out.below b33, (b33.block Y0 (blk_lt HJ2.out)).trans HJ2.out, (b33.block Q (blk_lt JQ2.out)).trans JQ2.out, (b33.block P (blk_lt JP.out)).trans JP.out, jU⟩
      have HV3' := Lib.hid hV3
      have HUU := Lib.hid hU9
      clear hof d2 b3 hV3 hU9 bV3 jU b33
      go_upto_region 16 with fail
      rw [← HV3'.out, HUU.out]
      obtain ⟨v, hv⟩ : ∃ v, ofP old x.col = v := ⟨_, rfl⟩
      obtain ⟨u, hu⟩ : ∃ u, ofP new x.col = u := ⟨_, rfl⟩
      have HFV : Hid (Fit v.n) := Lib.hid (by rw [← hv]; exact HFO.out _)
      have HFU : Hid (Fit u.n) := Lib.hid (by rw [← hu]; exact HFN.out _)
      rw [hv, hu] at HCK
      have HGW : Hid (goneW old kk x = ⟨bs (entK x.id v kk), ⟨#[]⟩, true⟩) := Lib.hid (by unfold goneW; rw [hv]; rfl)
      have HTW : Hid (thereW new kk x = ⟨bs (entK x.id u kk), ⟨#[]⟩, false⟩) := Lib.hid (by unfold thereW; rw [hu]; rfl)
      have HVE := Lib.hid hv
      have HUE := Lib.hid hu
      have HWL : Hid (Ws.length ≤ 900) := Lib.hid hlen
      clear hv hu hlen
      have HGB : Hid (goneB old new x = false) := Lib.hid (by unfold goneB; rw [HOE.out]; rfl)
      by_cases h2 : x.st = 2
      · have hps : putsB x.st = true := by unfold putsB; rw [h2]; rfl
        have s2 : (x.st == 2) = true := by rw [h2]; rfl
        have s3 : True := trivial
        clear h2
        have HTB : Hid (thereB new x = true) := Lib.hid (by unfold thereB; rw [HNE.out, hps]; rfl)
        go_upto_region 18 with fail
        have k0 : V3.cell? ⟨K, 0, none⟩ = some (.int .i64 kk.k) := cell_blk HCK.out.cr.jk 0
        have k1 : V3.cell? ⟨K, 1, none⟩ = some (.int .i64 kk.n) := cell_blk HCK.out.cr.jk 1
        have k2 : V3.cell? ⟨K, 2, none⟩ = some (.string kk.s) := cell_blk HCK.out.cr.jk 2
        have q4 : V3.cell? ⟨Q, 0, none⟩ = some (.int .i64 x.id) := cell_blk HCK.out.jq 0
        have q5 : V3.cell? ⟨Q, 4, none⟩ = some (.int .i64 x.st) := cell_blk HCK.out.jq 4
        go_upto_region 19 with fail
        clear s2 s3
        have u0 : V3.cell? ⟨U, 0, none⟩ = some (.int .i64 u.k) := cell_blk HCK.out.ju 0
        have u1 : V3.cell? ⟨U, 1, none⟩ = some (.int .i64 u.n) := cell_blk HCK.out.ju 1
        have u2 : V3.cell? ⟨U, 2, none⟩ = some (.string u.s) := cell_blk HCK.out.ju 2
        have hen := refEntry_any HFX.out HFU.out HFK.out V3
        go_wp2_with (go_at_call 14; refine hen.mono ?_; rintro e w10 ⟨rfl, b10⟩; refine Hid.out ?_)
        refine Lib.hid ?_
        have HK10 := Lib.hid (HCK.out.below b10)
        clear hen k0 k1 k2 q4 q5 u0 u1 u2 b10
        have hrw := HK10.out.cr.row
        have HSZ : Hid (w.heap.size ≤ w10.heap.size) := Lib.hid HK10.out.cr.hb.size
        go_wp2_with (at_builtin; refine wpList_append_own _ rfl _ _ 57 rfl w.heap.size 78 iW (.agg #[.string ⟨#[]⟩, .string ⟨#[]⟩, .bool false]) 3 40 Try.underlying57 hi hz0 hz1 hz2 rfl (by decide) _ _ _ rfl (hrw.alloc _) ⟨w10.heap.size, 0, none⟩ 1 1 (wrL ⟨bs (encS [nv 1, nv x.id, u, kk]), ⟨#[]⟩, false⟩) rfl rfl (news_wr w10 ⟨bs (encS [nv 1, nv x.id, u, kk]), ⟨#[]⟩, false⟩) (by intro u' hu'; simp at hu'; rcases hu' with rfl | rfl | rfl <;> rfl) (by unfold maxLen; have := HWL.out; omega) (by have := HWL.out; omega) (by have := HSZ.out; simp; omega) ?_; intro v3 w11 hown3 hgrow3 _; refine Hid.out ?_)
        refine Lib.hid ?_
        have HK11 := Lib.hid (HK10.out.app (y := ⟨bs (encS [nv 1, nv x.id, u, kk]), ⟨#[]⟩, false⟩) hgrow3 hown3)
        clear hrw hown3 hgrow3
        go_wp2
        go_roundw
        case rel => exact ⟨i + 1, HLT.out, by go_num, by rw [ixs_more HLT.out HX.out (A := []) (B := [thereW new kk x]) (by unfold ixW; rw [HGB.out, HTB.out]; rfl), HWS.out, HTW.out]; simp only [List.append_nil, entK]; exact HK11.out.cr, HK11.out.jt⟩
        case measure => simp [intOf]; omega
      · have s2 : (x.st == 2) = false := by rw [beq_eq_false_iff_ne]; exact h2
        by_cases h3 : x.st = 3
        · have hps : putsB x.st = true := by unfold putsB; rw [h3]; rfl
          have s3 : (x.st == 3) = true := by rw [h3]; rfl
          clear h2 h3
          have HTB : Hid (thereB new x = true) := Lib.hid (by unfold thereB; rw [HNE.out, hps]; rfl)
          go_upto_region 18 with fail
          have k0 : V3.cell? ⟨K, 0, none⟩ = some (.int .i64 kk.k) := cell_blk HCK.out.cr.jk 0
          have k1 : V3.cell? ⟨K, 1, none⟩ = some (.int .i64 kk.n) := cell_blk HCK.out.cr.jk 1
          have k2 : V3.cell? ⟨K, 2, none⟩ = some (.string kk.s) := cell_blk HCK.out.cr.jk 2
          have q4 : V3.cell? ⟨Q, 0, none⟩ = some (.int .i64 x.id) := cell_blk HCK.out.jq 0
          have q5 : V3.cell? ⟨Q, 4, none⟩ = some (.int .i64 x.st) := cell_blk HCK.out.jq 4
          go_upto_region 19 with fail
          clear s2 s3
          have u0 : V3.cell? ⟨U, 0, none⟩ = some (.int .i64 u.k) := cell_blk HCK.out.ju 0
          have u1 : V3.cell? ⟨U, 1, none⟩ = some (.int .i64 u.n) := cell_blk HCK.out.ju 1
          have u2 : V3.cell? ⟨U, 2, none⟩ = some (.string u.s) := cell_blk HCK.out.ju 2
          have hen := refEntry_any HFX.out HFU.out HFK.out V3
          go_wp2_with (go_at_call 14; refine hen.mono ?_; rintro e w10 ⟨rfl, b10⟩; refine Hid.out ?_)
          refine Lib.hid ?_
          have HK10 := Lib.hid (HCK.out.below b10)
          clear hen k0 k1 k2 q4 q5 u0 u1 u2 b10
          have hrw := HK10.out.cr.row
          have HSZ : Hid (w.heap.size ≤ w10.heap.size) := Lib.hid HK10.out.cr.hb.size
          go_wp2_with (at_builtin; refine wpList_append_own _ rfl _ _ 57 rfl w.heap.size 78 iW (.agg #[.string ⟨#[]⟩, .string ⟨#[]⟩, .bool false]) 3 40 Try.underlying57 hi hz0 hz1 hz2 rfl (by decide) _ _ _ rfl (hrw.alloc _) ⟨w10.heap.size, 0, none⟩ 1 1 (wrL ⟨bs (encS [nv 1, nv x.id, u, kk]), ⟨#[]⟩, false⟩) rfl rfl (news_wr w10 ⟨bs (encS [nv 1, nv x.id, u, kk]), ⟨#[]⟩, false⟩) (by intro u' hu'; simp at hu'; rcases hu' with rfl | rfl | rfl <;> rfl) (by unfold maxLen; have := HWL.out; omega) (by have := HWL.out; omega) (by have := HSZ.out; simp; omega) ?_; intro v3 w11 hown3 hgrow3 _; refine Hid.out ?_)
          refine Lib.hid ?_
          have HK11 := Lib.hid (HK10.out.app (y := ⟨bs (encS [nv 1, nv x.id, u, kk]), ⟨#[]⟩, false⟩) hgrow3 hown3)
          clear hrw hown3 hgrow3
          go_wp2
          go_roundw
          case rel => exact ⟨i + 1, HLT.out, by go_num, by rw [ixs_more HLT.out HX.out (A := []) (B := [thereW new kk x]) (by unfold ixW; rw [HGB.out, HTB.out]; rfl), HWS.out, HTW.out]; simp only [List.append_nil, entK]; exact HK11.out.cr, HK11.out.jt⟩
          case measure => simp [intOf]; omega
        · have hps : putsB x.st = false := by unfold putsB; simp [h2, h3]
          have s3 : (x.st == 3) = false := by rw [beq_eq_false_iff_ne]; exact h3
          clear h2 h3
          have HTB : Hid (thereB new x = false) := Lib.hid (by unfold thereB; rw [HNE.out, hps]; rfl)
          go_upto_region 18 with fail
          have k0 : V3.cell? ⟨K, 0, none⟩ = some (.int .i64 kk.k) := cell_blk HCK.out.cr.jk 0
          have k1 : V3.cell? ⟨K, 1, none⟩ = some (.int .i64 kk.n) := cell_blk HCK.out.cr.jk 1
          have k2 : V3.cell? ⟨K, 2, none⟩ = some (.string kk.s) := cell_blk HCK.out.cr.jk 2
          have q4 : V3.cell? ⟨Q, 0, none⟩ = some (.int .i64 x.id) := cell_blk HCK.out.jq 0
          have q5 : V3.cell? ⟨Q, 4, none⟩ = some (.int .i64 x.st) := cell_blk HCK.out.jq 4
          go_wp2
          go_roundw
          case rel => exact ⟨i + 1, HLT.out, by go_num, by rw [ixs_more HLT.out HX.out (A := []) (B := []) (by unfold ixW; rw [HGB.out, HTB.out]; rfl), HWS.out]; simp only [List.append_nil]; exact HCK.out.cr, HCK.out.jt⟩
          case measure => simp [intOf]; omega
    · have q1 : ¬ ((i : Int) < t.ixs.length) := by omega
      have htk : t.ixs.take i = t.ixs := List.take_of_length_le (by omega)
      have hl := Lr.own wrL_len HC.out.row
      obtain ⟨m, hm⟩ : ∃ m, (headW t new kk :: (t.ixs.take i).flatMap (ixW old new kk)).length = m := ⟨_, rfl⟩
      rw [hm] at hl ⊢
      have HL := Lib.hid hl
      have HTK := Lib.hid htk
      clear htk hm hl
      go_wp2
      go_ret
      refine ⟨_, rfl, ?_, HC.out.hb⟩
      have := HL.out
      rw [HTK.out] at this
      rw [HP.out]
      exact this
end Go.Proofs.Ytbepekgaipipjaa
