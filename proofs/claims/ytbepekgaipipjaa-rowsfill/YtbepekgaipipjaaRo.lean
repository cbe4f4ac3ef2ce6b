/- Changes: from none to a row. -/
import Derived.Test.YtbepekgaipipjaaRn
namespace Go.Proofs.Ytbepekgaipipjaa
open Go.RowKit
/-- Amid a round: besides, the index's box and the two values'. -/
structure Ck (w X : World) (Y0 K D : Nat) (ta : Array Value) (k : V) (Q P U : Nat) (x : Ix) (v u : V) (Ws : List Wr) : Prop where
  cs : Cs w X Y0 K D ta k Ws
  jq : X.heap[Q]? = some (.cells (ixA x) 96 (0, 0))
  jp : X.heap[P]? = some (.cells (vlA v) 23 (0, 0))
  ju : X.heap[U]? = some (.cells (vlA u) 23 (0, 0))
section
variable {w X X' : World} {Y0 K D Q P U : Nat} {ta : Array Value} {k v u : Go.Proofs.Ytbepekgaipipjaa.V} {x : Ix} {Ws Ws' : List Wr}
theorem Ck.below (h : Ck w X Y0 K D ta k Q P U x v u Ws) (b : Below X.heap.size X X') : Ck w X' Y0 K D ta k Q P U x v u Ws :=
  ⟨h.cs.below b, (b.block _ (blk_lt h.jq)).trans h.jq, (b.block _ (blk_lt h.jp)).trans h.jp, (b.block _ (blk_lt h.ju)).trans h.ju⟩
theorem Ck.clo (h : Ck w X Y0 K D ta k Q P U x v u Ws) (ho : Out X' w.heap.size D Ws') (b : Below w.heap.size X X') (hk : Kp X X') : Ck w X' Y0 K D ta k Q P U x v u Ws' :=
  ⟨h.cs.clo ho b hk, hk _ _ _ h.jq (by decide) (by decide), hk _ _ _ h.jp (by decide) (by decide), hk _ _ _ h.ju (by decide) (by decide)⟩
end
theorem Lr.ixs {w : World} {L : List Ix} {v : Value} (h : Lr ixE 5 w L v) : ∀ i (hi : i < L.length), ∃ b o cap, v = .slice (some ⟨b, o, none⟩) L.length cap ∧ w.cell? ⟨b, o + i * 5, none⟩ = some (.int .i64 L[i].id) ∧ w.cell? ⟨b, o + i * 5 + 1, none⟩ = some (.string L[i].nm) ∧ w.cell? ⟨b, o + i * 5 + 2, none⟩ = some (.int .i64 L[i].col) ∧ w.cell? ⟨b, o + i * 5 + 3, none⟩ = some (.bool L[i].uq) ∧ w.cell? ⟨b, o + i * 5 + 4, none⟩ = some (.int .i64 L[i].st) := by
  obtain ⟨ad, cap, rfl, _, _, _, hh⟩ := h
  intro i hi
  obtain ⟨b, o, cs, rfl, _, hE, _, hc⟩ := hh i hi
  have hE' : cs = ixL L[i] := hE
  subst hE'
  exact ⟨b, o, cap, rfl, hc 0 _ rfl, hc 1 _ rfl, hc 2 _ rfl, hc 3 _ rfl, hc 4 _ rfl⟩
theorem ixs_more {L : List Ix} {i : Nat} (hi : i < L.length) {f : Ix → List Wr} {h : Wr} {x : Ix} (hx : L[i] = x) {A B : List Wr} (e : f x = A ++ B) : (h :: (L.take (i + 1)).flatMap f) = ((h :: (L.take i).flatMap f) ++ A) ++ B := by
  rw [ixs_take hi, hx, e]
  simp
theorem isE_some {L : List Ce} (h : 0 < L.length) : L.isEmpty = false := by cases L with | nil => simp at h | cons c r => rfl
theorem isE_none {L : List Ce} (h : L.length = 0) : L.isEmpty = true := by rw [List.eq_nil_of_length_eq_zero h]; rfl
set_option maxHeartbeats 8000000 in
set_option maxRecDepth 100000 in
theorem changes_ft {w : World} {t : Tb} {old new : List Ce} {cv iv kv ov nv' : Value} (h3 : Three w t cv iv kv) (hO : Lr ceE 4 w old ov) (hN : Lr ceE 4 w new nv') (hfO : ∀ c ∈ old, FitC c) (hfN : ∀ c ∈ new, FitC c) (hid : Fit t.id) (hix : ∀ x ∈ t.ixs, Fit x.id) (hln : new.length ≤ 1000) (hli : t.ixs.length ≤ 400) (hok : okC 0 new = true) (hcp : 0 < t.cols.length) (hwas : old.length = 0) (his : 0 < new.length) : Calls Try.prog 28 #[tbV t cv iv kv, ov, nv'] w fun e w' => ∃ v, e = .returned v ∧ Lr wrE 3 w' (changesP t old new) v ∧ Below w.heap.size w w' := by
  have htb : (t.cols.length : Int) ≤ 9223372036854775807 := by obtain ⟨_, _, _, q⟩ := h3.c.len0; exact q
  obtain ⟨ca, cc, hcv, _⟩ := h3.c.len0
  obtain ⟨ia, ic, hiv, _⟩ := h3.i.len0
  obtain ⟨ka, kc, hkv, _⟩ := h3.k.len0
  subst hcv hiv hkv
  obtain ⟨oa, oc, rfl, hox⟩ := hO.len0
  obtain ⟨na, nc, rfl, hnx⟩ := hN.len0
  obtain ⟨W, hW⟩ : ∃ W, W = w.alloc (.cells #[.int .i64 t.id, .string t.nm, .slice ca t.cols.length cc, .slice ia t.ixs.length ic, .slice ka t.fks.length kc] 55) := ⟨_, rfl⟩
  obtain ⟨Y0, hY0⟩ : ∃ Y, w.heap.size = Y := ⟨_, rfl⟩
  have hbW : Below w.heap.size w W := by rw [hW]; exact bnew _ _
  have j0 : W.heap[Y0]? = some (.cells #[.int .i64 t.id, .string t.nm, .slice ca t.cols.length cc, .slice ia t.ixs.length ic, .slice ka t.fks.length kc] 55 (0, 0)) := by rw [hW, ← hY0]; exact heap_alloc_new w _
  have hput := put_any W (hN.on ceE_held hbW) hfN hln
  have HW := Lib.hid hW
  have HY0 := Lib.hid hY0
  have HB := Lib.hid hbW
  have HJ := Lib.hid j0
  have HO := Lib.hid hO
  have HN := Lib.hid hN
  have H3 := Lib.hid h3
  rw [(putS_ok hok).1, (putS_ok hok).2] at hput
  have HOE : Hid (old.isEmpty = true) := Lib.hid (isE_none hwas)
  have HNE : Hid (new.isEmpty = false) := Lib.hid (isE_some his)
  have HP : Hid (changesP t old new = headW t new (chgK t old new) :: t.ixs.flatMap (ixW old new (chgK t old new))) := Lib.hid (by
    unfold changesP
    rw [chgB_some hok hcp (.inr his)]
    rfl)
  have hfk : Fit (chgK t old new).n := fit_key hfO hfN
  have hc0 : ((t.cols.length : Int) == 0) = false := by rw [beq_eq_false_iff_ne]; omega
  have HKV : Hid (∀ X, Below w.heap.size w X → Calls Try.prog 48 #[tbV t (.slice ca t.cols.length cc) (.slice ia t.ixs.length ic) (.slice ka t.fks.length kc), .slice oa old.length oc, .slice na new.length nc] X fun e w' => e = .returned (vlV (chgK t old new)) ∧ Below X.heap.size X w') := Lib.hid fun X hX => keyV_any (h3.on hX) (hO.on ceE_held hX) (hN.on ceE_held hX) hcp
  have HOF : Hid (∀ X c, Below w.heap.size w X → Calls Try.prog 30 #[.slice oa old.length oc, .int .i64 c] X fun e w' => e = .returned (vlV (ofP old c)) ∧ Below X.heap.size X w') := Lib.hid fun X c hX => of_any c X (hO.on ceE_held hX)
  have HNF : Hid (∀ X c, Below w.heap.size w X → Calls Try.prog 30 #[.slice na new.length nc, .int .i64 c] X fun e w' => e = .returned (vlV (ofP new c)) ∧ Below X.heap.size X w') := Lib.hid fun X c hX => of_any c X (hN.on ceE_held hX)
  have HFO : Hid (∀ c, Fit (ofP old c).n) := Lib.hid (fit_of hfO)
  have HFN : Hid (∀ c, Fit (ofP new c).n) := Lib.hid (fit_of hfN)
  have HIX := Lib.hid hix
  have HID := Lib.hid hid
  have HIS := Lib.hid h3.i
  obtain ⟨on, hon⟩ : ∃ on, old.length = on := ⟨_, rfl⟩
  obtain ⟨nn, hnn⟩ : ∃ nn, new.length = nn := ⟨_, rfl⟩
  obtain ⟨RB, hRB⟩ : ∃ RB, bs (rowB new) = RB := ⟨_, rfl⟩
  have HRB := Lib.hid hRB
  obtain ⟨kk, hkk⟩ : ∃ kk, chgK t old new = kk := ⟨_, rfl⟩
  have HHW : Hid (headW t new kk = ⟨bs (rowK t.id kk), RB, false⟩) := Lib.hid (by unfold headW; rw [HNE.out, hRB])
  rw [hkk] at hfk HP
  rw [hon, hnn, hkk] at HKV
  rw [hon] at HOF hox hwas ⊢
  rw [hnn] at HNF hput hnx his ⊢
  rw [hRB] at hput
  have HFK := Lib.hid hfk
  subst hwas
  have hn1 : 0 < nn := his
  have hmx : (t.ixs.length : Int) ≤ 400 := by omega
  clear hW hY0 hbW j0 hO hN h3 hfO hfN hix hid hln hok hcp hfk hRB hkk  his htb hox hnx
  go_enter Try.func28, Try.ntmps28
  go_upto_region 1 with fail
  rw [← HW.out, HY0.out]
  go_upto_region 3 with (go_at_call 22; refine hput.mono ?_; rintro e w1 ⟨rfl, b1⟩; refine Hid.out ?_)
  refine Lib.hid ?_
  have HB1 := Lib.hid (HB.out.trans (b1.mono HB.out.size))
  have J1 := Lib.hid ((b1.block Y0 (blk_lt HJ.out)).trans HJ.out)
  have d2 : w1.cell? ⟨Y0, 2, none⟩ = some (.slice ca t.cols.length cc) := cell_blk J1.out 2
  obtain ⟨V1, hV1⟩ : ∃ V1, V1 = w1.alloc (.cells #[.slice none 0 0] 57) := ⟨_, rfl⟩
  obtain ⟨D, hD⟩ : ∃ D, w1.heap.size = D := ⟨_, rfl⟩
  have bV1 : Below w1.heap.size w1 V1 := by rw [hV1]; exact bnew _ _
  have jD : V1.heap[D]? = some (.cells #[.slice none 0 0] 57 (0, 0)) := by rw [hV1, ← hD]; exact heap_alloc_new w1 _
  have JD := Lib.hid jD
  have HDW : Hid (w.heap.size ≤ D) := Lib.hid (by have := HB1.out.size; omega)
  have HV1 := Lib.hid hV1
  have HD := Lib.hid hD
  have HB2 := Lib.hid (bgo HB1.out bV1)
  have J2 := Lib.hid ((bV1.block Y0 (blk_lt J1.out)).trans J1.out)
  clear hput b1 hV1 hD bV1 jD
  go_upto_region 6 with fail
  rw [← HV1.out, HD.out]
  have y0 : V1.cell? ⟨Y0, 0, none⟩ = some (.int .i64 t.id) := cell_blk J2.out 0
  have y1 : V1.cell? ⟨Y0, 1, none⟩ = some (.string t.nm) := cell_blk J2.out 1
  have y2 : V1.cell? ⟨Y0, 2, none⟩ = some (.slice ca t.cols.length cc) := cell_blk J2.out 2
  have y3 : V1.cell? ⟨Y0, 3, none⟩ = some (.slice ia t.ixs.length ic) := cell_blk J2.out 3
  have y4 : V1.cell? ⟨Y0, 4, none⟩ = some (.slice ka t.fks.length kc) := cell_blk J2.out 4
  have hkv := HKV.out V1 HB2.out
  unfold tbV at hkv
  clear d2
  go_upto_region 9 with (go_at_call 48; refine hkv.mono ?_; rintro e w2 ⟨rfl, b2⟩; refine Hid.out ?_)
  refine Lib.hid ?_
  obtain ⟨V3, hV3⟩ : ∃ V3, V3 = w2.alloc (.cells (vlA kk) 23) := ⟨_, rfl⟩
  obtain ⟨K, hK⟩ : ∃ K, w2.heap.size = K := ⟨_, rfl⟩
  have bV3 : Below w2.heap.size w2 V3 := by rw [hV3]; exact bnew _ _
  have jK : V3.heap[K]? = some (.cells (vlA kk) 23 (0, 0)) := by rw [hV3, ← hK]; exact heap_alloc_new w2 _
  have b23 := bgo b2 bV3
  have HC : Hid (Cs w V3 Y0 K D #[.int .i64 t.id, .string t.nm, .slice ca t.cols.length cc, .slice ia t.ixs.length ic, .slice ka t.fks.length kc] kk []) := Lib.hid ⟨bgo HB2.out b23, ⟨_, (b23.block D (blk_lt JD.out)).trans JD.out, World.ownsRow_nil _ _ _ _⟩, (b23.block Y0 (blk_lt J2.out)).trans J2.out, jK, HDW.out⟩
  have HV3 := Lib.hid hV3
  have HK := Lib.hid hK
  clear hkv y0 y1 y2 y3 y4 b2 hV3 hK bV3 jK b23
  go_upto_region 10 with fail
  rw [← HV3.out, HK.out]
  have y0 : V3.cell? ⟨Y0, 0, none⟩ = some (.int .i64 t.id) := cell_blk HC.out.jt 0
  have k0 : V3.cell? ⟨K, 0, none⟩ = some (.int .i64 kk.k) := cell_blk HC.out.jk 0
  have k1 : V3.cell? ⟨K, 1, none⟩ = some (.int .i64 kk.n) := cell_blk HC.out.jk 1
  have k2 : V3.cell? ⟨K, 2, none⟩ = some (.string kk.s) := cell_blk HC.out.jk 2
  have hrow := row_any HID.out HFK.out V3
  go_wp2_with (go_at_call 11; refine hrow.mono ?_; rintro e w4 ⟨rfl, b4⟩; refine Hid.out ?_)
  refine Lib.hid ?_
  have HC4 := Lib.hid (HC.out.below b4)
  have hclo := clo_put (bs (rowK t.id kk)) RB HC4.out.out HC4.out.hb.size HC4.out.hD (by simp)
  clear hrow y0 k0 k1 k2 b4
  unfold rowK at hclo
  go_upto_region 12 with (go_at_call 46; refine hclo.mono ?_; rintro e w5 ⟨rfl, ho5, b5, kp5⟩; refine Hid.out ?_)
  refine Lib.hid ?_
  have HC5 : Hid (Cs w w5 Y0 K D #[.int .i64 t.id, .string t.nm, .slice ca t.cols.length cc, .slice ia t.ixs.length ic, .slice ka t.fks.length kc] kk [headW t new kk]) := Lib.hid (by
    have := HC4.out.clo ho5 b5 kp5
    rw [HHW.out]
    exact this)
  clear hclo ho5 b5 kp5 HC HC4
  have y3 : w5.cell? ⟨Y0, 3, none⟩ = some (.slice ia t.ixs.length ic) := cell_blk HC5.out.jt 3
  go_wp2
  clear y3
  obtain ⟨ta, hta⟩ : ∃ ta : Array Value, #[.int .i64 t.id, .string t.nm, .slice ca t.cols.length cc, .slice ia t.ixs.length ic, .slice ka t.fks.length kc] = ta := ⟨_, rfl⟩
  rw [hta] at HC5
  clear hta
  go_loopw [69] (fun iv wr => ∃ i : Nat, i ≤ t.ixs.length ∧ iv = .int .i64 (i : Int) ∧ Cs w wr Y0 K D ta kk (headW t new kk :: (t.ixs.take i).flatMap (ixW old new kk))) (fun iv _ => t.ixs.length - (intOf iv).toNat)
  case atStart => exact ⟨0, Nat.zero_le _, rfl, HC5.out⟩
  case round =>
    clear HC5
    obtain ⟨i, hi, rfl, hcs⟩ := hrel
    have HC := Lib.hid hcs
    clear hcs
    by_cases hlt : i < t.ixs.length
    · obtain ⟨b, o, cap, hsl, c0, c1, c2, c3, c4⟩ := (HIS.out.on ixE_held HC.out.hb).ixs i hlt
      cases hsl
      obtain ⟨x, hx⟩ : ∃ x, t.ixs[i] = x := ⟨_, rfl⟩
      rw [hx] at c0 c1 c2 c3 c4
      have hfx : Fit x.id := by rw [← hx]; exact HIX.out _ (List.getElem_mem hlt)
      have HFX := Lib.hid hfx
      have HX := Lib.hid hx
      have HLT : Hid (i < t.ixs.length) := Lib.hid hlt
      have hlen : (headW t new kk :: (t.ixs.take i).flatMap (ixW old new kk)).length ≤ 900 := by
        have h1 := ixs_len old new kk (t.ixs.take i)
        have h2 : (t.ixs.take i).length ≤ i := List.length_take_le _ _
        simp only [List.length_cons]
        omega
      have HLN := Lib.hid hlen
      have q1 : (i : Int) < t.ixs.length := by omega
      have q0 : (0 : Int) ≤ i := by omega
      obtain ⟨V1, hV1⟩ : ∃ V1, V1 = wr.alloc (.cells (ixA x) 96) := ⟨_, rfl⟩
      obtain ⟨Q, hQ⟩ : ∃ Q, wr.heap.size = Q := ⟨_, rfl⟩
      have bV1 : Below wr.heap.size wr V1 := by rw [hV1]; exact bnew _ _
      have jQ : V1.heap[Q]? = some (.cells (ixA x) 96 (0, 0)) := by rw [hV1, ← hQ]; exact heap_alloc_new wr _
      have JQ := Lib.hid jQ
      have HC1 := Lib.hid (HC.out.below bV1)
      have d2 : V1.cell? ⟨Q, 2, none⟩ = some (.int .i64 x.col) := cell_blk jQ 2
      have HV1 := Lib.hid hV1
      have HQ := Lib.hid hQ
      clear hx hfx hlen hV1 hQ bV1 jQ
      go_upto_region 15 with fail
      rw [← HV1.out, HQ.out]
      clear c0 c1 c2 c3 c4
      refine wp_region_gs (fun fl r X9 => G15 V1 (ofP old x.col) (ofP new x.col) (fl 8) (fl 9) (fl 10) (fl 11) (r 17) (r 18) X9) (fun _ _ => True) [
        fun v9 _ => v9 = .slice oa 0 oc,
        fun v9 _ => v9 = .pointer (some ⟨Q, 2, none⟩),
        fun v9 _ => v9 = .int .i64 x.col,
        fun v9 _ => v9 = vlV (ofP old x.col),
        fun v9 _ => v9 = .slice na nn nc,
        fun v9 _ => v9 = .pointer (some ⟨Q, 2, none⟩),
        fun v9 _ => v9 = .int .i64 x.col,
        fun v9 _ => v9 = vlV (ofP new x.col),
        fun _ _ => True,
        fun _ _ => True,
        fun _ _ => True,
        fun _ _ => True]
        (by kernel_rfl) (by kernel_rfl) (by kernel_rfl) ?st ?g0 ?os ?en
      case st => exact ⟨fun _ _ _ _ h => h, fun _ _ _ _ h => h, fun _ _ _ _ h => h, fun _ _ _ _ h => h, fun _ _ _ _ h => h, fun _ _ _ _ h => h, fun _ _ _ _ h => h, fun _ _ _ _ h => h, fun _ _ _ _ h => h, fun _ _ _ _ h => h, fun _ _ _ _ h => h, fun _ _ _ _ h => h, trivial⟩
      case g0 => exact ⟨⟨rfl, rfl, rfl, Nat.le_refl _, fun _ _ => rfl⟩, fun e => (by cases e), fun e => (by cases e), fun e => (by cases e)⟩
      case os =>
        refine ⟨?_, ?_, ?_, ?_, ?_, ?_, ?_, ?_, ?_, ?_, ?_, ?_, trivial⟩
        · exact fun ρ X9 fl hg hn hl hp ho hc hf hr => .inl ⟨rfl, Runs.val _ (op_move (show ρ (.tmp 1) = .slice oa 0 oc from ho 1 rfl)) ⟨fun r' h1 h2 => G15.same hg (Below.refl _ _) (h1 17 (by decide)) (h1 18 (by decide)), trivial, rfl⟩⟩
        · exact fun ρ X9 fl hg hn hl hp ho hc hf hr => .inl ⟨rfl, Runs.val _ (op_f96_2 (show ρ (.tmp 16) = .pointer (some ⟨Q, 0, none⟩) from ho 16 rfl)) ⟨fun r' h1 h2 => G15.same hg (Below.refl _ _) (h1 17 (by decide)) (h1 18 (by decide)), trivial, rfl⟩⟩
        · exact fun ρ X9 fl hg hn hl hp ho hc hf hr => .inl ⟨rfl, Runs.val _ (op_load3 (show ρ (.tmp 74) = .pointer (some ⟨Q, 2, none⟩) from hr 1 74 rfl rfl) (cell_on hg.hb d2)) ⟨fun r' h1 h2 => G15.same hg (Below.refl _ _) (h1 17 (by decide)) (h1 18 (by decide)), trivial, rfl⟩⟩
        · intro ρ X9 fl hg hn hl hp ho hc hf hr
          refine .inl ⟨rfl, ?_⟩
          refine Runs.goes 30 #[.slice oa 0 oc, .int .i64 x.col] (op_call2 hf (by go_simp) (show ρ (.tmp 73) = .slice oa 0 oc from hr 0 73 rfl rfl) (show ρ (.tmp 75) = .int .i64 x.col from hr 2 75 rfl rfl)) ((HOF.out X9 _ (HC1.out.hb.trans (hg.hb.mono HC1.out.hb.size))).mono ?_)
          rintro e7 w7 ⟨rfl, b7⟩
          exact ⟨_, rfl, fun r' h1 h2 => G15.same hg b7 (h1 17 (by decide)) (h1 18 (by decide)), trivial, rfl⟩
        · exact fun ρ X9 fl hg hn hl hp ho hc hf hr => .inl ⟨rfl, Runs.val _ (op_move (show ρ (.tmp 2) = .slice na nn nc from ho 2 rfl)) ⟨fun r' h1 h2 => G15.same hg (Below.refl _ _) (h1 17 (by decide)) (h1 18 (by decide)), trivial, rfl⟩⟩
        · exact fun ρ X9 fl hg hn hl hp ho hc hf hr => .inl ⟨rfl, Runs.val _ (op_f96_2 (show ρ (.tmp 16) = .pointer (some ⟨Q, 0, none⟩) from ho 16 rfl)) ⟨fun r' h1 h2 => G15.same hg (Below.refl _ _) (h1 17 (by decide)) (h1 18 (by decide)), trivial, rfl⟩⟩
        · exact fun ρ X9 fl hg hn hl hp ho hc hf hr => .inl ⟨rfl, Runs.val _ (op_load3 (show ρ (.tmp 78) = .pointer (some ⟨Q, 2, none⟩) from hr 5 78 rfl rfl) (cell_on hg.hb d2)) ⟨fun r' h1 h2 => G15.same hg (Below.refl _ _) (h1 17 (by decide)) (h1 18 (by decide)), trivial, rfl⟩⟩
        · intro ρ X9 fl hg hn hl hp ho hc hf hr
          refine .inl ⟨rfl, ?_⟩
          refine Runs.goes 30 #[.slice na nn nc, .int .i64 x.col] (op_call2 hf (by go_simp) (show ρ (.tmp 77) = .slice na nn nc from hr 4 77 rfl rfl) (show ρ (.tmp 79) = .int .i64 x.col from hr 6 79 rfl rfl)) ((HNF.out X9 _ (HC1.out.hb.trans (hg.hb.mono HC1.out.hb.size))).mono ?_)
          rintro e7 w7 ⟨rfl, b7⟩
          exact ⟨_, rfl, fun r' h1 h2 => G15.same hg b7 (h1 17 (by decide)) (h1 18 (by decide)), trivial, rfl⟩
        · intro ρ X9 fl hg hn hl hp ho hc hf hr
          have hz : fl 10 = false := (by cases h9 : fl 10 with | false => rfl | true => exact absurd (hl 10 _ 8 rfl rfl h9) (by rw [hn]; decide))
          exact .inl ⟨rfl, Runs.val _ op_alloc23 ⟨fun r' h1 h2 => G15.new1 hg hz (h2 17 rfl) (h1 18 (by decide)), trivial, trivial⟩⟩
        · intro ρ X9 fl hg hn hl hp ho hc hf hr
          have hz : fl 11 = false := (by cases h9 : fl 11 with | false => rfl | true => exact absurd (hl 11 _ 9 rfl rfl h9) (by rw [hn]; decide))
          exact .inl ⟨rfl, Runs.val _ op_alloc23 ⟨fun r' h1 h2 => G15.new2 hg hz (h1 17 (by decide)) (h2 18 rfl), trivial, trivial⟩⟩
        · intro ρ X9 fl hg hn hl hp ho hc hf hr
          refine .inl ⟨rfl, ?_⟩
          have hg1 : G15 V1 (ofP old x.col) (ofP new x.col) (fl 8) (fl 9) (fl 10) (fl 11) ((fun t => ρ (.tmp t)) 17) ((fun t => ρ (.tmp t)) 18) X9 := hg
          rw [hp 8 rfl, hn] at hg1
          obtain ⟨F, e1, X', hst, h'⟩ := hg1.st1
          exact Runs.skips (op_storeAt e1 (show ρ (.tmp 76) = vlV (ofP old x.col) from hr 3 76 rfl rfl) hst) ⟨fun r' h1 h2 => by
            show G15 V1 (ofP old x.col) (ofP new x.col) ((upd fl 10) 8) ((upd fl 10) 9) ((upd fl 10) 10) ((upd fl 10) 11) (r' 17) (r' 18) X'
            rw [h1 17 (by decide), h1 18 (by decide)]
            have e9 : upd fl 10 8 = true := hp 8 rfl
            rw [e9]
            exact h', trivial, trivial⟩
        · intro ρ X9 fl hg hn hl hp ho hc hf hr
          refine .inl ⟨rfl, ?_⟩
          have hg1 : G15 V1 (ofP old x.col) (ofP new x.col) (fl 8) (fl 9) (fl 10) (fl 11) ((fun t => ρ (.tmp t)) 17) ((fun t => ρ (.tmp t)) 18) X9 := hg
          rw [hp 9 rfl, hn] at hg1
          obtain ⟨F, e1, X', hst, h'⟩ := hg1.st2
          exact Runs.skips (op_storeAt e1 (show ρ (.tmp 80) = vlV (ofP new x.col) from hr 7 80 rfl rfl) hst) ⟨fun r' h1 h2 => by
            show G15 V1 (ofP old x.col) (ofP new x.col) ((upd fl 11) 8) ((upd fl 11) 9) ((upd fl 11) 10) ((upd fl 11) 11) (r' 17) (r' 18) X'
            rw [h1 17 (by decide), h1 18 (by decide)]
            have e9 : upd fl 11 9 = true := hp 9 rfl
            rw [e9]
            exact h', trivial, trivial⟩
      case en =>
        intro a9 w6 fl hfl hg6 hs9 hd9 ho9 hr9
        obtain ⟨x9, hx, hxt⟩ := act_put hs9 hd9 ho9
        have hG : G15 V1 (ofP old x.col) (ofP new x.col) (fl 8) (fl 9) (fl 10) (fl 11) ((fun t => a9.tmps.getD t undef) 17) ((fun t => a9.tmps.getD t undef) 18) w6 := hg6
        simp only [hxt] at hG
        rw [hfl 8 (by decide), hfl 9 (by decide), hfl 10 (by decide), hfl 11 (by decide)] at hG
        obtain ⟨P, e17, _, jP⟩ := hG.hp rfl
        obtain ⟨U, e18, _, jU⟩ := hG.hq rfl
        have HCK : Hid (Ck w w6 Y0 K D ta kk Q P U x (ofP old x.col) (ofP new x.col) (headW t new kk :: (t.ixs.take i).flatMap (ixW old new kk))) := Lib.hid ⟨HC1.out.below hG.hb, (hG.hb.block Q (blk_lt JQ.out)).trans JQ.out, jP, jU⟩
        change a9 = putAll _ x9 [73, 74, 75, 76, 77, 78, 79, 80, 17, 18] at hx
        simp only [putAll, Act.put, List.setIfInBounds_toArray, List.set_cons_zero, List.set_cons_succ, e17, e18] at hx
        subst hx
        clear hs9 hd9 ho9 hr9 hfl hg6 hG e17 e18 jP jU hxt d2
        generalize x9 73 = z73, x9 74 = z74, x9 75 = z75, x9 76 = z76, x9 77 = z77, x9 78 = z78, x9 79 = z79, x9 80 = z80
        obtain ⟨v, hv⟩ : ∃ v, ofP old x.col = v := ⟨_, rfl⟩
        obtain ⟨u, hu⟩ : ∃ u, ofP new x.col = u := ⟨_, rfl⟩
        have HFV : Hid (Fit v.n) := Lib.hid (by rw [← hv]; exact HFO.out _)
        have HFU : Hid (Fit u.n) := Lib.hid (by rw [← hu]; exact HFN.out _)
        rw [hv, hu] at HCK
        have HGW : Hid (goneW old kk x = ⟨bs (entK x.id v kk), ⟨#[]⟩, true⟩) := Lib.hid (by unfold goneW; rw [hv]; rfl)
        have HTW : Hid (thereW new kk x = ⟨bs (entK x.id u kk), ⟨#[]⟩, false⟩) := Lib.hid (by unfold thereW; rw [hu]; rfl)
        have HV := Lib.hid hv
        have HU := Lib.hid hu
        clear hv hu
        obtain ⟨Ws, hWs⟩ : ∃ Ws, headW t new kk :: (t.ixs.take i).flatMap (ixW old new kk) = Ws := ⟨_, rfl⟩
        rw [hWs] at HCK
        have HWL : Hid (Ws.length ≤ 900) := Lib.hid (by rw [← hWs]; exact HLN.out)
        have HWS := Lib.hid hWs
        clear hWs
        have HGB : Hid (goneB old new x = false) := Lib.hid (by unfold goneB; rw [HOE.out]; rfl)
        go_upto_region 18 with fail
        have hpt := puts_any x.st w6
        cases hps : putsB x.st with
        | false =>
          rw [hps] at hpt
          have HTB : Hid (thereB new x = false) := Lib.hid (by unfold thereB; rw [HNE.out, hps]; rfl)
          have k0 : w6.cell? ⟨K, 0, none⟩ = some (.int .i64 kk.k) := cell_blk HCK.out.cs.jk 0
          have k1 : w6.cell? ⟨K, 1, none⟩ = some (.int .i64 kk.n) := cell_blk HCK.out.cs.jk 1
          have k2 : w6.cell? ⟨K, 2, none⟩ = some (.string kk.s) := cell_blk HCK.out.cs.jk 2
          have q4 : w6.cell? ⟨Q, 0, none⟩ = some (.int .i64 x.id) := cell_blk HCK.out.jq 0
          have q5 : w6.cell? ⟨Q, 4, none⟩ = some (.int .i64 x.st) := cell_blk HCK.out.jq 4
          clear hps
          go_wp2_with (go_at_call 49; refine hpt.mono ?_; rintro e w9 ⟨rfl, b9⟩; refine Hid.out ?_)
          refine Lib.hid ?_
          have HK9 := Lib.hid (HCK.out.below b9)
          clear hpt k0 k1 k2 q4 q5 b9
          go_wp2
          go_roundw
          case rel => exact ⟨i + 1, HLT.out, by go_num, by rw [ixs_more HLT.out HX.out (A := []) (B := []) (by unfold ixW; rw [HGB.out, HTB.out]; rfl), HWS.out]; simp only [List.append_nil]; exact HK9.out.cs⟩
          case measure => simp [intOf]; omega
        | true =>
          rw [hps] at hpt
          have HTB : Hid (thereB new x = true) := Lib.hid (by unfold thereB; rw [HNE.out, hps]; rfl)
          have k0 : w6.cell? ⟨K, 0, none⟩ = some (.int .i64 kk.k) := cell_blk HCK.out.cs.jk 0
          have k1 : w6.cell? ⟨K, 1, none⟩ = some (.int .i64 kk.n) := cell_blk HCK.out.cs.jk 1
          have k2 : w6.cell? ⟨K, 2, none⟩ = some (.string kk.s) := cell_blk HCK.out.cs.jk 2
          have q4 : w6.cell? ⟨Q, 0, none⟩ = some (.int .i64 x.id) := cell_blk HCK.out.jq 0
          have q5 : w6.cell? ⟨Q, 4, none⟩ = some (.int .i64 x.st) := cell_blk HCK.out.jq 4
          clear hps
          go_upto_region 19 with (go_at_call 49; refine hpt.mono ?_; rintro e w9 ⟨rfl, b9⟩; refine Hid.out ?_)
          refine Lib.hid ?_
          have HK9 := Lib.hid (HCK.out.below b9)
          clear hpt k0 k1 k2 q4 q5 b9
          have k0 : w9.cell? ⟨K, 0, none⟩ = some (.int .i64 kk.k) := cell_blk HK9.out.cs.jk 0
          have k1 : w9.cell? ⟨K, 1, none⟩ = some (.int .i64 kk.n) := cell_blk HK9.out.cs.jk 1
          have k2 : w9.cell? ⟨K, 2, none⟩ = some (.string kk.s) := cell_blk HK9.out.cs.jk 2
          have q4 : w9.cell? ⟨Q, 0, none⟩ = some (.int .i64 x.id) := cell_blk HK9.out.jq 0
          have q5 : w9.cell? ⟨Q, 4, none⟩ = some (.int .i64 x.st) := cell_blk HK9.out.jq 4
          have u0 : w9.cell? ⟨U, 0, none⟩ = some (.int .i64 u.k) := cell_blk HK9.out.ju 0
          have u1 : w9.cell? ⟨U, 1, none⟩ = some (.int .i64 u.n) := cell_blk HK9.out.ju 1
          have u2 : w9.cell? ⟨U, 2, none⟩ = some (.string u.s) := cell_blk HK9.out.ju 2
          have hen := entry_any HFX.out HFU.out HFK.out w9
          go_wp2_with (go_at_call 13; refine hen.mono ?_; rintro e w10 ⟨rfl, b10⟩; refine Hid.out ?_)
          refine Lib.hid ?_
          have HK10 := Lib.hid (HK9.out.below b10)
          have hclo := clo_put (bs (entK x.id u kk)) ⟨#[]⟩ HK10.out.cs.out HK10.out.cs.hb.size HK10.out.cs.hD (by have := HWL.out; simp; omega)
          clear hen k0 k1 k2 q4 q5 u0 u1 u2 b10
          unfold entK at hclo
          go_wp2_with (go_at_call 46; refine hclo.mono ?_; rintro e w11 ⟨rfl, ho11, b11, kp11⟩; refine Hid.out ?_)
          refine Lib.hid ?_
          have HK11 := Lib.hid (HK10.out.clo ho11 b11 kp11)
          clear hclo ho11 b11 kp11
          go_wp2
          go_roundw
          case rel => exact ⟨i + 1, HLT.out, by go_num, by rw [ixs_more HLT.out HX.out (A := []) (B := [thereW new kk x]) (by unfold ixW; rw [HGB.out, HTB.out]; rfl), HWS.out, HTW.out]; simp only [List.append_nil, entK]; exact HK11.out.cs⟩
          case measure => simp [intOf]; omega
    · have q1 : ¬ ((i : Int) < t.ixs.length) := by omega
      have htk : t.ixs.take i = t.ixs := List.take_of_length_le (by omega)
      obtain ⟨ad, cap, jd, hl⟩ := HC.out.out.list
      have d0 : wr.cell? ⟨D, 0, none⟩ = some (.slice ad _ cap) := cell_blk jd 0
      have HL := Lib.hid hl
      obtain ⟨m, hm⟩ : ∃ m, (headW t new kk :: (t.ixs.take i).flatMap (ixW old new kk)).length = m := ⟨_, rfl⟩
      rw [hm] at d0 HL
      have HTK := Lib.hid htk
      clear hl jd hm htk
      go_wp2
      go_ret
      refine ⟨_, rfl, ?_, HC.out.hb⟩
      have := HL.out
      rw [HTK.out] at this
      rw [HP.out]
      exact this
end Go.Proofs.Ytbepekgaipipjaa
