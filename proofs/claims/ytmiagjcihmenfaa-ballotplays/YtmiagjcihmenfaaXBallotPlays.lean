/- The statement BallotPlays: call by call the program's ballot and the document's answer alike, stand alike and tell the same changes; with no condition. -/
import Derived.Test.YtmiagjcihmenfaaWs
import Derived.Test.YtmiagjcihmenfaaXVc
import Derived.Test.YtmiagjcihmenfaaWl
import Derived.Test.YtmiagjcihmenfaaWm
import Derived.Deep.DeepCutAuto
import Derived.Test.YtmiagjcihmenfaaRows
namespace Go.Proofs.Ytmiagjcihmenfaa
open Go.RowKit

/-- How far ballots count in a script. -/
abbrev mostM : Int := 1099511660544
/-- What the loop keeps. -/
def PJ (L : List Oq) (w wr : World) (A B : Nat) (i : Value) : Prop := ∃ k b S T B0 N, k ≤ L.length ∧ i = .int .i64 ((k : Nat) : Int) ∧ Bd b (2 * szL (L.take k)) ∧ Kp mostM b ∧ Ok b ∧ Mid w wr A B b b S T B0 N
section
variable {w0 w w' : World} {A B B0 N : Nat} {b c : Bs} {S T : Nat → Prop} {L : List Oq} {ad : Option Addr} {cap : Nat} {M : List Ms} {ov : Value}
theorem szL_le (L : List Oq) (k : Nat) : szL (L.take k) ≤ szL L := by
  have e : szL L = szL (L.take k) + szL (L.drop k) := by
    unfold szL
    rw [← List.sum_append, ← List.map_append, List.take_append_drop]
  omega
theorem Ou.held {O : List (Ms × Value)} (h : Ou w B0 O ov) (hb : ∀ k, B0 ≤ k → k < w.heap.size → w'.heap[k]? = w.heap[k]?) : Ou w' B0 O ov :=
  ⟨own_like h.own (fun k hk => hb k (h.own.lt k hk).1 (h.own.lt k hk).2), fun p hp => own_like (h.ls p hp) (fun k hk => hb k ((h.ls p hp).lt k hk).1 ((h.ls p hp).lt k hk).2)⟩
theorem Mid.did (h : Mid w0 w A B b b S T B0 N) (hob : b.out = []) (q : Po w w' A S c M ov) : ∃ S1 B1 O, O.map Prod.fst = M ∧ Ou w' B1 O ov ∧ Mid w0 w' A B c b S1 T B1 w'.heap.size ∧ Fr w w' S := by
  obtain ⟨S1, B1, O, k1, k2, k3, k4, k5, k6, k7⟩ := q
  exact ⟨S1, B1, O, k6, k7, h.prog hob k1 k2 k3 k4 k5, k3⟩
theorem Mid.want (h : Mid w0 w A B c b S T B0 N) {b' : Bs} (q : Ro w w' B T (b'.wav (fun k => S k ∨ (B0 ≤ k ∧ k < N))) M ov) : ∃ T1 O2, O2.map Prod.fst = M ∧ w'.ownsRow 0 34 10 ov O2.length (msC O2) ∧ (∀ p ∈ O2, Es w' T1 p.1.list p.2) ∧ Mid w0 w' A B c b' S T1 B0 N ∧ Fr w w' T := by
  obtain ⟨T1, k1, k2, k3, O2, k4, k5, k6⟩ := q
  exact ⟨T1, O2, k4, k5, k6, h.doc k1 k2 k3, k3⟩
theorem Ok.told (h : Ok b) : Ok { b with touched := false, whole := false, fr := b.last + 1 } := ⟨⟨h.inv.idl, h.inv.sz, h.inv.hs, h.inv.nx, h.inv.mt, h.inv.b0, h.inv.bc, h.inv.cl, h.inv.v0, h.inv.v1, h.inv.t0⟩, h.hs, fun r => ⟨(h.ld r).nx, (h.ld r).mt, (h.ld r).lo⟩, h.out⟩
theorem map_len {O : List (Ms × Value)} (h : O.map Prod.fst = M) : M.length = O.length := by rw [← h, List.length_map]
set_option maxHeartbeats 8000000 in
set_option maxRecDepth 100000 in
theorem plays_no (hL : Lo w L ad) (hc : L.length ≤ cap) (hm : cap ≤ maxLen) (id size : Int) (hv : ¬ (1 ≤ size ∧ size ≤ 5 ∧ 0 ≤ id ∧ id < size)) :
    Calls Try.prog 3 #[.int .i64 id, .int .i64 size, .slice ad L.length cap] w fun e w' => e = .returned (.bool true) ∧ Below w.heap.size w w' := by
  have hnew := fun V => new_no V id size hv
  have href := fun V => refnew_no V id size hv
  clear hv
  go_enter Try.func3, Try.ntmps3
  go_wp2_with fail
  refine (awake_p w).mono ?_
  rintro e w2 ⟨rfl, hb2⟩
  go_wp2_with fail
  refine (great_p (hL.on hb2) hc hm).mono ?_
  rintro e w3 ⟨g, rfl, hgr, hb3⟩
  have hb23 := hb2.trans (hb3.mono hb2.size)
  have HB := Lib.hid hb23
  clear hb23 hb2 hb3 hgr
  cases g with
  | true =>
    go_wp2_with fail
    refine (awake_p w3).mono ?_
    rintro e w4 ⟨rfl, hb4⟩
    go_wp2
    go_ret
    exact ⟨rfl, HB.out.trans (hb4.mono HB.out.size)⟩
  | false =>
    go_wp2_with fail
    refine (hnew w3).mono ?_
    rintro e w4 ⟨rfl, rfl⟩
    go_wp2_with fail
    refine (href w4).mono ?_
    rintro e w5 ⟨rfl, rfl⟩
    go_wp2
    go_ret
    exact ⟨rfl, HB.out⟩
set_option maxHeartbeats 40000000 in
set_option maxRecDepth 100000 in
theorem plays_yes (hL : Lo w L ad) (hc : L.length ≤ cap) (hm : cap ≤ maxLen) (id size : Nat) (h1 : 1 ≤ size) (h2 : size ≤ 5) (h3 : id < size) :
    Calls Try.prog 3 #[.int .i64 id, .int .i64 size, .slice ad L.length cap] w fun e w' => e = .returned (.bool true) ∧ Below w.heap.size w w' := by
  have hnew := fun V => new_yes V id size h1 h2 h3
  have href := fun V => refnew_yes V id size h1 h2 h3
  have hok := new_ok id size h1 h2 h3
  clear h1 h2 h3
  go_enter Try.func3, Try.ntmps3
  go_wp2_with fail
  refine (awake_p w).mono ?_
  rintro e w2 ⟨rfl, hb2⟩
  go_wp2_with fail
  refine (great_p (hL.on hb2) hc hm).mono ?_
  rintro e w3 ⟨g, rfl, hgr, hb3⟩
  have hb23 := hb2.trans (hb3.mono hb2.size)
  have HB := Lib.hid hb23
  clear hb23 hb2 hb3
  cases g with
  | true =>
    clear hgr
    go_wp2_with fail
    refine (awake_p w3).mono ?_
    rintro e w4 ⟨rfl, hb4⟩
    go_wp2
    go_ret
    exact ⟨rfl, HB.out.trans (hb4.mono HB.out.size)⟩
  | false =>
    obtain ⟨hl2, hsz⟩ := hgr rfl
    have HSZ := Lib.hid hsz
    have HL2 := Lib.hid hl2
    have l1 : (L.length : Int) ≤ 200 := by omega
    clear hgr hl2 hsz
    go_wp2_with fail
    refine (hnew w3).mono ?_
    rintro e w4 ⟨rfl, hp4, hb4⟩
    go_wp2_with fail
    refine (href w4).mono ?_
    rintro e w5 ⟨rfl, hr5, hb5⟩
    obtain ⟨A, hA⟩ : ∃ A, w3.heap.size = A := ⟨_, rfl⟩
    obtain ⟨B, hB⟩ : ∃ B, w4.heap.size = B := ⟨_, rfl⟩
    rw [hA] at hp4 ⊢
    rw [hB] at hr5 ⊢
    have hS0 : Mid w w5 A B (Bs.new id size) (Bs.new id size) (fun k => k = A) (fun k => k = B) w4.heap.size w4.heap.size := by
      have hA4 := hp4.lt A rfl
      have z3 := HB.out.size
      have z4 := hb4.size
      have z5 := hb5.size
      have r5 : Rb w5 B (fun k => k = B) ((Bs.new id size).wav (fun k => (k = A) ∨ (w4.heap.size ≤ k ∧ k < w4.heap.size))) := by
        obtain ⟨lv, ov, O, hv⟩ := hr5
        refine ⟨lv, ov, O, ⟨hv.ob, ?_, hv.eo, hv.out, hv.ls, hv.covA, hv.cov, hv.lt, hv.few, hv.len, hv.b0, hv.b1, fun k q => ?_⟩⟩
        · obtain ⟨ad', cap', e, q0, q1, q2, q3⟩ := hv.log
          exact ⟨ad', cap', e, q0, q1, q2, fun i hi => absurd hi (by show ¬ i < 0; omega)⟩
        · rcases q with q | q
          · have q' : k = A := q
            omega
          · omega
      refine ⟨hp4.on hb5, r5, fun k q e => ?_, fun k q => ?_, fun k q e => by omega, fun k q => ?_, fun k q => ?_, by omega, by omega, HB.out.trans ((hb4.trans (hb5.mono hb4.size)).mono z3)⟩
      · have q' : k = A := q
        have e' : k = B := e
        omega
      · have q' : k = A := q
        omega
      · have q' : k = A := q
        omega
      · have q' : k = B := q
        omega
    have hkp := Kp.new (M := mostM) (by decide) id size
    clear hp4 hb4 hr5 hb5 hA hB hnew href HB
    go_wp2
    go_loopw [59] (fun i wr => PJ L w wr A B i) (fun i _ => L.length - (intOf i).toNat)
    case atStart => exact ⟨0, _, _, _, _, _, Nat.zero_le _, rfl, ⟨Nat.zero_le _, by show (0 : Int) + 0 ≤ _; omega, by show (0 : Int) ≤ _; omega⟩, hkp, hok, hS0⟩
    case round =>
      clear hS0 hkp hok
      obtain ⟨k, b, S, T, B0, N, hk, rfl, hbd, hkp, hok, hS⟩ := hrel
      obtain ⟨wo, rfl⟩ : ∃ wo, wo = wr := ⟨_, rfl⟩
      by_cases hlt : k < L.length
      · have k0 : (0 : Int) ≤ k := by omega
        have k1 : (k : Int) < L.length := by omega
        obtain ⟨bb, o, rfl, hbl, c0, c1, c2, c3, c4, c5, c6, c7, c8, c9, c10, c11, c12, c13⟩ := (hL.on hS.bel).at' k hlt
        have hE := hL.es _ (List.getElem_mem hlt)
        have hks := szL_take L k hlt
        have hkl := szL_le L (k + 1)
        obtain ⟨⟨x, mad, mcap⟩, hx⟩ : ∃ x, L[k] = x := ⟨_, rfl⟩
        rw [hx] at c0 c1 c2 c3 c4 c5 c6 c7 c8 c9 c10 c11 c12 c13 hE hks
        simp only at c0 c1 c2 c3 c4 c5 c6 c7 c8 c9 c10 c11 c12 c13 hE
        have hso : szO (x, mad, mcap) = 1 + x.text.size + x.m.list.length + x.m.snap.size := rfl
        have hz0 := HSZ.out
        have hz2 := HL2.out
        have hlog := hbd.log
        have hlast := hbd.last
        have hterm := hbd.term
        have zz1 : b.log.length + x.m.list.length + 1 ≤ 900000 := by omega
        have zz2 : b.term ≤ 4611686018427387904 := by omega
        have zz3 : b.last ≤ 4398046511104 := by omega
        have zz4 : b.term ≤ 4398046511104 := by omega
        have zz5 : b.last ≤ mostM := by show b.last ≤ 1099511660544; omega
        have hbd' := (hbd.did hok.inv x).up (M := 2 * szL (L.take (k + 1))) (by omega)
        have hkp' := hkp.did hok.inv (by decide) zz5 x
        have hok' := did_ok hok x
        have hob := hok.out
        have hnb := hkp.nb (by decide)
        -- the call, boxed
        obtain ⟨W1, hW1⟩ : ∃ W1, W1 = wo.alloc (.cells #[.int .i64 x.kind, .int .i64 x.a, .int .i64 x.b, .string x.text, .int .i64 x.m.kind, .int .i64 x.m.fr, .int .i64 x.m.tgt, .int .i64 x.m.term, .int .i64 x.m.index, .int .i64 x.m.prev, .int .i64 x.m.commit, .bool x.m.good, .slice mad x.m.list.length mcap, .string x.m.snap] 36) := ⟨_, rfl⟩
        have bW1 : Below wo.heap.size wo W1 := by rw [hW1]; exact (Below.refl _ wo).alloc (Nat.le_refl _) _
        have jx1 : W1.heap[wo.heap.size]? = some (.cells #[.int .i64 x.kind, .int .i64 x.a, .int .i64 x.b, .string x.text, .int .i64 x.m.kind, .int .i64 x.m.fr, .int .i64 x.m.tgt, .int .i64 x.m.term, .int .i64 x.m.index, .int .i64 x.m.prev, .int .i64 x.m.commit, .bool x.m.good, .slice mad x.m.list.length mcap, .string x.m.snap] 36 (0, 0)) := by rw [hW1]; exact heap_alloc_new wo _
        have hS1 := hS.on bW1
        have hsx := hS.pb.lt
        have htx := hS.rb.lt
        obtain ⟨X, hX⟩ : ∃ X, wo.heap.size = X := ⟨_, rfl⟩
        rw [hX] at jx1
        have hXS : ¬ S X := fun q => by have := hsx X q; omega
        have hXT : ¬ T X := fun q => by have := htx X q; omega
        have o0 : W1.cell? ⟨X, 0, none⟩ = some (.int .i64 x.kind) := cell_blk jx1 0
        have o1 : W1.cell? ⟨X, 1, none⟩ = some (.int .i64 x.a) := cell_blk jx1 1
        have o2 : W1.cell? ⟨X, 2, none⟩ = some (.int .i64 x.b) := cell_blk jx1 2
        have o3 : W1.cell? ⟨X, 3, none⟩ = some (.string x.text) := cell_blk jx1 3
        have o4 : W1.cell? ⟨X, 4, none⟩ = some (.int .i64 x.m.kind) := cell_blk jx1 4
        have o5 : W1.cell? ⟨X, 5, none⟩ = some (.int .i64 x.m.fr) := cell_blk jx1 5
        have o6 : W1.cell? ⟨X, 6, none⟩ = some (.int .i64 x.m.tgt) := cell_blk jx1 6
        have o7 : W1.cell? ⟨X, 7, none⟩ = some (.int .i64 x.m.term) := cell_blk jx1 7
        have o8 : W1.cell? ⟨X, 8, none⟩ = some (.int .i64 x.m.index) := cell_blk jx1 8
        have o9 : W1.cell? ⟨X, 9, none⟩ = some (.int .i64 x.m.prev) := cell_blk jx1 9
        have o10 : W1.cell? ⟨X, 10, none⟩ = some (.int .i64 x.m.commit) := cell_blk jx1 10
        have o11 : W1.cell? ⟨X, 11, none⟩ = some (.bool x.m.good) := cell_blk jx1 11
        have o12 : W1.cell? ⟨X, 12, none⟩ = some (.slice mad x.m.list.length mcap) := cell_blk jx1 12
        have o13 : W1.cell? ⟨X, 13, none⟩ = some (.string x.m.snap) := cell_blk jx1 13
        have hE1 : Es W1 S x.m.list (.slice mad x.m.list.length mcap) := hE.stays (S' := S) (Fr.ofBelow (fun _ => False) hS1.bel) (fun k z => .inr ⟨hS1.los k z, hS1.pb.lt k z⟩)
        have hdid := did_p hS1.pb hok x hE1 zz1 zz2 zz3
        have HE := Lib.hid hE
        have HW1 := Lib.hid hW1
        have HBD := Lib.hid hbd'
        have HKP := Lib.hid hkp'
        have HOK := Lib.hid hok'
        have HK1 := Lib.hid hok
        have HNB := Lib.hid hnb
        have HZ1 := Lib.hid zz1
        have HX := Lib.hid hX
        have HBL := Lib.hid zz3
        clear hx hks hkl hso hz0 hz2 hlog hlast hterm hbd hbd' hkp hkp' hok hok' hnb hW1 hk zz2 zz3 zz5 hS bW1 hsx htx hX
        by_cases k6 : x.kind = 6
        · have er : didR b x = (b, [], 0) := by unfold didR; rw [if_neg (by omega), if_neg (by omega), if_neg (by omega), if_neg (by omega), if_neg (by omega)]
          have HK6 := Lib.hid k6
          clear k6
          rw [er] at hdid
          have hOK := HOK.out
          have hBD := HBD.out
          have hKP := HKP.out
          rw [er] at hOK hBD hKP
          have HBD2 := Lib.hid hBD
          have HKP2 := Lib.hid hKP
          have HOK2 := Lib.hid hOK
          clear HBD HKP HOK hBD hKP hOK
          go_upto_region 12 with fail
          rw [← HW1.out, HX.out]
          clear c0 c1 c2 c3 c4 c5 c6 c7 c8 c9 c10 c11 c12 c13
          go_wp2_with fail
          refine hdid.mono ?_
          rintro e w2 ⟨ov, rfl, q2⟩
          obtain ⟨ad1, cap1, rfl⟩ := q2.shape
          obtain ⟨S2, B2, O, hO, hOu, hS2, hf2⟩ := hS1.did hob q2
          have hz2 := hf2.size
          have jx2 := (hf2.block X (blk_lt jx1) hXS).trans jx1
          have hE2 : Es w2 T x.m.list (.slice mad x.m.list.length mcap) := HE.out.stays (S' := T) (Fr.ofBelow (fun _ => False) hS2.bel) (fun k z => .inr ⟨hS2.lot k z, hS2.rb.lt k z⟩)
          have hwant := want_any hS2.rb (HK1.out.wav _) (show Nb (b.wav _) from HNB.out) x hE2 HZ1.out zz4 (show (b.wav _).last ≤ 4398046511104 from HBL.out)
          rw [wav_did, er] at hwant
          have hml := map_len hO
          have HOZ : Hid (O.length = 0) := hml.symm
          rw [hml]
          clear hdid q2 hS1 hf2 jx1 o0 o1 o2 o3 o4 o5 o6 o7 o8 o9 o10 o11 o12 o13 hE1 hE2 HW1 hob
          have p0 : w2.cell? ⟨X, 0, none⟩ = some (.int .i64 x.kind) := cell_blk jx2 0
          have p1 : w2.cell? ⟨X, 1, none⟩ = some (.int .i64 x.a) := cell_blk jx2 1
          have p2 : w2.cell? ⟨X, 2, none⟩ = some (.int .i64 x.b) := cell_blk jx2 2
          have p3 : w2.cell? ⟨X, 3, none⟩ = some (.string x.text) := cell_blk jx2 3
          have p4 : w2.cell? ⟨X, 4, none⟩ = some (.int .i64 x.m.kind) := cell_blk jx2 4
          have p5 : w2.cell? ⟨X, 5, none⟩ = some (.int .i64 x.m.fr) := cell_blk jx2 5
          have p6 : w2.cell? ⟨X, 6, none⟩ = some (.int .i64 x.m.tgt) := cell_blk jx2 6
          have p7 : w2.cell? ⟨X, 7, none⟩ = some (.int .i64 x.m.term) := cell_blk jx2 7
          have p8 : w2.cell? ⟨X, 8, none⟩ = some (.int .i64 x.m.index) := cell_blk jx2 8
          have p9 : w2.cell? ⟨X, 9, none⟩ = some (.int .i64 x.m.prev) := cell_blk jx2 9
          have p10 : w2.cell? ⟨X, 10, none⟩ = some (.int .i64 x.m.commit) := cell_blk jx2 10
          have p11 : w2.cell? ⟨X, 11, none⟩ = some (.bool x.m.good) := cell_blk jx2 11
          have p12 : w2.cell? ⟨X, 12, none⟩ = some (.slice mad x.m.list.length mcap) := cell_blk jx2 12
          have p13 : w2.cell? ⟨X, 13, none⟩ = some (.string x.m.snap) := cell_blk jx2 13
          go_wp2_with fail
          refine hwant.mono ?_
          rintro e w3 ⟨ov2, rfl, q3⟩
          obtain ⟨ad2, cap2, rfl⟩ := q3.shape
          obtain ⟨T3, O2, hO2, hr2, hl2, hS3, hf3⟩ := hS2.want (b' := b) q3
          have jx3 := (hf3.block X (blk_lt jx2) hXT).trans jx2
          have hOu3 : Ou w3 B2 O (.slice ad1 ([] : List Ms).length cap1) := hOu.held (fun k z1 z2 => hf3.block k z2 (fun t => hS2.tB k t ⟨z1, z2⟩))
          have hmw : Mw w3 B2 w2.heap.size O (.slice ad1 ([] : List Ms).length cap1) := (Mw.of hOu).keep (fun k z1 z2 => hf3.block k z2 (fun t => hS2.tB k t ⟨z1, z2⟩)) (Nat.le_refl _)
          rw [hml] at hOu3 hmw
          have hml2 := map_len hO2
          rw [hml2] at hr2 ⊢
          have hsame := msgs_same (S := fun _ => False) (T := T3) hOu3.own (fun p hp => Es.own (hOu3.ls p hp) (fun _ _ q => q)) hr2 hl2 (hO.trans hO2.symm)
          have hst := fun V (hV : Below w3.heap.size w3 V) => stands_p ((hS3.pb.on hV).wav _) (hS3.rb.on hV)
          have y0 : w3.cell? ⟨X, 0, none⟩ = some (.int .i64 x.kind) := cell_blk jx3 0
          have HJX := Lib.hid jx3
          have HS3 := Lib.hid hS3
          have HMW := Lib.hid hmw
          have HST := Lib.hid hst
          obtain ⟨N2, hN2⟩ : ∃ N2, w2.heap.size = N2 := ⟨_, rfl⟩
          rw [hN2] at HS3 HMW
          clear hwant q3 hS2 hS3 hf3 jx2 jx3 hOu hOu3 hmw hr2 hl2 hst hml hml2 hO hO2 p0 p1 p2 p3 p4 p5 p6 p7 p8 p9 p10 p11 p12 p13 hz2 y0 hN2
          go_wp2_with fail
          refine hsame.mono ?_
          rintro e w4 ⟨rfl, hb4⟩
          clear hsame
          have hst := HST.out w4 hb4
          have HB4 := Lib.hid hb4
          clear HST hb4
          go_wp2_with fail
          refine hst.mono ?_
          rintro e w5 ⟨rfl, hb5⟩
          have b35 := HB4.out.trans (hb5.mono HB4.out.size)
          have jx5 := (b35.block X (blk_lt HJX.out)).trans HJX.out
          have hS5 := HS3.out.on b35
          have hmw5 := HMW.out.keep (fun k _ z => b35.block k z) HS3.out.hN
          have y0 : w5.cell? ⟨X, 0, none⟩ = some (.int .i64 x.kind) := cell_blk jx5 0
          clear hst HB4 hb5 b35 HS3 HMW HJX jx5
          rw [HOZ.out]
          clear hmw5
          rw [HK6.out] at y0
          cases htc : b.touched with
          | false =>
            have hdn := delta_no hS5.pb htc
            have hS5' := hS5
            go_wp2_with fail
            refine hdn.mono ?_
            rintro e w6 ⟨rfl, hb6⟩
            clear hdn y0
            obtain ⟨W7, hW7⟩ : ∃ W7, W7 = w6.alloc (.cells #[.int .i64 0, .int .i64 0, .bool false, .int .i64 0, .int .i64 0, .string ⟨#[]⟩, .int .i64 0, .slice none 0 0] 44) := ⟨_, rfl⟩
            have bW7 : Below w6.heap.size w6 W7 := by rw [hW7]; exact (Below.refl _ w6).alloc (Nat.le_refl _) _
            have jd7 : W7.heap[w6.heap.size]? = some (.cells #[.int .i64 0, .int .i64 0, .bool false, .int .i64 0, .int .i64 0, .string ⟨#[]⟩, .int .i64 0, .slice none 0 0] 44 (0, 0)) := by rw [hW7]; exact heap_alloc_new w6 _
            have b57 := hb6.trans (bW7.mono hb6.size)
            have hS7 := hS5.on b57
            have hrn := refdelta_no hS7.rb (show (b.wav _).touched = false from htc)
            obtain ⟨Y, hY⟩ : ∃ Y, w6.heap.size = Y := ⟨_, rfl⟩
            rw [hY] at jd7
            have HW7 := Lib.hid hW7
            have HS7 := Lib.hid hS7
            have HJ7 := Lib.hid jd7
            have HY := Lib.hid hY
            clear hW7 b57 bW7 hb6 hS5 hS5' hS7 jd7 hY
            go_upto_region 18 with fail
            rw [← HW7.out, HY.out]
            go_wp2_with fail
            refine hrn.mono ?_
            rintro e w8 ⟨rfl, hb8⟩
            clear hrn
            obtain ⟨W9, hW9⟩ : ∃ W9, W9 = w8.alloc (.cells #[.int .i64 0, .int .i64 0, .bool false, .int .i64 0, .int .i64 0, .string ⟨#[]⟩, .int .i64 0, .slice none 0 0] 44) := ⟨_, rfl⟩
            have bW9 : Below w8.heap.size w8 W9 := by rw [hW9]; exact (Below.refl _ w8).alloc (Nat.le_refl _) _
            have jr9 : W9.heap[w8.heap.size]? = some (.cells #[.int .i64 0, .int .i64 0, .bool false, .int .i64 0, .int .i64 0, .string ⟨#[]⟩, .int .i64 0, .slice none 0 0] 44 (0, 0)) := by rw [hW9]; exact heap_alloc_new w8 _
            have b79 := hb8.trans (bW9.mono hb8.size)
            have jd9 := (b79.block Y (blk_lt HJ7.out)).trans HJ7.out
            have hS9 := HS7.out.on b79
            obtain ⟨Z, hZ⟩ : ∃ Z, w8.heap.size = Z := ⟨_, rfl⟩
            rw [hZ] at jr9
            have hsd := change_same (w := W9) (S := fun _ => False) (T := fun _ => False) de0 (ad := none) (ad2 := none) (cap := 0) (cap2 := 0) (Es.nil _ _) (Es.nil _ _)
            have d0 : W9.cell? ⟨Y, 0, none⟩ = some (.int .i64 0) := cell_blk jd9 0
            have r0 : W9.cell? ⟨Z, 0, none⟩ = some (.int .i64 0) := cell_blk jr9 0
            have d1 : W9.cell? ⟨Y, 1, none⟩ = some (.int .i64 0) := cell_blk jd9 1
            have r1 : W9.cell? ⟨Z, 1, none⟩ = some (.int .i64 0) := cell_blk jr9 1
            have d2 : W9.cell? ⟨Y, 2, none⟩ = some (.bool false) := cell_blk jd9 2
            have r2 : W9.cell? ⟨Z, 2, none⟩ = some (.bool false) := cell_blk jr9 2
            have d3 : W9.cell? ⟨Y, 3, none⟩ = some (.int .i64 0) := cell_blk jd9 3
            have r3 : W9.cell? ⟨Z, 3, none⟩ = some (.int .i64 0) := cell_blk jr9 3
            have d4 : W9.cell? ⟨Y, 4, none⟩ = some (.int .i64 0) := cell_blk jd9 4
            have r4 : W9.cell? ⟨Z, 4, none⟩ = some (.int .i64 0) := cell_blk jr9 4
            have d5 : W9.cell? ⟨Y, 5, none⟩ = some (.string ⟨#[]⟩) := cell_blk jd9 5
            have r5 : W9.cell? ⟨Z, 5, none⟩ = some (.string ⟨#[]⟩) := cell_blk jr9 5
            have d6 : W9.cell? ⟨Y, 6, none⟩ = some (.int .i64 0) := cell_blk jd9 6
            have r6 : W9.cell? ⟨Z, 6, none⟩ = some (.int .i64 0) := cell_blk jr9 6
            have d7 : W9.cell? ⟨Y, 7, none⟩ = some (.slice none 0 0) := cell_blk jd9 7
            have r7 : W9.cell? ⟨Z, 7, none⟩ = some (.slice none 0 0) := cell_blk jr9 7
            have HW9 := Lib.hid hW9
            have HS9 := Lib.hid hS9
            have HJ9 := Lib.hid jd9
            have HZ := Lib.hid hZ
            clear hW9 b79 bW9 hb8 hS9 jr9 jd9 hZ HS7 HJ7 HW7
            go_upto_region 19 with fail
            rw [← HW9.out, HZ.out]
            go_wp2_with fail
            refine hsd.mono ?_
            rintro e w10 ⟨rfl, hb10⟩
            have jd10 := (hb10.block Y (blk_lt HJ9.out)).trans HJ9.out
            have hS10 := HS9.out.on hb10
            have v7 : w10.cell? ⟨Y, 7, none⟩ = some (.slice none 0 0) := cell_blk jd10 7
            have HS10 := Lib.hid hS10
            clear hsd hb10 jd10 hS10 HS9 HJ9 HW9 d0 r0 d1 r1 d2 r2 d3 r3 d4 r4 d5 r5 d6 r6 d7 r7
            go_wp2
            go_loopw [115] (fun iv wz => iv = .int .i64 0 ∧ Mid w wz A B b b S2 T3 B2 N2) (fun _ _ => 0)
            case atStart => exact ⟨rfl, HS10.out⟩
            case round =>
              clear HS10 v7
              obtain ⟨rfl, hSj⟩ := hrel
              have HSJ := Lib.hid hSj
              clear hSj
              go_wp2
              go_loopw [126] (fun iv wz => iv = .int .i64 0 ∧ Mid w wz A B b b S2 T3 B2 N2) (fun _ _ => 0)
              case atStart => exact ⟨rfl, HSJ.out⟩
              case round =>
                clear HSJ
                obtain ⟨rfl, hSi⟩ := hrel
                have HSI := Lib.hid hSi
                clear hSi
                go_wp2
                go_roundw
                case rel => exact ⟨k + 1, b, S2, T3, B2, N2, hlt, by go_num, HBD2.out, HKP2.out, HOK2.out, HSI.out⟩
                case measure => simp [intOf]; omega
          | true =>
            have hdy := delta_yes hS5.pb htc HKP2.out.fw
            have hry := fun V Q (hV : Rb V B T3 (b.wav Q)) => refdelta_yes hV (show (b.wav Q).out = [] from HOK2.out.out) (show (b.wav Q).touched = true from htc) (show (b.wav Q).whole = false → (b.wav Q).base < (b.wav Q).fr ∧ (b.wav Q).fr ≤ (b.wav Q).last + 1 from HKP2.out.fw)
            have hch : ∀ Q, (b.wav Q).change = b.change := fun _ => rfl
            obtain ⟨D, hD⟩ : ∃ D, b.change = D := ⟨_, rfl⟩
            obtain ⟨b2, hb2⟩ : ∃ b2 : Bs, b2 = { b with touched := false, whole := false, fr := b.last + 1 } := ⟨_, rfl⟩
            have hry2 : ∀ V Q, Rb V B T3 (b.wav Q) → Calls Try.prog 18 #[.pointer (some ⟨B, 0, none⟩)] V fun e w' => ∃ ad cap, e = .returned (.tuple #[deV D (.slice ad D.list.length cap), .bool true]) ∧ Es w' T3 D.list (.slice ad D.list.length cap) ∧ Rb w' B T3 (b2.wav Q) ∧ Fr V w' T3 := by
              intro V Q hV
              refine (hry V Q hV).mono ?_
              rw [hch, hD, hb2]
              rintro e w' ⟨ad, cap, q1, q2, q3, q4⟩
              exact ⟨ad, cap, q1, q2, q3, q4⟩
            have hdy2 : Calls Try.prog 17 #[.pointer (some ⟨A, 0, none⟩)] w5 fun e w' => ∃ ad cap, e = .returned (.tuple #[deV D (.slice ad D.list.length cap), .bool true]) ∧ w'.ownsRow w5.heap.size 49 4 (.slice ad D.list.length cap) D.list.length (enC D.list) ∧ Pb w' A S2 b2 ∧ Fr w5 w' S2 := by
              refine hdy.mono ?_
              rw [hD, hb2]
              rintro e w' ⟨ad, cap, q1, q2, q3, q4⟩
              exact ⟨ad, cap, q1, q2, q3, q4⟩
            have HBD3 : Hid (Bd b2 (2 * szL (L.take (k + 1)))) := by
              rw [hb2]
              exact ⟨HBD2.out.log, HBD2.out.last, HBD2.out.term⟩
            have HKP3 : Hid (Kp mostM b2) := by rw [hb2]; exact HKP2.out.told
            have HOK3 : Hid (Ok b2) := by rw [hb2]; exact HOK2.out.told
            have HRY := Lib.hid hry2
            have HS5 := Lib.hid hS5
            have HOO : Hid (b.out = []) := HOK2.out.out
            have HOO3 : Hid (b2.out = []) := HOK3.out.out
            clear hdy hry hch hD hb2 hry2 hS5
            go_wp2_with fail
            refine hdy2.mono ?_
            rintro e w6 ⟨lad, lcap, rfl, ho6, hp6, hf6⟩
            clear hdy2 y0
            have hS6 := HS5.out.prog HOO.out hp6 (fun _ q => .inl q) hf6 (Nat.le_refl _) (fun k q => HS5.out.pb.lt k q)
            have hlt6 := ho6.lt
            have hwt6 := Wt.own (N := w6.heap.size) ho6 (fun k hk => (ho6.lt k hk).2) (enC_len _)
            obtain ⟨N5, hN5⟩ : ∃ N5, w5.heap.size = N5 := ⟨_, rfl⟩
            obtain ⟨N6, hN6⟩ : ∃ N6, w6.heap.size = N6 := ⟨_, rfl⟩
            obtain ⟨W7, hW7⟩ : ∃ W7, W7 = w6.alloc (.cells #[.int .i64 D.term, .int .i64 D.vote, .bool D.whole, .int .i64 D.base, .int .i64 D.baseTerm, .string D.snap, .int .i64 D.fr, .slice lad D.list.length lcap] 44) := ⟨_, rfl⟩
            have bW7 : Below w6.heap.size w6 W7 := by rw [hW7]; exact (Below.refl _ w6).alloc (Nat.le_refl _) _
            have jd7 : W7.heap[N6]? = some (.cells #[.int .i64 D.term, .int .i64 D.vote, .bool D.whole, .int .i64 D.base, .int .i64 D.baseTerm, .string D.snap, .int .i64 D.fr, .slice lad D.list.length lcap] 44 (0, 0)) := by rw [hW7, ← hN6]; exact heap_alloc_new w6 _
            have hS7 := hS6.on bW7
            have ho7 := own_below ho6 bW7
            have hwt7 := hwt6.on (fun k _ z => bW7.block k z)
            rw [hN5, hN6] at hS7 hwt7 hlt6
            have HLT6 := Lib.hid hlt6
            have hrn := HRY.out W7 _ hS7.rb
            have hTY : ¬ T3 N6 := fun t => by have := hS6.rb.lt N6 t; omega
            have HW7 := Lib.hid hW7
            have HS7 := Lib.hid hS7
            have HJ7 := Lib.hid jd7
            have HWT := Lib.hid hwt7
            have HO7 := Lib.hid ho7
            have HN6 := Lib.hid hN6
            have HN5 := Lib.hid hN5
            clear hW7 bW7 hS6 hS7 jd7 ho6 ho7 hlt6 hp6 hf6 hwt6 hwt7 hN5 hN6 HS5 HRY
            go_upto_region 18 with fail
            rw [← HW7.out, HN6.out]
            go_wp2_with fail
            refine hrn.mono ?_
            rintro e w8 ⟨rad, rcap, rfl, he8, hr8, hf8⟩
            clear hrn
            have hS8 := HS7.out.doc hr8 (fun _ q => .inl q) hf8
            have jd8 := (hf8.block N6 (blk_lt HJ7.out) hTY).trans HJ7.out
            have hkeep : ∀ k, N5 ≤ k → k < N6 → w8.heap[k]? = W7.heap[k]? := fun k z1 z2 => hf8.block k (by have := HS7.out.hN; omega) (fun t => HS7.out.tB k t ⟨z1, z2⟩)
            have hwt8 := HWT.out.on hkeep
            have hes8 : Es w8 (fun _ => False) D.list (.slice lad D.list.length lcap) := by
              have h7 := HO7.out
              exact Es.own (own_like h7 (fun k hk => hf8.block k (h7.lt k hk).2 (fun t => HS7.out.tB k t (HLT6.out k hk)))) (fun _ _ q => q)
            obtain ⟨W9, hW9⟩ : ∃ W9, W9 = w8.alloc (.cells #[.int .i64 D.term, .int .i64 D.vote, .bool D.whole, .int .i64 D.base, .int .i64 D.baseTerm, .string D.snap, .int .i64 D.fr, .slice rad D.list.length rcap] 44) := ⟨_, rfl⟩
            obtain ⟨Z, hZ⟩ : ∃ Z, w8.heap.size = Z := ⟨_, rfl⟩
            have bW9 : Below w8.heap.size w8 W9 := by rw [hW9]; exact (Below.refl _ w8).alloc (Nat.le_refl _) _
            have jr9 : W9.heap[Z]? = some (.cells #[.int .i64 D.term, .int .i64 D.vote, .bool D.whole, .int .i64 D.base, .int .i64 D.baseTerm, .string D.snap, .int .i64 D.fr, .slice rad D.list.length rcap] 44 (0, 0)) := by rw [hW9, ← hZ]; exact heap_alloc_new w8 _
            have jd9 := (bW9.block N6 (blk_lt jd8)).trans jd8
            have hS9 := hS8.on bW9
            have hwt9 := hwt8.on (fun k _ z => bW9.block k (by have := hS8.hN; omega))
            have hsd := change_same D (hes8.on bW9) (he8.on bW9)
            have d0 : W9.cell? ⟨N6, 0, none⟩ = some (.int .i64 D.term) := cell_blk jd9 0
            have r0 : W9.cell? ⟨Z, 0, none⟩ = some (.int .i64 D.term) := cell_blk jr9 0
            have d1 : W9.cell? ⟨N6, 1, none⟩ = some (.int .i64 D.vote) := cell_blk jd9 1
            have r1 : W9.cell? ⟨Z, 1, none⟩ = some (.int .i64 D.vote) := cell_blk jr9 1
            have d2 : W9.cell? ⟨N6, 2, none⟩ = some (.bool D.whole) := cell_blk jd9 2
            have r2 : W9.cell? ⟨Z, 2, none⟩ = some (.bool D.whole) := cell_blk jr9 2
            have d3 : W9.cell? ⟨N6, 3, none⟩ = some (.int .i64 D.base) := cell_blk jd9 3
            have r3 : W9.cell? ⟨Z, 3, none⟩ = some (.int .i64 D.base) := cell_blk jr9 3
            have d4 : W9.cell? ⟨N6, 4, none⟩ = some (.int .i64 D.baseTerm) := cell_blk jd9 4
            have r4 : W9.cell? ⟨Z, 4, none⟩ = some (.int .i64 D.baseTerm) := cell_blk jr9 4
            have d5 : W9.cell? ⟨N6, 5, none⟩ = some (.string D.snap) := cell_blk jd9 5
            have r5 : W9.cell? ⟨Z, 5, none⟩ = some (.string D.snap) := cell_blk jr9 5
            have d6 : W9.cell? ⟨N6, 6, none⟩ = some (.int .i64 D.fr) := cell_blk jd9 6
            have r6 : W9.cell? ⟨Z, 6, none⟩ = some (.int .i64 D.fr) := cell_blk jr9 6
            have d7 : W9.cell? ⟨N6, 7, none⟩ = some (.slice lad D.list.length lcap) := cell_blk jd9 7
            have r7 : W9.cell? ⟨Z, 7, none⟩ = some (.slice rad D.list.length rcap) := cell_blk jr9 7
            have HW9 := Lib.hid hW9
            have HS9 := Lib.hid hS9
            have HJ9 := Lib.hid jd9
            have HZ := Lib.hid hZ
            have HWT9 := Lib.hid hwt9
            clear hW9 bW9 hS8 hS9 jr9 jd9 jd8 hZ HS7 HJ7 HW7 hwt8 hwt9 hes8 he8 hr8 hf8 hkeep HWT HO7
            go_upto_region 19 with fail
            rw [← HW9.out, HZ.out]
            go_wp2_with fail
            refine hsd.mono ?_
            rintro e w10 ⟨rfl, hb10⟩
            have jd10 := (hb10.block N6 (blk_lt HJ9.out)).trans HJ9.out
            have hS10 := HS9.out.on hb10
            have hwt10 := HWT9.out.on (fun k _ z => hb10.block k (by have := HS9.out.hN; omega))
            have v7 : w10.cell? ⟨N6, 7, none⟩ = some (.slice lad D.list.length lcap) := cell_blk jd10 7
            obtain ⟨n, hn⟩ : ∃ n, D.list.length = n := ⟨_, rfl⟩
            rw [hn] at hwt10 v7
            have hni : (n : Int) ≤ 9223372036854775807 := by
              obtain ⟨_, _, _, z1, z2, _⟩ := hwt10
              unfold maxLen at z2
              omega
            have HS10 := Lib.hid hS10
            have HWT10 := Lib.hid hwt10
            have HJ10 : Hid (∃ cs : Array Value, cs[7]? = some (.slice lad n lcap) ∧ w10.heap[N6]? = some (.cells cs 44 (0, 0))) := by
              rw [← hn]
              exact ⟨_, rfl, jd10⟩
            clear hsd hb10 jd10 hS10 HS9 HJ9 HW9 HWT9 hwt10 hn d0 r0 d1 r1 d2 r2 d3 r3 d4 r4 d5 r5 d6 r6 d7 r7
            go_wp2
            go_loopw [115] (fun jv wz => ∃ j : Nat, j ≤ n ∧ jv = .int .i64 (j : Int) ∧ Mid w wz A B b2 b2 S2 T3 N5 N6 ∧ Wt wz N5 N6 (.slice lad n lcap) n ∧ ∃ cs : Array Value, cs[7]? = some (.slice lad n lcap) ∧ wz.heap[N6]? = some (.cells cs 44 (0, 0))) (fun jv _ => n - (intOf jv).toNat)
            case atStart => exact ⟨0, Nat.zero_le _, rfl, HS10.out, HWT10.out, HJ10.out⟩
            case round =>
              clear HS10 HWT10 HJ10 v7
              obtain ⟨j, hj, rfl, hSj, hwj, cs, hcs, hjd⟩ := hrel
              obtain ⟨wj, rfl⟩ : ∃ wj, wj = wr := ⟨_, rfl⟩
              have v7 : wj.cell? ⟨N6, 7, none⟩ = some (.slice lad n lcap) := (cell_blk hjd 7).trans hcs
              by_cases hjl : j < n
              · have j0 : (0 : Int) ≤ (j : Int) := by omega
                have j1 : (j : Int) < (n : Int) := by omega
                have hwj' := hwj
                obtain ⟨lad', lcap', elv', hlc, hlm, hw⟩ := hwj'
                cases elv'
                obtain ⟨g3, cur, rfl, hcur, hsz3, hg1, hg2⟩ := hw (by omega)
                obtain ⟨u, hu⟩ : ∃ u, wj.cell? ⟨g3, j * 4 + 3, none⟩ = some u := by
                  rw [cell_blk hcur, Array.getElem?_eq_getElem (by omega)]
                  exact ⟨_, rfl⟩
                have hfz : wj.frozen? ⟨g3, j * 4 + 3, none⟩ = false := frozen_blk hcur _
                have hne : N6 ≠ g3 := by omega
                have HS6 := Lib.hid (fun v => hSj.set HOO3.out (g := g3) (i := j * 4 + 3) hg1 hg2 v)
                have HM6 := Lib.hid (fun v => hwj.set (g := g3) (i := j * 4 + 3) v)
                have HJ6 := Lib.hid (fun v => (set_other (w := wj) (a := ⟨g3, j * 4 + 3, none⟩) v hne).trans hjd)
                have HCS := Lib.hid hcs
                clear hSj hwj hcur hw hsz3 hlm hlc hg1 hg2 hjd hcs
                go_wp2
                go_roundw
                case rel => exact ⟨j + 1, by omega, by go_num, HS6.out _, HM6.out _, cs, HCS.out, HJ6.out _⟩
                case measure => simp [intOf]; omega
              · have j1 : ¬ (j : Int) < (n : Int) := by omega
                have HSJ := Lib.hid hSj
                clear hSj hwj hcs hjd v7
                go_wp2
                go_loopw [126] (fun iv wz => iv = .int .i64 0 ∧ Mid w wz A B b2 b2 S2 T3 N5 N6) (fun _ _ => 0)
                case atStart => exact ⟨rfl, HSJ.out⟩
                case round =>
                  clear HSJ
                  obtain ⟨rfl, hSi⟩ := hrel
                  have HSI := Lib.hid hSi
                  clear hSi
                  go_wp2
                  go_roundw
                  case rel => exact ⟨k + 1, b2, S2, T3, N5, N6, hlt, by go_num, HBD3.out, HKP3.out, HOK3.out, HSI.out⟩
                  case measure => simp [intOf]; omega
        · have k6d : (x.kind == 6) = false := by simpa using k6
          obtain ⟨c, hcd⟩ : ∃ c, (didR b x).1 = c := ⟨_, rfl⟩
          obtain ⟨M, hM⟩ : ∃ M, (didR b x).2.1 = M := ⟨_, rfl⟩
          obtain ⟨nn, hnn⟩ : ∃ nn, (didR b x).2.2 = nn := ⟨_, rfl⟩
          have hwv := fun Q => wav_did b Q x
          rw [hcd, hM, hnn] at hdid
          simp only [hcd, hM, hnn] at hwv
          have hOK := HOK.out
          have hBD := HBD.out
          have hKP := HKP.out
          rw [hcd] at hOK hBD hKP
          have HBD2 := Lib.hid hBD
          have HKP2 := Lib.hid hKP
          have HOK2 := Lib.hid hOK
          clear HBD HKP HOK hBD hKP hOK hcd hM hnn
          go_upto_region 12 with fail
          rw [← HW1.out, HX.out]
          clear c0 c1 c2 c3 c4 c5 c6 c7 c8 c9 c10 c11 c12 c13
          go_wp2_with fail
          refine hdid.mono ?_
          rintro e w2 ⟨ov, rfl, q2⟩
          obtain ⟨ad1, cap1, rfl⟩ := q2.shape
          obtain ⟨S2, B2, O, hO, hOu, hS2, hf2⟩ := hS1.did hob q2
          have hz2 := hf2.size
          have jx2 := (hf2.block X (blk_lt jx1) hXS).trans jx1
          have hE2 : Es w2 T x.m.list (.slice mad x.m.list.length mcap) := HE.out.stays (S' := T) (Fr.ofBelow (fun _ => False) hS2.bel) (fun k z => .inr ⟨hS2.lot k z, hS2.rb.lt k z⟩)
          have hwant := want_any hS2.rb (HK1.out.wav _) (show Nb (b.wav _) from HNB.out) x hE2 HZ1.out zz4 (show (b.wav _).last ≤ 4398046511104 from HBL.out)
          rw [hwv] at hwant
          have hml := map_len hO
          rw [hml]
          clear hdid q2 hS1 hf2 jx1 o0 o1 o2 o3 o4 o5 o6 o7 o8 o9 o10 o11 o12 o13 hE1 hE2 HW1 hob
          have p0 : w2.cell? ⟨X, 0, none⟩ = some (.int .i64 x.kind) := cell_blk jx2 0
          have p1 : w2.cell? ⟨X, 1, none⟩ = some (.int .i64 x.a) := cell_blk jx2 1
          have p2 : w2.cell? ⟨X, 2, none⟩ = some (.int .i64 x.b) := cell_blk jx2 2
          have p3 : w2.cell? ⟨X, 3, none⟩ = some (.string x.text) := cell_blk jx2 3
          have p4 : w2.cell? ⟨X, 4, none⟩ = some (.int .i64 x.m.kind) := cell_blk jx2 4
          have p5 : w2.cell? ⟨X, 5, none⟩ = some (.int .i64 x.m.fr) := cell_blk jx2 5
          have p6 : w2.cell? ⟨X, 6, none⟩ = some (.int .i64 x.m.tgt) := cell_blk jx2 6
          have p7 : w2.cell? ⟨X, 7, none⟩ = some (.int .i64 x.m.term) := cell_blk jx2 7
          have p8 : w2.cell? ⟨X, 8, none⟩ = some (.int .i64 x.m.index) := cell_blk jx2 8
          have p9 : w2.cell? ⟨X, 9, none⟩ = some (.int .i64 x.m.prev) := cell_blk jx2 9
          have p10 : w2.cell? ⟨X, 10, none⟩ = some (.int .i64 x.m.commit) := cell_blk jx2 10
          have p11 : w2.cell? ⟨X, 11, none⟩ = some (.bool x.m.good) := cell_blk jx2 11
          have p12 : w2.cell? ⟨X, 12, none⟩ = some (.slice mad x.m.list.length mcap) := cell_blk jx2 12
          have p13 : w2.cell? ⟨X, 13, none⟩ = some (.string x.m.snap) := cell_blk jx2 13
          go_wp2_with fail
          refine hwant.mono ?_
          rintro e w3 ⟨ov2, rfl, q3⟩
          obtain ⟨ad2, cap2, rfl⟩ := q3.shape
          obtain ⟨T3, O2, hO2, hr2, hl2, hS3, hf3⟩ := hS2.want (b' := c) q3
          have jx3 := (hf3.block X (blk_lt jx2) hXT).trans jx2
          have hOu3 : Ou w3 B2 O (.slice ad1 M.length cap1) := hOu.held (fun k z1 z2 => hf3.block k z2 (fun t => hS2.tB k t ⟨z1, z2⟩))
          have hmw : Mw w3 B2 w2.heap.size O (.slice ad1 M.length cap1) := (Mw.of hOu).keep (fun k z1 z2 => hf3.block k z2 (fun t => hS2.tB k t ⟨z1, z2⟩)) (Nat.le_refl _)
          rw [hml] at hOu3 hmw
          have hml2 := map_len hO2
          rw [hml2] at hr2 ⊢
          have hsame := msgs_same (S := fun _ => False) (T := T3) hOu3.own (fun p hp => Es.own (hOu3.ls p hp) (fun _ _ q => q)) hr2 hl2 (hO.trans hO2.symm)
          have hst := fun V (hV : Below w3.heap.size w3 V) => stands_p ((hS3.pb.on hV).wav _) (hS3.rb.on hV)
          have y0 : w3.cell? ⟨X, 0, none⟩ = some (.int .i64 x.kind) := cell_blk jx3 0
          have HJX := Lib.hid jx3
          have HS3 := Lib.hid hS3
          have HMW := Lib.hid hmw
          have HST := Lib.hid hst
          obtain ⟨N2, hN2⟩ : ∃ N2, w2.heap.size = N2 := ⟨_, rfl⟩
          rw [hN2] at HS3 HMW
          clear hwant q3 hS2 hS3 hf3 jx2 jx3 hOu hOu3 hmw hr2 hl2 hst hml hml2 hO hO2 p0 p1 p2 p3 p4 p5 p6 p7 p8 p9 p10 p11 p12 p13 hz2 y0 hN2
          go_wp2_with fail
          refine hsame.mono ?_
          rintro e w4 ⟨rfl, hb4⟩
          clear hsame
          have hst := HST.out w4 hb4
          have HB4 := Lib.hid hb4
          clear HST hb4
          go_wp2_with fail
          refine hst.mono ?_
          rintro e w5 ⟨rfl, hb5⟩
          have b35 := HB4.out.trans (hb5.mono HB4.out.size)
          have jx5 := (b35.block X (blk_lt HJX.out)).trans HJX.out
          have hS5 := HS3.out.on b35
          have hmw5 := HMW.out.keep (fun k _ z => b35.block k z) HS3.out.hN
          have y0 : w5.cell? ⟨X, 0, none⟩ = some (.int .i64 x.kind) := cell_blk jx5 0
          clear hst HB4 hb5 b35 HS3 HMW HJX jx5
          have hml := own_len hmw5.own
          have HOO : Hid (c.out = []) := HOK2.out.out
          go_wp2
          go_loopw [126] (fun iv wz => ∃ i : Nat, i ≤ O.length ∧ iv = .int .i64 (i : Int) ∧ Mid w wz A B c c S2 T3 B2 N2 ∧ Mw wz B2 N2 O (.slice ad1 O.length cap1)) (fun iv _ => O.length - (intOf iv).toNat)
          case atStart => exact ⟨0, Nat.zero_le _, rfl, hS5, hmw5⟩
          case round =>
            clear hS5 hmw5 y0
            obtain ⟨i, hi, rfl, hSi, hmi⟩ := hrel
            obtain ⟨wi, rfl⟩ : ∃ wi, wi = wr := ⟨_, rfl⟩
            by_cases hil : i < O.length
            · have i0 : (0 : Int) ≤ (i : Int) := by omega
              have i1 : (i : Int) < (O.length : Int) := by omega
              obtain ⟨g1, e1, x0, x1, x2, x3, x4, x5, x6, x7, x8, x9⟩ := own_msgs hmi.own hil
              have hwt := hmi.ls O[i] (List.getElem_mem hil)
              obtain ⟨lad, lcap, elv, hlc, hlm, _⟩ := hwt
              rw [elv] at x8
              obtain ⟨n, hn⟩ : ∃ n, O[i].1.list.length = n := ⟨_, rfl⟩
              rw [hn] at x8 elv hlc
              have hni : (n : Int) ≤ 9223372036854775807 := by unfold maxLen at hlm; omega
              subst e1
              have HSI := Lib.hid hSi
              have HMI := Lib.hid hmi
              have HEL := Lib.hid elv
              have HN := Lib.hid hn
              clear hSi hmi elv hn x0 x1 x2 x3 x4 x5 x6 x7 x9 hlm hlc
              go_wp2
              go_loopw [135] (fun jv wz => ∃ j : Nat, j ≤ n ∧ jv = .int .i64 (j : Int) ∧ Mid w wz A B c c S2 T3 B2 N2 ∧ Mw wz B2 N2 O (.slice (some ⟨g1, 0, none⟩) O.length cap1)) (fun jv _ => n - (intOf jv).toNat)
              case atStart => exact ⟨0, Nat.zero_le _, rfl, HSI.out, HMI.out⟩
              case round =>
                clear HSI HMI x8
                obtain ⟨j, hj, rfl, hSj, hmj⟩ := hrel
                by_cases hjl : j < n
                · have j0 : (0 : Int) ≤ (j : Int) := by omega
                  have j1 : (j : Int) < (n : Int) := by omega
                  obtain ⟨g2, e2, x0, x1, x2, x3, x4, x5, x6, x7, x8, x9⟩ := own_msgs hmj.own hil
                  cases e2
                  obtain ⟨lad', lcap', elv', hlc, hlm, hw⟩ := hmj.ls O[i] (List.getElem_mem hil)
                  rw [HEL.out, HN.out] at elv'
                  cases elv'
                  rw [HEL.out] at x8
                  obtain ⟨g3, cur, rfl, hcur, hsz3, hg1, hg2⟩ := hw (by rw [HN.out]; omega)
                  rw [HN.out] at hsz3
                  obtain ⟨u, hu⟩ : ∃ u, wr.cell? ⟨g3, j * 4 + 3, none⟩ = some u := by
                    rw [cell_blk hcur, Array.getElem?_eq_getElem (by omega)]
                    exact ⟨_, rfl⟩
                  have hfz : wr.frozen? ⟨g3, j * 4 + 3, none⟩ = false := frozen_blk hcur _
                  have hS6 := fun v => hSj.set HOO.out (g := g3) (i := j * 4 + 3) hg1 hg2 v
                  have hM6 := fun v => hmj.set (i := j * 4 + 3) hcur v
                  have HS6 := Lib.hid hS6
                  have HM6 := Lib.hid hM6
                  clear hSj hmj hS6 hM6 hcur hw x0 x1 x2 x3 x4 x5 x6 x7 x9 hsz3 hlm hlc hg1 hg2
                  go_wp2
                  go_roundw
                  case rel => exact ⟨j + 1, by omega, by go_num, HS6.out _, HM6.out _⟩
                  case measure => simp [intOf]; omega
                · have j1 : ¬ (j : Int) < (n : Int) := by omega
                  have HSJ := Lib.hid hSj
                  have HMJ := Lib.hid hmj
                  clear hSj hmj
                  go_wp2
                  go_roundw
                  case rel => exact ⟨i + 1, by omega, by go_num, HSJ.out, HMJ.out⟩
                  case measure => simp [intOf]; omega
            · have i1 : ¬ (i : Int) < (O.length : Int) := by omega
              have HSI := Lib.hid hSi
              clear hSi hmi
              go_wp2
              go_roundw
              case rel => exact ⟨k + 1, c, S2, T3, B2, N2, hlt, by go_num, HBD2.out, HKP2.out, HOK2.out, HSI.out⟩
              case measure => simp [intOf]; omega
      · have k1 : ¬ (k : Int) < L.length := by omega
        have hst := stands_p (hS.pb.wav _) hS.rb
        have HBE := Lib.hid hS.bel
        clear hS hbd hkp hok
        go_wp2_with fail
        refine hst.mono ?_
        rintro e w9 ⟨rfl, hb9⟩
        go_wp2
        go_ret
        exact ⟨rfl, HBE.out.trans (hb9.mono HBE.out.size)⟩
theorem plays_law (hL : Lo w L ad) (hc : L.length ≤ cap) (hm : cap ≤ maxLen) (id size : Int) :
    Calls Try.prog 3 #[.int .i64 id, .int .i64 size, .slice ad L.length cap] w fun e w' => e = .returned (.bool true) ∧ Below w.heap.size w w' := by
  by_cases hv : 1 ≤ size ∧ size ≤ 5 ∧ 0 ≤ id ∧ id < size
  · obtain ⟨n, rfl⟩ : ∃ n : Nat, id = n := ⟨id.toNat, by omega⟩
    obtain ⟨s, rfl⟩ : ∃ s : Nat, size = s := ⟨size.toNat, by omega⟩
    exact plays_yes hL hc hm n s (by omega) (by omega) (by omega)
  · exact plays_no hL hc hm id size hv
end
open Go.ChangeShapes Go.WideShapes Go.ChangeAt Go.WideMaps Go.WideElems
open Go.ChangeMaps (open_string)
set_option maxRecDepth 100000 in
theorem ballotPlays_lifted (os : Os) (started : os.Started) (H : Type) (enc : TypeId × Value → H) :
    ReturnsInHanded {} Try.checked os 3 .any (Rows.ballotPlaysSpec.pre6 enc Try.prog Try.f3 Rows.ballotPlaysRow.domain false) (Rows.ballotPlaysSpec.post enc Try.prog Try.f3 false true false false) := by
  refine returnsInHanded_of_change_sized (C := Try.checked) own started (by kernel_rfl) Try.func3
    (ChangeSpec.witness6 (enc := enc) (C := Try.checked) false ⟨#[], #[.int .i64 0, .int .i64 0, .slice none 0 0], []⟩ 8 (by kernel_rfl) (by kernel_rfl) (by kernel_rfl) (by kernel_rfl)) ?_
  intro W base args ds gs before hval0 hW _ hsz0 _
  have hsz : (DataW.weightsEach Try.prog (Try.f3.params.toList ++ Rows.ballotPlaysSpec.plain.varTypes Try.prog) (ds ++ gs)).all (· ≤ reachBytes) = true := hsz0
  clear hsz0
  have hval : ∀ (j : Nat) t v, Try.f3.params[j]? = some t → args[j]? = some v → Value.okWide Try.prog W .any base t v := hval0
  have hW' := hW
  obtain ⟨p, q, hA0, hV, rfl, _, _⟩ := hW
  have hA : DataW.TrodAll enc Try.prog W 0 (fun _ => true) true Try.f3.params.toList args.toList ds p := hA0
  rw [Try.params3] at hA hval hsz
  obtain ⟨v0, v1, v2, d0, d1, d2, p0, p1, p2, rfl, rfl, rfl, h0, h1, h2⟩ := trodAll_three hA
  obtain ⟨rfl, rfl⟩ := trodVars_none hV
  have h0k := h0
  obtain ⟨n0, rfl⟩ : ∃ n : Int, v0 = .int .i64 n := by obtain ⟨n, e, _⟩ := open_int Try.underlying3 (hval 0 3 v0 rfl rfl) h0; exact ⟨n, e⟩
  have h1k := h1
  obtain ⟨n1, rfl⟩ : ∃ n : Int, v1 = .int .i64 n := by obtain ⟨n, e, _⟩ := open_int Try.underlying3 (hval 1 3 v1 rfl rfl) h1; exact ⟨n, e⟩
  have h2k := h2
  have hz : ∀ n ∈ DataW.weights Try.prog 22 d2, n ≤ reachBytes := fun n hn => by
    have := List.all_eq_true.1 hsz _ (DataW.weights_mem_each (j := 2) (t := 22) rfl rfl n hn)
    simpa using this
  obtain ⟨L, ad, cap, rfl, hL, hc, hm⟩ := open_ops (hval 2 22 v2 rfl rfl) h2 hz
  clear hA0 hval0
  simp only [List.append_nil] at hW'
  have hlt0 : ∀ x ∈ p0, x.block < W.heap.size := fun x hx => hW'.lt x (by simp [hx])
  have hlt1 : ∀ x ∈ p1, x.block < W.heap.size := fun x hx => hW'.lt x (by simp [hx])
  have hlt2 : ∀ x ∈ p2, x.block < W.heap.size := fun x hx => hW'.lt x (by simp [hx])
  clear hsz
  refine (plays_law hL hc hm n0 n1).mono fun e W' ⟨he, hb⟩ => ?_
  subst he
  refine ⟨_, rfl, _, _, _, [], _, [], hW', ?_, trodAll_mk3 (again_int h0k hb (hlt0)) (again_int h1k hb (hlt1)) (again_ops h2k hb (hlt2)), rfl, hb.frame _, fun h => by cases h⟩
  exact trodAll_mk1 (shut_bool Try.underlying4 true)

theorem ballotPlays_holds : Rows.BallotPlaysSaid :=
  OpenClaim.holds_of_wide 3 Try.f3 rfl rfl rfl rfl rfl rfl rfl ⟨rfl, rfl, rfl, rfl, rfl⟩ rfl rfl rfl rfl rfl (by kernel_rfl) Try.func3 (by kernel_rfl)
    (of_decide_eq_true (by kernel_rfl)) (by unfold Func.isWrapper; rw [if_neg (of_decide_eq_false (by kernel_rfl))]; exact ⟨rfl, rfl⟩)
    (fun os started H enc _ => ballotPlays_lifted os started H enc)
#print axioms ballotPlays_holds
end Go.Proofs.Ytmiagjcihmenfaa
