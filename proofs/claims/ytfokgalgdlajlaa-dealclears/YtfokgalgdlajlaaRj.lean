/- The walk of plays, at a clearing. -/
import Derived.Test.YtfokgalgdlajlaaRi
import Derived.Test.YtfokgalgdlajlaaDc
namespace Go.Proofs.Ytfokgalgdlajlaa
open Go.RowKit
/-- Whose and where lie within bounds. -/
structure CI (c : CW) : Prop where
  t0 : I64 c.t0
  t1 : I64 c.t1
  t2 : I64 c.t2
  home : I64 c.home
  sh : I64 c.sh
theorem asks_in {c : CW} {s : CS} (hc : CI c) (hs : I64 s.ts) : ∀ a ∈ c.asks s, AkI a := fun a ha => by
  have h0 : I64 0 := by unfold I64; omega
  have h3 : I64 3 := by unfold I64; omega
  have h4 : I64 4 := by unfold I64; omega
  unfold CW.asks at ha
  split at ha
  · obtain rfl := List.mem_singleton.1 ha
    exact ⟨h3, ⟨hc.t0, hc.t1, hc.t2⟩, hc.home, h0, h0, h0, h0, h0⟩
  · split at ha
    · obtain rfl := List.mem_singleton.1 ha
      exact ⟨h4, ⟨hc.t0, hc.t1, hc.t2⟩, hc.home, h0, h0, hs, h0, h0⟩
    · cases ha
theorem told_ts (c : CW) (s : CS) (hs : I64 s.ts) (sh kd : Int) (r : Rz) : I64 (CS.told c s sh kd r).ts := by
  have h0 : I64 0 := by unfold I64; omega
  unfold CS.told CS.ends
  by_cases h1 : r.ts < 0
  · rw [if_pos h1]
    exact hs
  · rw [if_neg h1]
    by_cases h2 : 1125899906842624 < r.ts
    · rw [if_pos h2]
      exact hs
    · rw [if_neg h2]
      have h3 : I64 r.ts := by unfold I64; omega
      split
      · split
        · split
          · exact h0
          · split
            · exact h3
            · exact hs
        · exact hs
      · exact hs
/-- A call of the script. -/
structure Od where
  o : Int
  s : Int
  k : Int
  n : Int
  r : Rz
abbrev odL (x : Od) : List Value := [.int .i64 x.o, .int .i64 x.s, .int .i64 x.k, .int .i64 x.n, .int .i64 x.r.er, .int .i64 x.r.ts, .int .i64 x.r.a, .int .i64 x.r.b, .int .i64 x.r.c, .int .i64 x.r.d, .int .i64 x.r.e, .int .i64 x.r.f, .bool x.r.nw]
theorem odL_len (x : Od) : (odL x).length = 13 := rfl
theorem rz_load {X : World} {Y : Nat} {x : Od} (jY : X.heap[Y]? = some (.cells (opA x.o x.s x.k x.n x.r) 50 (0, 0))) : (Instr.loadAt 48 (.pointer (some ⟨Y, 4, none⟩))).run Try.prog X = .ok (.agg (rzA x.r)) X := run_loadAt_mid X Y 4 48 ((rzA x.r).toList) _ (fun j u hu => by
    rw [cell_blk jY]
    match j, hu with
    | 0, hu => exact hu
    | 1, hu => exact hu
    | 2, hu => exact hu
    | 3, hu => exact hu
    | 4, hu => exact hu
    | 5, hu => exact hu
    | 6, hu => exact hu
    | 7, hu => exact hu
    | 8, hu => exact hu
    | m + 9, hu => cases hu) Try.underlying48 rfl size48
/-- Both clearings, in the same state; what lay there before is as it was. -/
structure Both (w0 : World) (A g R b : Nat) (c : CW) (s : CS) (w : World) : Prop where
  pd : PD w A g c s
  rs : RS w R b c s
  ts : I64 s.ts
  old : Below w0.heap.size w0 w
theorem Both.on {w0 w w' : World} {A g R b : Nat} {c : CW} {s : CS} (h : Both w0 A g R b c s w) (hb : Below w.heap.size w w') : Both w0 A g R b c s w' := ⟨h.pd.on hb, h.rs.on hb, h.ts, bgo h.old hb⟩
theorem below_put2 {B : Nat} {w X V : World} {Y Z : Nat} (hb : Below B w X) (hB : B ≤ w.heap.size) (hf : Fr X V (fun k => k = Y ∨ k = Z)) (hY : B ≤ Y) (hZ : B ≤ Z) : Below B w V :=
  hb.trans (hf.toBelow (fun k hk q => by rcases q with q | q <;> omega) (Nat.le_trans hB hb.size))
section
variable {w0 w : World} {A g R b : Nat} {c : CW} {s : CS}
set_option maxHeartbeats 16000000 in
set_option maxRecDepth 100000 in
theorem plays_any {Os : List Od} {v : Value} (hc : CI c) (hl : Lr (fun _ x cs => cs = odL x) 13 w0 Os v) (h : Both w0 A g R b c s w) (hA : w0.heap.size ≤ A) (hR : w0.heap.size ≤ R) (hb : w0.heap.size ≤ b) : Calls Try.prog 11 #[.pointer (some ⟨A, 0, none⟩), .pointer (some ⟨R, 0, none⟩), v] w fun e w' => e = .returned (.bool true) ∧ Below w0.heap.size w0 w' := by
  obtain ⟨la, lc, rfl, _, z1, z2, hX⟩ := hl
  have hmx : (Os.length : Int) ≤ 9223372036854775807 := by unfold maxLen at z2; omega
  have HX := Lib.hid hX
  have HC := Lib.hid hc
  have HH := Lib.hid h
  have HO := Lib.hid (And.intro hA (And.intro hR hb))
  clear hX z1 z2 hc h hA hR hb
  go_enter Try.func11, Try.ntmps11
  go_wp2
  go_loopw [11] (fun iv wr => ∃ (i : Nat) (s' : CS), i ≤ Os.length ∧ iv = .int .i64 (i : Int) ∧ Both w0 A g R b c s' wr) (fun iv _ => Os.length - (intOf iv).toNat)
  case atStart => exact ⟨0, s, Nat.zero_le _, rfl, HH.out⟩
  case round =>
    obtain ⟨i, s', hi, rfl, hbo⟩ := hrel
    obtain ⟨V, rfl⟩ : ∃ V, V = wr := ⟨_, rfl⟩
    by_cases hlt : i < Os.length
    · obtain ⟨b0, o, cs', rfl, hbl, hE, _, hcell⟩ := HX.out i hlt
      have hE' : cs' = odL Os[i] := hE
      subst hE'
      generalize Os[i] = x at *
      have hld : (Instr.loadAt 50 (.pointer (some ⟨b0, o + i * 13, none⟩))).run Try.prog V = .ok (.agg (opA x.o x.s x.k x.n x.r)) V := run_loadAt_mid V b0 (o + i * 13) 50 (odL x) _ (fun j u hu => cell_on hbo.old (hcell j u hu)) Try.underlying50 rfl size50
      obtain ⟨V2, e2, k2, f2⟩ := st_row (heap_alloc_new V (.cells #[.int .i64 0, .int .i64 0, .int .i64 0, .int .i64 0, .int .i64 0, .int .i64 0, .int .i64 0, .int .i64 0, .int .i64 0, .int .i64 0, .int .i64 0, .int .i64 0, .bool false] 50)) (us := opA x.o x.s x.k x.n x.r) rfl size50 (by simp [Value.oneCell'])
      have b2 : Below V.heap.size V V2 := below_put (bnew V _) (Nat.le_refl _) f2 (Nat.le_refl _)
      have hbo2 := hbo.on b2
      have hsm := same_any hbo2.pd hbo2.rs (asks_in HC.out hbo2.ts)
      have hAV : A < V.heap.size := blk_lt hbo.pd.blk
      have hRV : R < V.heap.size := blk_lt hbo.rs.rx.blk
      have hbV : b < V.heap.size := blk_lt hbo.rs.rx.part
      have HLD := Lib.hid hld
      have HS2 := Lib.hid e2
      have HK2 := Lib.hid k2
      have HBO := Lib.hid hbo2
      have HSM := Lib.hid hsm
      have HLT := Lib.hid (And.intro hlt (And.intro hAV (And.intro hRV hbV)))
      have k0 : (0 : Int) ≤ i := by omega
      have k1 : (i : Int) < Os.length := by omega
      clear hbo hcell hld e2 k2 f2 b2 hbo2 hsm hAV hRV hbV
      go_wp2_with (first | (refine wpl_load _ rfl (by first | rfl | simp [Act.eval]) HLD.out ?_) | (refine wpl_store _ _ rfl (by first | rfl | simp [Act.eval]) (by first | rfl | simp [Act.eval]) HS2.out ?_))
      refine HSM.out.mono ?_
      rintro e v3 ⟨rfl, b3⟩
      have hbo3 := HBO.out.on b3
      have j3 : v3.heap[V.heap.size]? = some (.cells (opA x.o x.s x.k x.n x.r) 50 (0, 0)) := (b3.block _ (blk_lt HK2.out)).trans HK2.out
      have d0 : v3.cell? ⟨V.heap.size, 0, none⟩ = some (.int .i64 x.o) := cell_blk j3 0
      have HBO3 := Lib.hid hbo3
      have HJ3 := Lib.hid j3
      clear b3 hbo3 j3
      by_cases h1 : x.o = 1
      · rw [h1] at d0
        have d1 : v3.cell? ⟨V.heap.size, 1, none⟩ = some (.int .i64 x.s) := cell_blk HJ3.out 1
        have d2 : v3.cell? ⟨V.heap.size, 2, none⟩ = some (.int .i64 x.k) := cell_blk HJ3.out 2
        have HL48 := Lib.hid (rz_load HJ3.out)
        have HPT := Lib.hid (ptold_any HBO3.out.pd HBO3.out.rs.ph x.s x.k x.r)
        go_wp2_with (refine wpl_load _ rfl (by first | rfl | simp [Act.eval]) HL48.out ?_)
        refine HPT.out.mono ?_
        rintro e v4 ⟨rfl, hp4, f4⟩
        have hr4 : RS v4 R b c s' := ⟨HBO3.out.rs.rx.fr HBO3.out.pd.blk f4, HBO3.out.rs.ph⟩
        have o4 := below_put HBO3.out.old (Nat.le_refl _) f4 HO.out.1
        have j4 : v4.heap[V.heap.size]? = some (.cells (opA x.o x.s x.k x.n x.r) 50 (0, 0)) := (f4.block _ (blk_lt HJ3.out) (fun q => by have := HLT.out.2.1; omega)).trans HJ3.out
        have g1 : v4.cell? ⟨V.heap.size, 1, none⟩ = some (.int .i64 x.s) := cell_blk j4 1
        have g2 : v4.cell? ⟨V.heap.size, 2, none⟩ = some (.int .i64 x.k) := cell_blk j4 2
        have HL49 := Lib.hid (rz_load j4)
        have HRT := Lib.hid (rtold_any hr4 x.s x.k x.r)
        have HP4 := Lib.hid (And.intro hp4 (And.intro hr4 o4))
        clear hp4 f4 hr4 o4 j4 d0 d1 d2 HL48
        go_wp2_with (refine wpl_load _ rfl (by first | rfl | simp [Act.eval]) HL49.out ?_)
        refine HRT.out.mono ?_
        rintro e v5 ⟨rfl, hr5, f5⟩
        have HE : Hid (Both w0 A g R b c (CS.told c s' x.s x.k x.r) v5) := Lib.hid ⟨HP4.out.1.fr HP4.out.2.1.rx f5, hr5, told_ts c s' HBO3.out.ts x.s x.k x.r, below_put2 HP4.out.2.2 (Nat.le_refl _) f5 HO.out.2.1 HO.out.2.2⟩
        clear hr5 f5 g1 g2
        go_wp2
        go_roundw
        case rel => exact ⟨i + 1, _, HLT.out.1, by go_num, HE.out⟩
        case measure => simp [intOf]; have := HLT.out.1; omega
      · by_cases h2 : x.o = 2
        · rw [h2] at d0
          have d3 : v3.cell? ⟨V.heap.size, 3, none⟩ = some (.int .i64 x.n) := cell_blk HJ3.out 3
          have HPL := Lib.hid (plate_any HBO3.out.pd HBO3.out.rs.ph x.n)
          have HRL := Lib.hid (rlate_any HBO3.out.rs x.n)
          go_wp2_with fail
          refine HPL.out.mono ?_
          rintro e v4 ⟨rfl, e4⟩
          have e4' := e4.symm
          subst e4'
          clear e4
          go_wp2_with fail
          refine HRL.out.mono ?_
          rintro e v5 ⟨rfl, e5⟩
          have e5' := e5.symm
          subst e5'
          clear e5 d0 d3
          go_wp2
          go_roundw
          case rel => exact ⟨i + 1, _, HLT.out.1, by go_num, HBO3.out⟩
          case measure => simp [intOf]; have := HLT.out.1; omega
        · go_wp2
          go_roundw
          case rel => exact ⟨i + 1, _, HLT.out.1, by go_num, HBO3.out⟩
          case measure => simp [intOf]; have := HLT.out.1; omega
    · obtain rfl : i = Os.length := by omega
      have k1 : ¬ (Os.length : Int) < Os.length := by omega
      have hsm := same_any hbo.pd hbo.rs (asks_in HC.out hbo.ts)
      have HSM := Lib.hid hsm
      have HBO := Lib.hid hbo
      clear hbo hsm
      go_wp2_with fail
      refine HSM.out.mono ?_
      rintro e v3 ⟨rfl, b3⟩
      have HB3 := Lib.hid (bgo HBO.out.old b3)
      clear b3
      go_wp2
      refine bodyPost_ret (v := .bool true) (by simp [results, Try.results11, go_sem]) rfl ?_
      exact ⟨rfl, HB3.out⟩
end
end Go.Proofs.Ytfokgalgdlajlaa
