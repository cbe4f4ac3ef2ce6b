/- A command; the walk of against. -/
import Derived.Test.YtcoaahlakkghhaaGi
namespace Go.Proofs.Ytcoaahlakkghhaa
open Go.RowKit
structure Cm where
  kind : Int
  txn : Td
  home : Int
  reads : List Rn
  writes : List Wr
  mn : Int
  til : Int
  ts : Int
/-- The cells of a command. -/
structure Cc (w : World) (c : Cm) (cs : Array Value) (ra : Option Addr) (rc : Nat) (wa : Option Addr) (wc : Nat) : Prop where
  sz : cs.size = 30
  one : cs.all (·.oneCell') = true
  k : cs[0]? = some (.int .i64 c.kind)
  t0 : cs[4]? = some (.int .i64 c.txn.1)
  t1 : cs[5]? = some (.int .i64 c.txn.2.1)
  t2 : cs[6]? = some (.int .i64 c.txn.2.2)
  hm : cs[7]? = some (.int .i64 c.home)
  rs : cs[8]? = some (.slice ra c.reads.length rc)
  ws : cs[9]? = some (.slice wa c.writes.length wc)
  mn : cs[10]? = some (.int .i64 c.mn)
  til : cs[11]? = some (.int .i64 c.til)
  ts : cs[12]? = some (.int .i64 c.ts)
  rl : Lr rnE 3 w c.reads (.slice ra c.reads.length rc)
  wl : Lr wrE 3 w c.writes (.slice wa c.writes.length wc)
theorem Cc.on {w w' : World} {c : Cm} {cs : Array Value} {ra wa : Option Addr} {rc wc : Nat} (h : Cc w c cs ra rc wa wc) (hb : Below w.heap.size w w') : Cc w' c cs ra rc wa wc :=
  ⟨h.sz, h.one, h.k, h.t0, h.t1, h.t2, h.hm, h.rs, h.ws, h.mn, h.til, h.ts, h.rl.on rnE_held hb, h.wl.on wrE_held hb⟩
/-! ### Plain -/
def busyRd (L : List Lk) (p : Sn) : Rz := busyR (fun l => holdsInB l p) L
def busyWr (L : List Lk) (k : ByteArray) : Rz := busyR (fun l => holdsB l k || coversB l k) L
def stale0 : Rz := ⟨130, 0, td0, 0, false⟩
def againstRd (s : Sh) : List Rn → Option Rz
  | [] => none
  | r :: l => if (busyRd s.locks r.span).err ≠ 0 then some (busyRd s.locks r.span) else if staleB s.rows r then some stale0 else againstRd s l
def againstWr (s : Sh) : List Wr → Option Rz
  | [] => none
  | x :: l => if (busyWr s.locks x.key).err ≠ 0 then some (busyWr s.locks x.key) else againstWr s l
def against (s : Sh) (c : Cm) : Rz := match againstRd s c.reads with
  | some r => r
  | none => (againstWr s c.writes).getD rz0
theorem againstRd_drop {s : Sh} {L : List Rn} {i : Nat} (h : i < L.length) : againstRd s (L.drop i) = if (busyRd s.locks L[i].span).err ≠ 0 then some (busyRd s.locks L[i].span) else if staleB s.rows L[i] then some stale0 else againstRd s (L.drop (i + 1)) := by
  rw [List.drop_eq_getElem_cons h]
  rfl
theorem againstWr_drop {s : Sh} {L : List Wr} {i : Nat} (h : i < L.length) : againstWr s (L.drop i) = if (busyWr s.locks L[i].key).err ≠ 0 then some (busyWr s.locks L[i].key) else againstWr s (L.drop (i + 1)) := by
  rw [List.drop_eq_getElem_cons h]
  rfl
theorem against_rd {s : Sh} {c : Cm} {r : Rz} (h : againstRd s c.reads = some r) : against s c = r := by unfold against; rw [h]
theorem against_wr {s : Sh} {c : Cm} {r : Rz} (h : againstRd s c.reads = none) (h2 : againstWr s c.writes = some r) : against s c = r := by unfold against; rw [h, h2]; rfl
theorem against_no {s : Sh} {c : Cm} (h : againstRd s c.reads = none) (h2 : againstWr s c.writes = none) : against s c = rz0 := by unfold against; rw [h, h2]; rfl
section
variable {w w' : World} {A : Nat} {S1 S2 : Nat → Prop} {s : Sh} {P M N : Nat} {G : List Gl} {lv rv ov : Value} {c : Cm} {cs : Array Value} {ra wa : Option Addr} {rc wc : Nat}
theorem busyRd_any (h : Sx w A S1 S2 s P M N G lv rv ov) {Z : Nat} {p : Sn} (c0 : w.cell? ⟨Z, 0, none⟩ = some (.string p.lo)) (c1 : w.cell? ⟨Z, 1, none⟩ = some (.string p.hi)) : Calls Try.prog 84 #[.pointer (some ⟨A, 0, none⟩), .func (.func 85) #[] #[.pointer (some ⟨Z, 0, none⟩)]] w fun e w' => e = .returned (rzV (busyRd s.locks p)) ∧ Below w.heap.size w w' :=
  busy_rd h (fun _ hX _ _ _ _ _ _ _ hw => rdL_f (cell_on hX c0) (cell_on hX c1) hw)
theorem busyWr_any (h : Sx w A S1 S2 s P M N G lv rv ov) {Z : Nat} {k : ByteArray} (c0 : w.cell? ⟨Z, 0, none⟩ = some (.string k)) : Calls Try.prog 84 #[.pointer (some ⟨A, 0, none⟩), .func (.func 88) #[] #[.pointer (some ⟨Z, 0, none⟩)]] w fun e w' => e = .returned (rzV (busyWr s.locks k)) ∧ Below w.heap.size w w' :=
  busy_wr h (fun _ hX _ _ _ _ _ _ hs hw => wrL_f (cell_on hX c0) hs hw)
def AgAns (w : World) (Z : Nat) (r : Rz) (X : World) : Prop := X.heap[Z]? = some (.cells (rzA r) 52 (0, 0)) ∧ Below w.heap.size w X
set_option maxHeartbeats 8000000 in
set_option maxRecDepth 100000 in
theorem against_any (h : Sx w A S1 S2 s P M N G lv rv ov) (hc : Cc w c cs ra rc wa wc) : Calls Try.prog 52 #[.pointer (some ⟨A, 0, none⟩), .agg cs] w fun e w' => e = .returned (rzV (against s c)) ∧ Below w.heap.size w w' := by
  obtain ⟨W, hW⟩ : ∃ W, W = (w.alloc (.cells cs 47)).alloc (.cells #[.int .i64 0, .int .i64 0, .int .i64 0, .int .i64 0, .int .i64 0, .int .i64 0, .int .i64 0, .int .i64 0, .bool false] 52) := ⟨_, rfl⟩
  have hb : Below w.heap.size w W := by rw [hW]; exact ((Below.refl _ w).alloc (Nat.le_refl _) _).alloc (by simp) _
  obtain ⟨Y, hY⟩ : ∃ Y, w.heap.size = Y := ⟨_, rfl⟩
  obtain ⟨Z, hZ⟩ : ∃ Z, Y + 1 = Z := ⟨_, rfl⟩
  have jY : W.heap[Y]? = some (.cells cs 47 (0, 0)) := by
    rw [hW, ← hY, Below.heap_alloc _ _ _ (by simp)]
    exact heap_alloc_new w _
  have jZ : W.heap[Z]? = some (.cells #[.int .i64 0, .int .i64 0, .int .i64 0, .int .i64 0, .int .i64 0, .int .i64 0, .int .i64 0, .int .i64 0, .bool false] 52 (0, 0)) := by
    have := heap_alloc_new (w.alloc (.cells cs 47)) (.cells #[.int .i64 0, .int .i64 0, .int .i64 0, .int .i64 0, .int .i64 0, .int .i64 0, .int .i64 0, .int .i64 0, .bool false] 52)
    simp only [World.size_alloc] at this
    rw [hW, ← hZ, ← hY]
    exact this
  have b8 : W.cell? ⟨Y, 8, none⟩ = some (.slice ra c.reads.length rc) := (cell_blk jY 8).trans hc.rs
  have hZw : w.heap.size ≤ Z := by omega
  have hrl := hc.rl
  have hwl := hc.wl
  obtain ⟨_, _, e1, _, r1, r2, hrc⟩ := hrl
  cases e1
  obtain ⟨_, _, e2, _, r3, r4, hwc⟩ := hwl
  cases e2
  have hmr : (c.reads.length : Int) ≤ 9223372036854775807 := by unfold maxLen at r2; omega
  have hmw : (c.writes.length : Int) ≤ 9223372036854775807 := by unfold maxLen at r4; omega
  have HRC := Lib.hid hrc
  have HWC := Lib.hid hwc
  have HW := Lib.hid hW
  have HY := Lib.hid hY
  have HZ := Lib.hid hZ
  have HB := Lib.hid hb
  have HJZ := Lib.hid jZ
  have HWS : Hid (W.cell? ⟨Y, 9, none⟩ = some (.slice wa c.writes.length wc)) := (cell_blk jY 9).trans hc.ws
  have HS := Lib.hid h
  clear hW hY hZ hb jY jZ h hrc hwc r1 r2 r3 r4 hc
  go_enter Try.func52, Try.ntmps52
  go_upto_region 1 with fail
  rw [← HW.out, HY.out, HZ.out]
  go_wp2
  go_loopw [14] (fun iv wr => ∃ i : Nat, i ≤ c.reads.length ∧ iv = .int .i64 (i : Int) ∧ againstRd s (c.reads.drop i) = againstRd s c.reads ∧ Below W.heap.size W wr) (fun iv _ => c.reads.length - (intOf iv).toNat)
  case atStart => exact ⟨0, Nat.zero_le _, rfl, rfl, Below.refl _ _⟩
  case round =>
    obtain ⟨i, hi, rfl, hag, hbw⟩ := hrel
    obtain ⟨V, rfl⟩ : ∃ V, V = wr := ⟨_, rfl⟩
    have hbv : Below w.heap.size w V := HB.out.trans (hbw.mono HB.out.size)
    by_cases hlt : i < c.reads.length
    · obtain ⟨b, o, cs', rfl, _, ⟨sa, sc, rfl, hst⟩, _, hcell⟩ := HRC.out i hlt
      have c0 := cell_on hbv (hcell 0 _ rfl)
      have c1 := cell_on hbv (hcell 1 _ rfl)
      have c2 := cell_on hbv (hcell 2 _ rfl)
      simp only [Nat.add_zero] at c0
      have k0 : (0 : Int) ≤ i := by omega
      have k1 : (i : Int) < c.reads.length := by omega
      have hdr := againstRd_drop (s := s) hlt
      rw [hag] at hdr
      obtain ⟨x, hx⟩ : ∃ x, c.reads[i] = x := ⟨_, rfl⟩
      rw [hx] at c0 c1 hdr
      simp only [hx] at c2 hst
      obtain ⟨V1, hV1⟩ : ∃ V1, V1 = V.alloc (.cells #[.string x.span.lo, .string x.span.hi, .slice sa x.seen.length sc] 60) := ⟨_, rfl⟩
      obtain ⟨Z1, hZ1⟩ : ∃ Z1, V.heap.size = Z1 := ⟨_, rfl⟩
      have bb1 : Below V.heap.size V V1 := by rw [hV1]; exact (Below.refl _ V).alloc (Nat.le_refl _) _
      have jZ1 : V1.heap[Z1]? = some (.cells #[.string x.span.lo, .string x.span.hi, .slice sa x.seen.length sc] 60 (0, 0)) := by rw [hV1, ← hZ1]; exact heap_alloc_new V _
      have hbv1 : Below w.heap.size w V1 := hbv.trans (bb1.mono hbv.size)
      have hbW1 : Below W.heap.size W V1 := hbw.trans (bb1.mono hbw.size)
      have hbus := busyRd_any (HS.out.on hbv1) (p := x.span) (cell_blk jZ1 0) (cell_blk jZ1 1)
      obtain ⟨r, hr⟩ : ∃ r, busyRd s.locks x.span = r := ⟨_, rfl⟩
      rw [hr] at hbus hdr
      have HV1 := Lib.hid hV1
      have HZ1 := Lib.hid hZ1
      have HJ1 := Lib.hid jZ1
      have HBV1 := Lib.hid hbv1
      have HBW1 := Lib.hid hbW1
      have HDR := Lib.hid hdr
      have HST := Lib.hid hst
      clear hV1 hZ1 bb1 jZ1 hbv1 hbW1 hbv hbw hdr hst hag hx hr hcell
      go_upto_region 4 with fail
      rw [← HV1.out, HZ1.out]
      go_wp2_with fail
      refine hbus.mono ?_
      rintro e w1 ⟨rfl, b1⟩
      obtain ⟨V2, hV2⟩ : ∃ V2, V2 = w1.alloc (.cells (rzA r) 52) := ⟨_, rfl⟩
      obtain ⟨Z2, hZ2⟩ : ∃ Z2, w1.heap.size = Z2 := ⟨_, rfl⟩
      have bb2 : Below w1.heap.size w1 V2 := by rw [hV2]; exact (Below.refl _ w1).alloc (Nat.le_refl _) _
      have jZ2 : V2.heap[Z2]? = some (.cells (rzA r) 52 (0, 0)) := by rw [hV2, ← hZ2]; exact heap_alloc_new w1 _
      have b12 : Below V1.heap.size V1 V2 := b1.trans (bb2.mono b1.size)
      have hbW2 : Below W.heap.size W V2 := HBW1.out.trans (b12.mono HBW1.out.size)
      have hbv2 : Below w.heap.size w V2 := HBV1.out.trans (b12.mono HBV1.out.size)
      have jZ : V2.heap[Z]? = some (.cells #[.int .i64 0, .int .i64 0, .int .i64 0, .int .i64 0, .int .i64 0, .int .i64 0, .int .i64 0, .int .i64 0, .bool false] 52 (0, 0)) := (hbW2.block Z (blk_lt HJZ.out)).trans HJZ.out
      have jZ1 := (b12.block Z1 (blk_lt HJ1.out)).trans HJ1.out
      have n0 : V2.cell? ⟨Z2, 0, none⟩ = some (.int .i64 r.err) := cell_blk jZ2 0
      have ld2 : (Instr.loadAt 52 (.pointer (some ⟨Z2, 0, none⟩))).run Try.prog V2 = .ok (rzV r) V2 := load_row jZ2 Try.underlying52 rfl size52
      have HV2 := Lib.hid hV2
      have HZ2 := Lib.hid hZ2
      have HBW2 := Lib.hid hbW2
      have HBV2 := Lib.hid hbv2
      have HJ2 := Lib.hid jZ
      clear hV2 hZ2 bb2 jZ2 b1 b12 hbus hbW2 hbv2
      go_upto_region 5 with fail
      rw [← HV2.out, HZ2.out]
      by_cases hre : r.err = 0
      · have q0 : V2.cell? ⟨Z1, 0, none⟩ = some (.string x.span.lo) := cell_blk jZ1 0
        have q1 : V2.cell? ⟨Z1, 1, none⟩ = some (.string x.span.hi) := cell_blk jZ1 1
        have q2 : V2.cell? ⟨Z1, 2, none⟩ = some (.slice sa x.seen.length sc) := cell_blk jZ1 2
        have hsl := stale_any (HS.out.on HBV2.out) x (HST.out.on smE_held HBV2.out)
        obtain ⟨q, hq⟩ : ∃ q, staleB s.rows x = q := ⟨_, rfl⟩
        rw [hq] at hsl
        have HDR2 : Hid (againstRd s c.reads = if q = true then some stale0 else againstRd s (c.reads.drop (i + 1))) := by
          show _ = _
          rw [HDR.out, if_neg (by simp [hre]), hq]
        clear hq jZ1 jZ ld2
        go_wp2_with fail
        refine hsl.mono ?_
        rintro e w3 ⟨rfl, b3⟩
        have HBW3 := Lib.hid (HBW2.out.trans (b3.mono HBW2.out.size))
        have HBV3 := Lib.hid (HBV2.out.trans (b3.mono HBV2.out.size))
        have jZ3 := (b3.block Z (blk_lt HJ2.out)).trans HJ2.out
        cases q with
        | true =>
          obtain ⟨X, hst, jX, fX⟩ := put_rz jZ3 rfl stale0
          have HR : Hid (against s c = stale0) := against_rd (by rw [HDR2.out]; rfl)
          have HBX : Hid (Below w.heap.size w X) := HBV3.out.trans (fX.toBelow (fun k hk e => by have e' : k = Z := e; omega) HBV3.out.size)
          have HJX := Lib.hid jX
          clear jX fX b3 jZ3 hsl
          go_wp2_with (refine wpl_store _ _ rfl (by simp [Act.eval]) (by simp [Act.eval, stale0]) hst ?_)
          refine bodyPost_ret (ret_rz HJX.out Try.results52 rfl) rfl ?_
          exact ⟨by rw [HR.out], HBX.out⟩
        | false =>
          have HNX : Hid (againstRd s (c.reads.drop (i + 1)) = againstRd s c.reads) := by show _ = _; rw [HDR2.out]; rfl
          clear b3 jZ3 hsl
          go_wp2
          go_roundw
          case rel => exact ⟨i + 1, hlt, by go_num, HNX.out, HBW3.out⟩
          case measure => simp [intOf]; omega
      · obtain ⟨X, hst, jX, fX⟩ := put_rz jZ rfl r
        have HR : Hid (against s c = r) := against_rd (by rw [HDR.out, if_pos (by simpa using hre)])
        have HBX : Hid (Below w.heap.size w X) := HBV2.out.trans (fX.toBelow (fun k hk e => by have e' : k = Z := e; omega) HBV2.out.size)
        have HJX := Lib.hid jX
        clear jX fX jZ jZ1
        go_wp2_with (first | (refine wpl_load _ rfl (by simp [Act.eval]) ld2 ?_) | (refine wpl_store _ _ rfl (by simp [Act.eval, Act.put]) (by simp [Act.eval, Act.put]) hst ?_))
        refine bodyPost_ret (ret_rz HJX.out Try.results52 rfl) rfl ?_
        exact ⟨by rw [HR.out], HBX.out⟩
    · have k1 : ¬ (i : Int) < c.reads.length := by omega
      have hRN : againstRd s c.reads = none := by
        rw [← hag, List.drop_of_length_le (by omega)]
        rfl
      have HRN := Lib.hid hRN
      have b9 := cell_on hbw HWS.out
      have HBW0 := Lib.hid hbw
      clear hag hbv hbw hRN
      go_wp2
      go_loopw [33] (fun iv wr => ∃ i : Nat, i ≤ c.writes.length ∧ iv = .int .i64 (i : Int) ∧ againstWr s (c.writes.drop i) = againstWr s c.writes ∧ Below W.heap.size W wr) (fun iv _ => c.writes.length - (intOf iv).toNat)
      case atStart => exact ⟨0, Nat.zero_le _, rfl, rfl, HBW0.out⟩
      case round =>
        clear hi hlt k1 b9 HBW0
        obtain ⟨i, hi, rfl, hag, hbw⟩ := hrel
        obtain ⟨V, rfl⟩ : ∃ V, V = wr := ⟨_, rfl⟩
        have hbv : Below w.heap.size w V := HB.out.trans (hbw.mono HB.out.size)
        by_cases hlt : i < c.writes.length
        · obtain ⟨b, o, cs', rfl, _, hE, _, hcell⟩ := HWC.out i hlt
          cases hE
          have c0 := cell_on hbv (hcell 0 _ rfl)
          have c1 := cell_on hbv (hcell 1 _ rfl)
          have c2 := cell_on hbv (hcell 2 _ rfl)
          simp only [Nat.add_zero] at c0
          have k0 : (0 : Int) ≤ i := by omega
          have k1 : (i : Int) < c.writes.length := by omega
          have hdr := againstWr_drop (s := s) hlt
          rw [hag] at hdr
          obtain ⟨x, hx⟩ : ∃ x, c.writes[i] = x := ⟨_, rfl⟩
          rw [hx] at c0 c1 c2 hdr
          obtain ⟨V1, hV1⟩ : ∃ V1, V1 = V.alloc (.cells #[.string x.key, .string x.val, .bool x.dead] 55) := ⟨_, rfl⟩
          obtain ⟨Z1, hZ1⟩ : ∃ Z1, V.heap.size = Z1 := ⟨_, rfl⟩
          have bb1 : Below V.heap.size V V1 := by rw [hV1]; exact (Below.refl _ V).alloc (Nat.le_refl _) _
          have jZ1 : V1.heap[Z1]? = some (.cells #[.string x.key, .string x.val, .bool x.dead] 55 (0, 0)) := by rw [hV1, ← hZ1]; exact heap_alloc_new V _
          have hbv1 : Below w.heap.size w V1 := hbv.trans (bb1.mono hbv.size)
          have hbW1 : Below W.heap.size W V1 := hbw.trans (bb1.mono hbw.size)
          have hbus := busyWr_any (HS.out.on hbv1) (k := x.key) (cell_blk jZ1 0)
          obtain ⟨r, hr⟩ : ∃ r, busyWr s.locks x.key = r := ⟨_, rfl⟩
          rw [hr] at hbus hdr
          have HV1 := Lib.hid hV1
          have HZ1 := Lib.hid hZ1
          have HBV1 := Lib.hid hbv1
          have HBW1 := Lib.hid hbW1
          have HDR := Lib.hid hdr
          clear hV1 hZ1 bb1 jZ1 hbv1 hbW1 hbv hbw hdr hag hx hr hcell
          go_upto_region 13 with fail
          rw [← HV1.out, HZ1.out]
          go_wp2_with fail
          refine hbus.mono ?_
          rintro e w1 ⟨rfl, b1⟩
          obtain ⟨V2, hV2⟩ : ∃ V2, V2 = w1.alloc (.cells (rzA r) 52) := ⟨_, rfl⟩
          obtain ⟨Z2, hZ2⟩ : ∃ Z2, w1.heap.size = Z2 := ⟨_, rfl⟩
          have bb2 : Below w1.heap.size w1 V2 := by rw [hV2]; exact (Below.refl _ w1).alloc (Nat.le_refl _) _
          have jZ2 : V2.heap[Z2]? = some (.cells (rzA r) 52 (0, 0)) := by rw [hV2, ← hZ2]; exact heap_alloc_new w1 _
          have b12 : Below V1.heap.size V1 V2 := b1.trans (bb2.mono b1.size)
          have hbW2 : Below W.heap.size W V2 := HBW1.out.trans (b12.mono HBW1.out.size)
          have hbv2 : Below w.heap.size w V2 := HBV1.out.trans (b12.mono HBV1.out.size)
          have jZ : V2.heap[Z]? = some (.cells #[.int .i64 0, .int .i64 0, .int .i64 0, .int .i64 0, .int .i64 0, .int .i64 0, .int .i64 0, .int .i64 0, .bool false] 52 (0, 0)) := (hbW2.block Z (blk_lt HJZ.out)).trans HJZ.out
          have n0 : V2.cell? ⟨Z2, 0, none⟩ = some (.int .i64 r.err) := cell_blk jZ2 0
          have ld2 : (Instr.loadAt 52 (.pointer (some ⟨Z2, 0, none⟩))).run Try.prog V2 = .ok (rzV r) V2 := load_row jZ2 Try.underlying52 rfl size52
          have HV2 := Lib.hid hV2
          have HZ2 := Lib.hid hZ2
          have HBW2 := Lib.hid hbW2
          have HBV2 := Lib.hid hbv2
          clear hV2 hZ2 bb2 jZ2 b1 b12 hbus hbW2 hbv2
          go_upto_region 14 with fail
          rw [← HV2.out, HZ2.out]
          by_cases hre : r.err = 0
          · have HNX : Hid (againstWr s (c.writes.drop (i + 1)) = againstWr s c.writes) := by show _ = _; rw [HDR.out, if_neg (by simp [hre])]
            clear jZ ld2
            go_wp2
            go_roundw
            case rel => exact ⟨i + 1, hlt, by go_num, HNX.out, HBW2.out⟩
            case measure => simp [intOf]; omega
          · obtain ⟨X, hst, jX, fX⟩ := put_rz jZ rfl r
            have HR : Hid (against s c = r) := against_wr HRN.out (by rw [HDR.out, if_pos (by simpa using hre)])
            have HBX : Hid (Below w.heap.size w X) := HBV2.out.trans (fX.toBelow (fun k hk e => by have e' : k = Z := e; omega) HBV2.out.size)
            have HJX := Lib.hid jX
            clear jX fX jZ
            go_wp2_with (first | (refine wpl_load _ rfl (by simp [Act.eval]) ld2 ?_) | (refine wpl_store _ _ rfl (by simp [Act.eval, Act.put]) (by simp [Act.eval, Act.put]) hst ?_))
            refine bodyPost_ret (ret_rz HJX.out Try.results52 rfl) rfl ?_
            exact ⟨by rw [HR.out], HBX.out⟩
        · have k1 : ¬ (i : Int) < c.writes.length := by omega
          have hWN : againstWr s c.writes = none := by
            rw [← hag, List.drop_of_length_le (by omega)]
            rfl
          have jZ : V.heap[Z]? = some (.cells #[.int .i64 0, .int .i64 0, .int .i64 0, .int .i64 0, .int .i64 0, .int .i64 0, .int .i64 0, .int .i64 0, .bool false] 52 (0, 0)) := (hbw.block Z (blk_lt HJZ.out)).trans HJZ.out
          obtain ⟨X, hst, jX, fX⟩ := put_rz jZ rfl rz0
          have HR : Hid (against s c = rz0) := against_no HRN.out hWN
          have HBX : Hid (Below w.heap.size w X) := hbv.trans (fX.toBelow (fun k hk e => by have e' : k = Z := e; omega) hbv.size)
          have HJX := Lib.hid jX
          clear hag hbv hbw hWN jX fX jZ
          go_wp2_with (refine wpl_store _ _ rfl (by simp [Act.eval]) (by simp [Act.eval, rz0]) hst ?_)
          refine bodyPost_ret (ret_rz HJX.out Try.results52 rfl) rfl ?_
          exact ⟨by rw [HR.out], HBX.out⟩
end
end Go.Proofs.Ytcoaahlakkghhaa
/- What a record more, a transaction more that is over, leave of the shard in memory. -/
namespace Go.Proofs.Ytcoaahlakkghhaa
open Go.RowKit
section
variable {w w' : World} {A : Nat} {S1 S2 T : Nat → Prop} {s : Sh} {P M N : Nat} {G : List Gl} {lv rv ov rv' : Value}
/-- Rows stay where what is written bears another type. -/
theorem keep_row {e : TypeId} {c n : Nat} {v : Value} {xs : List Value} (hr : w.ownsRow 0 e c v n xs) (hf : Fr w w' T) (ht : ∀ k, T k → ∀ cs, w.heap[k]? ≠ some (.cells cs e (0, 0))) : w'.ownsRow 0 e c v n xs :=
  row_keep hr hf (fun j hj q => by
    obtain ⟨cs, t⟩ := own_tag hr j hj
    exact ht j q cs t)
/-- The shard's own cell, a row of things of type e, a map. -/
def Three (A : Nat) (v : Value) (M : Nat) : Nat → Prop := fun k => k = A ∨ v.ownBlock = some k ∨ k = M
theorem three_tag {e e' : TypeId} {c n : Nat} {v : Value} {xs cA : List Value} {es : Array MapEntry} {cl : Nat} (hA : w.heap[A]? = some (.cells cA.toArray 92 (0, 0))) (hv : w.ownsRow 0 e' c v n xs) (hM : w.heap[M]? = some (.map es cl)) (h1 : e ≠ 92) (h2 : e ≠ e') : ∀ k, Three A v M k → ∀ cs, w.heap[k]? ≠ some (.cells cs e (0, 0)) := by
  rintro k (rfl | q | rfl) cs hk
  · rw [hA] at hk
    simp only [Option.some.injEq, Obj.cells.injEq] at hk
    exact h1 hk.2.1.symm
  · obtain ⟨cs', t⟩ := own_tag hv k q
    rw [t] at hk
    simp only [Option.some.injEq, Obj.cells.injEq] at hk
    exact h2 hk.2.1.symm
  · rw [hM] at hk
    cases hk
theorem Sx.enter (h : Sx w A S1 S2 s P M N G lv rv ov) {r : Rc} (hn : recOf s.recs r.1 = none) (hf : Fr w w' (Three A rv M))
    (hob : w'.heap[A]? = some (.cells #[.pointer (some ⟨P, 0, none⟩), lv, rv', .map (some M), ov, .map (some N), .int .i64 s.high] 92 (0, 0)))
    (ho : w'.ownsRow 0 101 4 rv' (s.recs.length + 1) ((s.recs ++ [r]).flatMap rcL)) (hb : ∀ j, rv'.ownBlock = some j → rv.ownBlock = some j ∨ w.heap.size ≤ j)
    (hm : Mt w' M (s.recs.length + 1) (fun t => if t = r.1 then some (.int .i64 r.2) else (recOf s.recs t).map (fun n => .int .i64 n))) (hfew : s.recs.length < 800000) :
    Sx w' A S1 (Gro S2 w w') { s with recs := s.recs ++ [r] } P M N G lv rv' ov ∧ Fr w w' S2 := by
  obtain ⟨es, cl, hM⟩ := h.tm.isMap
  obtain ⟨es2, cl2, hN⟩ := h.en.isMap
  have tag : ∀ {e : TypeId}, e ≠ 92 → e ≠ 101 → ∀ k, Three A rv M k → ∀ cs, w.heap[k]? ≠ some (.cells cs e (0, 0)) := fun h1 h2 => three_tag (cA := [.pointer (some ⟨P, 0, none⟩), lv, rv, .map (some M), ov, .map (some N), .int .i64 s.high]) h.ob h.rcs hM h1 h2
  have hT : ∀ k, Three A rv M k → S2 k := by
    rintro k (rfl | q | rfl)
    · exact h.cA
    · exact h.cr k q
    · exact h.cM
  have hNT : ¬ Three A rv M N := by
    rintro (q | q | q)
    · rw [q, h.ob] at hN
      cases hN
    · obtain ⟨cs, t⟩ := own_tag h.rcs N q
      rw [hN] at t
      cases t
    · exact h.mn q.symm
  refine ⟨{ ob := hob, st := h.st.stays hf (fun k hk q => h.off k hk (hT k q)), lks := keep_row h.lks hf (tag (by decide) (by decide)), gl := h.gl,
            sp := fun g hg => keep_row (h.sp g hg) hf (tag (by decide) (by decide)), wr := fun g hg => keep_row (h.wr g hg) hf (tag (by decide) (by decide)),
            rcs := ?_, ovs := keep_row h.ovs hf (tag (by decide) (by decide)), tm := ?_, en := h.en.like (hf.block N (h.lt N h.cN) hNT), mn := h.mn,
            cA := .inl h.cA, cM := .inl h.cM, cN := .inl h.cN, cl := fun k hk => .inl (h.cl k hk), cr := fun k hk => ?_, co := fun k hk => .inl (h.co k hk),
            cs := fun g hg k hk => .inl (h.cs g hg k hk), cw := fun g hg k hk => .inl (h.cw g hg k hk), lt := fun k hk => ?_, off := fun k h1 h2 => ?_, fl := h.fl, fr := ?_, fo := h.fo }, hf.mono hT⟩
  · show w'.ownsRow 0 101 4 rv' (s.recs ++ [r]).length _
    rw [List.length_append]
    exact ho
  · have e : (fun t => (recOf (s.recs ++ [r]) t).map (fun n => Value.int .i64 n)) = (fun t => if t = r.1 then some (Value.int .i64 r.2) else (recOf s.recs t).map (fun n => Value.int .i64 n)) := by
      funext t
      rw [show (r : Rc) = (r.1, r.2) from rfl, recOf_snoc _ _ _ hn]
      split <;> rfl
    show Mt w' M (s.recs ++ [r]).length _
    rw [List.length_append]
    rw [e]
    exact hm
  · rcases hb k hk with q | q
    · exact .inl (h.cr k q)
    · exact .inr ⟨q, (ho.lt k hk).2⟩
  · rcases hk with q | q
    · exact Nat.lt_of_lt_of_le (h.lt k q) hf.size
    · exact q.2
  · rcases h2 with q | q
    · exact h.off k h1 q
    · have := h.st.lt k h1
      omega
  · show (s.recs ++ [r]).length ≤ 800000
    rw [List.length_append]
    show s.recs.length + 1 ≤ 800000
    omega
theorem Sx.ends (h : Sx w A S1 S2 s P M N G lv rv ov) {t : Td} (hf : Fr w w' (Three A ov N))
    (hob : w'.heap[A]? = some (.cells #[.pointer (some ⟨P, 0, none⟩), lv, rv, .map (some M), rv', .map (some N), .int .i64 s.high] 92 (0, 0)))
    (ho : w'.ownsRow 0 37 3 rv' (s.over.length + 1) ((s.over ++ [t]).flatMap tdL)) (hb : ∀ j, rv'.ownBlock = some j → ov.ownBlock = some j ∨ w.heap.size ≤ j)
    (hm : Mt w' N (s.over.length + 1) (fun x => if x = t then some (.agg #[]) else if x ∈ s.over then some (.agg #[]) else none)) (hfew : s.over.length < 800000) :
    Sx w' A S1 (Gro S2 w w') { s with over := s.over ++ [t] } P M N G lv rv rv' ∧ Fr w w' S2 := by
  obtain ⟨es, cl, hM⟩ := h.tm.isMap
  obtain ⟨es2, cl2, hN⟩ := h.en.isMap
  have tag : ∀ {e : TypeId}, e ≠ 92 → e ≠ 37 → ∀ k, Three A ov N k → ∀ cs, w.heap[k]? ≠ some (.cells cs e (0, 0)) := fun h1 h2 => three_tag (cA := [.pointer (some ⟨P, 0, none⟩), lv, rv, .map (some M), ov, .map (some N), .int .i64 s.high]) h.ob h.ovs hN h1 h2
  have hT : ∀ k, Three A ov N k → S2 k := by
    rintro k (rfl | q | rfl)
    · exact h.cA
    · exact h.co k q
    · exact h.cN
  have hNT : ¬ Three A ov N M := by
    rintro (q | q | q)
    · rw [q, h.ob] at hM
      cases hM
    · obtain ⟨cs, t⟩ := own_tag h.ovs M q
      rw [hM] at t
      cases t
    · exact h.mn q
  refine ⟨{ ob := hob, st := h.st.stays hf (fun k hk q => h.off k hk (hT k q)), lks := keep_row h.lks hf (tag (by decide) (by decide)), gl := h.gl,
            sp := fun g hg => keep_row (h.sp g hg) hf (tag (by decide) (by decide)), wr := fun g hg => keep_row (h.wr g hg) hf (tag (by decide) (by decide)),
            rcs := keep_row h.rcs hf (tag (by decide) (by decide)), ovs := ?_, tm := h.tm.like (hf.block M (h.lt M h.cM) hNT), en := ?_, mn := h.mn,
            cA := .inl h.cA, cM := .inl h.cM, cN := .inl h.cN, cl := fun k hk => .inl (h.cl k hk), cr := fun k hk => .inl (h.cr k hk), co := fun k hk => ?_,
            cs := fun g hg k hk => .inl (h.cs g hg k hk), cw := fun g hg k hk => .inl (h.cw g hg k hk), lt := fun k hk => ?_, off := fun k h1 h2 => ?_, fl := h.fl, fr := h.fr, fo := ?_ }, hf.mono hT⟩
  · show w'.ownsRow 0 37 3 rv' (s.over ++ [t]).length _
    rw [List.length_append]
    exact ho
  · have e : (fun x => if x ∈ s.over ++ [t] then some (Value.agg #[]) else none) = (fun x => if x = t then some (Value.agg #[]) else if x ∈ s.over then some (Value.agg #[]) else none) := by
      funext x
      by_cases q : x = t
      · simp [q]
      · by_cases q2 : x ∈ s.over <;> simp [q, q2]
    show Mt w' N (s.over ++ [t]).length _
    rw [List.length_append]
    rw [e]
    exact hm
  · rcases hb k hk with q | q
    · exact .inl (h.co k q)
    · exact .inr ⟨q, (ho.lt k hk).2⟩
  · rcases hk with q | q
    · exact Nat.lt_of_lt_of_le (h.lt k q) hf.size
    · exact q.2
  · rcases h2 with q | q
    · exact h.off k h1 q
    · have := h.st.lt k h1
      omega
  · show (s.over ++ [t]).length ≤ 800000
    rw [List.length_append]
    show s.over.length + 1 ≤ 800000
    omega
end
end Go.Proofs.Ytcoaahlakkghhaa
/- append at rows of a shard; the walks of enter and end. -/
namespace Go.Proofs.Ytcoaahlakkghhaa
open Go.RowKit
theorem info_rc : (Try.prog.info? 101).map (fun i => (i.zero, i.size, i.bytes)) = some (some (.agg #[.int .i64 0, .int .i64 0, .int .i64 0, .int .i64 0]), 4, 32) := by kernel_rfl
theorem run_rc {w : World} {v : Value} {base n m c : Nat} {xs news : List Value} {ad : Option Addr} (ho : w.ownsRow base 101 4 v n xs) (hb : base ≤ w.heap.size) (hs : (ad = none ∧ m = 0 ∧ c = 0 ∧ news = []) ∨ ∃ a, ad = some a ∧ news.length = m * 4 ∧ (∀ j u, news[j]? = some u → w.cell? (a.add j) = some u))
    (h1 : ∀ u ∈ news, u.oneCell' = true) (hnm : (n + m) * 32 ≤ 140737488355328) : ∃ ad' cap' w', (Builtin.append_ #[32, 32] 32 #[v, .slice ad m c]).run Try.prog w = .ok (.slice ad' (n + m) cap') w' ∧ w'.ownsRow base 101 4 (.slice ad' (n + m) cap') (n + m) (xs ++ news) ∧ w.grownBy w' v.ownBlock ∧ ((Value.slice ad' (n + m) cap').ownBlock = v.ownBlock ∨ (Value.slice ad' (n + m) cap').ownBlock = some w.heap.size) := by
  obtain ⟨i0, hi, hz0, hz1, hz2⟩ := info_parts info_rc
  rcases hs with ⟨rfl, rfl, rfl, rfl⟩ | ⟨a, rfl, hl, hc⟩
  · obtain ⟨ad', cap', rfl⟩ := own_shape ho
    refine ⟨ad', cap', w, ?_, by simpa using ho, ⟨rfl, rfl, rfl, Nat.le_refl _, fun _ _ _ => rfl⟩, .inl rfl⟩
    exact run_append_owned_none (P := Try.prog) (w := w) base 32 32 101 i0 4 Try.underlying32 hi _ n xs ho
  · obtain ⟨v', w', hr, ho', hg, _, hat⟩ := run_append_own_at (P := Try.prog) (w := w) base 32 32 101 i0 _ 4 32 Try.underlying32 hi hz0 hz1 hz2 rfl (by decide) v n xs ho a m c news hl hc h1 (by unfold maxLen; omega) hnm hb
    obtain ⟨ad', cap', rfl⟩ := own_shape ho'
    exact ⟨ad', cap', w', hr, ho', hg, hat⟩
theorem info_td : (Try.prog.info? 37).map (fun i => (i.zero, i.size, i.bytes)) = some (some (.agg #[.int .i64 0, .int .i64 0, .int .i64 0]), 3, 24) := by kernel_rfl
theorem run_td {w : World} {v : Value} {base n m c : Nat} {xs news : List Value} {ad : Option Addr} (ho : w.ownsRow base 37 3 v n xs) (hb : base ≤ w.heap.size) (hs : (ad = none ∧ m = 0 ∧ c = 0 ∧ news = []) ∨ ∃ a, ad = some a ∧ news.length = m * 3 ∧ (∀ j u, news[j]? = some u → w.cell? (a.add j) = some u))
    (h1 : ∀ u ∈ news, u.oneCell' = true) (hnm : (n + m) * 24 ≤ 140737488355328) : ∃ ad' cap' w', (Builtin.append_ #[33, 33] 33 #[v, .slice ad m c]).run Try.prog w = .ok (.slice ad' (n + m) cap') w' ∧ w'.ownsRow base 37 3 (.slice ad' (n + m) cap') (n + m) (xs ++ news) ∧ w.grownBy w' v.ownBlock ∧ ((Value.slice ad' (n + m) cap').ownBlock = v.ownBlock ∨ (Value.slice ad' (n + m) cap').ownBlock = some w.heap.size) := by
  obtain ⟨i0, hi, hz0, hz1, hz2⟩ := info_parts info_td
  rcases hs with ⟨rfl, rfl, rfl, rfl⟩ | ⟨a, rfl, hl, hc⟩
  · obtain ⟨ad', cap', rfl⟩ := own_shape ho
    refine ⟨ad', cap', w, ?_, by simpa using ho, ⟨rfl, rfl, rfl, Nat.le_refl _, fun _ _ _ => rfl⟩, .inl rfl⟩
    exact run_append_owned_none (P := Try.prog) (w := w) base 33 33 37 i0 3 Try.underlying33 hi _ n xs ho
  · obtain ⟨v', w', hr, ho', hg, _, hat⟩ := run_append_own_at (P := Try.prog) (w := w) base 33 33 37 i0 _ 3 24 Try.underlying33 hi hz0 hz1 hz2 rfl (by decide) v n xs ho a m c news hl hc h1 (by unfold maxLen; omega) hnm hb
    obtain ⟨ad', cap', rfl⟩ := own_shape ho'
    exact ⟨ad', cap', w', hr, ho', hg, hat⟩
theorem info_lk : (Try.prog.info? 68).map (fun i => (i.zero, i.size, i.bytes)) = some (some (.agg #[.int .i64 0, .int .i64 0, .int .i64 0, .int .i64 0, .int .i64 0, .slice none 0 0, .slice none 0 0]), 7, 88) := by kernel_rfl
theorem run_lk {w : World} {v : Value} {base n m c : Nat} {xs news : List Value} {ad : Option Addr} (ho : w.ownsRow base 68 7 v n xs) (hb : base ≤ w.heap.size) (hs : (ad = none ∧ m = 0 ∧ c = 0 ∧ news = []) ∨ ∃ a, ad = some a ∧ news.length = m * 7 ∧ (∀ j u, news[j]? = some u → w.cell? (a.add j) = some u))
    (h1 : ∀ u ∈ news, u.oneCell' = true) (hnm : (n + m) * 88 ≤ 140737488355328) : ∃ ad' cap' w', (Builtin.append_ #[31, 31] 31 #[v, .slice ad m c]).run Try.prog w = .ok (.slice ad' (n + m) cap') w' ∧ w'.ownsRow base 68 7 (.slice ad' (n + m) cap') (n + m) (xs ++ news) ∧ w.grownBy w' v.ownBlock ∧ ((Value.slice ad' (n + m) cap').ownBlock = v.ownBlock ∨ (Value.slice ad' (n + m) cap').ownBlock = some w.heap.size) := by
  obtain ⟨i0, hi, hz0, hz1, hz2⟩ := info_parts info_lk
  rcases hs with ⟨rfl, rfl, rfl, rfl⟩ | ⟨a, rfl, hl, hc⟩
  · obtain ⟨ad', cap', rfl⟩ := own_shape ho
    refine ⟨ad', cap', w, ?_, by simpa using ho, ⟨rfl, rfl, rfl, Nat.le_refl _, fun _ _ _ => rfl⟩, .inl rfl⟩
    exact run_append_owned_none (P := Try.prog) (w := w) base 31 31 68 i0 7 Try.underlying31 hi _ n xs ho
  · obtain ⟨v', w', hr, ho', hg, _, hat⟩ := run_append_own_at (P := Try.prog) (w := w) base 31 31 68 i0 _ 7 88 Try.underlying31 hi hz0 hz1 hz2 rfl (by decide) v n xs ho a m c news hl hc h1 (by unfold maxLen; omega) hnm hb
    obtain ⟨ad', cap', rfl⟩ := own_shape ho'
    exact ⟨ad', cap', w', hr, ho', hg, hat⟩
theorem info_sn : (Try.prog.info? 57).map (fun i => (i.zero, i.size, i.bytes)) = some (some (.agg #[.string ⟨#[]⟩, .string ⟨#[]⟩]), 2, 32) := by kernel_rfl
theorem run_sn {w : World} {v : Value} {base n m c : Nat} {xs news : List Value} {ad : Option Addr} (ho : w.ownsRow base 57 2 v n xs) (hb : base ≤ w.heap.size) (hs : (ad = none ∧ m = 0 ∧ c = 0 ∧ news = []) ∨ ∃ a, ad = some a ∧ news.length = m * 2 ∧ (∀ j u, news[j]? = some u → w.cell? (a.add j) = some u))
    (h1 : ∀ u ∈ news, u.oneCell' = true) (hnm : (n + m) * 32 ≤ 140737488355328) : ∃ ad' cap' w', (Builtin.append_ #[66, 66] 66 #[v, .slice ad m c]).run Try.prog w = .ok (.slice ad' (n + m) cap') w' ∧ w'.ownsRow base 57 2 (.slice ad' (n + m) cap') (n + m) (xs ++ news) ∧ w.grownBy w' v.ownBlock ∧ ((Value.slice ad' (n + m) cap').ownBlock = v.ownBlock ∨ (Value.slice ad' (n + m) cap').ownBlock = some w.heap.size) := by
  obtain ⟨i0, hi, hz0, hz1, hz2⟩ := info_parts info_sn
  rcases hs with ⟨rfl, rfl, rfl, rfl⟩ | ⟨a, rfl, hl, hc⟩
  · obtain ⟨ad', cap', rfl⟩ := own_shape ho
    refine ⟨ad', cap', w, ?_, by simpa using ho, ⟨rfl, rfl, rfl, Nat.le_refl _, fun _ _ _ => rfl⟩, .inl rfl⟩
    exact run_append_owned_none (P := Try.prog) (w := w) base 66 66 57 i0 2 Try.underlying66 hi _ n xs ho
  · obtain ⟨v', w', hr, ho', hg, _, hat⟩ := run_append_own_at (P := Try.prog) (w := w) base 66 66 57 i0 _ 2 32 Try.underlying66 hi hz0 hz1 hz2 rfl (by decide) v n xs ho a m c news hl hc h1 (by unfold maxLen; omega) hnm hb
    obtain ⟨ad', cap', rfl⟩ := own_shape ho'
    exact ⟨ad', cap', w', hr, ho', hg, hat⟩
theorem info_wr : (Try.prog.info? 55).map (fun i => (i.zero, i.size, i.bytes)) = some (some (.agg #[.string ⟨#[]⟩, .string ⟨#[]⟩, .bool false]), 3, 40) := by kernel_rfl
theorem run_wr {w : World} {v : Value} {base n m c : Nat} {xs news : List Value} {ad : Option Addr} (ho : w.ownsRow base 55 3 v n xs) (hb : base ≤ w.heap.size) (hs : (ad = none ∧ m = 0 ∧ c = 0 ∧ news = []) ∨ ∃ a, ad = some a ∧ news.length = m * 3 ∧ (∀ j u, news[j]? = some u → w.cell? (a.add j) = some u))
    (h1 : ∀ u ∈ news, u.oneCell' = true) (hnm : (n + m) * 40 ≤ 140737488355328) : ∃ ad' cap' w', (Builtin.append_ #[39, 39] 39 #[v, .slice ad m c]).run Try.prog w = .ok (.slice ad' (n + m) cap') w' ∧ w'.ownsRow base 55 3 (.slice ad' (n + m) cap') (n + m) (xs ++ news) ∧ w.grownBy w' v.ownBlock ∧ ((Value.slice ad' (n + m) cap').ownBlock = v.ownBlock ∨ (Value.slice ad' (n + m) cap').ownBlock = some w.heap.size) := by
  obtain ⟨i0, hi, hz0, hz1, hz2⟩ := info_parts info_wr
  rcases hs with ⟨rfl, rfl, rfl, rfl⟩ | ⟨a, rfl, hl, hc⟩
  · obtain ⟨ad', cap', rfl⟩ := own_shape ho
    refine ⟨ad', cap', w, ?_, by simpa using ho, ⟨rfl, rfl, rfl, Nat.le_refl _, fun _ _ _ => rfl⟩, .inl rfl⟩
    exact run_append_owned_none (P := Try.prog) (w := w) base 39 39 55 i0 3 Try.underlying39 hi _ n xs ho
  · obtain ⟨v', w', hr, ho', hg, _, hat⟩ := run_append_own_at (P := Try.prog) (w := w) base 39 39 55 i0 _ 3 40 Try.underlying39 hi hz0 hz1 hz2 rfl (by decide) v n xs ho a m c news hl hc h1 (by unfold maxLen; omega) hnm hb
    obtain ⟨ad', cap', rfl⟩ := own_shape ho'
    exact ⟨ad', cap', w', hr, ho', hg, hat⟩
section
variable {ρ : Operand → Value} {X : World} {d : Option Tmp} {ty : TypeId} {ps : String} {af : Array Edge} {g : Option (Nat × Bool)}
theorem op_appendT {T : TypeId} {s x : Operand} {v1 v2 v' : Value} {X' : World} (hs : ρ s = v1) (hx : ρ x = v2) (hrun : (Builtin.append_ #[T, T] T #[v1, v2]).run Try.prog X = .ok v' X') : (execOp ρ ⟨d, .call { callee := .builtin .append, args := #[s, x], argTypes := #[T, T] }, T, ps, af, g⟩).run Try.prog X = .ok (.value v') X' := by
  simp only [execOp, resolve, invoke, builtin, Sem.run_bind, Sem.run_pure, Result.andThen_ok, List.map_toArray, List.map_cons, List.map_nil, hs, hx, hrun]
theorem op_load32 {x : Operand} {B i : Nat} {a : Option Addr} {n m : Nat} (e : ρ x = .pointer (some ⟨B, i, none⟩)) (y : X.cell? ⟨B, i, none⟩ = some (.slice a n m)) : (execOp ρ ⟨d, .load 32 x, ty, ps, af, g⟩).run Try.prog X = .ok (.value (.slice a n m)) X := by
  simp only [execOp, e]
  go_simp
theorem op_store32 {x y : Operand} {B i : Nat} {a : Option Addr} {n m : Nat} {u : Value} (e : ρ x = .pointer (some ⟨B, i, none⟩)) (e2 : ρ y = .slice a n m) (c : X.cell? ⟨B, i, none⟩ = some u) (z : X.frozen? ⟨B, i, none⟩ = false) : (execOp ρ ⟨d, .store 32 x y, ty, ps, af, g⟩).run Try.prog X = .ok .skip (X.setCell ⟨B, i, none⟩ (.slice a n m)) := by
  simp only [execOp, e, e2]
  go_simp
theorem op_load33 {x : Operand} {B i : Nat} {a : Option Addr} {n m : Nat} (e : ρ x = .pointer (some ⟨B, i, none⟩)) (y : X.cell? ⟨B, i, none⟩ = some (.slice a n m)) : (execOp ρ ⟨d, .load 33 x, ty, ps, af, g⟩).run Try.prog X = .ok (.value (.slice a n m)) X := by
  simp only [execOp, e]
  go_simp
theorem op_store33 {x y : Operand} {B i : Nat} {a : Option Addr} {n m : Nat} {u : Value} (e : ρ x = .pointer (some ⟨B, i, none⟩)) (e2 : ρ y = .slice a n m) (c : X.cell? ⟨B, i, none⟩ = some u) (z : X.frozen? ⟨B, i, none⟩ = false) : (execOp ρ ⟨d, .store 33 x y, ty, ps, af, g⟩).run Try.prog X = .ok .skip (X.setCell ⟨B, i, none⟩ (.slice a n m)) := by
  simp only [execOp, e, e2]
  go_simp
theorem op_load39 {x : Operand} {B i : Nat} {a : Option Addr} {n m : Nat} (e : ρ x = .pointer (some ⟨B, i, none⟩)) (y : X.cell? ⟨B, i, none⟩ = some (.slice a n m)) : (execOp ρ ⟨d, .load 39 x, ty, ps, af, g⟩).run Try.prog X = .ok (.value (.slice a n m)) X := by
  simp only [execOp, e]
  go_simp
theorem op_store39 {x y : Operand} {B i : Nat} {a : Option Addr} {n m : Nat} {u : Value} (e : ρ x = .pointer (some ⟨B, i, none⟩)) (e2 : ρ y = .slice a n m) (c : X.cell? ⟨B, i, none⟩ = some u) (z : X.frozen? ⟨B, i, none⟩ = false) : (execOp ρ ⟨d, .store 39 x y, ty, ps, af, g⟩).run Try.prog X = .ok .skip (X.setCell ⟨B, i, none⟩ (.slice a n m)) := by
  simp only [execOp, e, e2]
  go_simp
theorem op_load38 {x : Operand} {B i : Nat} {a : Option Addr} {n m : Nat} (e : ρ x = .pointer (some ⟨B, i, none⟩)) (y : X.cell? ⟨B, i, none⟩ = some (.slice a n m)) : (execOp ρ ⟨d, .load 38 x, ty, ps, af, g⟩).run Try.prog X = .ok (.value (.slice a n m)) X := by
  simp only [execOp, e]
  go_simp
theorem op_store38 {x y : Operand} {B i : Nat} {a : Option Addr} {n m : Nat} {u : Value} (e : ρ x = .pointer (some ⟨B, i, none⟩)) (e2 : ρ y = .slice a n m) (c : X.cell? ⟨B, i, none⟩ = some u) (z : X.frozen? ⟨B, i, none⟩ = false) : (execOp ρ ⟨d, .store 38 x y, ty, ps, af, g⟩).run Try.prog X = .ok .skip (X.setCell ⟨B, i, none⟩ (.slice a n m)) := by
  simp only [execOp, e, e2]
  go_simp
theorem op_load66 {x : Operand} {B i : Nat} {a : Option Addr} {n m : Nat} (e : ρ x = .pointer (some ⟨B, i, none⟩)) (y : X.cell? ⟨B, i, none⟩ = some (.slice a n m)) : (execOp ρ ⟨d, .load 66 x, ty, ps, af, g⟩).run Try.prog X = .ok (.value (.slice a n m)) X := by
  simp only [execOp, e]
  go_simp
theorem op_store66 {x y : Operand} {B i : Nat} {a : Option Addr} {n m : Nat} {u : Value} (e : ρ x = .pointer (some ⟨B, i, none⟩)) (e2 : ρ y = .slice a n m) (c : X.cell? ⟨B, i, none⟩ = some u) (z : X.frozen? ⟨B, i, none⟩ = false) : (execOp ρ ⟨d, .store 66 x y, ty, ps, af, g⟩).run Try.prog X = .ok .skip (X.setCell ⟨B, i, none⟩ (.slice a n m)) := by
  simp only [execOp, e, e2]
  go_simp
theorem op_store31 {x y : Operand} {B i : Nat} {a : Option Addr} {n m : Nat} {u : Value} (e : ρ x = .pointer (some ⟨B, i, none⟩)) (e2 : ρ y = .slice a n m) (c : X.cell? ⟨B, i, none⟩ = some u) (z : X.frozen? ⟨B, i, none⟩ = false) : (execOp ρ ⟨d, .store 31 x y, ty, ps, af, g⟩).run Try.prog X = .ok .skip (X.setCell ⟨B, i, none⟩ (.slice a n m)) := by
  simp only [execOp, e, e2]
  go_simp
theorem op_load101 {x : Operand} {B i : Nat} {t : Rc} (e : ρ x = .pointer (some ⟨B, i, none⟩)) (y0 : X.cell? ⟨B, i, none⟩ = some (.int .i64 t.1.1)) (y1 : X.cell? ⟨B, i + 1, none⟩ = some (.int .i64 t.1.2.1)) (y2 : X.cell? ⟨B, i + 2, none⟩ = some (.int .i64 t.1.2.2)) (y3 : X.cell? ⟨B, i + 3, none⟩ = some (.int .i64 t.2)) : (execOp ρ ⟨d, .load 101 x, ty, ps, af, g⟩).run Try.prog X = .ok (.value (.agg #[.int .i64 t.1.1, .int .i64 t.1.2.1, .int .i64 t.1.2.2, .int .i64 t.2])) X := by
  simp only [execOp, e]
  go_simp
theorem op_s32 {x : Operand} {t : Rc} (e : ρ x = .agg #[.int .i64 t.1.1, .int .i64 t.1.2.1, .int .i64 t.1.2.2, .int .i64 t.2]) : (execOp ρ ⟨d, .buildSlice 32 1 #[(0, x)], ty, ps, af, g⟩).run Try.prog X = .ok (.value (.slice (some ⟨X.heap.size, 0, none⟩) 1 1)) (X.alloc (.cells #[.int .i64 t.1.1, .int .i64 t.1.2.1, .int .i64 t.1.2.2, .int .i64 t.2] 101)) := by
  simp only [execOp]
  simp [e]
  go_simp
theorem op_s33 {x : Operand} {t : Td} (e : ρ x = tdV t) : (execOp ρ ⟨d, .buildSlice 33 1 #[(0, x)], ty, ps, af, g⟩).run Try.prog X = .ok (.value (.slice (some ⟨X.heap.size, 0, none⟩) 1 1)) (X.alloc (.cells #[.int .i64 t.1, .int .i64 t.2.1, .int .i64 t.2.2] 37)) := by
  simp only [execOp]
  simp [e]
  go_simp
theorem op_f101_0 {x : Operand} {B o : Nat} (e : ρ x = .pointer (some ⟨B, o, none⟩)) : (execOp ρ ⟨d, .fieldAddr 101 x 0, ty, ps, af, g⟩).run Try.prog X = .ok (.value (.pointer (some ⟨B, o, none⟩))) X := by
  simp only [execOp, e]
  go_simp
theorem op_f101_1 {x : Operand} {B o : Nat} (e : ρ x = .pointer (some ⟨B, o, none⟩)) : (execOp ρ ⟨d, .fieldAddr 101 x 1, ty, ps, af, g⟩).run Try.prog X = .ok (.value (.pointer (some ⟨B, o + 3, none⟩))) X := by
  simp only [execOp, e]
  go_simp
theorem op_b154 : (execOp ρ ⟨d, .build 154 #[], ty, ps, af, g⟩).run Try.prog X = .ok (.value (.agg #[])) X := by
  simp only [execOp]
  go_simp
theorem op_mapUpdate {T : TypeId} {x y z : Operand} {v1 v2 v3 : Value} {X' : World} (e : ρ x = v1) (e2 : ρ y = v2) (e3 : ρ z = v3) (h : (Instr.mapUpdate T v1 v2 v3).run Try.prog X = .ok () X') : (execOp ρ ⟨d, .mapUpdate T x y z, ty, ps, af, g⟩).run Try.prog X = .ok .skip X' := by
  simp only [execOp, e, e2, e3]
  simp [h]
end
section
variable {w w' : World} {A : Nat} {S S1 S2 : Nat → Prop} {s s' : Sh} {P M N : Nat} {G : List Gl} {lv rv ov : Value}
/-- A step that leaves a shard. -/
def Step (w : World) (A : Nat) (S : Nat → Prop) (s' : Sh) (w' : World) : Prop := ∃ S', Sy w' A S' s' ∧ (∀ j, S' j → Gro S w w' j) ∧ Fr w w' S
theorem Step.mk {G' : List Gl} {lv' rv' ov' : Value} (hS : ∀ k, S k ↔ S1 k ∨ S2 k) (h' : Sx w' A S1 (Gro S2 w w') s' P M N G' lv' rv' ov') (hf : Fr w w' S2) : Step w A S s' w' := by
  refine ⟨fun k => S1 k ∨ Gro S2 w w' k, ⟨S1, _, P, M, N, G', lv', rv', ov', h', fun k => Iff.rfl⟩, fun j q => ?_, hf.mono fun j q => (hS j).2 (.inr q)⟩
  rcases q with q | q | q
  · exact .inl ((hS j).2 (.inl q))
  · exact .inl ((hS j).2 (.inr q))
  · exact .inr q
set_option maxHeartbeats 4000000 in
set_option maxRecDepth 100000 in
theorem enter_any (h : Sx w A S1 S2 s P M N G lv rv ov) (hS : ∀ k, S k ↔ S1 k ∨ S2 k) {r : Rc} (hn : recOf s.recs r.1 = none) (ht : TdOk r.1) (hfew : s.recs.length < 800000) : Calls Try.prog 46 #[.pointer (some ⟨A, 0, none⟩), .agg #[.int .i64 r.1.1, .int .i64 r.1.2.1, .int .i64 r.1.2.2, .int .i64 r.2]] w fun e w' => e = .returned (.tuple #[]) ∧ Step w A S { s with recs := s.recs ++ [r] } w' := by
  obtain ⟨W, hW⟩ : ∃ W, W = w.alloc (.cells #[.int .i64 r.1.1, .int .i64 r.1.2.1, .int .i64 r.1.2.2, .int .i64 r.2] 101) := ⟨_, rfl⟩
  have hb : Below w.heap.size w W := by rw [hW]; exact (Below.refl _ w).alloc (Nat.le_refl _) _
  obtain ⟨Y, hY⟩ : ∃ Y, w.heap.size = Y := ⟨_, rfl⟩
  have jY : W.heap[Y]? = some (.cells #[.int .i64 r.1.1, .int .i64 r.1.2.1, .int .i64 r.1.2.2, .int .i64 r.2] 101 (0, 0)) := by rw [hW, ← hY]; exact heap_alloc_new w _
  have b0 : W.cell? ⟨Y, 0, none⟩ = some (.int .i64 r.1.1) := cell_blk jY 0
  have b1 : W.cell? ⟨Y, 1, none⟩ = some (.int .i64 r.1.2.1) := cell_blk jY 1
  have b2 : W.cell? ⟨Y, 2, none⟩ = some (.int .i64 r.1.2.2) := cell_blk jY 2
  have b3 : W.cell? ⟨Y, 3, none⟩ = some (.int .i64 r.2) := cell_blk jY 3
  have hx := h.on hb
  obtain ⟨rad, rcap, erv⟩ := own_shape hx.rcs
  have a2 : W.cell? ⟨A, 2, none⟩ = some (.slice rad s.recs.length rcap) := by rw [← erv]; exact cell_blk hx.ob 2
  have hnA : ¬ (Value.slice rad s.recs.length rcap).ownBlock = some A := fun e => by
    rw [← erv] at e
    obtain ⟨cs, t⟩ := own_tag hx.rcs A e
    exact tag_ne t hx.ob (by decide) rfl
  have hrl : ∀ j, (Value.slice rad s.recs.length rcap).ownBlock = some j → j < w.heap.size := fun j e => by
    rw [← erv] at e
    exact h.lt j (h.cr j e)
  have hnY : ¬ (Value.slice rad s.recs.length rcap).ownBlock = some Y := fun e => by have := hrl Y e; omega
  have hYs : w.heap.size ≤ W.heap.size := hb.size
  have HX := Lib.hid hx
  have HRW : Hid (W.ownsRow 0 101 4 (.slice rad s.recs.length rcap) s.recs.length (s.recs.flatMap rcL)) := by rw [← erv]; exact hx.rcs
  have HER := Lib.hid erv
  have HW := Lib.hid hW
  have HY := Lib.hid hY
  have HB := Lib.hid hb
  have HJY := Lib.hid jY
  have HRL := Lib.hid hrl
  have HH := Lib.hid h
  have HSS := Lib.hid hS
  clear hW hY hb jY hx erv h hrl hS
  go_enter Try.func46, Try.ntmps46
  go_upto_region 1 with fail
  rw [← HW.out, HY.out]
  refine wp_region_once 7 (fun d X9 => Fr W X9 (fun j => (Value.slice rad s.recs.length rcap).ownBlock = some j) ∧ (d = false → Below W.heap.size W X9)) (fun X9 X' => Below X9.heap.size X9 X') (fun X9 X' => Fr X9 X' (fun j => (Value.slice rad s.recs.length rcap).ownBlock = some j)) [
    fun v9 _ => v9 = .pointer (some ⟨A, 0, none⟩),
    fun v9 _ => v9 = .pointer (some ⟨A, 0, none⟩),
    fun v9 _ => v9 = .pointer (some ⟨A, 0, none⟩),
    fun v9 _ => v9 = .pointer (some ⟨A, 2, none⟩),
    fun v9 _ => v9 = (.slice rad s.recs.length rcap),
    fun v9 _ => v9 = .agg #[.int .i64 r.1.1, .int .i64 r.1.2.1, .int .i64 r.1.2.2, .int .i64 r.2],
    fun v9 X9 => ∃ Z1, v9 = lv1 Z1 ∧ W.heap.size ≤ Z1 ∧ X9.heap[Z1]? = some (.cells #[.int .i64 r.1.1, .int .i64 r.1.2.1, .int .i64 r.1.2.2, .int .i64 r.2] 101 (0, 0)),
    fun v9 X9 => ∃ ad9 cap9, v9 = .slice ad9 (s.recs.length + 1) cap9 ∧ X9.ownsRow 0 101 4 v9 (s.recs.length + 1) ((s.recs ++ [r]).flatMap rcL) ∧ (∀ j, (v9).ownBlock = some j → (Value.slice rad s.recs.length rcap).ownBlock = some j ∨ W.heap.size ≤ j) ∧ Fr W X9 (fun j => (Value.slice rad s.recs.length rcap).ownBlock = some j),
    fun v9 _ => v9 = .pointer (some ⟨A, 0, none⟩),
    fun v9 _ => v9 = .pointer (some ⟨A, 2, none⟩)]
    (fun _ X8 => ∃ ad9 cap9 X9, X8 = X9.setCell ⟨A, 2, none⟩ (.slice ad9 (s.recs.length + 1) cap9) ∧ X9.ownsRow 0 101 4 (.slice ad9 (s.recs.length + 1) cap9) (s.recs.length + 1) ((s.recs ++ [r]).flatMap rcL) ∧ (∀ j, (Value.slice ad9 (s.recs.length + 1) cap9).ownBlock = some j → (Value.slice rad s.recs.length rcap).ownBlock = some j ∨ W.heap.size ≤ j) ∧ Fr W X9 (fun j => (Value.slice rad s.recs.length rcap).ownBlock = some j)) rfl (by kernel_rfl) (by kernel_rfl) (by kernel_rfl) (by kernel_rfl) ?st ?stm ?g0 (by decide) ?os ?la ?en
  case st => exact ⟨fun _ _ _ _ h => h, fun _ _ _ _ h => h, fun _ _ _ _ h => h, fun _ _ _ _ h => h, fun _ _ _ _ h => h, fun _ _ _ _ h => h, fun _ _ _ hs ⟨Z1, e, z1, z2⟩ => ⟨Z1, e, z1, (hs.block _ (blk_lt z2)).trans z2⟩, fun _ _ _ hs ⟨x1, x2, e, o1, o2, o3⟩ => ⟨x1, x2, e, own_below o1 hs, o2, o3.below hs⟩, fun _ _ _ _ h => h, fun _ _ _ _ h => h, trivial⟩
  case stm => exact ⟨fun _ _ _ _ h => h, fun _ _ _ _ h => h, fun _ _ _ _ h => h, fun _ _ _ _ h => h, fun _ _ _ _ h => h, fun _ _ _ _ h => h, fun _ _ _ hs ⟨Z1, e, z1, z2⟩ => ⟨Z1, e, z1, (hs.block _ (blk_lt z2) (fun e => by have z9 := HRL.out _ e; omega)).trans z2⟩, fun _ _ _ _ h => h, fun _ _ _ _ h => h, fun _ _ _ _ h => h, trivial⟩
  case g0 => exact ⟨⟨rfl, rfl, rfl, Nat.le_refl _, fun _ _ _ => rfl⟩, fun _ => ⟨rfl, rfl, rfl, Nat.le_refl _, fun _ _ => rfl⟩⟩
  case os =>
    refine ⟨?_, ?_, ?_, ?_, ?_, ?_, ?_, ?_, ?_, ?_, trivial⟩
    · exact ⟨rfl, fun _ ρ X9 d hg ho hc hf hr => Runs.val _ (op_move (show ρ (.tmp 0) = .pointer (some ⟨A, 0, none⟩) from ho 0 rfl)) ⟨hg, Below.refl _ _, rfl⟩, fun e => absurd e (by decide)⟩
    · exact ⟨rfl, fun _ ρ X9 d hg ho hc hf hr => Runs.val _ (op_move (show ρ (.tmp 0) = .pointer (some ⟨A, 0, none⟩) from ho 0 rfl)) ⟨hg, Below.refl _ _, rfl⟩, fun e => absurd e (by decide)⟩
    · exact ⟨rfl, fun _ ρ X9 d hg ho hc hf hr => Runs.val _ (op_nil (show ρ (.tmp 5) = .pointer (some ⟨A, 0, none⟩) from hr 1 5 rfl rfl)) ⟨hg, Below.refl _ _, rfl⟩, fun e => absurd e (by decide)⟩
    · exact ⟨rfl, fun _ ρ X9 d hg ho hc hf hr => Runs.val _ (op_f92_2 (show ρ (.tmp 6) = .pointer (some ⟨A, 0, none⟩) from hr 2 6 rfl rfl)) ⟨hg, Below.refl _ _, rfl⟩, fun e => absurd e (by decide)⟩
    · exact ⟨rfl, fun _ ρ X9 d hg ho hc hf hr => Runs.val _ (op_load32 (show ρ (.tmp 7) = .pointer (some ⟨A, 2, none⟩) from hr 3 7 rfl rfl) (cell_fr hg.1 hnA a2)) ⟨hg, Below.refl _ _, rfl⟩, fun e => absurd e (by decide)⟩
    · exact ⟨rfl, fun _ ρ X9 d hg ho hc hf hr => Runs.val _ (op_load101 (show ρ (.tmp 3) = .pointer (some ⟨Y, 0, none⟩) from ho 3 rfl) (cell_fr hg.1 hnY b0) (cell_fr hg.1 hnY b1) (cell_fr hg.1 hnY b2) (cell_fr hg.1 hnY b3)) ⟨hg, Below.refl _ _, rfl⟩, fun e => absurd e (by decide)⟩
    · refine ⟨rfl, fun _ ρ X9 d hg ho hc hf hr => ?_, fun e => absurd e (by decide)⟩
      have hb7 : Below X9.heap.size X9 (X9.alloc (.cells #[.int .i64 r.1.1, .int .i64 r.1.2.1, .int .i64 r.1.2.2, .int .i64 r.2] 101)) := (Below.refl _ X9).alloc (Nat.le_refl _) _
      exact Runs.val _ (op_s32 (show ρ (.tmp 9) = .agg #[.int .i64 r.1.1, .int .i64 r.1.2.1, .int .i64 r.1.2.2, .int .i64 r.2] from hr 5 9 rfl rfl)) ⟨⟨hg.1.below hb7, fun z => (hg.2 z).trans (hb7.mono (hg.2 z).size)⟩, hb7, X9.heap.size, rfl, hg.1.size, heap_alloc_new X9 _⟩
    · refine ⟨rfl, fun e => absurd rfl e, fun _ ρ X9 hg ho hc hf hr => ?_⟩
      obtain ⟨Z1, e, z1, z2⟩ : ∃ Z1, (ρ (.tmp 10)) = lv1 Z1 ∧ W.heap.size ≤ Z1 ∧ X9.heap[Z1]? = some (.cells #[.int .i64 r.1.1, .int .i64 r.1.2.1, .int .i64 r.1.2.2, .int .i64 r.2] 101 (0, 0)) := hr 6 10 rfl rfl
      have hbX := hg.2 rfl
      obtain ⟨ad9, cap9, w9, hrun, o9, g9, t9⟩ := run_rc (m := 1) (c := 1) (news := rcL r) (own_below HRW.out hbX) (Nat.zero_le _) (.inr ⟨⟨Z1, 0, none⟩, rfl, rfl, fun j u hu => by
        rw [add_at, Nat.zero_add, cell_blk z2]
        simpa using hu⟩) (fun u hu => by simp at hu; rcases hu with rfl | rfl | rfl | rfl <;> rfl) (by omega)
      have f9 : Fr X9 w9 (fun j => (Value.slice rad s.recs.length rcap).ownBlock = some j) := Fr.grown (Fr.refl X9 _) g9 (fun j hj => .inl hj)
      exact Runs.val _ (op_appendT (show ρ (.tmp 8) = (.slice rad s.recs.length rcap) from hr 4 8 rfl rfl) e hrun) ⟨⟨hg.1.trans f9, fun z => by cases z⟩, f9, ad9, cap9, rfl, by rw [List.flatMap_append, List.flatMap_singleton]; exact o9, fun j e => (by
        rcases t9 with t9 | t9
        · rw [t9] at e; exact .inl e
        · rw [t9] at e; cases e; exact .inr hbX.size), hg.1.trans f9⟩
    · exact ⟨rfl, fun _ ρ X9 d hg ho hc hf hr => Runs.val _ (op_nil (show ρ (.tmp 4) = .pointer (some ⟨A, 0, none⟩) from hr 0 4 rfl rfl)) ⟨hg, Below.refl _ _, rfl⟩, fun e => absurd e (by decide)⟩
    · exact ⟨rfl, fun _ ρ X9 d hg ho hc hf hr => Runs.val _ (op_f92_2 (show ρ (.tmp 12) = .pointer (some ⟨A, 0, none⟩) from hr 8 12 rfl rfl)) ⟨hg, Below.refl _ _, rfl⟩, fun e => absurd e (by decide)⟩
  case la =>
    refine ⟨rfl, fun ρ X9 hg ho hc hf hr => ?_⟩
    obtain ⟨ad9, cap9, e, o1, o2, o3⟩ : ∃ ad9 cap9, (ρ (.tmp 11)) = .slice ad9 (s.recs.length + 1) cap9 ∧ X9.ownsRow 0 101 4 (ρ (.tmp 11)) (s.recs.length + 1) ((s.recs ++ [r]).flatMap rcL) ∧ (∀ j, ((ρ (.tmp 11))).ownBlock = some j → (Value.slice rad s.recs.length rcap).ownBlock = some j ∨ W.heap.size ≤ j) ∧ Fr W X9 (fun j => (Value.slice rad s.recs.length rcap).ownBlock = some j) := hr 7 11 (by decide) rfl
    rw [e] at o1 o2
    have hA9 := (o3.block A (blk_lt HX.out.ob) hnA).trans HX.out.ob
    exact Runs.skips (op_store32 (show ρ (.tmp 13) = .pointer (some ⟨A, 2, none⟩) from hr 9 13 (by decide) rfl) e (cell_blk hA9 2) (frozen_blk hA9 2)) ⟨ad9, cap9, X9, rfl, o1, o2, o3⟩
  case en =>
    intro a X9 Xb v9 hF hs hd ho hv9 hr
    obtain ⟨x, hx, hxt⟩ := act_put hs hd ho
    change a = putAll _ x [4, 5, 6, 7, 8, 9, 10, 11, 12, 13] at hx
    simp only [putAll, Act.put, List.setIfInBounds_toArray, List.set_cons_zero, List.set_cons_succ] at hx
    obtain ⟨ad9, cap9, X8, rfl, o1, o2, o3⟩ := hF
    have hA8 := (o3.block A (blk_lt HX.out.ob) hnA).trans HX.out.ob
    obtain ⟨V, hV⟩ : ∃ V, V = X8.setCell ⟨A, 2, none⟩ (.slice ad9 (s.recs.length + 1) cap9) := ⟨_, rfl⟩
    have fA : Fr X8 V (fun j => j = A) := by rw [hV]; exact Fr.set (a := ⟨A, 2, none⟩) (Fr.refl X8 (fun j => j = A)) (Or.inl rfl) _
    have obV : V.heap[A]? = some (.cells #[.pointer (some ⟨P, 0, none⟩), lv, .slice ad9 (s.recs.length + 1) cap9, .map (some M), ov, .map (some N), .int .i64 s.high] 92 (0, 0)) := by rw [hV]; exact set_blk (i := 2) hA8 _
    have oV : V.ownsRow 0 101 4 (.slice ad9 (s.recs.length + 1) cap9) (s.recs.length + 1) ((s.recs ++ [r]).flatMap rcL) := row_keep o1 fA (fun j hj e => by
      obtain ⟨cs, t⟩ := own_tag o1 j hj
      have e' : j = A := e
      subst e'
      exact tag_ne t hA8 (by decide) rfl)
    have fV : Fr W V (fun j => j = A ∨ (Value.slice rad s.recs.length rcap).ownBlock = some j) := (o3.mono fun j q => .inr q).trans (fA.mono fun j q => .inl q)
    have jYV : V.heap[Y]? = some (.cells #[.int .i64 r.1.1, .int .i64 r.1.2.1, .int .i64 r.1.2.2, .int .i64 r.2] 101 (0, 0)) := (fV.block Y (blk_lt HJY.out) (fun e => by
      rcases e with e | e
      · have q1 := HH.out.lt A HH.out.cA
        have q2 := HY.out
        omega
      · exact hnY e)).trans HJY.out
    have mapW := HX.out.tm
    have mapV : Mt V M s.recs.length (fun t => (recOf s.recs t).map (fun n => .int .i64 n)) := mapW.like (fV.block M mapW.lt (fun e => by
      obtain ⟨es, cl, hM⟩ := mapW.isMap
      rcases e with e | e
      · rw [e, HX.out.ob] at hM
        cases hM
      · obtain ⟨cs, t⟩ := own_tag HRW.out M e
        rw [hM] at t
        cases t))
    have n0 : V.cell? ⟨Y, 0, none⟩ = some (.int .i64 r.1.1) := cell_blk jYV 0
    have n1 : V.cell? ⟨Y, 1, none⟩ = some (.int .i64 r.1.2.1) := cell_blk jYV 1
    have n2 : V.cell? ⟨Y, 2, none⟩ = some (.int .i64 r.1.2.2) := cell_blk jYV 2
    have n3 : V.cell? ⟨Y, 3, none⟩ = some (.int .i64 r.2) := cell_blk jYV 3
    have am : V.cell? ⟨A, 3, none⟩ = some (.map (some M)) := cell_blk obV 3
    have HOV := Lib.hid oV
    have HOBV := Lib.hid obV
    have HFV := Lib.hid fV
    have HMV := Lib.hid mapV
    have HO2 := Lib.hid o2
    have HV := Lib.hid hV
    clear hs hd ho hr hv9 hxt o1 o2 o3 hA8 fA oV fV obV mapV mapW jYV hV
    subst hx
    rw [← HV.out]
    go_upto_region 2 with fail
    refine wp_region_last (fun X9 => Below V.heap.size V X9) (fun _ _ => True) [
      fun v9 _ => v9 = .pointer (some ⟨A, 0, none⟩),
      fun v9 _ => v9 = .pointer (some ⟨A, 0, none⟩),
      fun v9 _ => v9 = .pointer (some ⟨A, 3, none⟩),
      fun v9 _ => v9 = .map (some M),
      fun v9 _ => v9 = .pointer (some ⟨Y, 0, none⟩),
      fun v9 _ => v9 = tdV r.1,
      fun v9 _ => v9 = .pointer (some ⟨Y, 3, none⟩),
      fun v9 _ => v9 = .int .i64 r.2]
      (fun _ X8 => Mt X8 M (s.recs.length + 1) (fun t => if t = r.1 then some (.int .i64 r.2) else (recOf s.recs t).map (fun n => .int .i64 n)) ∧ Fr V X8 (fun j => j = M)) rfl (by kernel_rfl) (by kernel_rfl) (by kernel_rfl) (by kernel_rfl) ?st ?g0 ?os ?la ?en
    case st => exact ⟨fun _ _ _ _ h => h, fun _ _ _ _ h => h, fun _ _ _ _ h => h, fun _ _ _ _ h => h, fun _ _ _ _ h => h, fun _ _ _ _ h => h, fun _ _ _ _ h => h, fun _ _ _ _ h => h, trivial⟩
    case g0 => exact ⟨rfl, rfl, rfl, Nat.le_refl _, fun _ _ => rfl⟩
    case os =>
      refine ⟨?_, ?_, ?_, ?_, ?_, ?_, ?_, ?_, trivial⟩
      · exact ⟨rfl, fun ρ X9 hg ho hc hf hr => Runs.val _ (op_move (show ρ (.tmp 0) = .pointer (some ⟨A, 0, none⟩) from ho 0 rfl)) ⟨hg, trivial, rfl⟩⟩
      · exact ⟨rfl, fun ρ X9 hg ho hc hf hr => Runs.val _ (op_nil (show ρ (.tmp 14) = .pointer (some ⟨A, 0, none⟩) from hr 0 14 rfl rfl)) ⟨hg, trivial, rfl⟩⟩
      · exact ⟨rfl, fun ρ X9 hg ho hc hf hr => Runs.val _ (op_f92_3 (show ρ (.tmp 15) = .pointer (some ⟨A, 0, none⟩) from hr 1 15 rfl rfl)) ⟨hg, trivial, rfl⟩⟩
      · exact ⟨rfl, fun ρ X9 hg ho hc hf hr => Runs.val _ (op_load89 (show ρ (.tmp 16) = .pointer (some ⟨A, 3, none⟩) from hr 2 16 rfl rfl) (cell_on hg am)) ⟨hg, trivial, rfl⟩⟩
      · exact ⟨rfl, fun ρ X9 hg ho hc hf hr => Runs.val _ (op_f101_0 (show ρ (.tmp 3) = .pointer (some ⟨Y, 0, none⟩) from ho 3 rfl)) ⟨hg, trivial, rfl⟩⟩
      · exact ⟨rfl, fun ρ X9 hg ho hc hf hr => Runs.val _ (op_load37 (show ρ (.tmp 18) = .pointer (some ⟨Y, 0, none⟩) from hr 4 18 rfl rfl) (cell_on hg n0) (cell_on hg n1) (cell_on hg n2)) ⟨hg, trivial, rfl⟩⟩
      · exact ⟨rfl, fun ρ X9 hg ho hc hf hr => Runs.val _ (op_f101_1 (show ρ (.tmp 3) = .pointer (some ⟨Y, 0, none⟩) from ho 3 rfl)) ⟨hg, trivial, rfl⟩⟩
      · exact ⟨rfl, fun ρ X9 hg ho hc hf hr => Runs.val _ (op_load3 (show ρ (.tmp 20) = .pointer (some ⟨Y, 3, none⟩) from hr 6 20 rfl rfl) (cell_on hg n3)) ⟨hg, trivial, rfl⟩⟩
    case la =>
      refine ⟨rfl, fun ρ X9 hg ho hc hf hr => ?_⟩
      obtain ⟨X8, hrun, hm8, hg8⟩ := (HMV.out.on hg).put Try.underlying89 (by unfold maxLen; omega) ht (.int .i64 r.2)
      exact Runs.skips (op_mapUpdate (show ρ (.tmp 17) = .map (some M) from hr 3 17 (by decide) rfl) (show ρ (.tmp 19) = tdV r.1 from hr 5 19 (by decide) rfl) (show ρ (.tmp 21) = .int .i64 r.2 from hr 7 21 (by decide) rfl) hrun) ⟨hm8, Fr.grown ((Fr.refl V _).below hg) hg8 (fun k hk => .inl (by cases hk; rfl))⟩
    case en =>
      intro a X9 Xb v9 hF hs hd ho hv9 hr
      obtain ⟨x, hx, hxt⟩ := act_put hs hd ho
      change a = putAll _ x [14, 15, 16, 17, 18, 19, 20, 21] at hx
      simp only [putAll, Act.put, List.setIfInBounds_toArray, List.set_cons_zero, List.set_cons_succ] at hx
      obtain ⟨m1, f1⟩ := hF
      have HA : Hid (Step w A S { s with recs := s.recs ++ [r] } X9) := by
        have hT0 : ¬ (fun j => j = M) A := fun e => by
          have e' : A = M := e
          obtain ⟨es, cl, hM⟩ := HMV.out.isMap
          rw [← e', HOBV.out] at hM
          cases hM
        have ob9 := (f1.block A (blk_lt HOBV.out) hT0).trans HOBV.out
        have o9 := row_keep HOV.out f1 (fun j hj e => by
          have e' : j = M := e
          subst e'
          obtain ⟨cs, t⟩ := own_tag HOV.out j hj
          obtain ⟨es, cl, hM⟩ := HMV.out.isMap
          rw [hM] at t
          cases t)
        have f9 : Fr w X9 (Three A rv M) := by
          rw [HER.out]
          have e1 : Fr W X9 (Three A (.slice rad s.recs.length rcap) M) := (HFV.out.mono fun j q => by rcases q with q | q; exact .inl q; exact .inr (.inl q)).trans (f1.mono fun j q => .inr (.inr q))
          exact ⟨e1.os.trans HB.out.os, e1.tape.trans HB.out.tape, e1.output.trans HB.out.output, Nat.le_trans HB.out.size e1.size, fun k hk hn => (e1.block k (Nat.lt_of_lt_of_le hk HB.out.size) hn).trans (HB.out.block k hk)⟩
        obtain ⟨k1, k2⟩ := HH.out.enter hn f9 ob9 o9 (fun j hj => by
          rcases HO2.out j hj with q | q
          · rw [HER.out]; exact .inl q
          · exact .inr (Nat.le_trans HB.out.size q)) m1 hfew
        exact Step.mk HSS.out k1 k2
      clear hs hd ho hr hv9 hxt m1 f1
      subst hx
      go_wp2
      refine bodyPost_end (results_none rfl _ _ _) rfl ?_
      exact ⟨rfl, HA.out⟩
set_option maxHeartbeats 4000000 in
set_option maxRecDepth 100000 in
theorem end_any (h : Sx w A S1 S2 s P M N G lv rv ov) (hS : ∀ k, S k ↔ S1 k ∨ S2 k) {t : Td} (ht : TdOk t) (hfew : s.over.length < 800000) : Calls Try.prog 47 #[.pointer (some ⟨A, 0, none⟩), tdV t] w fun e w' => e = .returned (.tuple #[]) ∧ Step w A S { s with over := s.over ++ [t] } w' := by
  obtain ⟨W, hW⟩ : ∃ W, W = w.alloc (.cells #[.int .i64 t.1, .int .i64 t.2.1, .int .i64 t.2.2] 37) := ⟨_, rfl⟩
  have hb : Below w.heap.size w W := by rw [hW]; exact (Below.refl _ w).alloc (Nat.le_refl _) _
  obtain ⟨Y, hY⟩ : ∃ Y, w.heap.size = Y := ⟨_, rfl⟩
  have jY : W.heap[Y]? = some (.cells #[.int .i64 t.1, .int .i64 t.2.1, .int .i64 t.2.2] 37 (0, 0)) := by rw [hW, ← hY]; exact heap_alloc_new w _
  have b0 : W.cell? ⟨Y, 0, none⟩ = some (.int .i64 t.1) := cell_blk jY 0
  have b1 : W.cell? ⟨Y, 1, none⟩ = some (.int .i64 t.2.1) := cell_blk jY 1
  have b2 : W.cell? ⟨Y, 2, none⟩ = some (.int .i64 t.2.2) := cell_blk jY 2
  have hx := h.on hb
  obtain ⟨rad, rcap, erv⟩ := own_shape hx.ovs
  have a4 : W.cell? ⟨A, 4, none⟩ = some (.slice rad s.over.length rcap) := by rw [← erv]; exact cell_blk hx.ob 4
  have hnA : ¬ (Value.slice rad s.over.length rcap).ownBlock = some A := fun e => by
    rw [← erv] at e
    obtain ⟨cs, t⟩ := own_tag hx.ovs A e
    exact tag_ne t hx.ob (by decide) rfl
  have hrl : ∀ j, (Value.slice rad s.over.length rcap).ownBlock = some j → j < w.heap.size := fun j e => by
    rw [← erv] at e
    exact h.lt j (h.co j e)
  have hnY : ¬ (Value.slice rad s.over.length rcap).ownBlock = some Y := fun e => by have := hrl Y e; omega
  have hYs : w.heap.size ≤ W.heap.size := hb.size
  have HX := Lib.hid hx
  have HRW : Hid (W.ownsRow 0 37 3 (.slice rad s.over.length rcap) s.over.length (s.over.flatMap tdL)) := by rw [← erv]; exact hx.ovs
  have HER := Lib.hid erv
  have HW := Lib.hid hW
  have HY := Lib.hid hY
  have HB := Lib.hid hb
  have HJY := Lib.hid jY
  have HRL := Lib.hid hrl
  have HH := Lib.hid h
  have HSS := Lib.hid hS
  clear hW hY hb jY hx erv h hrl hS
  go_enter Try.func47, Try.ntmps47
  go_upto_region 1 with fail
  rw [← HW.out, HY.out]
  refine wp_region_once 7 (fun d X9 => Fr W X9 (fun j => (Value.slice rad s.over.length rcap).ownBlock = some j) ∧ (d = false → Below W.heap.size W X9)) (fun X9 X' => Below X9.heap.size X9 X') (fun X9 X' => Fr X9 X' (fun j => (Value.slice rad s.over.length rcap).ownBlock = some j)) [
    fun v9 _ => v9 = .pointer (some ⟨A, 0, none⟩),
    fun v9 _ => v9 = .pointer (some ⟨A, 0, none⟩),
    fun v9 _ => v9 = .pointer (some ⟨A, 0, none⟩),
    fun v9 _ => v9 = .pointer (some ⟨A, 4, none⟩),
    fun v9 _ => v9 = (.slice rad s.over.length rcap),
    fun v9 _ => v9 = tdV t,
    fun v9 X9 => ∃ Z1, v9 = lv1 Z1 ∧ W.heap.size ≤ Z1 ∧ X9.heap[Z1]? = some (.cells #[.int .i64 t.1, .int .i64 t.2.1, .int .i64 t.2.2] 37 (0, 0)),
    fun v9 X9 => ∃ ad9 cap9, v9 = .slice ad9 (s.over.length + 1) cap9 ∧ X9.ownsRow 0 37 3 v9 (s.over.length + 1) ((s.over ++ [t]).flatMap tdL) ∧ (∀ j, (v9).ownBlock = some j → (Value.slice rad s.over.length rcap).ownBlock = some j ∨ W.heap.size ≤ j) ∧ Fr W X9 (fun j => (Value.slice rad s.over.length rcap).ownBlock = some j),
    fun v9 _ => v9 = .pointer (some ⟨A, 0, none⟩),
    fun v9 _ => v9 = .pointer (some ⟨A, 4, none⟩)]
    (fun _ X8 => ∃ ad9 cap9 X9, X8 = X9.setCell ⟨A, 4, none⟩ (.slice ad9 (s.over.length + 1) cap9) ∧ X9.ownsRow 0 37 3 (.slice ad9 (s.over.length + 1) cap9) (s.over.length + 1) ((s.over ++ [t]).flatMap tdL) ∧ (∀ j, (Value.slice ad9 (s.over.length + 1) cap9).ownBlock = some j → (Value.slice rad s.over.length rcap).ownBlock = some j ∨ W.heap.size ≤ j) ∧ Fr W X9 (fun j => (Value.slice rad s.over.length rcap).ownBlock = some j)) rfl (by kernel_rfl) (by kernel_rfl) (by kernel_rfl) (by kernel_rfl) ?st ?stm ?g0 (by decide) ?os ?la ?en
  case st => exact ⟨fun _ _ _ _ h => h, fun _ _ _ _ h => h, fun _ _ _ _ h => h, fun _ _ _ _ h => h, fun _ _ _ _ h => h, fun _ _ _ _ h => h, fun _ _ _ hs ⟨Z1, e, z1, z2⟩ => ⟨Z1, e, z1, (hs.block _ (blk_lt z2)).trans z2⟩, fun _ _ _ hs ⟨x1, x2, e, o1, o2, o3⟩ => ⟨x1, x2, e, own_below o1 hs, o2, o3.below hs⟩, fun _ _ _ _ h => h, fun _ _ _ _ h => h, trivial⟩
  case stm => exact ⟨fun _ _ _ _ h => h, fun _ _ _ _ h => h, fun _ _ _ _ h => h, fun _ _ _ _ h => h, fun _ _ _ _ h => h, fun _ _ _ _ h => h, fun _ _ _ hs ⟨Z1, e, z1, z2⟩ => ⟨Z1, e, z1, (hs.block _ (blk_lt z2) (fun e => by have z9 := HRL.out _ e; omega)).trans z2⟩, fun _ _ _ _ h => h, fun _ _ _ _ h => h, fun _ _ _ _ h => h, trivial⟩
  case g0 => exact ⟨⟨rfl, rfl, rfl, Nat.le_refl _, fun _ _ _ => rfl⟩, fun _ => ⟨rfl, rfl, rfl, Nat.le_refl _, fun _ _ => rfl⟩⟩
  case os =>
    refine ⟨?_, ?_, ?_, ?_, ?_, ?_, ?_, ?_, ?_, ?_, trivial⟩
    · exact ⟨rfl, fun _ ρ X9 d hg ho hc hf hr => Runs.val _ (op_move (show ρ (.tmp 0) = .pointer (some ⟨A, 0, none⟩) from ho 0 rfl)) ⟨hg, Below.refl _ _, rfl⟩, fun e => absurd e (by decide)⟩
    · exact ⟨rfl, fun _ ρ X9 d hg ho hc hf hr => Runs.val _ (op_move (show ρ (.tmp 0) = .pointer (some ⟨A, 0, none⟩) from ho 0 rfl)) ⟨hg, Below.refl _ _, rfl⟩, fun e => absurd e (by decide)⟩
    · exact ⟨rfl, fun _ ρ X9 d hg ho hc hf hr => Runs.val _ (op_nil (show ρ (.tmp 5) = .pointer (some ⟨A, 0, none⟩) from hr 1 5 rfl rfl)) ⟨hg, Below.refl _ _, rfl⟩, fun e => absurd e (by decide)⟩
    · exact ⟨rfl, fun _ ρ X9 d hg ho hc hf hr => Runs.val _ (op_f92_4 (show ρ (.tmp 6) = .pointer (some ⟨A, 0, none⟩) from hr 2 6 rfl rfl)) ⟨hg, Below.refl _ _, rfl⟩, fun e => absurd e (by decide)⟩
    · exact ⟨rfl, fun _ ρ X9 d hg ho hc hf hr => Runs.val _ (op_load33 (show ρ (.tmp 7) = .pointer (some ⟨A, 4, none⟩) from hr 3 7 rfl rfl) (cell_fr hg.1 hnA a4)) ⟨hg, Below.refl _ _, rfl⟩, fun e => absurd e (by decide)⟩
    · exact ⟨rfl, fun _ ρ X9 d hg ho hc hf hr => Runs.val _ (op_load37 (show ρ (.tmp 3) = .pointer (some ⟨Y, 0, none⟩) from ho 3 rfl) (cell_fr hg.1 hnY b0) (cell_fr hg.1 hnY b1) (cell_fr hg.1 hnY b2)) ⟨hg, Below.refl _ _, rfl⟩, fun e => absurd e (by decide)⟩
    · refine ⟨rfl, fun _ ρ X9 d hg ho hc hf hr => ?_, fun e => absurd e (by decide)⟩
      have hb7 : Below X9.heap.size X9 (X9.alloc (.cells #[.int .i64 t.1, .int .i64 t.2.1, .int .i64 t.2.2] 37)) := (Below.refl _ X9).alloc (Nat.le_refl _) _
      exact Runs.val _ (op_s33 (show ρ (.tmp 9) = tdV t from hr 5 9 rfl rfl)) ⟨⟨hg.1.below hb7, fun z => (hg.2 z).trans (hb7.mono (hg.2 z).size)⟩, hb7, X9.heap.size, rfl, hg.1.size, heap_alloc_new X9 _⟩
    · refine ⟨rfl, fun e => absurd rfl e, fun _ ρ X9 hg ho hc hf hr => ?_⟩
      obtain ⟨Z1, e, z1, z2⟩ : ∃ Z1, (ρ (.tmp 10)) = lv1 Z1 ∧ W.heap.size ≤ Z1 ∧ X9.heap[Z1]? = some (.cells #[.int .i64 t.1, .int .i64 t.2.1, .int .i64 t.2.2] 37 (0, 0)) := hr 6 10 rfl rfl
      have hbX := hg.2 rfl
      obtain ⟨ad9, cap9, w9, hrun, o9, g9, t9⟩ := run_td (m := 1) (c := 1) (news := tdL t) (own_below HRW.out hbX) (Nat.zero_le _) (.inr ⟨⟨Z1, 0, none⟩, rfl, rfl, fun j u hu => by
        rw [add_at, Nat.zero_add, cell_blk z2]
        simpa using hu⟩) (fun u hu => by simp at hu; rcases hu with rfl | rfl | rfl <;> rfl) (by omega)
      have f9 : Fr X9 w9 (fun j => (Value.slice rad s.over.length rcap).ownBlock = some j) := Fr.grown (Fr.refl X9 _) g9 (fun j hj => .inl hj)
      exact Runs.val _ (op_appendT (show ρ (.tmp 8) = (.slice rad s.over.length rcap) from hr 4 8 rfl rfl) e hrun) ⟨⟨hg.1.trans f9, fun z => by cases z⟩, f9, ad9, cap9, rfl, by rw [List.flatMap_append, List.flatMap_singleton]; exact o9, fun j e => (by
        rcases t9 with t9 | t9
        · rw [t9] at e; exact .inl e
        · rw [t9] at e; cases e; exact .inr hbX.size), hg.1.trans f9⟩
    · exact ⟨rfl, fun _ ρ X9 d hg ho hc hf hr => Runs.val _ (op_nil (show ρ (.tmp 4) = .pointer (some ⟨A, 0, none⟩) from hr 0 4 rfl rfl)) ⟨hg, Below.refl _ _, rfl⟩, fun e => absurd e (by decide)⟩
    · exact ⟨rfl, fun _ ρ X9 d hg ho hc hf hr => Runs.val _ (op_f92_4 (show ρ (.tmp 12) = .pointer (some ⟨A, 0, none⟩) from hr 8 12 rfl rfl)) ⟨hg, Below.refl _ _, rfl⟩, fun e => absurd e (by decide)⟩
  case la =>
    refine ⟨rfl, fun ρ X9 hg ho hc hf hr => ?_⟩
    obtain ⟨ad9, cap9, e, o1, o2, o3⟩ : ∃ ad9 cap9, (ρ (.tmp 11)) = .slice ad9 (s.over.length + 1) cap9 ∧ X9.ownsRow 0 37 3 (ρ (.tmp 11)) (s.over.length + 1) ((s.over ++ [t]).flatMap tdL) ∧ (∀ j, ((ρ (.tmp 11))).ownBlock = some j → (Value.slice rad s.over.length rcap).ownBlock = some j ∨ W.heap.size ≤ j) ∧ Fr W X9 (fun j => (Value.slice rad s.over.length rcap).ownBlock = some j) := hr 7 11 (by decide) rfl
    rw [e] at o1 o2
    have hA9 := (o3.block A (blk_lt HX.out.ob) hnA).trans HX.out.ob
    exact Runs.skips (op_store33 (show ρ (.tmp 13) = .pointer (some ⟨A, 4, none⟩) from hr 9 13 (by decide) rfl) e (cell_blk hA9 4) (frozen_blk hA9 4)) ⟨ad9, cap9, X9, rfl, o1, o2, o3⟩
  case en =>
    intro a X9 Xb v9 hF hs hd ho hv9 hr
    obtain ⟨x, hx, hxt⟩ := act_put hs hd ho
    change a = putAll _ x [4, 5, 6, 7, 8, 9, 10, 11, 12, 13] at hx
    simp only [putAll, Act.put, List.setIfInBounds_toArray, List.set_cons_zero, List.set_cons_succ] at hx
    obtain ⟨ad9, cap9, X8, rfl, o1, o2, o3⟩ := hF
    have hA8 := (o3.block A (blk_lt HX.out.ob) hnA).trans HX.out.ob
    obtain ⟨V, hV⟩ : ∃ V, V = X8.setCell ⟨A, 4, none⟩ (.slice ad9 (s.over.length + 1) cap9) := ⟨_, rfl⟩
    have fA : Fr X8 V (fun j => j = A) := by rw [hV]; exact Fr.set (a := ⟨A, 4, none⟩) (Fr.refl X8 (fun j => j = A)) (Or.inl rfl) _
    have obV : V.heap[A]? = some (.cells #[.pointer (some ⟨P, 0, none⟩), lv, rv, .map (some M), .slice ad9 (s.over.length + 1) cap9, .map (some N), .int .i64 s.high] 92 (0, 0)) := by rw [hV]; exact set_blk (i := 4) hA8 _
    have oV : V.ownsRow 0 37 3 (.slice ad9 (s.over.length + 1) cap9) (s.over.length + 1) ((s.over ++ [t]).flatMap tdL) := row_keep o1 fA (fun j hj e => by
      obtain ⟨cs, t⟩ := own_tag o1 j hj
      have e' : j = A := e
      subst e'
      exact tag_ne t hA8 (by decide) rfl)
    have fV : Fr W V (fun j => j = A ∨ (Value.slice rad s.over.length rcap).ownBlock = some j) := (o3.mono fun j q => .inr q).trans (fA.mono fun j q => .inl q)
    have jYV : V.heap[Y]? = some (.cells #[.int .i64 t.1, .int .i64 t.2.1, .int .i64 t.2.2] 37 (0, 0)) := (fV.block Y (blk_lt HJY.out) (fun e => by
      rcases e with e | e
      · have q1 := HH.out.lt A HH.out.cA
        have q2 := HY.out
        omega
      · exact hnY e)).trans HJY.out
    have mapW := HX.out.en
    have mapV : Mt V N s.over.length (fun x => if x ∈ s.over then some (.agg #[]) else none) := mapW.like (fV.block N mapW.lt (fun e => by
      obtain ⟨es, cl, hM⟩ := mapW.isMap
      rcases e with e | e
      · rw [e, HX.out.ob] at hM
        cases hM
      · obtain ⟨cs, t⟩ := own_tag HRW.out N e
        rw [hM] at t
        cases t))
    have n0 : V.cell? ⟨Y, 0, none⟩ = some (.int .i64 t.1) := cell_blk jYV 0
    have n1 : V.cell? ⟨Y, 1, none⟩ = some (.int .i64 t.2.1) := cell_blk jYV 1
    have n2 : V.cell? ⟨Y, 2, none⟩ = some (.int .i64 t.2.2) := cell_blk jYV 2
    have am : V.cell? ⟨A, 5, none⟩ = some (.map (some N)) := cell_blk obV 5
    have HOV := Lib.hid oV
    have HOBV := Lib.hid obV
    have HFV := Lib.hid fV
    have HMV := Lib.hid mapV
    have HO2 := Lib.hid o2
    have HV := Lib.hid hV
    clear hs hd ho hr hv9 hxt o1 o2 o3 hA8 fA oV fV obV mapV mapW jYV hV
    subst hx
    rw [← HV.out]
    go_upto_region 2 with fail
    refine wp_region_last (fun X9 => Below V.heap.size V X9) (fun _ _ => True) [
      fun v9 _ => v9 = .pointer (some ⟨A, 0, none⟩),
      fun v9 _ => v9 = .pointer (some ⟨A, 0, none⟩),
      fun v9 _ => v9 = .pointer (some ⟨A, 5, none⟩),
      fun v9 _ => v9 = .map (some N),
      fun v9 _ => v9 = tdV t,
      fun v9 _ => v9 = .agg #[]]
      (fun _ X8 => Mt X8 N (s.over.length + 1) (fun x => if x = t then some (.agg #[]) else if x ∈ s.over then some (.agg #[]) else none) ∧ Fr V X8 (fun j => j = N)) rfl (by kernel_rfl) (by kernel_rfl) (by kernel_rfl) (by kernel_rfl) ?st ?g0 ?os ?la ?en
    case st => exact ⟨fun _ _ _ _ h => h, fun _ _ _ _ h => h, fun _ _ _ _ h => h, fun _ _ _ _ h => h, fun _ _ _ _ h => h, fun _ _ _ _ h => h, trivial⟩
    case g0 => exact ⟨rfl, rfl, rfl, Nat.le_refl _, fun _ _ => rfl⟩
    case os =>
      refine ⟨?_, ?_, ?_, ?_, ?_, ?_, trivial⟩
      · exact ⟨rfl, fun ρ X9 hg ho hc hf hr => Runs.val _ (op_move (show ρ (.tmp 0) = .pointer (some ⟨A, 0, none⟩) from ho 0 rfl)) ⟨hg, trivial, rfl⟩⟩
      · exact ⟨rfl, fun ρ X9 hg ho hc hf hr => Runs.val _ (op_nil (show ρ (.tmp 14) = .pointer (some ⟨A, 0, none⟩) from hr 0 14 rfl rfl)) ⟨hg, trivial, rfl⟩⟩
      · exact ⟨rfl, fun ρ X9 hg ho hc hf hr => Runs.val _ (op_f92_5 (show ρ (.tmp 15) = .pointer (some ⟨A, 0, none⟩) from hr 1 15 rfl rfl)) ⟨hg, trivial, rfl⟩⟩
      · exact ⟨rfl, fun ρ X9 hg ho hc hf hr => Runs.val _ (op_load90 (show ρ (.tmp 16) = .pointer (some ⟨A, 5, none⟩) from hr 2 16 rfl rfl) (cell_on hg am)) ⟨hg, trivial, rfl⟩⟩
      · exact ⟨rfl, fun ρ X9 hg ho hc hf hr => Runs.val _ (op_load37 (show ρ (.tmp 3) = .pointer (some ⟨Y, 0, none⟩) from ho 3 rfl) (cell_on hg n0) (cell_on hg n1) (cell_on hg n2)) ⟨hg, trivial, rfl⟩⟩
      · exact ⟨rfl, fun ρ X9 hg ho hc hf hr => Runs.val _ (op_b154) ⟨hg, trivial, rfl⟩⟩
    case la =>
      refine ⟨rfl, fun ρ X9 hg ho hc hf hr => ?_⟩
      obtain ⟨X8, hrun, hm8, hg8⟩ := (HMV.out.on hg).put Try.underlying90 (by unfold maxLen; omega) ht (.agg #[])
      exact Runs.skips (op_mapUpdate (show ρ (.tmp 17) = .map (some N) from hr 3 17 (by decide) rfl) (show ρ (.tmp 18) = tdV t from hr 4 18 (by decide) rfl) (show ρ (.tmp 19) = .agg #[] from hr 5 19 (by decide) rfl) hrun) ⟨hm8, Fr.grown ((Fr.refl V _).below hg) hg8 (fun k hk => .inl (by cases hk; rfl))⟩
    case en =>
      intro a X9 Xb v9 hF hs hd ho hv9 hr
      obtain ⟨x, hx, hxt⟩ := act_put hs hd ho
      change a = putAll _ x [14, 15, 16, 17, 18, 19] at hx
      simp only [putAll, Act.put, List.setIfInBounds_toArray, List.set_cons_zero, List.set_cons_succ] at hx
      obtain ⟨m1, f1⟩ := hF
      have HA : Hid (Step w A S { s with over := s.over ++ [t] } X9) := by
        have hT0 : ¬ (fun j => j = N) A := fun e => by
          have e' : A = N := e
          obtain ⟨es, cl, hM⟩ := HMV.out.isMap
          rw [← e', HOBV.out] at hM
          cases hM
        have ob9 := (f1.block A (blk_lt HOBV.out) hT0).trans HOBV.out
        have o9 := row_keep HOV.out f1 (fun j hj e => by
          have e' : j = N := e
          subst e'
          obtain ⟨cs, t⟩ := own_tag HOV.out j hj
          obtain ⟨es, cl, hM⟩ := HMV.out.isMap
          rw [hM] at t
          cases t)
        have f9 : Fr w X9 (Three A ov N) := by
          rw [HER.out]
          have e1 : Fr W X9 (Three A (.slice rad s.over.length rcap) N) := (HFV.out.mono fun j q => by rcases q with q | q; exact .inl q; exact .inr (.inl q)).trans (f1.mono fun j q => .inr (.inr q))
          exact ⟨e1.os.trans HB.out.os, e1.tape.trans HB.out.tape, e1.output.trans HB.out.output, Nat.le_trans HB.out.size e1.size, fun k hk hn => (e1.block k (Nat.lt_of_lt_of_le hk HB.out.size) hn).trans (HB.out.block k hk)⟩
        obtain ⟨k1, k2⟩ := HH.out.ends f9 ob9 o9 (fun j hj => by
          rcases HO2.out j hj with q | q
          · rw [HER.out]; exact .inl q
          · exact .inr (Nat.le_trans HB.out.size q)) m1 hfew
        exact Step.mk HSS.out k1 k2
      clear hs hd ho hr hv9 hxt m1 f1
      subst hx
      go_wp2
      refine bodyPost_end (results_none rfl _ _ _) rfl ?_
      exact ⟨rfl, HA.out⟩
end
end Go.Proofs.Ytcoaahlakkghhaa
