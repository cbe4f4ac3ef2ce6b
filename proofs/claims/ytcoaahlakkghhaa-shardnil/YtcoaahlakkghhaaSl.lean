/- A command; the walk of against. -/
import Derived.Test.YtcoaahlakkghhaaSk
namespace Go.Proofs.Ytcoaahlakkghhaa
open Go.RowKit
structure Cm where
  kind : Int
  txn : Td
  home : Int
  reads : List Rn
  writes : List Wr
  mn : Int
  til : Int
  ts : Int
/-- The cells of a command. -/
structure Cc (w : World) (c : Cm) (cs : Array Value) (ra : Option Addr) (rc : Nat) (wa : Option Addr) (wc : Nat) : Prop where
  sz : cs.size = 30
  one : cs.all (·.oneCell') = true
  k : cs[0]? = some (.int .i64 c.kind)
  t0 : cs[4]? = some (.int .i64 c.txn.1)
  t1 : cs[5]? = some (.int .i64 c.txn.2.1)
  t2 : cs[6]? = some (.int .i64 c.txn.2.2)
  hm : cs[7]? = some (.int .i64 c.home)
  rs : cs[8]? = some (.slice ra c.reads.length rc)
  ws : cs[9]? = some (.slice wa c.writes.length wc)
  mn : cs[10]? = some (.int .i64 c.mn)
  til : cs[11]? = some (.int .i64 c.til)
  ts : cs[12]? = some (.int .i64 c.ts)
  rl : Lr rnE 3 w c.reads (.slice ra c.reads.length rc)
  wl : Lr wrE 3 w c.writes (.slice wa c.writes.length wc)
theorem Cc.on {w w' : World} {c : Cm} {cs : Array Value} {ra wa : Option Addr} {rc wc : Nat} (h : Cc w c cs ra rc wa wc) (hb : Below w.heap.size w w') : Cc w' c cs ra rc wa wc :=
  ⟨h.sz, h.one, h.k, h.t0, h.t1, h.t2, h.hm, h.rs, h.ws, h.mn, h.til, h.ts, h.rl.on rnE_held hb, h.wl.on wrE_held hb⟩
/-! ### Plain -/
def busyRd (L : List Lk) (p : Sn) : Rz := busyR (fun l => holdsInB l p) L
def busyWr (L : List Lk) (k : ByteArray) : Rz := busyR (fun l => holdsB l k || coversB l k) L
def stale0 : Rz := ⟨130, 0, td0, 0, false⟩
def againstRd (s : Sh) : List Rn → Option Rz
  | [] => none
  | r :: l => if (busyRd s.locks r.span).err ≠ 0 then some (busyRd s.locks r.span) else if staleB s.rows r then some stale0 else againstRd s l
def againstWr (s : Sh) : List Wr → Option Rz
  | [] => none
  | x :: l => if (busyWr s.locks x.key).err ≠ 0 then some (busyWr s.locks x.key) else againstWr s l
def against (s : Sh) (c : Cm) : Rz := match againstRd s c.reads with
  | some r => r
  | none => (againstWr s c.writes).getD rz0
theorem againstRd_drop {s : Sh} {L : List Rn} {i : Nat} (h : i < L.length) : againstRd s (L.drop i) = if (busyRd s.locks L[i].span).err ≠ 0 then some (busyRd s.locks L[i].span) else if staleB s.rows L[i] then some stale0 else againstRd s (L.drop (i + 1)) := by
  rw [List.drop_eq_getElem_cons h]
  rfl
theorem againstWr_drop {s : Sh} {L : List Wr} {i : Nat} (h : i < L.length) : againstWr s (L.drop i) = if (busyWr s.locks L[i].key).err ≠ 0 then some (busyWr s.locks L[i].key) else againstWr s (L.drop (i + 1)) := by
  rw [List.drop_eq_getElem_cons h]
  rfl
theorem against_rd {s : Sh} {c : Cm} {r : Rz} (h : againstRd s c.reads = some r) : against s c = r := by unfold against; rw [h]
theorem against_wr {s : Sh} {c : Cm} {r : Rz} (h : againstRd s c.reads = none) (h2 : againstWr s c.writes = some r) : against s c = r := by unfold against; rw [h, h2]; rfl
theorem against_no {s : Sh} {c : Cm} (h : againstRd s c.reads = none) (h2 : againstWr s c.writes = none) : against s c = rz0 := by unfold against; rw [h, h2]; rfl
section
variable {w w' : World} {A : Nat} {S1 S2 : Nat → Prop} {s : Sh} {P M N : Nat} {G : List Gl} {lv rv ov : Value} {c : Cm} {cs : Array Value} {ra wa : Option Addr} {rc wc : Nat}
theorem busyRd_any (h : Sx w A S1 S2 s P M N G lv rv ov) {Z : Nat} {p : Sn} (c0 : w.cell? ⟨Z, 0, none⟩ = some (.string p.lo)) (c1 : w.cell? ⟨Z, 1, none⟩ = some (.string p.hi)) : Calls Try.prog 84 #[.pointer (some ⟨A, 0, none⟩), .func (.func 85) #[] #[.pointer (some ⟨Z, 0, none⟩)]] w fun e w' => e = .returned (rzV (busyRd s.locks p)) ∧ Below w.heap.size w w' :=
  busy_rd h (fun _ hX _ _ _ _ _ _ _ hw => rdL_f (cell_on hX c0) (cell_on hX c1) hw)
theorem busyWr_any (h : Sx w A S1 S2 s P M N G lv rv ov) {Z : Nat} {k : ByteArray} (c0 : w.cell? ⟨Z, 0, none⟩ = some (.string k)) : Calls Try.prog 84 #[.pointer (some ⟨A, 0, none⟩), .func (.func 88) #[] #[.pointer (some ⟨Z, 0, none⟩)]] w fun e w' => e = .returned (rzV (busyWr s.locks k)) ∧ Below w.heap.size w w' :=
  busy_wr h (fun _ hX _ _ _ _ _ _ hs hw => wrL_f (cell_on hX c0) hs hw)
def AgAns (w : World) (Z : Nat) (r : Rz) (X : World) : Prop := X.heap[Z]? = some (.cells (rzA r) 52 (0, 0)) ∧ Below w.heap.size w X
set_option maxHeartbeats 8000000 in
set_option maxRecDepth 100000 in
theorem against_any (h : Sx w A S1 S2 s P M N G lv rv ov) (hc : Cc w c cs ra rc wa wc) : Calls Try.prog 52 #[.pointer (some ⟨A, 0, none⟩), .agg cs] w fun e w' => e = .returned (rzV (against s c)) ∧ Below w.heap.size w w' := by
  obtain ⟨W, hW⟩ : ∃ W, W = (w.alloc (.cells cs 47)).alloc (.cells #[.int .i64 0, .int .i64 0, .int .i64 0, .int .i64 0, .int .i64 0, .int .i64 0, .int .i64 0, .int .i64 0, .bool false] 52) := ⟨_, rfl⟩
  have hb : Below w.heap.size w W := by rw [hW]; exact ((Below.refl _ w).alloc (Nat.le_refl _) _).alloc (by simp) _
  obtain ⟨Y, hY⟩ : ∃ Y, w.heap.size = Y := ⟨_, rfl⟩
  obtain ⟨Z, hZ⟩ : ∃ Z, Y + 1 = Z := ⟨_, rfl⟩
  have jY : W.heap[Y]? = some (.cells cs 47 (0, 0)) := by
    rw [hW, ← hY, Below.heap_alloc _ _ _ (by simp)]
    exact heap_alloc_new w _
  have jZ : W.heap[Z]? = some (.cells #[.int .i64 0, .int .i64 0, .int .i64 0, .int .i64 0, .int .i64 0, .int .i64 0, .int .i64 0, .int .i64 0, .bool false] 52 (0, 0)) := by
    have := heap_alloc_new (w.alloc (.cells cs 47)) (.cells #[.int .i64 0, .int .i64 0, .int .i64 0, .int .i64 0, .int .i64 0, .int .i64 0, .int .i64 0, .int .i64 0, .bool false] 52)
    simp only [World.size_alloc] at this
    rw [hW, ← hZ, ← hY]
    exact this
  have b8 : W.cell? ⟨Y, 8, none⟩ = some (.slice ra c.reads.length rc) := (cell_blk jY 8).trans hc.rs
  have hZw : w.heap.size ≤ Z := by omega
  have hrl := hc.rl
  have hwl := hc.wl
  obtain ⟨_, _, e1, _, r1, r2, hrc⟩ := hrl
  cases e1
  obtain ⟨_, _, e2, _, r3, r4, hwc⟩ := hwl
  cases e2
  have hmr : (c.reads.length : Int) ≤ 9223372036854775807 := by unfold maxLen at r2; omega
  have hmw : (c.writes.length : Int) ≤ 9223372036854775807 := by unfold maxLen at r4; omega
  have HRC := Lib.hid hrc
  have HWC := Lib.hid hwc
  have HW := Lib.hid hW
  have HY := Lib.hid hY
  have HZ := Lib.hid hZ
  have HB := Lib.hid hb
  have HJZ := Lib.hid jZ
  have HWS : Hid (W.cell? ⟨Y, 9, none⟩ = some (.slice wa c.writes.length wc)) := (cell_blk jY 9).trans hc.ws
  have HS := Lib.hid h
  clear hW hY hZ hb jY jZ h hrc hwc r1 r2 r3 r4 hc
  go_enter Try.func52, Try.ntmps52
  go_upto_region 1 with fail
  rw [← HW.out, HY.out, HZ.out]
  go_wp2
  go_loopw [14] (fun iv wr => ∃ i : Nat, i ≤ c.reads.length ∧ iv = .int .i64 (i : Int) ∧ againstRd s (c.reads.drop i) = againstRd s c.reads ∧ Below W.heap.size W wr) (fun iv _ => c.reads.length - (intOf iv).toNat)
  case atStart => exact ⟨0, Nat.zero_le _, rfl, rfl, Below.refl _ _⟩
  case round =>
    obtain ⟨i, hi, rfl, hag, hbw⟩ := hrel
    obtain ⟨V, rfl⟩ : ∃ V, V = wr := ⟨_, rfl⟩
    have hbv : Below w.heap.size w V := HB.out.trans (hbw.mono HB.out.size)
    by_cases hlt : i < c.reads.length
    · obtain ⟨b, o, cs', rfl, _, ⟨sa, sc, rfl, hst⟩, _, hcell⟩ := HRC.out i hlt
      have c0 := cell_on hbv (hcell 0 _ rfl)
      have c1 := cell_on hbv (hcell 1 _ rfl)
      have c2 := cell_on hbv (hcell 2 _ rfl)
      simp only [Nat.add_zero] at c0
      have k0 : (0 : Int) ≤ i := by omega
      have k1 : (i : Int) < c.reads.length := by omega
      have hdr := againstRd_drop (s := s) hlt
      rw [hag] at hdr
      obtain ⟨x, hx⟩ : ∃ x, c.reads[i] = x := ⟨_, rfl⟩
      rw [hx] at c0 c1 hdr
      simp only [hx] at c2 hst
      obtain ⟨V1, hV1⟩ : ∃ V1, V1 = V.alloc (.cells #[.string x.span.lo, .string x.span.hi, .slice sa x.seen.length sc] 60) := ⟨_, rfl⟩
      obtain ⟨Z1, hZ1⟩ : ∃ Z1, V.heap.size = Z1 := ⟨_, rfl⟩
      have bb1 : Below V.heap.size V V1 := by rw [hV1]; exact (Below.refl _ V).alloc (Nat.le_refl _) _
      have jZ1 : V1.heap[Z1]? = some (.cells #[.string x.span.lo, .string x.span.hi, .slice sa x.seen.length sc] 60 (0, 0)) := by rw [hV1, ← hZ1]; exact heap_alloc_new V _
      have hbv1 : Below w.heap.size w V1 := hbv.trans (bb1.mono hbv.size)
      have hbW1 : Below W.heap.size W V1 := hbw.trans (bb1.mono hbw.size)
      have hbus := busyRd_any (HS.out.on hbv1) (p := x.span) (cell_blk jZ1 0) (cell_blk jZ1 1)
      obtain ⟨r, hr⟩ : ∃ r, busyRd s.locks x.span = r := ⟨_, rfl⟩
      rw [hr] at hbus hdr
      have HV1 := Lib.hid hV1
      have HZ1 := Lib.hid hZ1
      have HJ1 := Lib.hid jZ1
      have HBV1 := Lib.hid hbv1
      have HBW1 := Lib.hid hbW1
      have HDR := Lib.hid hdr
      have HST := Lib.hid hst
      clear hV1 hZ1 bb1 jZ1 hbv1 hbW1 hbv hbw hdr hst hag hx hr hcell
      go_upto_region 4 with fail
      rw [← HV1.out, HZ1.out]
      go_wp2_with fail
      refine hbus.mono ?_
      rintro e w1 ⟨rfl, b1⟩
      obtain ⟨V2, hV2⟩ : ∃ V2, V2 = w1.alloc (.cells (rzA r) 52) := ⟨_, rfl⟩
      obtain ⟨Z2, hZ2⟩ : ∃ Z2, w1.heap.size = Z2 := ⟨_, rfl⟩
      have bb2 : Below w1.heap.size w1 V2 := by rw [hV2]; exact (Below.refl _ w1).alloc (Nat.le_refl _) _
      have jZ2 : V2.heap[Z2]? = some (.cells (rzA r) 52 (0, 0)) := by rw [hV2, ← hZ2]; exact heap_alloc_new w1 _
      have b12 : Below V1.heap.size V1 V2 := b1.trans (bb2.mono b1.size)
      have hbW2 : Below W.heap.size W V2 := HBW1.out.trans (b12.mono HBW1.out.size)
      have hbv2 : Below w.heap.size w V2 := HBV1.out.trans (b12.mono HBV1.out.size)
      have jZ : V2.heap[Z]? = some (.cells #[.int .i64 0, .int .i64 0, .int .i64 0, .int .i64 0, .int .i64 0, .int .i64 0, .int .i64 0, .int .i64 0, .bool false] 52 (0, 0)) := (hbW2.block Z (blk_lt HJZ.out)).trans HJZ.out
      have jZ1 := (b12.block Z1 (blk_lt HJ1.out)).trans HJ1.out
      have n0 : V2.cell? ⟨Z2, 0, none⟩ = some (.int .i64 r.err) := cell_blk jZ2 0
      have ld2 : (Instr.loadAt 52 (.pointer (some ⟨Z2, 0, none⟩))).run Try.prog V2 = .ok (rzV r) V2 := load_row jZ2 Try.underlying52 rfl size52
      have HV2 := Lib.hid hV2
      have HZ2 := Lib.hid hZ2
      have HBW2 := Lib.hid hbW2
      have HBV2 := Lib.hid hbv2
      have HJ2 := Lib.hid jZ
      clear hV2 hZ2 bb2 jZ2 b1 b12 hbus hbW2 hbv2
      go_upto_region 5 with fail
      rw [← HV2.out, HZ2.out]
      by_cases hre : r.err = 0
      · have q0 : V2.cell? ⟨Z1, 0, none⟩ = some (.string x.span.lo) := cell_blk jZ1 0
        have q1 : V2.cell? ⟨Z1, 1, none⟩ = some (.string x.span.hi) := cell_blk jZ1 1
        have q2 : V2.cell? ⟨Z1, 2, none⟩ = some (.slice sa x.seen.length sc) := cell_blk jZ1 2
        have hsl := stale_any (HS.out.on HBV2.out) x (HST.out.on smE_held HBV2.out)
        obtain ⟨q, hq⟩ : ∃ q, staleB s.rows x = q := ⟨_, rfl⟩
        rw [hq] at hsl
        have HDR2 : Hid (againstRd s c.reads = if q = true then some stale0 else againstRd s (c.reads.drop (i + 1))) := by
          show _ = _
          rw [HDR.out, if_neg (by simp [hre]), hq]
        clear hq jZ1 jZ ld2
        go_wp2_with fail
        refine hsl.mono ?_
        rintro e w3 ⟨rfl, b3⟩
        have HBW3 := Lib.hid (HBW2.out.trans (b3.mono HBW2.out.size))
        have HBV3 := Lib.hid (HBV2.out.trans (b3.mono HBV2.out.size))
        have jZ3 := (b3.block Z (blk_lt HJ2.out)).trans HJ2.out
        cases q with
        | true =>
          obtain ⟨X, hst, jX, fX⟩ := put_rz jZ3 rfl stale0
          have HR : Hid (against s c = stale0) := against_rd (by rw [HDR2.out]; rfl)
          have HBX : Hid (Below w.heap.size w X) := HBV3.out.trans (fX.toBelow (fun k hk e => by have e' : k = Z := e; omega) HBV3.out.size)
          have HJX := Lib.hid jX
          clear jX fX b3 jZ3 hsl
          go_wp2_with (refine wpl_store _ _ rfl (by simp [Act.eval]) (by simp [Act.eval, stale0]) hst ?_)
          refine bodyPost_ret (ret_rz HJX.out Try.results52 rfl) rfl ?_
          exact ⟨by rw [HR.out], HBX.out⟩
        | false =>
          have HNX : Hid (againstRd s (c.reads.drop (i + 1)) = againstRd s c.reads) := by show _ = _; rw [HDR2.out]; rfl
          clear b3 jZ3 hsl
          go_wp2
          go_roundw
          case rel => exact ⟨i + 1, hlt, by go_num, HNX.out, HBW3.out⟩
          case measure => simp [intOf]; omega
      · obtain ⟨X, hst, jX, fX⟩ := put_rz jZ rfl r
        have HR : Hid (against s c = r) := against_rd (by rw [HDR.out, if_pos (by simpa using hre)])
        have HBX : Hid (Below w.heap.size w X) := HBV2.out.trans (fX.toBelow (fun k hk e => by have e' : k = Z := e; omega) HBV2.out.size)
        have HJX := Lib.hid jX
        clear jX fX jZ jZ1
        go_wp2_with (first | (refine wpl_load _ rfl (by simp [Act.eval]) ld2 ?_) | (refine wpl_store _ _ rfl (by simp [Act.eval, Act.put]) (by simp [Act.eval, Act.put]) hst ?_))
        refine bodyPost_ret (ret_rz HJX.out Try.results52 rfl) rfl ?_
        exact ⟨by rw [HR.out], HBX.out⟩
    · have k1 : ¬ (i : Int) < c.reads.length := by omega
      have hRN : againstRd s c.reads = none := by
        rw [← hag, List.drop_of_length_le (by omega)]
        rfl
      have HRN := Lib.hid hRN
      have b9 := cell_on hbw HWS.out
      have HBW0 := Lib.hid hbw
      clear hag hbv hbw hRN
      go_wp2
      go_loopw [33] (fun iv wr => ∃ i : Nat, i ≤ c.writes.length ∧ iv = .int .i64 (i : Int) ∧ againstWr s (c.writes.drop i) = againstWr s c.writes ∧ Below W.heap.size W wr) (fun iv _ => c.writes.length - (intOf iv).toNat)
      case atStart => exact ⟨0, Nat.zero_le _, rfl, rfl, HBW0.out⟩
      case round =>
        clear hi hlt k1 b9 HBW0
        obtain ⟨i, hi, rfl, hag, hbw⟩ := hrel
        obtain ⟨V, rfl⟩ : ∃ V, V = wr := ⟨_, rfl⟩
        have hbv : Below w.heap.size w V := HB.out.trans (hbw.mono HB.out.size)
        by_cases hlt : i < c.writes.length
        · obtain ⟨b, o, cs', rfl, _, hE, _, hcell⟩ := HWC.out i hlt
          cases hE
          have c0 := cell_on hbv (hcell 0 _ rfl)
          have c1 := cell_on hbv (hcell 1 _ rfl)
          have c2 := cell_on hbv (hcell 2 _ rfl)
          simp only [Nat.add_zero] at c0
          have k0 : (0 : Int) ≤ i := by omega
          have k1 : (i : Int) < c.writes.length := by omega
          have hdr := againstWr_drop (s := s) hlt
          rw [hag] at hdr
          obtain ⟨x, hx⟩ : ∃ x, c.writes[i] = x := ⟨_, rfl⟩
          rw [hx] at c0 c1 c2 hdr
          obtain ⟨V1, hV1⟩ : ∃ V1, V1 = V.alloc (.cells #[.string x.key, .string x.val, .bool x.dead] 55) := ⟨_, rfl⟩
          obtain ⟨Z1, hZ1⟩ : ∃ Z1, V.heap.size = Z1 := ⟨_, rfl⟩
          have bb1 : Below V.heap.size V V1 := by rw [hV1]; exact (Below.refl _ V).alloc (Nat.le_refl _) _
          have jZ1 : V1.heap[Z1]? = some (.cells #[.string x.key, .string x.val, .bool x.dead] 55 (0, 0)) := by rw [hV1, ← hZ1]; exact heap_alloc_new V _
          have hbv1 : Below w.heap.size w V1 := hbv.trans (bb1.mono hbv.size)
          have hbW1 : Below W.heap.size W V1 := hbw.trans (bb1.mono hbw.size)
          have hbus := busyWr_any (HS.out.on hbv1) (k := x.key) (cell_blk jZ1 0)
          obtain ⟨r, hr⟩ : ∃ r, busyWr s.locks x.key = r := ⟨_, rfl⟩
          rw [hr] at hbus hdr
          have HV1 := Lib.hid hV1
          have HZ1 := Lib.hid hZ1
          have HBV1 := Lib.hid hbv1
          have HBW1 := Lib.hid hbW1
          have HDR := Lib.hid hdr
          clear hV1 hZ1 bb1 jZ1 hbv1 hbW1 hbv hbw hdr hag hx hr hcell
          go_upto_region 13 with fail
          rw [← HV1.out, HZ1.out]
          go_wp2_with fail
          refine hbus.mono ?_
          rintro e w1 ⟨rfl, b1⟩
          obtain ⟨V2, hV2⟩ : ∃ V2, V2 = w1.alloc (.cells (rzA r) 52) := ⟨_, rfl⟩
          obtain ⟨Z2, hZ2⟩ : ∃ Z2, w1.heap.size = Z2 := ⟨_, rfl⟩
          have bb2 : Below w1.heap.size w1 V2 := by rw [hV2]; exact (Below.refl _ w1).alloc (Nat.le_refl _) _
          have jZ2 : V2.heap[Z2]? = some (.cells (rzA r) 52 (0, 0)) := by rw [hV2, ← hZ2]; exact heap_alloc_new w1 _
          have b12 : Below V1.heap.size V1 V2 := b1.trans (bb2.mono b1.size)
          have hbW2 : Below W.heap.size W V2 := HBW1.out.trans (b12.mono HBW1.out.size)
          have hbv2 : Below w.heap.size w V2 := HBV1.out.trans (b12.mono HBV1.out.size)
          have jZ : V2.heap[Z]? = some (.cells #[.int .i64 0, .int .i64 0, .int .i64 0, .int .i64 0, .int .i64 0, .int .i64 0, .int .i64 0, .int .i64 0, .bool false] 52 (0, 0)) := (hbW2.block Z (blk_lt HJZ.out)).trans HJZ.out
          have n0 : V2.cell? ⟨Z2, 0, none⟩ = some (.int .i64 r.err) := cell_blk jZ2 0
          have ld2 : (Instr.loadAt 52 (.pointer (some ⟨Z2, 0, none⟩))).run Try.prog V2 = .ok (rzV r) V2 := load_row jZ2 Try.underlying52 rfl size52
          have HV2 := Lib.hid hV2
          have HZ2 := Lib.hid hZ2
          have HBW2 := Lib.hid hbW2
          have HBV2 := Lib.hid hbv2
          clear hV2 hZ2 bb2 jZ2 b1 b12 hbus hbW2 hbv2
          go_upto_region 14 with fail
          rw [← HV2.out, HZ2.out]
          by_cases hre : r.err = 0
          · have HNX : Hid (againstWr s (c.writes.drop (i + 1)) = againstWr s c.writes) := by show _ = _; rw [HDR.out, if_neg (by simp [hre])]
            clear jZ ld2
            go_wp2
            go_roundw
            case rel => exact ⟨i + 1, hlt, by go_num, HNX.out, HBW2.out⟩
            case measure => simp [intOf]; omega
          · obtain ⟨X, hst, jX, fX⟩ := put_rz jZ rfl r
            have HR : Hid (against s c = r) := against_wr HRN.out (by rw [HDR.out, if_pos (by simpa using hre)])
            have HBX : Hid (Below w.heap.size w X) := HBV2.out.trans (fX.toBelow (fun k hk e => by have e' : k = Z := e; omega) HBV2.out.size)
            have HJX := Lib.hid jX
            clear jX fX jZ
            go_wp2_with (first | (refine wpl_load _ rfl (by simp [Act.eval]) ld2 ?_) | (refine wpl_store _ _ rfl (by simp [Act.eval, Act.put]) (by simp [Act.eval, Act.put]) hst ?_))
            refine bodyPost_ret (ret_rz HJX.out Try.results52 rfl) rfl ?_
            exact ⟨by rw [HR.out], HBX.out⟩
        · have k1 : ¬ (i : Int) < c.writes.length := by omega
          have hWN : againstWr s c.writes = none := by
            rw [← hag, List.drop_of_length_le (by omega)]
            rfl
          have jZ : V.heap[Z]? = some (.cells #[.int .i64 0, .int .i64 0, .int .i64 0, .int .i64 0, .int .i64 0, .int .i64 0, .int .i64 0, .int .i64 0, .bool false] 52 (0, 0)) := (hbw.block Z (blk_lt HJZ.out)).trans HJZ.out
          obtain ⟨X, hst, jX, fX⟩ := put_rz jZ rfl rz0
          have HR : Hid (against s c = rz0) := against_no HRN.out hWN
          have HBX : Hid (Below w.heap.size w X) := hbv.trans (fX.toBelow (fun k hk e => by have e' : k = Z := e; omega) hbv.size)
          have HJX := Lib.hid jX
          clear hag hbv hbw hWN jX fX jZ
          go_wp2_with (refine wpl_store _ _ rfl (by simp [Act.eval]) (by simp [Act.eval, rz0]) hst ?_)
          refine bodyPost_ret (ret_rz HJX.out Try.results52 rfl) rfl ?_
          exact ⟨by rw [HR.out], HBX.out⟩
end
end Go.Proofs.Ytcoaahlakkghhaa
