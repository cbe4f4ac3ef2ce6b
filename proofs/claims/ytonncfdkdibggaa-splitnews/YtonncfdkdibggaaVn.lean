/- The law SplitCovers. -/
import Derived.Test.YtonncfdkdibggaaVl
namespace Go.Proofs.Ytonncfdkdibggaa
open Go.RowKit
section
variable {w w' W V X : World} {L : List ByteArray} {v : Value}
theorem find_q {lo B : Nat} (h : Sp V lo B L) (k : ByteArray) (n : Nat) : Calls Try.prog 13 #[.pointer (some ⟨B, 0, none⟩), .string k] (V.drewN n) fun e w' => e = .returned (.int .i64 ((findB L k : Nat) : Int)) ∧ ∃ l, w' = V.drewN l := by
  refine (find_any (h.on (below_draw (Below.refl _ V) n)) k).mono ?_
  rintro e w' ⟨rfl, rfl⟩
  exact ⟨rfl, n, rfl⟩
structure Cj (L : List ByteArray) (P : List Pt) (k : ByteArray) (w wr : World) (lo B Y : Nat) (a b : ByteArray) (pv : Value) (i : Nat) : Prop where
  bl : Below w.heap.size w wr
  sp : Sp wr lo B L
  pr : Pr wr P pv
  box : wr.heap[Y]? = some (.cells #[.string a, .string b] 34 (0, 0))
theorem Cj.on {P : List Pt} {k a b : ByteArray} {lo B Y i j : Nat} {pv : Value} (h : Cj L P k w V lo B Y a b pv i) (hb : Below V.heap.size V X) : Cj L P k w X lo B Y a b pv j :=
  ⟨h.bl.trans (hb.mono h.bl.size), h.sp.on hb, h.pr.on hb, (hb.block Y (blk_lt h.box)).trans h.box⟩
set_option maxHeartbeats 4000000 in
set_option maxRecDepth 100000 in
theorem covers_law (hl : Ls w L v) (hs : Sz L) (hz : L.length * 16 ≤ 140737488355328) {a b k : ByteArray} (ha : a.size ≤ maxLen) (hb : b.size ≤ maxLen) (hk : k.size ≤ maxLen) : Calls Try.prog 6 #[v, .agg #[.string a, .string b], .string k] w fun e w' => e = .returned (.bool true) ∧ Below w.heap.size w w' := by
  obtain ⟨W, hW⟩ : ∃ W, W = w.alloc (.cells #[.string a, .string b] 34) := ⟨_, rfl⟩
  obtain ⟨Y, hY⟩ : ∃ Y, w.heap.size = Y := ⟨_, rfl⟩
  have hbW : Below w.heap.size w W := by rw [hW]; exact (Below.refl _ w).alloc (Nat.le_refl _) _
  have jY : W.heap[Y]? = some (.cells #[.string a, .string b] 34 (0, 0)) := by rw [hW, ← hY]; exact heap_alloc_new w _
  obtain ⟨ad', cap', wc, hrun, ho, hbc⟩ := copy_run (hl.on hbW) hz
  have hl' := hl
  obtain ⟨ad, cap, rfl, h0, h1, h2, _⟩ := hl'
  have hnew := new_any (Ls.own ho)
  have HW := Lib.hid hW
  have HY := Lib.hid hY
  have HB := Lib.hid (hbW.trans (hbc.mono hbW.size))
  have HJ := Lib.hid ((hbc.block Y (blk_lt jY)).trans jY)
  have hmx : (L.length : Int) ≤ 9223372036854775806 := by omega
  clear ho h0 h1 h2 hl hz hW hY hbW jY hbc
  by_cases hok : okB L = true
  · go_enter Try.func6, Try.ntmps6
    go_upto_region 1 with fail
    rw [← HW.out, HY.out]
    go_wp2_with (first | (at_builtin; refine wpl_run2 _ _ rfl (by simp [Act.eval]) (by simp [Act.eval]) hrun ?_) | (go_at_call 8; refine hnew.mono ?_; rintro e w1 ⟨hb1, hq | hq⟩; rotate_left; exact absurd (hok.symm.trans hq.1) (by decide); obtain ⟨_, B, rfl, hsp⟩ := hq; refine Hid.out ?_))
    refine Lib.hid ?_
    have hfew := hsp.few
    have HRI := Lib.hid hsp.rise
    have haw := awake_any w1
    have HB1 := Lib.hid (HB.out.trans (hb1.mono HB.out.size))
    have HJ1 := Lib.hid ((hb1.block Y (blk_lt HJ.out)).trans HJ.out)
    have HSP := Lib.hid hsp
    clear hsp hb1 hnew hok
    go_wp2_with (go_at_call 10; refine haw.mono ?_; rintro e w2 ⟨rfl, hb2⟩; refine Hid.out ?_)
    refine Lib.hid ?_
    have HB2 := Lib.hid (HB1.out.trans (hb2.mono HB1.out.size))
    have hJ2 := (hb2.block Y (blk_lt HJ1.out)).trans HJ1.out
    have HSP2 := Lib.hid (HSP.out.on hb2)
    have y0 : w2.cell? ⟨Y, 0, none⟩ = some (.string a) := cell_blk hJ2 0
    have y1 : w2.cell? ⟨Y, 1, none⟩ = some (.string b) := cell_blk hJ2 1
    have hpa := parts_any HSP2.out a b
    have HJ2 := Lib.hid hJ2
    have hcnt := cnt_all HRI.out a b k
    have hshd : ∀ x ∈ partsB L a b (L.length + 1), inPt k x = true → x.sh = findB L k := fun x hx hq => parts_shard HRI.out hx hq
    have hPl := parts_few L a b (L.length + 1)
    have hszs : ∀ x ∈ partsB L a b (L.length + 1), x.lo.size ≤ maxLen ∧ x.hi.size ≤ maxLen := by
      intro x hx
      obtain ⟨i, _, rfl⟩ := parts_mem hx
      have hat : ∀ j, (atB L j).size ≤ maxLen := fun j => by
        by_cases q : j < L.length
        · rw [atB_get q]
          exact hs.at' _ (List.getElem_mem q)
        · unfold atB
          rw [List.getD_eq_getElem?_getD, List.getElem?_eq_none (by omega)]
          exact Nat.zero_le _
      constructor
      · show (loB L a i).size ≤ maxLen
        unfold loB maxB
        split
        · split
          · exact hat _
          · exact ha
        · exact ha
      · show (hiB L b i).size ≤ maxLen
        unfold hiB minB
        split
        · split
          · exact hat _
          · exact hb
        · exact hb
    obtain ⟨P, hP⟩ : ∃ P, partsB L a b (L.length + 1) = P := ⟨_, rfl⟩
    rw [hP] at hpa hcnt hshd hPl hszs
    have HCN := Lib.hid hcnt
    have HSH := Lib.hid hshd
    have HSS := Lib.hid hszs
    have hP4 : P.length ≤ 4 := by omega
    clear hb2 haw hJ2 hP hcnt hshd hszs hPl
    go_wp2_with (go_at_call 14; refine hpa.mono ?_; rintro e w3 ⟨ad3, cap3, rfl, ho3, hb3⟩; refine Hid.out ?_)
    refine Lib.hid ?_
    have HC0 : Hid (Cj L P k w w3 wc.heap.size B Y a b (.slice ad3 P.length cap3) 0) := Lib.hid ⟨HB2.out.trans (hb3.mono HB2.out.size), HSP2.out.on hb3, ⟨_, ho3⟩, (hb3.block Y (blk_lt HJ2.out)).trans HJ2.out⟩
    clear ho3 hb3 y0 y1 hpa
    go_wp2
    go_loopw [9, 30] (fun nv iv wr => ∃ i : Nat, i ≤ P.length ∧ iv = .int .i64 (i : Int) ∧ nv = .int .i64 ((cnt (P.take i) k : Nat) : Int) ∧ Cj L P k w wr wc.heap.size B Y a b (.slice ad3 P.length cap3) i) (fun _ iv _ => P.length - (intOf iv).toNat)
    case atStart => exact ⟨0, Nat.zero_le _, rfl, rfl, HC0.out⟩
    case round =>
      obtain ⟨i, hi, rfl, rfl, hcj⟩ := hrel
      obtain ⟨V, rfl⟩ : ∃ V, V = wr := ⟨_, rfl⟩
      clear HC0
      have hcl := cnt_le P k i
      by_cases hlt : i < P.length
      · have k1 : (i : Int) < P.length := by omega
        have k0 : (0 : Int) ≤ i := by omega
        obtain ⟨g, rfl, c0, c1, c2⟩ := hcj.pr.cells hlt
        have hct := cnt_take (k := k) hlt
        have hsh := HSH.out _ (List.getElem_mem hlt)
        have hzz := HSS.out _ (List.getElem_mem hlt)
        obtain ⟨x, hx⟩ : ∃ x, P[i] = x := ⟨_, rfl⟩
        rw [hx] at c0 c1 c2 hct hsh hzz
        obtain ⟨sh, lo, hi9⟩ := x
        simp only at c0 c1 c2 hzz
        obtain ⟨n, hn⟩ : ∃ n, cnt (P.take i) k = n := ⟨_, rfl⟩
        rw [hn] at hct hcl ⊢
        obtain ⟨W1, hW1⟩ : ∃ W1, W1 = V.alloc (.cells #[.int .i64 (sh : Int), .string lo, .string hi9] 39) := ⟨_, rfl⟩
        obtain ⟨Z, hZ⟩ : ∃ Z, V.heap.size = Z := ⟨_, rfl⟩
        have jZ : W1.heap[Z]? = some (.cells #[.int .i64 (sh : Int), .string lo, .string hi9] 39 (0, 0)) := by rw [hW1, ← hZ]; exact heap_alloc_new V _
        have b1 : Below V.heap.size V W1 := by rw [hW1]; exact (Below.refl _ V).alloc (Nat.le_refl _) _
        have z1 : W1.cell? ⟨Z, 1, none⟩ = some (.string lo) := cell_blk jZ 1
        have z2 : W1.cell? ⟨Z, 2, none⟩ = some (.string hi9) := cell_blk jZ 2
        have hwi := within_any W1 k lo hi9 hk hzz.1 hzz.2
        have HCJ := Lib.hid (hcj.on (j := i + 1) b1)
        have HCT := Lib.hid hct
        have HSHH := Lib.hid hsh
        have HW1 := Lib.hid hW1
        have HZ := Lib.hid hZ
        have HJZ := Lib.hid jZ
        clear hcj hct hsh hx hn hW1 hZ jZ b1 hzz
        go_upto_region 8 with fail
        rw [← HW1.out, HZ.out]
        go_wp2_with (go_at_call 16; refine hwi.mono ?_; rintro e w4 ⟨rfl, hb4⟩; refine Hid.out ?_)
        refine Lib.hid ?_
        have hcj4 := HCJ.out.on (j := i + 1) hb4
        have z0 : w4.cell? ⟨Z, 0, none⟩ = some (.int .i64 (sh : Int)) := cell_on hb4 (cell_blk HJZ.out 0)
        have hfq := fun n => find_q hcj4.sp k n
        have HCJ4 := Lib.hid hcj4
        clear hb4 hwi c0 c1 c2 z1 z2 hcj4
        by_cases hin : inSpan lo hi9 k = true
        · have hs9 := HSHH.out hin
          have hs9 : findB L k = sh := hs9.symm
          rw [hs9] at hfq
          have HN : Hid (cnt (P.take (i + 1)) k = n + 1) := Lib.hid (by have q : inPt k ⟨sh, lo, hi9⟩ = true := hin; rw [HCT.out, if_pos q])
          clear hs9 HCT HSHH
          rw [hin]
          clear hin
          go_wp2
          go_quiet ((go_at_call 13; exact hfq _))
          go_wp2
          go_roundw
          case rel => exact ⟨i + 1, hlt, by go_num, by rw [HN.out]; go_num, HCJ4.out.on (below_draw (Below.refl _ w4) nq)⟩
          case measure => simp [intOf]; omega
        · have HN : Hid (cnt (P.take (i + 1)) k = n) := Lib.hid (by have q : ¬ inPt k ⟨sh, lo, hi9⟩ = true := hin; rw [HCT.out, if_neg q, Nat.add_zero])
          have hin : inSpan lo hi9 k = false := by simpa using hin
          clear HCT HSHH hfq
          rw [hin]
          clear hin
          go_wp2
          go_roundw
          case rel => exact ⟨i + 1, hlt, by go_num, by rw [HN.out], HCJ4.out⟩
          case measure => simp [intOf]; omega
      · have k1 : ¬ ((i : Int) < P.length) := by omega
        have hin : cnt (P.take i) k = if inSpan a b k = true then 1 else 0 := by rw [List.take_of_length_le (by omega), HCN.out]
        rw [hin]
        have y0 : V.cell? ⟨Y, 0, none⟩ = some (.string a) := cell_blk hcj.box 0
        have y1 : V.cell? ⟨Y, 1, none⟩ = some (.string b) := cell_blk hcj.box 1
        have hwi := within_any V k a b hk ha hb
        have HBV := Lib.hid hcj.bl
        clear hin hcj hcl
        by_cases hq : inSpan a b k = true
        · rw [if_pos hq]
          rw [hq] at hwi
          clear hq
          go_wp2_with (go_at_call 16; refine hwi.mono ?_; rintro e w4 ⟨rfl, hb4⟩; refine Hid.out ?_)
          refine Lib.hid ?_
          have HB4 := Lib.hid (HBV.out.trans (hb4.mono HBV.out.size))
          clear hb4
          go_wp2
          go_ret
          exact ⟨rfl, HB4.out⟩
        · rw [if_neg hq]
          have hq : inSpan a b k = false := by simpa using hq
          rw [hq] at hwi
          clear hq
          go_wp2_with (go_at_call 16; refine hwi.mono ?_; rintro e w4 ⟨rfl, hb4⟩; refine Hid.out ?_)
          refine Lib.hid ?_
          have HB4 := Lib.hid (HBV.out.trans (hb4.mono HBV.out.size))
          clear hb4
          go_wp2
          go_ret
          exact ⟨rfl, HB4.out⟩
  · have hok : okB L = false := by simpa using hok
    go_enter Try.func6, Try.ntmps6
    go_upto_region 1 with fail
    rw [← HW.out, HY.out]
    go_wp2_with (first | (at_builtin; refine wpl_run2 _ _ rfl (by simp [Act.eval]) (by simp [Act.eval]) hrun ?_) | (go_at_call 8; refine hnew.mono ?_; rintro e w1 ⟨hb1, hq | hq⟩; exact absurd (hok.symm.trans hq.1) (by decide); obtain ⟨_, rfl⟩ := hq; refine Hid.out ?_))
    refine Lib.hid ?_
    have HB1 := Lib.hid (HB.out.trans (hb1.mono HB.out.size))
    have haw := awake_any w1
    clear hb1 hnew hok
    go_wp2_with (go_at_call 10; refine haw.mono ?_; rintro e w3 ⟨rfl, hb3⟩; refine Hid.out ?_)
    refine Lib.hid ?_
    have HB3 := Lib.hid (HB1.out.trans (hb3.mono HB1.out.size))
    have haw2 := awake_any w3
    clear haw hb3
    go_wp2_with (go_at_call 10; refine haw2.mono ?_; rintro e w4 ⟨rfl, hb4⟩; refine Hid.out ?_)
    refine Lib.hid ?_
    have HB4 := Lib.hid (HB3.out.trans (hb4.mono HB3.out.size))
    clear haw2 hb4
    go_wp2
    go_ret
    exact ⟨rfl, HB4.out⟩
end
end Go.Proofs.Ytonncfdkdibggaa
