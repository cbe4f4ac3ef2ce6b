/- The law ShardSaves. -/
import Derived.Test.YtcoaahlakkghhaaHc
namespace Go.Proofs.Ytcoaahlakkghhaa
open Go.RowKit
/-- Amid the two commands. -/
def GT (w U : World) (A B : Nat) (SB : Nat → Prop) (s s' : Sh) (Y : Nat) (os : Array Value) (b1 b2 : Bool) (X : World) : Prop :=
  match b1, b2 with
  | false, _ => Below U.heap.size U X
  | true, false => (∃ SA', Tw w X A B SA' SB s' s) ∧ X.heap[Y]? = some (.cells os 49 (0, 0)) ∧ U.heap.size ≤ X.heap.size
  | true, true => (∃ SA' SB', Tw w X A B SA' SB' s' s') ∧ X.heap[Y]? = some (.cells os 49 (0, 0)) ∧ U.heap.size ≤ X.heap.size
theorem Sm'.refl (U X : World) : Sm' U X X := ⟨fun _ => False, fun _ q => q.elim, Fr.refl _ _⟩
theorem Sm'.ofBelow {U X X' : World} (h : Below X.heap.size X X') : Sm' U X X' := ⟨fun _ => False, fun _ q => q.elim, Fr.ofBelow _ h⟩
section
variable {w U X X' : World} {A B Y : Nat} {SB : Nat → Prop} {s s' : Sh} {os : Array Value} {b1 b2 : Bool}
theorem GT.next (h : GT w U A B SB s s' Y os b1 b2 X) (hb : Below X.heap.size X X') : GT w U A B SB s s' Y os b1 b2 X' := by
  cases b1 with
  | false => exact Below.trans h (hb.mono (Below.size h))
  | true =>
    cases b2 with
    | false =>
      obtain ⟨⟨SA', h1⟩, h2, h3⟩ := h
      exact ⟨⟨SA', h1.on hb⟩, (hb.block Y (blk_lt h2)).trans h2, Nat.le_trans h3 hb.size⟩
    | true =>
      obtain ⟨⟨SA', SB', h1⟩, h2, h3⟩ := h
      exact ⟨⟨SA', SB', h1.on hb⟩, (hb.block Y (blk_lt h2)).trans h2, Nat.le_trans h3 hb.size⟩
theorem GT.k (h : GT w U A B SB s s' Y os b1 b2 X) (hbU : Below w.heap.size w U) (jY : U.heap[Y]? = some (.cells os 49 (0, 0))) : Below w.heap.size w X ∧ X.heap[Y]? = some (.cells os 49 (0, 0)) ∧ U.heap.size ≤ X.heap.size := by
  cases b1 with
  | false =>
    have h' : Below U.heap.size U X := h
    exact ⟨hbU.trans (h'.mono hbU.size), (h'.block Y (blk_lt jY)).trans jY, h'.size⟩
  | true =>
    cases b2 with
    | false =>
      obtain ⟨⟨SA', h1⟩, h2, h3⟩ := h
      exact ⟨h1.bl, h2, h3⟩
    | true =>
      obtain ⟨⟨SA', SB', h1⟩, h2, h3⟩ := h
      exact ⟨h1.bl, h2, h3⟩
end
theorem Bd.ld {s : Sh} {T n B : Nat} (h : Bd s T n) (hT : T ≤ 3000) (hn : n ≤ 3000) (hf : Few s B) (hB : B ≤ 800000) : LdIn s where
  rw := by have := h.rw; omega
  ls := fun r hr => by have := h.ls r hr; omega
  lk := by have := h.lk; omega
  lz := fun l hl => ⟨Nat.le_trans (hf l hl) hB, by have := lwS_mem hl; have := h.lw; omega⟩
  rc := by have := h.rc; omega
  ov := by have := h.ov; omega
theorem Sy.save {V : World} {B : Nat} {SB : Nat → Prop} {s : Sh} (h : Sy V B SB s) {Tb n C : Nat} (hbd : Bd s Tb n) (h1 : Tb < 800000) (hf : Few s C) (hC : C ≤ 800000) : Calls Try.prog 15 #[.pointer (some ⟨B, 0, none⟩)] V fun e w' => SvAns V s e w' := by
  obtain ⟨S1, S2, P, M, N, G, lv, rv, ov, hx, _⟩ := h
  exact save_any hx (fun l hl => ⟨Nat.le_trans (hf l hl) hC, by have := lwS_mem hl; have := hbd.lw; omega⟩)
theorem Sy.ok {V : World} {B : Nat} {SB : Nat → Prop} {s : Sh} (h : Sy V B SB s) : Okr s.rows := by
  obtain ⟨S1, S2, P, M, N, G, lv, rv, ov, hx, _⟩ := h
  exact hx.st.ok
theorem op_ok {w V1 : World} {L : List Oq} {b o n cap i : Nat} {os cs : Array Value} (hl : Lr opE 31 w L (.slice (some ⟨b, o, none⟩) n cap)) (hi : i < L.length) (hb : Below w.heap.size w V1) (hld : (Instr.loadAt 49 (.pointer (some ⟨b, o + i * 31, none⟩))).run Try.prog V1 = .ok (.agg os) V1) (hos : ∀ j, os[j + 1]? = cs[j]?) : ∃ ra rc wa wc, CmOk w L[i].2 cs ra rc wa wc := by
  obtain ⟨ad', cap', e1, _, _, _, hcs⟩ := hl
  cases e1
  obtain ⟨b', o', cs0, ha, _, hE, hcl, hcell⟩ := hcs i hi
  cases ha
  obtain ⟨_, _, _, ra, rc, wa, wc, hok⟩ := hE
  have h2 : (Instr.loadAt 49 (.pointer (some ⟨b, o + i * 31, none⟩))).run Try.prog V1 = .ok (.agg cs0.toArray) V1 := run_loadAt_mid (P := Try.prog) V1 b (o + i * 31) 49 cs0 _ (fun j u hu => cell_on hb (hcell j u hu)) Try.underlying49 rfl (by rw [hcl]; exact size49)
  rw [hld] at h2
  simp only [Result.ok.injEq, Value.agg.injEq, and_true] at h2
  have hc : cs = (cs0.drop 1).toArray := Array.ext_getElem? (fun j => by
    rw [← hos j, h2]
    simp)
  rw [hc]
  exact ⟨ra, rc, wa, wc, hok⟩
section
variable {w : World} {L : List Oq} {v : Value}
set_option maxHeartbeats 8000000 in
set_option maxRecDepth 100000 in
theorem saves_law (hl : Lr opE 31 w L v) (hI : ∀ q ∈ L, CmIn q.2) (ht : totB L ≤ 1048576) (k : Int) : Calls Try.prog 4 #[v, .int .i64 k] w fun e w' => e = .returned (.bool true) ∧ Below w.heap.size w w' := by
  have htL := tot_totB L
  have hz : ∀ q ∈ L, CmSz q.2 := fun q hq => cmB_sz (Nat.le_trans (sum_mem (f := fun q : Oq => cmB q.2) hq) (by unfold totB at ht; omega))
  have hops := ops_ok hl
  have hfact : ∀ i, ShIn (Sh.nil.acts (L.take i)) ∧ MayP (Sh.nil.acts (L.take i)) ∧ Few (Sh.nil.acts (L.take i)) 800000 ∧ (rangeL (Sh.nil.acts (L.take i))).length ≤ 1000000000 := fun i => by
    refine ⟨in_acts in_nil _ (fun q hq => ⟨(hops q (List.mem_of_mem_take hq)).1, hI q (List.mem_of_mem_take hq), (hops q (List.mem_of_mem_take hq)).2⟩), may_acts may_nil _, few_acts (fun l hl => (by cases hl)) _ (fun q hq => ?_), ?_⟩
    · have h3 := sum_ge2 (f := rnB) (fun x => by unfold rnB; omega) q.2.reads
      have h4 : cmB q.2 = 1 + (q.2.writes.map wrB).sum + (q.2.reads.map rnB).sum := rfl
      have h5 : cmB q.2 ≤ totB L := sum_mem (f := fun q : Oq => cmB q.2) (List.mem_of_mem_take hq)
      omega
    · have h1 := shB_acts Sh.nil (L.take i)
      have h2 := totB_take L i
      have h3 : shB Sh.nil = 0 := rfl
      have h4 := rangeL_len (Sh.nil.acts (L.take i))
      omega
  have haw := awake_any w
  have HG1 := Lib.hid (fun X (hX : Below w.heap.size w X) => great_any (hl.on opE_held hX) (by omega))
  have HL := Lib.hid hl
  obtain ⟨ad, cap, rfl, _, _, hcap, _⟩ := hl
  obtain ⟨n, hn⟩ : ∃ n, L.length = n := ⟨_, rfl⟩
  have hmx : (n : Int) ≤ 9223372036854775807 := by unfold maxLen at hcap; omega
  have HN := Lib.hid hn
  have HFA := Lib.hid hfact
  have HZ := Lib.hid hz
  rw [hn] at HG1 HL ⊢
  clear hn hcap hfact hz hops hI ht htL
  go_enter Try.func4, Try.ntmps4
  go_wp2_with (go_at_call 9; refine haw.mono ?_; rintro e w1 ⟨rfl, hb1⟩; refine Hid.out ?_)
  refine Lib.hid ?_
  have HB1 := Lib.hid hb1
  have hg1 := HG1.out w1 hb1
  clear hb1 haw
  go_wp2_with (go_at_call 10; refine hg1.mono ?_; rintro e w2 ⟨⟨g1, rfl, hq1⟩, hb2⟩; refine Hid.out ?_)
  refine Lib.hid ?_
  have HB2 := Lib.hid (HB1.out.trans (hb2.mono HB1.out.size))
  clear hb2 hg1
  cases g1 with
  | true =>
    have haw2 := awake_any w2
    clear hq1
    go_wp2_with (go_at_call 9; refine haw2.mono ?_; rintro e w3 ⟨rfl, hb3⟩; refine Hid.out ?_)
    refine Lib.hid ?_
    have HB3 := Lib.hid (HB2.out.trans (hb3.mono HB2.out.size))
    clear hb3 haw2
    go_wp2
    go_ret
    exact ⟨rfl, HB3.out⟩
  | false =>
  have HQ1 := Lib.hid (hq1 rfl)
  have hnew := newS_any w2
  clear hq1 HG1
  go_wp2_with (go_at_call 11; refine hnew.mono ?_; rintro e w3 ⟨A, SA0, rfl, hyA, hSA, hb3⟩; refine Hid.out ?_)
  refine Lib.hid ?_
  have hnew2 := newS_any w3
  have HYA := Lib.hid hyA
  have HSA := Lib.hid hSA
  have HB3 := Lib.hid (HB2.out.trans (hb3.mono HB2.out.size))
  have HB23 := Lib.hid hb3
  clear hyA hSA hb3 hnew
  go_wp2_with (go_at_call 11; refine hnew2.mono ?_; rintro e w4 ⟨B0, SB0, rfl, hyB, hSB, hb4⟩; refine Hid.out ?_)
  refine Lib.hid ?_
  have htw : Tw w w4 A B0 SA0 SB0 Sh.nil Sh.nil := by
    have h2 := HB2.out.size
    have h3 := HB3.out.size
    refine ⟨HYA.out.on hb4, hyB, fun k hk q => ?_, fun k hk => ?_, fun k hk => ?_, HB3.out.trans (hb4.mono HB3.out.size)⟩
    · have := (HSA.out k hk).2
      have := (hSB k q).1
      omega
    · have := (HSA.out k hk).1
      omega
    · have := (hSB k hk).1
      omega
  have HTW := Lib.hid htw
  clear htw hyB hSB hb4 hnew2 HYA HSA HB23
  go_wp2
  go_loopw [6, 22] (fun bv iv wr => ∃ (i B : Nat) (SA SB : Nat → Prop), i ≤ n ∧ iv = .int .i64 (i : Int) ∧ bv = .pointer (some ⟨B, 0, none⟩) ∧ Tw w wr A B SA SB (Sh.nil.acts (L.take i)) (Sh.nil.acts (L.take i))) (fun _ iv _ => n - (intOf iv).toNat)
  case atStart => exact ⟨0, B0, SA0, SB0, Nat.zero_le _, rfl, rfl, by rw [List.take_zero]; exact HTW.out⟩
  case round =>
    clear HTW
    obtain ⟨i, B, SA, SB, hi, rfl, rfl, htw⟩ := hrel
    obtain ⟨V1, rfl⟩ : ∃ V1, V1 = wr := ⟨_, rfl⟩
    obtain ⟨fsi, fmy, ffw, fln⟩ := HFA.out i
    have hbd := bd_acts Bd.nil (L.take i)
    have htl := tot_le L i
    have hbd3 : Bd (Sh.nil.acts (L.take i)) 3000 3000 := hbd.mono (by have := HQ1.out.2; omega) (by have := HQ1.out.2; omega)
    by_cases hlt : i < n
    · have hiL : i < L.length := by rw [HN.out]; exact hlt
      have k0 : (0 : Int) ≤ i := by omega
      have k1 : (i : Int) < n := by omega
      have hst0 : St w V1 V1 A (fun _ => False) (Sh.nil.acts (L.take i)) := ⟨SA, htw.a, htw.la, fun _ q => q.elim, htw.bl, Nat.le_refl _, fun _ q => q.elim⟩
      obtain ⟨b, o, os, cs, V, rfl, hld, hstr, hdq, hbV⟩ := op_box HL.out HZ.out hiL hst0 hbd3 (by decide) (by decide) (by have := HQ1.out.2; omega)
      obtain ⟨Y, hY⟩ : ∃ Y, V1.heap.size = Y := ⟨_, rfl⟩
      obtain ⟨ra, rc, wa, wc, hok⟩ := op_ok HL.out hiL htw.bl hld (fun j => (cell_blk hdq.jY (j + 1)).symm.trans (hdq.at' j))
      have hgm := gsz_mem (List.getElem_mem hiL)
      have hgw := gsz_w L[i].2
      have hgr := gsz_r L[i].2
      have hsz := HZ.out _ (List.getElem_mem hiL)
      have hnx := acts_next (s := Sh.nil) hiL
      have hy1 : ¬ SA Y := fun q => by have := htw.a.lt Y q; omega
      have hy2 : ¬ SB Y := fun q => by have := htw.b.lt Y q; omega
      have htV := htw.on hbV
      obtain ⟨q, hq⟩ : ∃ q, L[i] = q := ⟨_, rfl⟩
      obtain ⟨s, hs⟩ : ∃ s, Sh.nil.acts (L.take i) = s := ⟨_, rfl⟩
      rw [hY] at hdq
      rw [hq] at hdq hok hgm hgw hgr hsz hnx
      rw [hs] at hdq hnx htV fsi fmy ffw fln hbd3
      have HSZ : Hid (q.2.reads.length ≤ 800000 ∧ q.2.writes.length ≤ 800000) := Lib.hid (by have := HQ1.out.2; omega)
      have HJY := Lib.hid hdq.jY
      have H0 : Hid (V.cell? ⟨Y, 0, none⟩ = some (.int .i64 q.1)) := Lib.hid hdq.a0
      have HLD := Lib.hid hdq.ld
      have HOS : Hid (∀ j, os[j + 1]? = cs[j]?) := Lib.hid (fun j => (cell_blk hdq.jY (j + 1)).symm.trans (hdq.at' j))
      have HO0 : Hid (os[0]? = some (.int .i64 q.1)) := Lib.hid ((cell_blk hdq.jY 0).symm.trans hdq.a0)
      have HOKW : Hid (∀ X, Below w.heap.size w X → CmOk X q.2 cs ra rc wa wc) := Lib.hid (fun X hX => hok.on hX)
      have HOK := Lib.hid hok
      have HCZ := Lib.hid hsz
      have HNX := Lib.hid hnx
      have HTV := Lib.hid htV
      have HY1 := Lib.hid hy1
      have HY2 := Lib.hid hy2
      have HBD := Lib.hid hbd3
      have HSI := Lib.hid fsi
      have HMY := Lib.hid fmy
      have HFW := Lib.hid ffw
      have HYE := Lib.hid hY
      clear hdq hY hq hs hbd hbd3 htl hbV hok hgm hgw hgr hsz hnx hy1 hy2 htV htw hst0 fsi fmy ffw fln
      by_cases hkk : (i : Int) = k
      · go_upto_region 8 with (first | refine wpl_load _ rfl (by simp [Act.eval]) hld ?_ | refine wpl_store _ _ rfl (by simp [Act.eval, Act.put]) (by simp [Act.eval, Act.put]) hstr ?_)
        rw [HYE.out]
        clear hld hstr
        have hsv := HTV.out.b.save HBD.out (by decide) HFW.out (Nat.le_refl _)
        go_wp2_with (go_at_call 15; refine hsv.mono ?_; rintro e w5 ⟨P1, G1, rv1, lv1, cv1, ov1, rfl, hsw, hb5⟩; refine Hid.out ?_)
        refine Lib.hid ?_
        have hld5 := loadS_any hsw.rg HSI.out (HBD.out.ld (Nat.le_refl _) (Nat.le_refl _) HFW.out (Nat.le_refl _))
        have hld6 : Calls Try.prog 20 #[.agg #[rv1, lv1, cv1, ov1, .int .i64 s.high]] w5 fun e w' => ∃ B1 SB1, e = .returned (.tuple #[.pointer (some ⟨B1, 0, none⟩), .int .i64 0]) ∧ Sy w' B1 SB1 s ∧ (∀ k, SB1 k → w5.heap.size ≤ k) ∧ Below w5.heap.size w5 w' := hld5.mono (by
          rintro e w' ⟨hb, ⟨_, _, B1, SB1, he, h1, h2⟩ | ⟨hn, _⟩⟩
          · exact ⟨B1, SB1, he, h1, h2, hb⟩
          · exact absurd ⟨HTV.out.b.ok, HMY.out.is⟩ hn)
        have HB5 := Lib.hid hb5
        clear hsv hsw hb5 hld5
        go_wp2_with (go_at_call 20; refine hld6.mono ?_; rintro e w6 ⟨B1, SB1, rfl, hy6, hl6, hb6⟩; refine Hid.out ?_)
        refine Lib.hid ?_
        have hbV6 := HB5.out.trans (hb6.mono HB5.out.size)
        have htw6 : Tw w w6 A B1 SA SB1 s s := by
          have h5 := HB5.out.size
          have hw := HTV.out.bl.size
          refine ⟨HTV.out.a.on hbV6, hy6, fun k hk q => ?_, HTV.out.la, fun k hk => ?_, HTV.out.bl.trans (hbV6.mono HTV.out.bl.size)⟩
          · have := HTV.out.a.lt k hk
            have := hl6 k q
            omega
          · have := hl6 k hk
            omega
        have HT6 := Lib.hid htw6
        have HBW6 := Lib.hid htw6.bl
        have HJ6 := Lib.hid ((hbV6.block Y (blk_lt HJY.out)).trans HJY.out)
        have HYB : Hid (¬ SB1 Y) := Lib.hid (fun q => by
          have := hl6 Y q
          have := blk_lt HJY.out
          have := HB5.out.size
          omega)
        clear hld6 hy6 hl6 hb6 htw6 hbV6
        go_upto_region 12 with fail
        refine wp_region_fl (fun fl X9 => GT w w6 A B1 SB1 s (s.act q.1 q.2).1 Y os (fl 6) (fl 13) X9) (Sm' w6) [
          fun v9 _ => v9 = .pointer (some ⟨A, 0, none⟩),
          fun v9 _ => v9 = .pointer (some ⟨Y, 0, none⟩),
          fun v9 _ => v9 = .int .i64 q.1,
          fun v9 _ => v9 = .pointer (some ⟨Y, 1, none⟩),
          fun v9 _ => v9 = .agg cs,
          fun v9 X9 => ∃ cs9, v9 = .agg cs9 ∧ OwnV w6 X9 q.2 cs9,
          fun v9 _ => v9 = rzV (s.act q.1 q.2).2,
          fun v9 _ => v9 = .pointer (some ⟨B1, 0, none⟩),
          fun v9 _ => v9 = .pointer (some ⟨Y, 0, none⟩),
          fun v9 _ => v9 = .int .i64 q.1,
          fun v9 _ => v9 = .pointer (some ⟨Y, 1, none⟩),
          fun v9 _ => v9 = .agg cs,
          fun v9 X9 => ∃ cs9, v9 = .agg cs9 ∧ OwnV w6 X9 q.2 cs9,
          fun v9 _ => v9 = rzV (s.act q.1 q.2).2,
          fun v9 _ => v9 = .bool false]
          (by kernel_rfl) (by kernel_rfl) (by kernel_rfl) ?st ?g0 ?os ?en
        case st => exact ⟨fun _ _ _ _ h => h, fun _ _ _ _ h => h, fun _ _ _ _ h => h, fun _ _ _ _ h => h, fun _ _ _ _ h => h, (fun _ _ _ hb h => by obtain ⟨S9, hS9, f9⟩ := hb; obtain ⟨c9, e9, N9, d1, d2, d3, d4, K9, l9, h9⟩ := h; exact ⟨c9, e9, N9, d1, d2, d3, d4, K9, l9, h9.stays f9 (fun k hk => Nat.lt_of_lt_of_le (hS9 k hk) l9)⟩), fun _ _ _ _ h => h, fun _ _ _ _ h => h, fun _ _ _ _ h => h, fun _ _ _ _ h => h, fun _ _ _ _ h => h, fun _ _ _ _ h => h, (fun _ _ _ hb h => by obtain ⟨S9, hS9, f9⟩ := hb; obtain ⟨c9, e9, N9, d1, d2, d3, d4, K9, l9, h9⟩ := h; exact ⟨c9, e9, N9, d1, d2, d3, d4, K9, l9, h9.stays f9 (fun k hk => Nat.lt_of_lt_of_le (hS9 k hk) l9)⟩), fun _ _ _ _ h => h, fun _ _ _ _ h => h, trivial⟩
        case g0 => exact show Below w6.heap.size w6 w6.drew from ⟨rfl, rfl, rfl, Nat.le_refl _, fun _ _ => rfl⟩
        case os =>
          refine ⟨?_, ?_, ?_, ?_, ?_, ?_, ?_, ?_, ?_, ?_, ?_, ?_, ?_, ?_, ?_, trivial⟩
          · exact fun ρ X9 fl hg9 hn hl hp ho hc hf hr => .inl ⟨rfl, Runs.val _ (op_move (show ρ (.tmp 5) = .pointer (some ⟨A, 0, none⟩) from ho 5 rfl)) ⟨hg9, Sm'.refl _ _, rfl⟩⟩
          · exact fun ρ X9 fl hg9 hn hl hp ho hc hf hr => .inl ⟨rfl, Runs.val _ (op_f49_0 (show ρ (.tmp 8) = .pointer (some ⟨Y, 0, none⟩) from ho 8 rfl)) ⟨hg9, Sm'.refl _ _, rfl⟩⟩
          · exact fun ρ X9 fl hg9 hn hl hp ho hc hf hr => .inl ⟨rfl, Runs.val _ (op_loadI (show ρ (.tmp 40) = .pointer (some ⟨Y, 0, none⟩) from hr 1 40 rfl rfl) ((cell_blk (hg9.k HBW6.out HJ6.out).2.1 0).trans HO0.out)) ⟨hg9, Sm'.refl _ _, rfl⟩⟩
          · exact fun ρ X9 fl hg9 hn hl hp ho hc hf hr => .inl ⟨rfl, Runs.val _ (op_f49_1 (show ρ (.tmp 8) = .pointer (some ⟨Y, 0, none⟩) from ho 8 rfl)) ⟨hg9, Sm'.refl _ _, rfl⟩⟩
          · exact fun ρ X9 fl hg9 hn hl hp ho hc hf hr => .inl ⟨rfl, Runs.val _ (op_loadAt (show ρ (.tmp 42) = .pointer (some ⟨Y, 1, none⟩) from hr 3 42 rfl rfl) (ld47 (hg9.k HBW6.out HJ6.out).2.1 HOS.out HOK.out)) ⟨hg9, Sm'.refl _ _, rfl⟩⟩
          · refine fun ρ X9 fl hg9 hn hl hp ho hc hf hr => .inl ⟨rfl, ?_⟩
            refine Runs.goes 12 #[.agg cs] (op_call1 hf call12 (show ρ (.tmp 43) = .agg cs from hr 4 43 rfl rfl)) ((ow12 (V := w6) (HOKW.out X9 (hg9.k HBW6.out HJ6.out).1) HCZ.out (hg9.k HBW6.out HJ6.out).2.2).mono ?_)
            rintro e7 w7 ⟨b7, cs7, rfl, h7⟩
            exact ⟨_, rfl, hg9.next b7, Sm'.ofBelow b7, cs7, rfl, h7⟩
          · refine fun ρ X9 fl hg9 hn hl hp ho hc hf hr => .inl ⟨rfl, ?_⟩
            have h13 : fl 13 = false := by
              cases z : fl 13 with
              | false => rfl
              | true =>
                have z6 : fl 6 = true := hl 12 _ 6 rfl rfl (hl 13 _ 12 rfl rfl z)
                rw [hn] at z6
                cases z6
            have hB : Below w6.heap.size w6 X9 := by
              have q9 : GT w w6 A B1 SB1 s (s.act q.1 q.2).1 Y os (fl 6) (fl 13) X9 := hg9
              rw [hn] at q9
              exact q9
            obtain ⟨cs9, e9, h9⟩ : ∃ cs9, ρ (.tmp 44) = .agg cs9 ∧ OwnV w6 X9 q.2 cs9 := hr 5 44 rfl rfl
            refine Runs.goes 13 #[.pointer (some ⟨A, 0, none⟩), .int .i64 q.1, .agg cs9] (op_call3 hf call13 (show ρ (.tmp 39) = .pointer (some ⟨A, 0, none⟩) from hr 0 39 rfl rfl) (show ρ (.tmp 41) = .int .i64 q.1 from hr 2 41 rfl rfl) e9) (((HT6.out.on hB).goA (U := w6) HT6.out.a.lt (hg9.k HBW6.out HJ6.out).2.1 HY1.out hB.size HOK.out.td HOK.out.kd HBD.out (by decide) (by decide) HSZ.out.1 HSZ.out.2 h9).mono ?_)
            rintro e7 w7 ⟨rfl, t7, j7, l7, s7⟩
            refine ⟨_, rfl, ?_, s7, rfl⟩
            show GT w w6 A B1 SB1 s (s.act q.1 q.2).1 Y os true (fl 13) w7
            rw [h13]
            exact ⟨t7, j7, l7⟩
          · exact fun ρ X9 fl hg9 hn hl hp ho hc hf hr => .inl ⟨rfl, Runs.val _ (op_move (show ρ (.tmp 6) = .pointer (some ⟨B1, 0, none⟩) from ho 6 rfl)) ⟨hg9, Sm'.refl _ _, rfl⟩⟩
          · exact fun ρ X9 fl hg9 hn hl hp ho hc hf hr => .inl ⟨rfl, Runs.val _ (op_f49_0 (show ρ (.tmp 8) = .pointer (some ⟨Y, 0, none⟩) from ho 8 rfl)) ⟨hg9, Sm'.refl _ _, rfl⟩⟩
          · exact fun ρ X9 fl hg9 hn hl hp ho hc hf hr => .inl ⟨rfl, Runs.val _ (op_loadI (show ρ (.tmp 47) = .pointer (some ⟨Y, 0, none⟩) from hr 8 47 rfl rfl) ((cell_blk (hg9.k HBW6.out HJ6.out).2.1 0).trans HO0.out)) ⟨hg9, Sm'.refl _ _, rfl⟩⟩
          · exact fun ρ X9 fl hg9 hn hl hp ho hc hf hr => .inl ⟨rfl, Runs.val _ (op_f49_1 (show ρ (.tmp 8) = .pointer (some ⟨Y, 0, none⟩) from ho 8 rfl)) ⟨hg9, Sm'.refl _ _, rfl⟩⟩
          · exact fun ρ X9 fl hg9 hn hl hp ho hc hf hr => .inl ⟨rfl, Runs.val _ (op_loadAt (show ρ (.tmp 49) = .pointer (some ⟨Y, 1, none⟩) from hr 10 49 rfl rfl) (ld47 (hg9.k HBW6.out HJ6.out).2.1 HOS.out HOK.out)) ⟨hg9, Sm'.refl _ _, rfl⟩⟩
          · refine fun ρ X9 fl hg9 hn hl hp ho hc hf hr => .inl ⟨rfl, ?_⟩
            refine Runs.goes 12 #[.agg cs] (op_call1 hf call12 (show ρ (.tmp 50) = .agg cs from hr 11 50 rfl rfl)) ((ow12 (V := w6) (HOKW.out X9 (hg9.k HBW6.out HJ6.out).1) HCZ.out (hg9.k HBW6.out HJ6.out).2.2).mono ?_)
            rintro e7 w7 ⟨b7, cs7, rfl, h7⟩
            exact ⟨_, rfl, hg9.next b7, Sm'.ofBelow b7, cs7, rfl, h7⟩
          · refine fun ρ X9 fl hg9 hn hl hp ho hc hf hr => .inl ⟨rfl, ?_⟩
            have h6 : fl 6 = true := hl 12 _ 6 rfl rfl (hp 12 rfl)
            have q9 : GT w w6 A B1 SB1 s (s.act q.1 q.2).1 Y os (fl 6) (fl 13) X9 := hg9
            rw [h6, hn] at q9
            obtain ⟨⟨SA9, t9⟩, j9, l9⟩ := q9
            obtain ⟨cs9, e9, h9⟩ : ∃ cs9, ρ (.tmp 51) = .agg cs9 ∧ OwnV w6 X9 q.2 cs9 := hr 12 51 rfl rfl
            refine Runs.goes 13 #[.pointer (some ⟨B1, 0, none⟩), .int .i64 q.1, .agg cs9] (op_call3 hf call13 (show ρ (.tmp 46) = .pointer (some ⟨B1, 0, none⟩) from hr 7 46 rfl rfl) (show ρ (.tmp 48) = .int .i64 q.1 from hr 9 48 rfl rfl) e9) ((t9.flip.goA (U := w6) HT6.out.b.lt j9 HYB.out l9 HOK.out.td HOK.out.kd HBD.out (by decide) (by decide) HSZ.out.1 HSZ.out.2 h9).mono ?_)
            rintro e7 w7 ⟨rfl, ⟨SB9, t7⟩, j7, l7, s7⟩
            refine ⟨_, rfl, ?_, s7, rfl⟩
            show GT w w6 A B1 SB1 s (s.act q.1 q.2).1 Y os (fl 6) true w7
            rw [h6]
            exact ⟨⟨SA9, SB9, t7.flip⟩, j7, l7⟩
          · exact fun ρ X9 fl hg9 hn hl hp ho hc hf hr => .inl ⟨rfl, Runs.val _ (op_neq52 (show ρ (.tmp 45) = rzV (s.act q.1 q.2).2 from hr 6 45 rfl rfl) (show ρ (.tmp 52) = rzV (s.act q.1 q.2).2 from hr 13 52 rfl rfl)) ⟨hg9, Sm'.refl _ _, rfl⟩⟩
        case en =>
          intro a9 X9 fl hfl hg9 hs9 hd9 ho9 hr9
          obtain ⟨x9, hx9, hxt⟩ := act_put hs9 hd9 ho9
          have e53 : x9 53 = .bool false := (hxt 53).symm.trans (hr9 14 53 rfl)
          change a9 = putAll _ x9 [39, 40, 41, 42, 43, 44, 45, 46, 47, 48, 49, 50, 51, 52, 53] at hx9
          simp only [putAll, Act.put, List.setIfInBounds_toArray, List.set_cons_zero, List.set_cons_succ, e53] at hx9
          have g9 : GT w w6 A B1 SB1 s (s.act q.1 q.2).1 Y os true true X9 := by
            have q1 := hfl 6 (by decide)
            have q2 := hfl 13 (by decide)
            have q9 : GT w w6 A B1 SB1 s (s.act q.1 q.2).1 Y os (fl 6) (fl 13) X9 := hg9
            rw [q1, q2] at q9
            exact q9
          obtain ⟨⟨SA9, SB9, t9⟩, _, _⟩ := g9
          have HT9 := Lib.hid t9
          clear hfl hg9 hs9 hd9 ho9 hr9 hxt e53 t9
          subst hx9
          generalize x9 39 = z39, x9 40 = z40, x9 41 = z41, x9 42 = z42, x9 43 = z43, x9 44 = z44, x9 45 = z45, x9 46 = z46, x9 47 = z47, x9 48 = z48, x9 49 = z49, x9 50 = z50, x9 51 = z51, x9 52 = z52
          go_wp2
          go_roundw
          case rel => exact ⟨i + 1, B1, SA9, SB9, hlt, by go_num, rfl, by rw [HNX.out]; exact HT9.out⟩
          case measure => simp [intOf]; omega
      · have hkk2 : ((i : Int) == k) = false := by simpa using hkk
        have HT6 := HTV
        have HBW6 := Lib.hid HTV.out.bl
        have HJ6 := HJY
        have HYB := HY2
        go_upto_region 12 with (first | refine wpl_load _ rfl (by simp [Act.eval]) hld ?_ | refine wpl_store _ _ rfl (by simp [Act.eval, Act.put]) (by simp [Act.eval, Act.put]) hstr ?_)
        rw [HYE.out]
        clear hld hstr
        refine wp_region_fl (fun fl X9 => GT w V A B SB s (s.act q.1 q.2).1 Y os (fl 6) (fl 13) X9) (Sm' V) [
          fun v9 _ => v9 = .pointer (some ⟨A, 0, none⟩),
          fun v9 _ => v9 = .pointer (some ⟨Y, 0, none⟩),
          fun v9 _ => v9 = .int .i64 q.1,
          fun v9 _ => v9 = .pointer (some ⟨Y, 1, none⟩),
          fun v9 _ => v9 = .agg cs,
          fun v9 X9 => ∃ cs9, v9 = .agg cs9 ∧ OwnV V X9 q.2 cs9,
          fun v9 _ => v9 = rzV (s.act q.1 q.2).2,
          fun v9 _ => v9 = .pointer (some ⟨B, 0, none⟩),
          fun v9 _ => v9 = .pointer (some ⟨Y, 0, none⟩),
          fun v9 _ => v9 = .int .i64 q.1,
          fun v9 _ => v9 = .pointer (some ⟨Y, 1, none⟩),
          fun v9 _ => v9 = .agg cs,
          fun v9 X9 => ∃ cs9, v9 = .agg cs9 ∧ OwnV V X9 q.2 cs9,
          fun v9 _ => v9 = rzV (s.act q.1 q.2).2,
          fun v9 _ => v9 = .bool false]
          (by kernel_rfl) (by kernel_rfl) (by kernel_rfl) ?st ?g0 ?os ?en
        case st => exact ⟨fun _ _ _ _ h => h, fun _ _ _ _ h => h, fun _ _ _ _ h => h, fun _ _ _ _ h => h, fun _ _ _ _ h => h, (fun _ _ _ hb h => by obtain ⟨S9, hS9, f9⟩ := hb; obtain ⟨c9, e9, N9, d1, d2, d3, d4, K9, l9, h9⟩ := h; exact ⟨c9, e9, N9, d1, d2, d3, d4, K9, l9, h9.stays f9 (fun k hk => Nat.lt_of_lt_of_le (hS9 k hk) l9)⟩), fun _ _ _ _ h => h, fun _ _ _ _ h => h, fun _ _ _ _ h => h, fun _ _ _ _ h => h, fun _ _ _ _ h => h, fun _ _ _ _ h => h, (fun _ _ _ hb h => by obtain ⟨S9, hS9, f9⟩ := hb; obtain ⟨c9, e9, N9, d1, d2, d3, d4, K9, l9, h9⟩ := h; exact ⟨c9, e9, N9, d1, d2, d3, d4, K9, l9, h9.stays f9 (fun k hk => Nat.lt_of_lt_of_le (hS9 k hk) l9)⟩), fun _ _ _ _ h => h, fun _ _ _ _ h => h, trivial⟩
        case g0 => exact show Below V.heap.size V V.drew from ⟨rfl, rfl, rfl, Nat.le_refl _, fun _ _ => rfl⟩
        case os =>
          refine ⟨?_, ?_, ?_, ?_, ?_, ?_, ?_, ?_, ?_, ?_, ?_, ?_, ?_, ?_, ?_, trivial⟩
          · exact fun ρ X9 fl hg9 hn hl hp ho hc hf hr => .inl ⟨rfl, Runs.val _ (op_move (show ρ (.tmp 5) = .pointer (some ⟨A, 0, none⟩) from ho 5 rfl)) ⟨hg9, Sm'.refl _ _, rfl⟩⟩
          · exact fun ρ X9 fl hg9 hn hl hp ho hc hf hr => .inl ⟨rfl, Runs.val _ (op_f49_0 (show ρ (.tmp 8) = .pointer (some ⟨Y, 0, none⟩) from ho 8 rfl)) ⟨hg9, Sm'.refl _ _, rfl⟩⟩
          · exact fun ρ X9 fl hg9 hn hl hp ho hc hf hr => .inl ⟨rfl, Runs.val _ (op_loadI (show ρ (.tmp 40) = .pointer (some ⟨Y, 0, none⟩) from hr 1 40 rfl rfl) ((cell_blk (hg9.k HBW6.out HJ6.out).2.1 0).trans HO0.out)) ⟨hg9, Sm'.refl _ _, rfl⟩⟩
          · exact fun ρ X9 fl hg9 hn hl hp ho hc hf hr => .inl ⟨rfl, Runs.val _ (op_f49_1 (show ρ (.tmp 8) = .pointer (some ⟨Y, 0, none⟩) from ho 8 rfl)) ⟨hg9, Sm'.refl _ _, rfl⟩⟩
          · exact fun ρ X9 fl hg9 hn hl hp ho hc hf hr => .inl ⟨rfl, Runs.val _ (op_loadAt (show ρ (.tmp 42) = .pointer (some ⟨Y, 1, none⟩) from hr 3 42 rfl rfl) (ld47 (hg9.k HBW6.out HJ6.out).2.1 HOS.out HOK.out)) ⟨hg9, Sm'.refl _ _, rfl⟩⟩
          · refine fun ρ X9 fl hg9 hn hl hp ho hc hf hr => .inl ⟨rfl, ?_⟩
            refine Runs.goes 12 #[.agg cs] (op_call1 hf call12 (show ρ (.tmp 43) = .agg cs from hr 4 43 rfl rfl)) ((ow12 (V := V) (HOKW.out X9 (hg9.k HBW6.out HJ6.out).1) HCZ.out (hg9.k HBW6.out HJ6.out).2.2).mono ?_)
            rintro e7 w7 ⟨b7, cs7, rfl, h7⟩
            exact ⟨_, rfl, hg9.next b7, Sm'.ofBelow b7, cs7, rfl, h7⟩
          · refine fun ρ X9 fl hg9 hn hl hp ho hc hf hr => .inl ⟨rfl, ?_⟩
            have h13 : fl 13 = false := by
              cases z : fl 13 with
              | false => rfl
              | true =>
                have z6 : fl 6 = true := hl 12 _ 6 rfl rfl (hl 13 _ 12 rfl rfl z)
                rw [hn] at z6
                cases z6
            have hB : Below V.heap.size V X9 := by
              have q9 : GT w V A B SB s (s.act q.1 q.2).1 Y os (fl 6) (fl 13) X9 := hg9
              rw [hn] at q9
              exact q9
            obtain ⟨cs9, e9, h9⟩ : ∃ cs9, ρ (.tmp 44) = .agg cs9 ∧ OwnV V X9 q.2 cs9 := hr 5 44 rfl rfl
            refine Runs.goes 13 #[.pointer (some ⟨A, 0, none⟩), .int .i64 q.1, .agg cs9] (op_call3 hf call13 (show ρ (.tmp 39) = .pointer (some ⟨A, 0, none⟩) from hr 0 39 rfl rfl) (show ρ (.tmp 41) = .int .i64 q.1 from hr 2 41 rfl rfl) e9) (((HT6.out.on hB).goA (U := V) HT6.out.a.lt (hg9.k HBW6.out HJ6.out).2.1 HY1.out hB.size HOK.out.td HOK.out.kd HBD.out (by decide) (by decide) HSZ.out.1 HSZ.out.2 h9).mono ?_)
            rintro e7 w7 ⟨rfl, t7, j7, l7, s7⟩
            refine ⟨_, rfl, ?_, s7, rfl⟩
            show GT w V A B SB s (s.act q.1 q.2).1 Y os true (fl 13) w7
            rw [h13]
            exact ⟨t7, j7, l7⟩
          · exact fun ρ X9 fl hg9 hn hl hp ho hc hf hr => .inl ⟨rfl, Runs.val _ (op_move (show ρ (.tmp 6) = .pointer (some ⟨B, 0, none⟩) from ho 6 rfl)) ⟨hg9, Sm'.refl _ _, rfl⟩⟩
          · exact fun ρ X9 fl hg9 hn hl hp ho hc hf hr => .inl ⟨rfl, Runs.val _ (op_f49_0 (show ρ (.tmp 8) = .pointer (some ⟨Y, 0, none⟩) from ho 8 rfl)) ⟨hg9, Sm'.refl _ _, rfl⟩⟩
          · exact fun ρ X9 fl hg9 hn hl hp ho hc hf hr => .inl ⟨rfl, Runs.val _ (op_loadI (show ρ (.tmp 47) = .pointer (some ⟨Y, 0, none⟩) from hr 8 47 rfl rfl) ((cell_blk (hg9.k HBW6.out HJ6.out).2.1 0).trans HO0.out)) ⟨hg9, Sm'.refl _ _, rfl⟩⟩
          · exact fun ρ X9 fl hg9 hn hl hp ho hc hf hr => .inl ⟨rfl, Runs.val _ (op_f49_1 (show ρ (.tmp 8) = .pointer (some ⟨Y, 0, none⟩) from ho 8 rfl)) ⟨hg9, Sm'.refl _ _, rfl⟩⟩
          · exact fun ρ X9 fl hg9 hn hl hp ho hc hf hr => .inl ⟨rfl, Runs.val _ (op_loadAt (show ρ (.tmp 49) = .pointer (some ⟨Y, 1, none⟩) from hr 10 49 rfl rfl) (ld47 (hg9.k HBW6.out HJ6.out).2.1 HOS.out HOK.out)) ⟨hg9, Sm'.refl _ _, rfl⟩⟩
          · refine fun ρ X9 fl hg9 hn hl hp ho hc hf hr => .inl ⟨rfl, ?_⟩
            refine Runs.goes 12 #[.agg cs] (op_call1 hf call12 (show ρ (.tmp 50) = .agg cs from hr 11 50 rfl rfl)) ((ow12 (V := V) (HOKW.out X9 (hg9.k HBW6.out HJ6.out).1) HCZ.out (hg9.k HBW6.out HJ6.out).2.2).mono ?_)
            rintro e7 w7 ⟨b7, cs7, rfl, h7⟩
            exact ⟨_, rfl, hg9.next b7, Sm'.ofBelow b7, cs7, rfl, h7⟩
          · refine fun ρ X9 fl hg9 hn hl hp ho hc hf hr => .inl ⟨rfl, ?_⟩
            have h6 : fl 6 = true := hl 12 _ 6 rfl rfl (hp 12 rfl)
            have q9 : GT w V A B SB s (s.act q.1 q.2).1 Y os (fl 6) (fl 13) X9 := hg9
            rw [h6, hn] at q9
            obtain ⟨⟨SA9, t9⟩, j9, l9⟩ := q9
            obtain ⟨cs9, e9, h9⟩ : ∃ cs9, ρ (.tmp 51) = .agg cs9 ∧ OwnV V X9 q.2 cs9 := hr 12 51 rfl rfl
            refine Runs.goes 13 #[.pointer (some ⟨B, 0, none⟩), .int .i64 q.1, .agg cs9] (op_call3 hf call13 (show ρ (.tmp 46) = .pointer (some ⟨B, 0, none⟩) from hr 7 46 rfl rfl) (show ρ (.tmp 48) = .int .i64 q.1 from hr 9 48 rfl rfl) e9) ((t9.flip.goA (U := V) HT6.out.b.lt j9 HYB.out l9 HOK.out.td HOK.out.kd HBD.out (by decide) (by decide) HSZ.out.1 HSZ.out.2 h9).mono ?_)
            rintro e7 w7 ⟨rfl, ⟨SB9, t7⟩, j7, l7, s7⟩
            refine ⟨_, rfl, ?_, s7, rfl⟩
            show GT w V A B SB s (s.act q.1 q.2).1 Y os (fl 6) true w7
            rw [h6]
            exact ⟨⟨SA9, SB9, t7.flip⟩, j7, l7⟩
          · exact fun ρ X9 fl hg9 hn hl hp ho hc hf hr => .inl ⟨rfl, Runs.val _ (op_neq52 (show ρ (.tmp 45) = rzV (s.act q.1 q.2).2 from hr 6 45 rfl rfl) (show ρ (.tmp 52) = rzV (s.act q.1 q.2).2 from hr 13 52 rfl rfl)) ⟨hg9, Sm'.refl _ _, rfl⟩⟩
        case en =>
          intro a9 X9 fl hfl hg9 hs9 hd9 ho9 hr9
          obtain ⟨x9, hx9, hxt⟩ := act_put hs9 hd9 ho9
          have e53 : x9 53 = .bool false := (hxt 53).symm.trans (hr9 14 53 rfl)
          change a9 = putAll _ x9 [39, 40, 41, 42, 43, 44, 45, 46, 47, 48, 49, 50, 51, 52, 53] at hx9
          simp only [putAll, Act.put, List.setIfInBounds_toArray, List.set_cons_zero, List.set_cons_succ, e53] at hx9
          have g9 : GT w V A B SB s (s.act q.1 q.2).1 Y os true true X9 := by
            have q1 := hfl 6 (by decide)
            have q2 := hfl 13 (by decide)
            have q9 : GT w V A B SB s (s.act q.1 q.2).1 Y os (fl 6) (fl 13) X9 := hg9
            rw [q1, q2] at q9
            exact q9
          obtain ⟨⟨SA9, SB9, t9⟩, _, _⟩ := g9
          have HT9 := Lib.hid t9
          clear hfl hg9 hs9 hd9 ho9 hr9 hxt e53 t9
          subst hx9
          generalize x9 39 = z39, x9 40 = z40, x9 41 = z41, x9 42 = z42, x9 43 = z43, x9 44 = z44, x9 45 = z45, x9 46 = z46, x9 47 = z47, x9 48 = z48, x9 49 = z49, x9 50 = z50, x9 51 = z51, x9 52 = z52
          go_wp2
          go_roundw
          case rel => exact ⟨i + 1, B, SA9, SB9, hlt, by go_num, rfl, by rw [HNX.out]; exact HT9.out⟩
          case measure => simp [intOf]; omega
    · have k1 : ¬ ((i : Int) < n) := by omega
      have hsvA := htw.a.save hbd3 (by decide) ffw (Nat.le_refl _)
      have HTW := Lib.hid htw
      obtain ⟨s, hs⟩ : ∃ s, Sh.nil.acts (L.take i) = s := ⟨_, rfl⟩
      rw [hs] at HTW hsvA fsi fln hbd3 ffw
      have HSI := Lib.hid fsi
      have HLN := Lib.hid fln
      have HBD := Lib.hid hbd3
      have HFW := Lib.hid ffw
      clear htw hs hbd htl fsi fmy ffw fln hbd3
      go_wp2_with (go_at_call 15; refine hsvA.mono ?_; rintro e w5 ⟨P1, G1, rv1, lv1, cv1, ov1, rfl, hsw, hb5⟩; refine Hid.out ?_)
      refine Lib.hid ?_
      have hrg := range_ref hsw.rg HSI.out HLN.out
      obtain ⟨tx, htx⟩ : ∃ tx, txt (rangeL s) = tx := ⟨_, rfl⟩
      rw [htx] at hrg
      have HB5 := Lib.hid hb5
      clear hsw hb5 hsvA
      go_wp2_with (go_at_call 16; refine hrg.mono ?_; rintro e w6 ⟨rfl, hb6⟩; refine Hid.out ?_)
      refine Lib.hid ?_
      have HB6 := Lib.hid (HB5.out.trans (hb6.mono HB5.out.size))
      have hsvB := (HTW.out.on HB6.out).b.save HBD.out (by decide) HFW.out (Nat.le_refl _)
      clear hrg hb6
      go_wp2_with (go_at_call 15; refine hsvB.mono ?_; rintro e w7 ⟨P2, G2, rv2, lv2, cv2, ov2, rfl, hsw2, hb7⟩; refine Hid.out ?_)
      refine Lib.hid ?_
      have hrg2 := range_ref hsw2.rg HSI.out HLN.out
      rw [htx] at hrg2
      have HB7 := Lib.hid (HB6.out.trans (hb7.mono HB6.out.size))
      clear hsw2 hb7 hsvB htx
      go_wp2_with (go_at_call 16; refine hrg2.mono ?_; rintro e w8 ⟨rfl, hb8⟩; refine Hid.out ?_)
      refine Lib.hid ?_
      have HB8 := Lib.hid (HB7.out.trans (hb8.mono HB7.out.size))
      clear hb8 hrg2
      go_wp2
      go_ret
      exact ⟨rfl, HTW.out.bl.trans (HB8.out.mono HTW.out.bl.size)⟩
end
end Go.Proofs.Ytcoaahlakkghhaa
