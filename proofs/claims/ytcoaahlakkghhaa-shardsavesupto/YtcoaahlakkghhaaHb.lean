/- The walk of shard.Load. -/
import Derived.Test.YtcoaahlakkghhaaHa
import Derived.Test.YtcoaahlakkghhaaGz
namespace Go.Proofs.Ytcoaahlakkghhaa
open Go.RowKit
section
variable {ρ : Operand → Value} {X : World} {d : Option Tmp} {ty : TypeId} {ps : String} {af : Array Edge} {g : Option (Nat × Bool)}
theorem op_h63_1 {x : Operand} {B : Nat} (e : ρ x = .pointer (some ⟨B, 0, none⟩)) : (execOp ρ ⟨d, .fieldAddr 63 x 1, ty, ps, af, g⟩).run Try.prog X = .ok (.value (.pointer (some ⟨B, 1, none⟩))) X := by
  simp only [execOp, e]
  go_simp
theorem op_h63_4 {x : Operand} {B : Nat} (e : ρ x = .pointer (some ⟨B, 0, none⟩)) : (execOp ρ ⟨d, .fieldAddr 63 x 4, ty, ps, af, g⟩).run Try.prog X = .ok (.value (.pointer (some ⟨B, 4, none⟩))) X := by
  simp only [execOp, e]
  go_simp
theorem op_store87 {x y : Operand} {B i C : Nat} {u : Value} (e : ρ x = .pointer (some ⟨B, i, none⟩)) (e2 : ρ y = .pointer (some ⟨C, 0, none⟩)) (c : X.cell? ⟨B, i, none⟩ = some u) (z : X.frozen? ⟨B, i, none⟩ = false) : (execOp ρ ⟨d, .store 87 x y, ty, ps, af, g⟩).run Try.prog X = .ok .skip (X.setCell ⟨B, i, none⟩ (.pointer (some ⟨C, 0, none⟩))) := by
  simp only [execOp, e, e2]
  go_simp
end
theorem vs_of {w : World} {l : List Ve} {v : Value} (h : Lr veE 3 w l v) : Vs w l v := by
  obtain ⟨ad, cap, e, h0, h1, h2, h3⟩ := h
  refine ⟨ad, cap, e, h0, h1, h2, fun i hi => ?_⟩
  obtain ⟨b, o, cs, ha, hb, hE, _, hc⟩ := h3 i hi
  have hE' : cs = [.int .i64 l[i].ts, .string l[i].val, .bool l[i].dead] := hE
  subst hE'
  exact ⟨b, o, ha, hb, hc 0 _ rfl, hc 1 _ rfl, hc 2 _ rfl⟩
theorem rd_of {w : World} {R : List Rw} {v : Value} (h : Lr rwE 2 w R v) : Rd w R v := by
  obtain ⟨ad, cap, e, h0, h1, h2, h3⟩ := h
  refine ⟨ad, cap, e, h0, h1, h2, fun i hi => ?_⟩
  obtain ⟨b, o, cs, ha, hb, ⟨sa, sc, rfl, hl⟩, _, hc⟩ := h3 i hi
  exact ⟨b, o, _, ha, hb, hc 0 _ rfl, hc 1 _ rfl, vs_of hl⟩
structure LdIn (s : Sh) : Prop where
  rw : s.rows.length ≤ 700000
  ls : ∀ r ∈ s.rows, r.list.length ≤ 700000
  lk : s.locks.length ≤ 800000
  lz : ∀ l ∈ s.locks, l.spans.length ≤ 800000 ∧ l.writes.length ≤ 800000
  rc : s.recs.length ≤ 800000
  ov : s.over.length ≤ 800000
def LdAns (w : World) (s : Sh) (e : Ending) (w' : World) : Prop := Below w.heap.size w w' ∧ ((Okr s.rows ∧ mayS s = true ∧ ∃ A S, e = .returned (.tuple #[.pointer (some ⟨A, 0, none⟩), .int .i64 0]) ∧ Sy w' A S s ∧ ∀ k, S k → w.heap.size ≤ k) ∨ (¬ (Okr s.rows ∧ mayS s = true) ∧ e = .returned (.tuple #[.pointer none, .int .i64 100])))
/-- Locks that a row owns. -/
def LG (V X : World) (K : List Lk) (v : Value) : Prop := ∃ G ad cap, v = .slice ad G.length cap ∧ G.map Prod.fst = K ∧ OwnL V.heap.size X G v
theorem LG.keep {V X X' : World} {K : List Lk} {v : Value} {A : Nat} (h : LG V X K v) (hf : Fr X X' (fun k => k = A)) (hA : A < V.heap.size) : LG V X' K v := by
  obtain ⟨G, ad, cap, e, hK, ho⟩ := h
  have kp : ∀ {e : TypeId} {m n : Nat} {v : Value} {xs : List Value}, X.ownsRow V.heap.size e m v n xs → X'.ownsRow V.heap.size e m v n xs := fun hr => row_keep hr hf (fun j hj q => by
    have := (hr.lt j hj).1
    have q' : j = A := q
    omega)
  exact ⟨G, ad, cap, e, hK, kp ho.row, fun g hg => kp (ho.sp g hg), fun g hg => kp (ho.wr g hg)⟩
theorem fr_at (X : World) (A i : Nat) (v : Value) : Fr X (X.setCell ⟨A, i, none⟩ v) (fun k => k = A) := Fr.set (S := fun k => k = A) (Fr.refl X _) (.inl rfl) v
/-- Amid the three stores. -/
structure GLd (V : World) (A P0 P1 M N : Nat) (lv0 rv0 ov0 : Value) (h0 h1 : Int) (K : List Lk) (b1 b2 b3 : Bool) (X : World) : Prop where
  fr : Fr V X (fun k => k = A)
  ob : ∃ lv', X.heap[A]? = some (.cells #[.pointer (some ⟨cond b1 P1 P0, 0, none⟩), lv', rv0, .map (some M), ov0, .map (some N), .int .i64 (cond b3 h1 h0)] 92 (0, 0)) ∧ (b2 = false → lv' = lv0) ∧ (b2 = true → LG V X K lv')
section
variable {V X X' : World} {A P0 P1 M N : Nat} {lv0 rv0 ov0 : Value} {h0 h1 : Int} {K : List Lk} {b1 b2 b3 : Bool}
theorem GLd.next (h : GLd V A P0 P1 M N lv0 rv0 ov0 h0 h1 K b1 b2 b3 X) (hb : Below X.heap.size X X') (hA : A < V.heap.size) : GLd V A P0 P1 M N lv0 rv0 ov0 h0 h1 K b1 b2 b3 X' := by
  obtain ⟨lv', j, e1, e2⟩ := h.ob
  exact ⟨h.fr.trans (Fr.ofBelow _ hb), lv', (hb.block A (blk_lt j)).trans j, e1, fun q => (e2 q).keep (Fr.ofBelow _ hb) hA⟩
theorem GLd.st1 (h : GLd V A P0 P1 M N lv0 rv0 ov0 h0 h1 K b1 b2 b3 X) (hA : A < V.heap.size) : GLd V A P0 P1 M N lv0 rv0 ov0 h0 h1 K true b2 b3 (X.setCell ⟨A, 0, none⟩ (.pointer (some ⟨P1, 0, none⟩))) := by
  obtain ⟨lv', j, e1, e2⟩ := h.ob
  exact ⟨h.fr.set (.inl rfl) _, lv', set_blk j _, e1, fun q => (e2 q).keep (fr_at _ _ _ _) hA⟩
theorem GLd.st2 (h : GLd V A P0 P1 M N lv0 rv0 ov0 h0 h1 K b1 b2 b3 X) {v : Value} (hl : LG V X K v) (hA : A < V.heap.size) : GLd V A P0 P1 M N lv0 rv0 ov0 h0 h1 K b1 true b3 (X.setCell ⟨A, 1, none⟩ v) := by
  obtain ⟨lv', j, e1, e2⟩ := h.ob
  exact ⟨h.fr.set (.inl rfl) _, v, set_blk j _, (fun q => by cases q), fun _ => hl.keep (fr_at _ _ _ _) hA⟩
theorem GLd.st3 (h : GLd V A P0 P1 M N lv0 rv0 ov0 h0 h1 K b1 b2 b3 X) (hA : A < V.heap.size) : GLd V A P0 P1 M N lv0 rv0 ov0 h0 h1 K b1 b2 true (X.setCell ⟨A, 6, none⟩ (.int .i64 h1)) := by
  obtain ⟨lv', j, e1, e2⟩ := h.ob
  exact ⟨h.fr.set (.inl rfl) _, lv', set_blk j _, e1, fun q => (e2 q).keep (fr_at _ _ _ _) hA⟩
end
theorem nodup_rec {R : List Rc} (h : (R.map (fun x : Rc => x.1)).Nodup) {i : Nat} (hi : i < R.length) : recOf (R.take i) R[i].1 = none := by
  unfold recOf
  rw [Option.map_eq_none_iff, List.find?_eq_none]
  intro x hx q
  have q' : x.1 = R[i].1 := of_decide_eq_true q
  obtain ⟨j, hj, rfl⟩ := List.getElem_of_mem hx
  have hj' : j < i := by rw [List.length_take] at hj; omega
  rw [List.getElem_take] at q'
  have h2 := List.pairwise_iff_getElem.1 h j i (by rw [List.length_map]; omega) (by rw [List.length_map]; exact hi) hj'
  rw [List.getElem_map, List.getElem_map] at h2
  exact h2 q'
/-- The new shard with what was loaded. -/
theorem Sx.loaded {w1 w3 X : World} {A A1 P0 M N : Nat} {S1 S10 S2 : Nat → Prop} {G0 : List Gl} {lv0 rv0 ov0 lv' : Value} {R : List Rw} {K : List Lk} {hi : Int} (hx : Sx w3 A S10 S2 Sh.nil P0 M N G0 lv0 rv0 ov0) (hs : Sb w1 A1 S1 R) (hb : Below w1.heap.size w1 w3) (hS2 : ∀ k, S2 k → w1.heap.size ≤ k) (hf : Fr w3 X (fun k => k = A))
    (hob : X.heap[A]? = some (.cells #[.pointer (some ⟨A1, 0, none⟩), lv', rv0, .map (some M), ov0, .map (some N), .int .i64 hi] 92 (0, 0))) (hl : LG w3 X K lv') (hK : K.length ≤ 800000) : ∃ S2' G, Sx X A S1 S2' ⟨R, K, [], [], hi⟩ A1 M N G lv' rv0 ov0 ∧ ∀ k, S2' k → w1.heap.size ≤ k := by
  obtain ⟨G, ad, cap, e, hG, ho⟩ := hl
  have hA3 : A < w3.heap.size := hx.lt A hx.cA
  have hlt : ∀ k, S1 k → k < w1.heap.size := hs.lt
  have hA1 : ∀ k, S1 k → ¬ k = A := fun k hk q => by
    have h1 := hlt k hk
    have h2 := hS2 A hx.cA
    omega
  have ht : ∀ t : TypeId, t ≠ 92 → ∀ k, k = A → ∀ cs', w3.heap[k]? ≠ some (.cells cs' t (0, 0)) := by
    rintro t q k rfl cs' hk
    rw [hx.ob] at hk
    simp only [Option.some.injEq, Obj.cells.injEq] at hk
    exact q hk.2.1.symm
  have hmap : ∀ (B n : Nat) (f : Td → Option Value), Mt w3 B n f → B ≠ A := by
    rintro B n f ⟨D, ⟨es, clock, h1, _⟩, _⟩ rfl
    rw [hx.ob] at h1
    cases h1
  have hsz := hf.size
  have z0 : ∀ {e : TypeId} {m n : Nat} {v : Value} {xs : List Value}, X.ownsRow w3.heap.size e m v n xs → ∀ k, v.ownBlock = some k → S2 k ∨ (w3.heap.size ≤ k ∧ k < X.heap.size) := fun hr k hk => .inr (hr.lt k hk)
  refine ⟨fun k => S2 k ∨ (w3.heap.size ≤ k ∧ k < X.heap.size), G, ?_, ?_⟩
  · exact {
      ob := hob
      st := (hs.on hb).stays hf hA1
      lks := own_mono ho.row (Nat.zero_le _)
      gl := hG
      sp := fun g hg => own_mono (ho.sp g hg) (Nat.zero_le _)
      wr := fun g hg => own_mono (ho.wr g hg) (Nat.zero_le _)
      rcs := keep_rowB hx.rcs hf (ht _ (by decide))
      ovs := keep_rowB hx.ovs hf (ht _ (by decide))
      tm := hx.tm.like (hf.block M (hx.lt M hx.cM) (hmap _ _ _ hx.tm))
      en := hx.en.like (hf.block N (hx.lt N hx.cN) (hmap _ _ _ hx.en))
      mn := hx.mn
      cA := .inl hx.cA
      cM := .inl hx.cM
      cN := .inl hx.cN
      cl := z0 ho.row
      cr := fun k hk => .inl (hx.cr k hk)
      co := fun k hk => .inl (hx.co k hk)
      cs := fun g hg => z0 (ho.sp g hg)
      cw := fun g hg => z0 (ho.wr g hg)
      lt := fun k hk => by
        rcases hk with q | q
        · exact Nat.lt_of_lt_of_le (hx.lt k q) hsz
        · exact q.2
      off := fun k hk q => by
        have h1 := hlt k hk
        have h2 := hb.size
        rcases q with q | q
        · have := hS2 k q
          omega
        · omega
      fl := by
        have : G.length = K.length := by rw [← hG, List.length_map]
        omega
      fr := Nat.zero_le _
      fo := Nat.zero_le _ }
  · intro k hk
    rcases hk with q | q
    · exact hS2 k q
    · have h2 := hb.size
      omega
end Go.Proofs.Ytcoaahlakkghhaa
/- The walk of shard.Load. -/
namespace Go.Proofs.Ytcoaahlakkghhaa
open Go.RowKit
section
variable {w : World}
set_option maxHeartbeats 8000000 in
set_option maxRecDepth 100000 in
theorem loadS_any {s : Sh} {rv lv cv ov : Value} (h : Rg w s rv lv cv ov) (hin : ShIn s) (hz : LdIn s) : Calls Try.prog 20 #[.agg #[rv, lv, cv, ov, .int .i64 s.high]] w fun e w' => LdAns w s e w' := by
  obtain ⟨W, hW⟩ : ∃ W, W = w.alloc (.cells #[rv, lv, cv, ov, .int .i64 s.high] 63) := ⟨_, rfl⟩
  obtain ⟨Y, hY⟩ : ∃ Y, w.heap.size = Y := ⟨_, rfl⟩
  have hb : Below w.heap.size w W := by rw [hW]; exact (Below.refl _ w).alloc (Nat.le_refl _) _
  have hWs : W.heap.size = Y + 1 := by rw [hW, ← hY]; simp
  have jY : W.heap[Y]? = some (.cells #[rv, lv, cv, ov, .int .i64 s.high] 63 (0, 0)) := by rw [hW, ← hY]; exact heap_alloc_new w _
  have hx := h.on hb
  have hld := load_any (rd_of hx.rw) hz.rw hz.ls
  have HMB := Lib.hid (fun X (hX : Below W.heap.size W X) => mayBeS_any (hx.on hX) hin)
  have HLK := Lib.hid (fun X (hX : Below W.heap.size W X) => cloneLocks_any (hx.lk.on lkE_held hX) hz.lk hz.lz)
  have HRC := Lib.hid h.rc
  have HOV := Lib.hid h.ov
  obtain ⟨ra, rc, rfl, _⟩ := hx.rw.shape
  obtain ⟨la, lc, rfl, _⟩ := hx.lk.shape
  obtain ⟨ca, cc, rfl, hcc, hcl⟩ := hx.rc.shape
  obtain ⟨oa, oc, rfl, hoc, hol⟩ := hx.ov.shape
  have hmxr : (s.recs.length : Int) ≤ 9223372036854775807 := by unfold maxLen at hcc; omega
  have hmxo : (s.over.length : Int) ≤ 9223372036854775807 := by unfold maxLen at hoc; omega
  obtain ⟨hg, hhg⟩ : ∃ hg, s.high = hg := ⟨_, rfl⟩
  have HHG := Lib.hid hhg
  rw [hhg] at jY hW HMB ⊢
  have y0 : W.cell? ⟨Y, 0, none⟩ = some (.slice ra s.rows.length rc) := cell_blk jY 0
  have y1 : W.cell? ⟨Y, 1, none⟩ = some (.slice la s.locks.length lc) := cell_blk jY 1
  have y2 : W.cell? ⟨Y, 2, none⟩ = some (.slice ca s.recs.length cc) := cell_blk jY 2
  have y3 : W.cell? ⟨Y, 3, none⟩ = some (.slice oa s.over.length oc) := cell_blk jY 3
  have y4 : W.cell? ⟨Y, 4, none⟩ = some (.int .i64 hg) := cell_blk jY 4
  have HB := Lib.hid hb
  have HW := Lib.hid hW
  have HY := Lib.hid hY
  have HJY := Lib.hid jY
  have HIN := Lib.hid hin
  have HZ := Lib.hid hz
  have HWS := Lib.hid hWs
  clear h hx hhg hin hz hb hW hY jY hcc hoc hcl hol hWs
  by_cases hok : Okr s.rows
  · have hld1 : Calls Try.prog 44 #[.slice ra s.rows.length rc] W fun e w' => Below W.heap.size W w' ∧ ∃ A S, e = .returned (.tuple #[.pointer (some ⟨A, 0, none⟩), .int .i64 0]) ∧ Sb w' A S s.rows ∧ ∀ j, S j → W.heap.size ≤ j := hld.mono (by
      rintro e w' ⟨hb, ⟨_, A, S, he, h1, h2⟩ | ⟨hn, _⟩⟩
      · exact ⟨hb, A, S, he, h1, h2⟩
      · exact absurd hok hn)
    clear hld
    obtain ⟨mb, hmb⟩ : ∃ mb, mayS s = mb := ⟨_, rfl⟩
    rw [hmb] at HMB
    have HMY := Lib.hid hmb
    have HOK := Lib.hid hok
    clear hmb hok
    go_enter Try.func20, Try.ntmps20
    go_upto_region 1 with fail
    rw [← HW.out, HY.out]
    go_wp2_with (go_at_call 44; refine hld1.mono ?_; rintro e w1 ⟨hb1, A1, S1, rfl, hs1, hS1⟩; refine Hid.out ?_)
    refine Lib.hid ?_
    have z0 := cell_on hb1 y0
    have z1 := cell_on hb1 y1
    have z2 := cell_on hb1 y2
    have z3 := cell_on hb1 y3
    have z4 := cell_on hb1 y4
    have HS1 := Lib.hid hs1
    have HS2 := Lib.hid hS1
    have HB1 := Lib.hid hb1
    have hmb := HMB.out w1 hb1
    clear hs1 hS1 hb1 y0 y1 y2 y3 y4 hld1
    go_wp2_with (go_at_call 45; refine hmb.mono ?_; rintro e w2 ⟨rfl, hb2⟩; refine Hid.out ?_)
    refine Lib.hid ?_
    have HB2 := Lib.hid (HB1.out.trans (hb2.mono HB1.out.size))
    have HB12 := Lib.hid hb2
    clear hmb hb2 z0 z1 z2 z3 z4
    cases mb with
    | false =>
      go_wp2
      refine bodyPost_ret (v := .tuple #[.pointer none, .int .i64 100]) (by simp [results, Try.results20, go_sem]) rfl ?_
      exact ⟨HB.out.trans (HB2.out.mono HB.out.size), .inr ⟨(fun q => by have := q.2; rw [HMY.out] at this; cases this), rfl⟩⟩
    | true =>
      have hnew := newS_any w2
      go_wp2_with (go_at_call 11; refine hnew.mono ?_; rintro e w3 ⟨A, S, rfl, hy, hSb, hb3⟩; refine Hid.out ?_)
      refine Lib.hid ?_
      have HB3 := Lib.hid (HB2.out.trans (hb3.mono HB2.out.size))
      have HB13 := Lib.hid (HB12.out.trans (hb3.mono HB12.out.size))
      obtain ⟨S10, S2, P0, M, N, G0, lv0, rv0, ov0, hx, hS⟩ := hy
      have hS2 : ∀ k, S2 k → w2.heap.size ≤ k := fun k hk => (hSb k ((hS k).2 (.inr hk))).1
      have hAw := hS2 A hx.cA
      have hA3 : A < w3.heap.size := hx.lt A hx.cA
      have hwY : Y < W.heap.size := by have := HWS.out; omega
      have hYA : Y ≠ A := by have := HB2.out.size; omega
      have hHC : ∀ X9, Fr w3 X9 (fun k => k = A) → X9.heap[Y]? = some (.cells #[.slice ra s.rows.length rc, .slice la s.locks.length lc, .slice ca s.recs.length cc, .slice oa s.over.length oc, .int .i64 hg] 63 (0, 0)) := fun X9 hf => (hf.block Y (Nat.lt_of_lt_of_le hwY HB3.out.size) hYA).trans ((HB3.out.block Y hwY).trans HJY.out)
      have hHL : ∀ X9, Fr w3 X9 (fun k => k = A) → Calls Try.prog 36 #[.slice la s.locks.length lc] X9 fun e w' => LkAns X9 s.locks e w' := fun X9 hf => HLK.out X9 (HB3.out.trans (hf.toBelow (fun k hk e => by have e' : k = A := e; have := HB2.out.size; omega) HB3.out.size))
      have HHC := Lib.hid hHC
      have HHL := Lib.hid hHL
      have HX := Lib.hid hx
      have HSS := Lib.hid hS2
      have HA3 := Lib.hid hA3
      have HAW := Lib.hid hAw
      have HYA := Lib.hid hYA
      clear hHC hHL hx hS hSb hS2 hb3 hnew hA3 hAw hYA hwY HMB HLK
      go_upto_region 5 with fail
      refine wp_region_fb (fun fl X9 => GLd w3 A P0 A1 M N lv0 rv0 ov0 0 hg s.locks (fl 11) (fl 14) (fl 17) X9) (fun X9 X' => Fr X9 X' (fun k => k = A)) [
        fun v9 _ => v9 = .pointer (some ⟨A, 0, none⟩),
        fun v9 _ => v9 = .pointer (some ⟨A, 0, none⟩),
        fun v9 _ => v9 = .pointer (some ⟨A, 0, none⟩),
        fun v9 _ => v9 = .pointer (some ⟨A1, 0, none⟩),
        fun v9 _ => v9 = .pointer (some ⟨Y, 1, none⟩),
        fun v9 _ => v9 = .slice la s.locks.length lc,
        fun v9 X9 => LG w3 X9 s.locks v9,
        fun v9 _ => v9 = .pointer (some ⟨Y, 4, none⟩),
        fun v9 _ => v9 = .int .i64 hg,
        fun v9 _ => v9 = .pointer (some ⟨A, 0, none⟩),
        fun v9 _ => v9 = .pointer (some ⟨A, 0, none⟩),
        fun _ _ => True,
        fun v9 _ => v9 = .pointer (some ⟨A, 0, none⟩),
        fun v9 _ => v9 = .pointer (some ⟨A, 1, none⟩),
        fun _ _ => True,
        fun v9 _ => v9 = .pointer (some ⟨A, 0, none⟩),
        fun v9 _ => v9 = .pointer (some ⟨A, 6, none⟩),
        fun _ _ => True]
        (by kernel_rfl) (by kernel_rfl) (by kernel_rfl) ?st ?g0 ?os ?en
      case st => exact ⟨fun _ _ _ _ h => h, fun _ _ _ _ h => h, fun _ _ _ _ h => h, fun _ _ _ _ h => h, fun _ _ _ _ h => h, fun _ _ _ _ h => h, (fun _ _ _ hb h => h.keep hb HA3.out), fun _ _ _ _ h => h, fun _ _ _ _ h => h, fun _ _ _ _ h => h, fun _ _ _ _ h => h, fun _ _ _ _ h => h, fun _ _ _ _ h => h, fun _ _ _ _ h => h, fun _ _ _ _ h => h, fun _ _ _ _ h => h, fun _ _ _ _ h => h, fun _ _ _ _ h => h, trivial⟩
      case g0 => exact ⟨⟨rfl, rfl, rfl, Nat.le_refl _, fun _ _ _ => rfl⟩, lv0, HX.out.ob, fun _ => rfl, fun q => by cases q⟩
      case os =>
        refine ⟨?_, ?_, ?_, ?_, ?_, ?_, ?_, ?_, ?_, ?_, ?_, ?_, ?_, ?_, ?_, ?_, ?_, ?_, trivial⟩
        · exact fun ρ X9 fl hg9 hn hl hp ho hc hf hr => .inl ⟨rfl, Runs.val _ (op_move (show ρ (.tmp 6) = .pointer (some ⟨A, 0, none⟩) from ho 6 rfl)) ⟨hg9, Fr.refl _ _, rfl⟩⟩
        · exact fun ρ X9 fl hg9 hn hl hp ho hc hf hr => .inl ⟨rfl, Runs.val _ (op_move (show ρ (.tmp 6) = .pointer (some ⟨A, 0, none⟩) from ho 6 rfl)) ⟨hg9, Fr.refl _ _, rfl⟩⟩
        · exact fun ρ X9 fl hg9 hn hl hp ho hc hf hr => .inl ⟨rfl, Runs.val _ (op_move (show ρ (.tmp 6) = .pointer (some ⟨A, 0, none⟩) from ho 6 rfl)) ⟨hg9, Fr.refl _ _, rfl⟩⟩
        · exact fun ρ X9 fl hg9 hn hl hp ho hc hf hr => .inl ⟨rfl, Runs.val _ (op_move (show ρ (.tmp 4) = .pointer (some ⟨A1, 0, none⟩) from ho 4 rfl)) ⟨hg9, Fr.refl _ _, rfl⟩⟩
        · exact fun ρ X9 fl hg9 hn hl hp ho hc hf hr => .inl ⟨rfl, Runs.val _ (op_h63_1 (show ρ (.tmp 1) = .pointer (some ⟨Y, 0, none⟩) from ho 1 rfl)) ⟨hg9, Fr.refl _ _, rfl⟩⟩
        · exact fun ρ X9 fl hg9 hn hl hp ho hc hf hr => .inl ⟨rfl, Runs.val _ (op_load31 (show ρ (.tmp 29) = .pointer (some ⟨Y, 1, none⟩) from hr 4 29 rfl rfl) (cell_blk (HHC.out X9 hg9.fr) 1)) ⟨hg9, Fr.refl _ _, rfl⟩⟩
        · refine fun ρ X9 fl hg9 hn hl hp ho hc hf hr => .inl ⟨rfl, ?_⟩
          refine Runs.goes 36 #[.slice la s.locks.length lc] (op_call1 hf calls36 (show ρ (.tmp 30) = .slice la s.locks.length lc from hr 5 30 rfl rfl)) ((HHL.out X9 hg9.fr).mono ?_)
          rintro e7 w7 ⟨G7, ad7, cap7, hG7, rfl, ho7, b7⟩
          exact ⟨_, rfl, hg9.next b7 HA3.out, Fr.ofBelow _ b7, G7, ad7, cap7, rfl, hG7, own_mono ho7.row hg9.fr.size, fun p hp => own_mono (ho7.sp p hp) hg9.fr.size, fun p hp => own_mono (ho7.wr p hp) hg9.fr.size⟩
        · exact fun ρ X9 fl hg9 hn hl hp ho hc hf hr => .inl ⟨rfl, Runs.val _ (op_h63_4 (show ρ (.tmp 1) = .pointer (some ⟨Y, 0, none⟩) from ho 1 rfl)) ⟨hg9, Fr.refl _ _, rfl⟩⟩
        · exact fun ρ X9 fl hg9 hn hl hp ho hc hf hr => .inl ⟨rfl, Runs.val _ (op_loadI (show ρ (.tmp 32) = .pointer (some ⟨Y, 4, none⟩) from hr 7 32 rfl rfl) (cell_blk (HHC.out X9 hg9.fr) 4)) ⟨hg9, Fr.refl _ _, rfl⟩⟩
        · exact fun ρ X9 fl hg9 hn hl hp ho hc hf hr => .inl ⟨rfl, Runs.val _ (op_nil (show ρ (.tmp 25) = .pointer (some ⟨A, 0, none⟩) from hr 0 25 rfl rfl)) ⟨hg9, Fr.refl _ _, rfl⟩⟩
        · exact fun ρ X9 fl hg9 hn hl hp ho hc hf hr => .inl ⟨rfl, Runs.val _ (op_g92_0 (show ρ (.tmp 34) = .pointer (some ⟨A, 0, none⟩) from hr 9 34 rfl rfl)) ⟨hg9, Fr.refl _ _, rfl⟩⟩
        · refine fun ρ X9 fl hg9 hn hl hp ho hc hf hr => .inl ⟨rfl, ?_⟩
          obtain ⟨lv9, j9, _, _⟩ := hg9.ob
          exact Runs.skips (op_store87 (show ρ (.tmp 35) = .pointer (some ⟨A, 0, none⟩) from hr 10 35 rfl rfl) (show ρ (.tmp 28) = .pointer (some ⟨A1, 0, none⟩) from hr 3 28 rfl rfl) (cell_blk j9 0) (frozen_blk j9 0)) ⟨hg9.st1 HA3.out, fr_at _ _ _ _, trivial⟩
        · exact fun ρ X9 fl hg9 hn hl hp ho hc hf hr => .inl ⟨rfl, Runs.val _ (op_nil (show ρ (.tmp 26) = .pointer (some ⟨A, 0, none⟩) from hr 1 26 rfl rfl)) ⟨hg9, Fr.refl _ _, rfl⟩⟩
        · exact fun ρ X9 fl hg9 hn hl hp ho hc hf hr => .inl ⟨rfl, Runs.val _ (op_g92_1 (show ρ (.tmp 36) = .pointer (some ⟨A, 0, none⟩) from hr 12 36 rfl rfl)) ⟨hg9, Fr.refl _ _, rfl⟩⟩
        · refine fun ρ X9 fl hg9 hn hl hp ho hc hf hr => .inl ⟨rfl, ?_⟩
          obtain ⟨lv9, j9, _, _⟩ := hg9.ob
          have hlg : LG w3 X9 s.locks (ρ (.tmp 31)) := hr 6 31 rfl rfl
          obtain ⟨G9, ad9, cap9, e9, _⟩ := hlg
          have hlg2 : LG w3 X9 s.locks (.slice ad9 G9.length cap9) := by rw [← e9]; exact hr 6 31 rfl rfl
          exact Runs.skips (op_store31 (show ρ (.tmp 37) = .pointer (some ⟨A, 1, none⟩) from hr 13 37 rfl rfl) e9 (cell_blk j9 1) (frozen_blk j9 1)) ⟨hg9.st2 hlg2 HA3.out, fr_at _ _ _ _, trivial⟩
        · exact fun ρ X9 fl hg9 hn hl hp ho hc hf hr => .inl ⟨rfl, Runs.val _ (op_nil (show ρ (.tmp 27) = .pointer (some ⟨A, 0, none⟩) from hr 2 27 rfl rfl)) ⟨hg9, Fr.refl _ _, rfl⟩⟩
        · exact fun ρ X9 fl hg9 hn hl hp ho hc hf hr => .inl ⟨rfl, Runs.val _ (op_g92_6 (show ρ (.tmp 38) = .pointer (some ⟨A, 0, none⟩) from hr 15 38 rfl rfl)) ⟨hg9, Fr.refl _ _, rfl⟩⟩
        · refine fun ρ X9 fl hg9 hn hl hp ho hc hf hr => .inl ⟨rfl, ?_⟩
          obtain ⟨lv9, j9, _, _⟩ := hg9.ob
          exact Runs.skips (op_storeN (show ρ (.tmp 39) = .pointer (some ⟨A, 6, none⟩) from hr 16 39 rfl rfl) (show ρ (.tmp 33) = .int .i64 hg from hr 8 33 rfl rfl) (cell_blk j9 6) (frozen_blk j9 6)) ⟨hg9.st3 HA3.out, fr_at _ _ _ _, trivial⟩
      case en =>
        intro a9 X9 fl hfl hg9 hs9 hd9 ho9 hr9
        obtain ⟨x9, hx9, hxt⟩ := act_put hs9 hd9 ho9
        change a9 = putAll _ x9 [25, 26, 27, 28, 29, 30, 31, 32, 33, 34, 35, 36, 37, 38, 39] at hx9
        simp only [putAll, Act.put, List.setIfInBounds_toArray, List.set_cons_zero, List.set_cons_succ] at hx9
        have g9 : GLd w3 A P0 A1 M N lv0 rv0 ov0 0 hg s.locks true true true X9 := by
          have q1 := hfl 11 (by decide)
          have q2 := hfl 14 (by decide)
          have q3 := hfl 17 (by decide)
          have q : GLd w3 A P0 A1 M N lv0 rv0 ov0 0 hg s.locks (fl 11) (fl 14) (fl 17) X9 := hg9
          rw [q1, q2, q3] at q
          exact q
        obtain ⟨lv9, j9, _, hl9⟩ := g9.ob
        obtain ⟨S2', G9, hx2, hS2'⟩ := Sx.loaded HX.out HS1.out HB13.out (fun k hk => Nat.le_trans HB12.out.size (HSS.out k hk)) g9.fr j9 (hl9 rfl) HZ.out.lk
        obtain ⟨T, hT⟩ : ∃ T : Nat → Prop, T = fun k => k = Y := ⟨_, rfl⟩
        have hjY9 := HHC.out X9 g9.fr
        have hst : St w X9 X9 A T ⟨s.rows, s.locks, [], [], hg⟩ := by
          have hw1 := HB1.out.size
          have hWs := HWS.out
          have hYs := HY.out
          refine ⟨fun k => S1 k ∨ S2' k, ⟨S1, S2', A1, M, N, G9, lv9, rv0, ov0, hx2, fun k => Iff.rfl⟩, fun k hk => ?_, fun k hk q => ?_, ?_, Nat.le_refl _, fun k hk => ?_⟩
          · rcases hk with q | q
            · have := HS2.out k q
              omega
            · have := hS2' k q
              omega
          · rw [hT] at hk
            have hk' : k = Y := hk
            rcases q with q | q
            · have := HS2.out k q
              omega
            · have := hS2' k q
              omega
          · have hbw3 := HB.out.trans (HB3.out.mono HB.out.size)
            exact hbw3.trans (g9.fr.toBelow (fun k hk e => by have e' : k = A := e; have := HAW.out; have := HB2.out.size; omega) hbw3.size)
          · rw [hT] at hk
            have hk' : k = Y := hk
            rw [hk']
            exact ⟨blk_lt hjY9, rfl⟩
        have HST := Lib.hid hst
        have HJ9 := Lib.hid hjY9
        have HTY : Hid (T Y) := Lib.hid (by rw [hT])
        have v2 : X9.cell? ⟨Y, 2, none⟩ = some (.slice ca s.recs.length cc) := cell_blk hjY9 2
        have HND : Hid ((s.recs.map (fun x : Rc => x.1)).Nodup) := Lib.hid (by
          have q := HMY.out
          unfold mayS at q
          simp only [Bool.and_eq_true, Bool.not_eq_true', decide_eq_false_iff_not, Decidable.not_not] at q
          exact q.1.2)
        clear hfl hg9 hs9 hd9 ho9 hr9 hxt hst hjY9 hT g9 j9 hl9 hx2 hS2'
        subst hx9
        generalize x9 25 = z25, x9 26 = z26, x9 27 = z27, x9 28 = z28, x9 29 = z29, x9 30 = z30, x9 31 = z31, x9 32 = z32, x9 33 = z33, x9 34 = z34, x9 35 = z35, x9 36 = z36, x9 37 = z37, x9 38 = z38, x9 39 = z39
        go_wp2
        clear v2
        go_loopw [43] (fun iv wr => ∃ i : Nat, i ≤ s.recs.length ∧ iv = .int .i64 (i : Int) ∧ St w X9 wr A T ⟨s.rows, s.locks, s.recs.take i, [], hg⟩) (fun iv _ => s.recs.length - (intOf iv).toNat)
        case atStart => exact ⟨0, Nat.zero_le _, rfl, by rw [List.take_zero]; exact HST.out⟩
        case round =>
          clear HST
          obtain ⟨i, hi, rfl, hst⟩ := hrel
          obtain ⟨V1, rfl⟩ : ∃ V1, V1 = wr := ⟨_, rfl⟩
          by_cases hlt : i < s.recs.length
          · have hiL : i < s.recs.length := hlt
            have k0 : (0 : Int) ≤ i := by omega
            have k1 : (i : Int) < s.recs.length := by omega
            have hbw := hst.bl
            obtain ⟨ad', cap', e1, _, _, _, hcs⟩ := HRC.out.on rcE_held hbw
            obtain ⟨rfl, rfl⟩ : ad' = ca ∧ cap' = cc := by simp only [Value.slice.injEq] at e1; exact ⟨e1.1.symm, e1.2.2.symm⟩
            clear e1
            obtain ⟨b, o, cs, ha, _, hE, hcl, hcell⟩ := hcs i hiL
            obtain ⟨x, hx⟩ : ∃ x, s.recs[i] = x := ⟨_, rfl⟩
            have HXI := Lib.hid hx
            have HTX : Hid (TdOk x.1) := Lib.hid ((HIN.out.rc x (by rw [← hx]; exact List.getElem_mem hiL)).1)
            have HNX : Hid (s.recs.take (i + 1) = s.recs.take i ++ [x]) := Lib.hid (by rw [List.take_succ_eq_append_getElem hiL, hx])
            rw [hx] at hE
            subst ha
            have hE : cs = rcL x := hE
            subst hE
            have hld : (Instr.loadAt 101 (.pointer (some ⟨b, o + i * 4, none⟩))).run Try.prog V1 = .ok (.agg #[.int .i64 x.1.1, .int .i64 x.1.2.1, .int .i64 x.1.2.2, .int .i64 x.2]) V1 := run_loadAt_mid (P := Try.prog) V1 b (o + i * 4) 101 (rcL x) _ (fun j u hu => hcell j u hu) Try.underlying101 rfl size101
            obtain ⟨W0, hW0⟩ : ∃ W0, W0 = V1.alloc (.cells #[.int .i64 0, .int .i64 0, .int .i64 0, .int .i64 0] 101) := ⟨_, rfl⟩
            obtain ⟨Y2, hY2⟩ : ∃ Y2, V1.heap.size = Y2 := ⟨_, rfl⟩
            have b0 : Below V1.heap.size V1 W0 := by rw [hW0]; exact (Below.refl _ V1).alloc (Nat.le_refl _) _
            have jY2 : W0.heap[Y2]? = some (.cells #[.int .i64 0, .int .i64 0, .int .i64 0, .int .i64 0] 101 (0, 0)) := by rw [hW0, ← hY2]; exact heap_alloc_new V1 _
            obtain ⟨X, hXe, jX, fX⟩ := sets_row jY2 #[.int .i64 x.1.1, .int .i64 x.1.2.1, .int .i64 x.1.2.2, .int .i64 x.2] rfl
            have hstr : (Instr.storeAt 101 (.pointer (some ⟨Y2, 0, none⟩)) (.agg #[.int .i64 x.1.1, .int .i64 x.1.2.1, .int .i64 x.1.2.2, .int .i64 x.2])).run Try.prog W0 = .ok () X := by
              rw [hXe]
              exact store_row jY2 rfl size101 (by simp [Value.oneCell'])
            have hVX : Below V1.heap.size V1 X := b0.trans (fX.toBelow (fun k hk e => by have e' : k = Y2 := e; omega) b0.size)
            have hld2 : (Instr.loadAt 101 (.pointer (some ⟨Y2, 0, none⟩))).run Try.prog X = .ok (.agg #[.int .i64 x.1.1, .int .i64 x.1.2.1, .int .i64 x.1.2.2, .int .i64 x.2]) X := load_row jX Try.underlying101 rfl size101
            have hent : Calls Try.prog 46 #[.pointer (some ⟨A, 0, none⟩), .agg #[.int .i64 x.1.1, .int .i64 x.1.2.1, .int .i64 x.1.2.2, .int .i64 x.2]] X fun e w' => e = .returned (.tuple #[]) ∧ St w X9 w' A T ⟨s.rows, s.locks, s.recs.take (i + 1), [], hg⟩ := by
              have hstX := hst.on hVX
              have hno : recOf (s.recs.take i) x.1 = none := by rw [← HXI.out]; exact nodup_rec HND.out hiL
              have hfw : (s.recs.take i).length < 800000 := by
                have := HZ.out.rc
                rw [List.length_take]
                omega
              obtain ⟨S7, hS7⟩ := hstX
              obtain ⟨S8, S9, P7, M7, N7, G7, l7, r7, o7, hx2, hS2'⟩ := hS7.sy
              refine (enter_any hx2 hS2' (r := x) hno HTX.out hfw).mono ?_
              rintro e w' ⟨rfl, hstp⟩
              refine ⟨rfl, ?_⟩
              rw [HNX.out]
              exact hS7.step hstp
            rw [hW0, ← hY2] at hstr
            rw [← hY2] at hld2
            clear hst hbw hcs hcell hcl b0 jY2 jX fX hVX hx hXe hW0 hY2
            go_upto_region 9 with (first | refine wpl_load _ rfl (by simp [Act.eval]) hld ?_ | refine wpl_store _ _ rfl (by simp [Act.eval, Act.put]) (by simp [Act.eval, Act.put]) hstr ?_)
            go_wp2_with (first | refine wpl_load _ rfl (by simp [Act.eval]) hld2 ?_ | (go_at_call 46; refine hent.mono ?_; rintro e w7 ⟨rfl, hst7⟩; refine Hid.out ?_))
            refine Lib.hid ?_
            have HST7 := Lib.hid hst7
            clear hst7 hent hld hld2 hstr
            go_wp2
            go_roundw
            case rel => exact ⟨i + 1, hlt, by go_num, HST7.out⟩
            case measure => simp [intOf]; omega
          · have k1 : ¬ ((i : Int) < s.recs.length) := by omega
            have hall : s.recs.take i = s.recs := List.take_of_length_le (by omega)
            rw [hall] at hst
            have HST := Lib.hid hst
            have jY3 := (hst.kp HTY.out).trans HJ9.out
            have v3 : V1.cell? ⟨Y, 3, none⟩ = some (.slice oa s.over.length oc) := cell_blk jY3 3
            clear hall hst jY3
            go_wp2
            clear v3
            go_loopw [54] (fun iv wr => ∃ i : Nat, i ≤ s.over.length ∧ iv = .int .i64 (i : Int) ∧ St w X9 wr A T ⟨s.rows, s.locks, s.recs, s.over.take i, hg⟩) (fun iv _ => s.over.length - (intOf iv).toNat)
            case atStart => exact ⟨0, Nat.zero_le _, rfl, by rw [List.take_zero]; exact HST.out⟩
            case round =>
              clear HST
              obtain ⟨i, hi, rfl, hst⟩ := hrel
              obtain ⟨V1, rfl⟩ : ∃ V1, V1 = wr := ⟨_, rfl⟩
              by_cases hlt : i < s.over.length
              · have hiL : i < s.over.length := hlt
                have k0 : (0 : Int) ≤ i := by omega
                have k1 : (i : Int) < s.over.length := by omega
                have hbw := hst.bl
                obtain ⟨ad', cap', e1, _, _, _, hcs⟩ := HOV.out.on tdE_held hbw
                obtain ⟨rfl, rfl⟩ : ad' = oa ∧ cap' = oc := by simp only [Value.slice.injEq] at e1; exact ⟨e1.1.symm, e1.2.2.symm⟩
                clear e1
                obtain ⟨b, o, cs, ha, _, hE, hcl, hcell⟩ := hcs i hiL
                obtain ⟨x, hx⟩ : ∃ x, s.over[i] = x := ⟨_, rfl⟩
                have HXI := Lib.hid hx
                have HTX : Hid (TdOk x) := Lib.hid (HIN.out.ov x (by rw [← hx]; exact List.getElem_mem hiL))
                have HNX : Hid (s.over.take (i + 1) = s.over.take i ++ [x]) := Lib.hid (by rw [List.take_succ_eq_append_getElem hiL, hx])
                rw [hx] at hE
                subst ha
                have hE : cs = tdL x := hE
                subst hE
                have hld : (Instr.loadAt 37 (.pointer (some ⟨b, o + i * 3, none⟩))).run Try.prog V1 = .ok (.agg #[.int .i64 x.1, .int .i64 x.2.1, .int .i64 x.2.2]) V1 := run_loadAt_mid (P := Try.prog) V1 b (o + i * 3) 37 (tdL x) _ (fun j u hu => hcell j u hu) Try.underlying37 rfl size37
                obtain ⟨W0, hW0⟩ : ∃ W0, W0 = V1.alloc (.cells #[.int .i64 0, .int .i64 0, .int .i64 0] 37) := ⟨_, rfl⟩
                obtain ⟨Y2, hY2⟩ : ∃ Y2, V1.heap.size = Y2 := ⟨_, rfl⟩
                have b0 : Below V1.heap.size V1 W0 := by rw [hW0]; exact (Below.refl _ V1).alloc (Nat.le_refl _) _
                have jY2 : W0.heap[Y2]? = some (.cells #[.int .i64 0, .int .i64 0, .int .i64 0] 37 (0, 0)) := by rw [hW0, ← hY2]; exact heap_alloc_new V1 _
                obtain ⟨X, hXe, jX, fX⟩ := sets_row jY2 #[.int .i64 x.1, .int .i64 x.2.1, .int .i64 x.2.2] rfl
                have hstr : (Instr.storeAt 37 (.pointer (some ⟨Y2, 0, none⟩)) (.agg #[.int .i64 x.1, .int .i64 x.2.1, .int .i64 x.2.2])).run Try.prog W0 = .ok () X := by
                  rw [hXe]
                  exact store_row jY2 rfl size37 (by simp [Value.oneCell'])
                have hVX : Below V1.heap.size V1 X := b0.trans (fX.toBelow (fun k hk e => by have e' : k = Y2 := e; omega) b0.size)
                have hld2 : (Instr.loadAt 37 (.pointer (some ⟨Y2, 0, none⟩))).run Try.prog X = .ok (.agg #[.int .i64 x.1, .int .i64 x.2.1, .int .i64 x.2.2]) X := load_row jX Try.underlying37 rfl size37
                have hent : Calls Try.prog 47 #[.pointer (some ⟨A, 0, none⟩), .agg #[.int .i64 x.1, .int .i64 x.2.1, .int .i64 x.2.2]] X fun e w' => e = .returned (.tuple #[]) ∧ St w X9 w' A T ⟨s.rows, s.locks, s.recs, s.over.take (i + 1), hg⟩ := by
                  have hstX := hst.on hVX
                  have hfw : (s.over.take i).length < 800000 := by
                    have := HZ.out.ov
                    rw [List.length_take]
                    omega
                  obtain ⟨S7, hS7⟩ := hstX
                  obtain ⟨S8, S9, P7, M7, N7, G7, l7, r7, o7, hx2, hS2'⟩ := hS7.sy
                  refine (end_any hx2 hS2' (t := x) HTX.out hfw).mono ?_
                  rintro e w' ⟨rfl, hstp⟩
                  refine ⟨rfl, ?_⟩
                  rw [HNX.out]
                  exact hS7.step hstp
                rw [hW0, ← hY2] at hstr
                rw [← hY2] at hld2
                clear hst hbw hcs hcell hcl b0 jY2 jX fX hVX hx hXe hW0 hY2
                go_upto_region 14 with (first | refine wpl_load _ rfl (by simp [Act.eval]) hld ?_ | refine wpl_store _ _ rfl (by simp [Act.eval, Act.put]) (by simp [Act.eval, Act.put]) hstr ?_)
                go_wp2_with (first | refine wpl_load _ rfl (by simp [Act.eval]) hld2 ?_ | (go_at_call 47; refine hent.mono ?_; rintro e w7 ⟨rfl, hst7⟩; refine Hid.out ?_))
                refine Lib.hid ?_
                have HST7 := Lib.hid hst7
                clear hst7 hent hld hld2 hstr
                go_wp2
                go_roundw
                case rel => exact ⟨i + 1, hlt, by go_num, HST7.out⟩
                case measure => simp [intOf]; omega
              · have k2 : ¬ ((i : Int) < s.over.length) := by omega
                have hall : s.over.take i = s.over := List.take_of_length_le (by omega)
                rw [hall] at hst
                have HST := Lib.hid hst
                clear hall hst
                go_wp2
                refine bodyPost_ret (v := .tuple #[.pointer (some ⟨A, 0, none⟩), .int .i64 0]) (by simp [results, Try.results20, go_sem]) rfl ?_
                obtain ⟨S7, hS7⟩ := HST.out
                refine ⟨hS7.bl, .inl ⟨HOK.out, HMY.out, A, S7, rfl, ?_, hS7.lo⟩⟩
                have e7 : (⟨s.rows, s.locks, s.recs, s.over, hg⟩ : Sh) = s := by rw [← HHG.out]
                rw [← e7]
                exact hS7.sy
  · have hld1 : Calls Try.prog 44 #[.slice ra s.rows.length rc] W fun e w' => Below W.heap.size W w' ∧ e = .returned (.tuple #[.pointer none, .int .i64 100]) := hld.mono (by
      rintro e w' ⟨hb, ⟨hn, _⟩ | ⟨_, he⟩⟩
      · exact absurd hn hok
      · exact ⟨hb, he⟩)
    have HOK := Lib.hid hok
    clear hld hok
    go_enter Try.func20, Try.ntmps20
    go_upto_region 1 with fail
    rw [← HW.out, HY.out]
    go_wp2_with (go_at_call 44; refine hld1.mono ?_; rintro e w1 ⟨hb1, rfl⟩; refine Hid.out ?_)
    refine Lib.hid ?_
    have HB1 := Lib.hid hb1
    clear hb1 hld1
    go_wp2
    refine bodyPost_ret (v := .tuple #[.pointer none, .int .i64 100]) (by simp [results, Try.results20, go_sem]) rfl ?_
    exact ⟨HB.out.trans (HB1.out.mono HB.out.size), .inr ⟨fun q => HOK.out q.1, rfl⟩⟩
end
end Go.Proofs.Ytcoaahlakkghhaa
