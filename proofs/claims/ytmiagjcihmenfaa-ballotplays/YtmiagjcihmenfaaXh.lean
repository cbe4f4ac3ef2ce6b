/- The walk of the program's takeAsk. -/
import Derived.Test.YtmiagjcihmenfaaXg
import Derived.Test.YtmiagjcihmenfaaXc
namespace Go.Proofs.Ytmiagjcihmenfaa
open Go.RowKit

section
variable {w w' : World} {A : Nat} {S T : Nat → Prop} {b : Bs} {lv : Value} {pf : Int}
/-- A message is boxed. -/
structure Bx (w W : World) (A : Nat) (S : Nat → Prop) (b : Bs) (m : Ms) (mv : Value) : Prop where
  eq : W = w.alloc (.cells #[.int .i64 m.kind, .int .i64 m.fr, .int .i64 m.tgt, .int .i64 m.term, .int .i64 m.index, .int .i64 m.prev, .int .i64 m.commit, .bool m.good, mv, .string m.snap] 34)
  bel : Below w.heap.size w W
  blk : W.heap[w.heap.size]? = some (msO m mv)
  pb : Pb W A S b
theorem Bx.mk' (h : Pb w A S b) (m : Ms) (mv : Value) : ∃ W, Bx w W A S b m mv :=
  ⟨w.alloc (msO m mv), rfl, (Below.refl _ w).alloc (Nat.le_refl _) _, heap_alloc_new w _, h.on ((Below.refl _ w).alloc (Nat.le_refl _) _)⟩
theorem Ou.one {B : Nat} {m : Ms} {ov : Value} (h : w.ownsRow B 34 10 ov 1 (msC [(m, .slice none 0 0)])) (hl : m.list = []) : Ou w B [(m, .slice none 0 0)] ov := by
  refine ⟨h, fun p hp => ?_⟩
  rw [List.mem_singleton.1 hp, hl]
  exact World.ownsRow_nil _ _ _ _
def askC (b : Bs) (m : Ms) : Bs := if b.grants m then { b with vote := m.fr, touched := true } else b
def askA (b : Bs) (m : Ms) : Ms := mk b { ms0 with kind := 2, tgt := m.fr, good := decide (b.grants m) }
theorem ask_eq (b : Bs) (m : Ms) : b.ask m = { askC b m with out := b.out ++ [askA b m] } := by
  unfold Bs.ask askC askA
  by_cases h : b.grants m
  · rw [if_pos h, if_pos h, decide_eq_true h]
    rfl
  · rw [if_neg h, if_neg h, decide_eq_false h]
    rfl
set_option maxHeartbeats 1000000 in
set_option maxRecDepth 100000 in
theorem takeAsk_p (h : Pb w A S b) (m : Ms) (mv : Value) : Calls Try.prog 74 #[.pointer (some ⟨A, 0, none⟩), msV m mv] w fun e w' => ∃ ov, e = .returned ov ∧ Po w w' A S (askC b m) [askA b m] ov := by
  have hlt := h.lt
  obtain ⟨W, hB⟩ := Bx.mk' h m mv
  have hA := hB.pb
  have hbl : b.base ≤ b.last := by unfold Bs.last; omega
  have ht := fun n => termOf_any (hA.drewN n) b.last hbl (Int.le_refl _)
  have HW := Lib.hid hB.eq
  have HPB := Lib.hid hA
  have HBL := Lib.hid hB.bel
  have m1 : W.cell? ⟨w.heap.size, 1, none⟩ = some (.int .i64 m.fr) := cell_blk hB.blk 1
  have m4 : W.cell? ⟨w.heap.size, 4, none⟩ = some (.int .i64 m.index) := cell_blk hB.blk 4
  have m5 : W.cell? ⟨w.heap.size, 5, none⟩ = some (.int .i64 m.prev) := cell_blk hB.blk 5
  have hnA : A ≠ w.heap.size := Nat.ne_of_lt (hlt A (by obtain ⟨_, _, q⟩ := h; exact q.covA))
  obtain ⟨lv, pf, hv⟩ := hA
  have c1 : W.cell? ⟨A, 1, none⟩ = some (.int .i64 b.vote) := hv.cell 1
  have c5 : W.cell? ⟨A, 5, none⟩ = some (.int .i64 b.last) := hv.cell 5
  have c12 : W.cell? ⟨A, 12, none⟩ = some (.bool b.touched) := hv.cell 12
  have g1 : W.frozen? ⟨A, 1, none⟩ = false := frozen_blk hv.ob 1
  have g12 : W.frozen? ⟨A, 12, none⟩ = false := frozen_blk hv.ob 12
  obtain ⟨tm, htm⟩ : ∃ tm, b.termAt b.last = tm := ⟨_, rfl⟩
  rw [htm] at ht
  have HT := Lib.hid htm
  obtain ⟨fb, hfb⟩ : ∃ fb, decide (b.vote = -1 ∨ b.vote = m.fr) = fb := ⟨_, rfl⟩
  obtain ⟨gb, hgb⟩ : ∃ gb, decide (b.grants m) = gb := ⟨_, rfl⟩
  have HFB := Lib.hid hfb
  have HGB := Lib.hid hgb
  clear hv hB htm h hfb hgb
  go_enter Try.func74, Try.ntmps74
  go_wp2
  rw [← HW.out]
  go_cut [5] (fun v wx => v = .bool fb ∧ ∃ n, wx = W.drewN n)
  case first =>
    by_cases q1 : b.vote = -1
    · have hb : (b.vote == -1) = true := by simpa using q1
      go_quiet (fail)
      go_wp2_with fail
      go_meet
      exact ⟨by rw [← HFB.out]; simp [q1], _, rfl⟩
    · have hb : (b.vote == -1) = false := by simpa using q1
      go_quiet (fail)
      go_wp2_with fail
      go_meet
      exact ⟨by rw [← HFB.out]; simp [q1]; rfl, _, rfl⟩
  case rest =>
    obtain ⟨rfl, n, rfl⟩ := hcut
    go_wp2_with fail
    refine (ht n).mono ?_
    rintro e1 w1 ⟨rfl, n1, rfl⟩
    rw [World.drewN_drewN]
    obtain ⟨N, hN⟩ : ∃ N, n + n1 = N := ⟨_, rfl⟩
    rw [hN]
    obtain ⟨V, hV⟩ : ∃ V, V = W.drewN N := ⟨_, rfl⟩
    have d4 : V.cell? ⟨w.heap.size, 4, none⟩ = some (.int .i64 m.index) := by rw [hV]; exact m4
    have d5 : V.cell? ⟨w.heap.size, 5, none⟩ = some (.int .i64 m.prev) := by rw [hV]; exact m5
    have d1 : V.cell? ⟨w.heap.size, 1, none⟩ = some (.int .i64 m.fr) := by rw [hV]; exact m1
    have k1 : V.cell? ⟨A, 1, none⟩ = some (.int .i64 b.vote) := by rw [hV]; exact c1
    have k5 : V.cell? ⟨A, 5, none⟩ = some (.int .i64 b.last) := by rw [hV]; exact c5
    have k12 : V.cell? ⟨A, 12, none⟩ = some (.bool b.touched) := by rw [hV]; exact c12
    have f1 : V.frozen? ⟨A, 1, none⟩ = false := by rw [hV]; exact g1
    have f12 : V.frozen? ⟨A, 12, none⟩ = false := by rw [hV]; exact g12
    have HPV : Hid (Pb V A S b) := by rw [hV]; exact HPB.out.drewN N
    have HBV : Hid (Below w.heap.size w V) := by rw [hV]; exact below_draw HBL.out N
    rw [← hV]
    clear m1 m4 m5 c1 c5 c12 g1 g12 hV hN ht
    go_wp2
    go_cut [7] (fun v wx => v = .bool gb ∧ ∃ n, wx = V.drewN n)
    case first =>
      by_cases q : b.vote = -1 ∨ b.vote = m.fr
      · have hd0 : fb = true := HFB.out.symm.trans (decide_eq_true q)
        subst hd0
        by_cases q1 : tm < m.prev
        · have hd1 : decide (tm < m.prev) = true := decide_eq_true q1
          have hg : decide (b.grants m) = true := decide_eq_true (by unfold Bs.grants; rw [HT.out]; omega)
          go_quiet (fail)
          go_wp2_with fail
          go_meet
          exact ⟨by rw [← HGB.out, hg], _, rfl⟩
        · by_cases q2 : m.prev = tm
          · by_cases q3 : b.last ≤ m.index
            · have hd1 : decide (tm < m.prev) = false := decide_eq_false q1
              have hd2 : (m.prev == tm) = true := by simpa using q2
              have hg : decide (b.grants m) = true := decide_eq_true (by unfold Bs.grants; rw [HT.out]; omega)
              go_quiet (fail)
              go_wp2_with fail
              go_meet
              exact ⟨by rw [← HGB.out, hg], _, rfl⟩
            · have hd1 : decide (tm < m.prev) = false := decide_eq_false q1
              have hd2 : (m.prev == tm) = true := by simpa using q2
              have hg : decide (b.grants m) = false := decide_eq_false (by unfold Bs.grants; rw [HT.out]; omega)
              go_quiet (fail)
              go_wp2_with fail
              go_meet
              exact ⟨by rw [← HGB.out, hg], _, rfl⟩
          · have hd1 : decide (tm < m.prev) = false := decide_eq_false q1
            have hd2 : (m.prev == tm) = false := by simpa using q2
            have hg : decide (b.grants m) = false := decide_eq_false (by unfold Bs.grants; rw [HT.out]; omega)
            go_quiet (fail)
            go_wp2_with fail
            go_meet
            exact ⟨by rw [← HGB.out, hg], _, rfl⟩
      · have hd0 : fb = false := HFB.out.symm.trans (decide_eq_false q)
        subst hd0
        have hg : decide (b.grants m) = false := decide_eq_false (by unfold Bs.grants; rw [HT.out]; omega)
        go_quiet (fail)
        go_wp2_with fail
        go_meet
        exact ⟨by rw [← HGB.out, hg], _, rfl⟩
    case rest =>
      obtain ⟨rfl, n, rfl⟩ := hcut
      by_cases q : b.grants m
      · have hg : gb = true := HGB.out.symm.trans (decide_eq_true q)
        subst hg
        have hC : askC b m = { b with vote := m.fr, touched := true } := if_pos q
        obtain ⟨a1, f1'⟩ := (HPV.out.drewN n).setf (i := 1) (v := .int .i64 m.fr) (b' := { b with vote := m.fr }) (fun _ _ => rfl) rfl rfl (fun _ q => q) rfl rfl
        obtain ⟨a2, f2'⟩ := a1.setf (i := 12) (v := .bool true) (b' := { b with vote := m.fr, touched := true }) (fun _ _ => rfl) rfl rfl (fun _ q => q) rfl rfl
        have hfr : Fr w (((V.drewN n).setCell ⟨A, 1, none⟩ (.int .i64 m.fr)).setCell ⟨A, 12, none⟩ (.bool true)) S := (((Fr.ofBelow S HBV.out).drewN n).trans ⟨f1'.os, f1'.tape, f1'.output, f1'.size, f1'.block⟩).trans f2'
        have hcall : Calls Try.prog 72 #[.pointer (some ⟨A, 0, none⟩), .int .i64 m.fr, .bool true] (((V.drewN n).setCell ⟨A, 1, none⟩ (.int .i64 m.fr)).setCell ⟨A, 12, none⟩ (.bool true)) fun e w' => ∃ ov, e = .returned ov ∧ Po w w' A S (askC b m) [askA b m] ov := by
          refine (voted_any a2 m.fr true).mono ?_
          rintro e w' ⟨ov, rfl, q1, q2⟩
          refine ⟨ov, rfl, ?_⟩
          rw [hC]
          refine Po.step hfr (Po.of (O := [(_, .slice none 0 0)]) (a2.on q1) (Fr.ofBelow S q1) (fun k hk => Nat.lt_of_lt_of_le (hlt k hk) hfr.size) ?_ (Ou.one q2 rfl))
          unfold askA
          rw [HGB.out]
          rfl
        have HC := Lib.hid hcall
        clear a1 a2 f1' f2' hfr hcall hC
        go_wp2_with fail
        refine HC.out.mono ?_
        rintro e' w' ⟨ov, rfl, q⟩
        have HQ := Lib.hid q
        clear q HC
        go_wp2
        go_ret
        exact ⟨ov, rfl, HQ.out⟩
      · have hg : gb = false := HGB.out.symm.trans (decide_eq_false q)
        subst hg
        have hC : askC b m = b := if_neg q
        have hfr : Fr w (V.drewN n) S := (Fr.ofBelow S HBV.out).drewN n
        have hcall : Calls Try.prog 72 #[.pointer (some ⟨A, 0, none⟩), .int .i64 m.fr, .bool false] (V.drewN n) fun e w' => ∃ ov, e = .returned ov ∧ Po w w' A S (askC b m) [askA b m] ov := by
          refine (voted_any (HPV.out.drewN n) m.fr false).mono ?_
          rintro e w' ⟨ov, rfl, q1, q2⟩
          refine ⟨ov, rfl, ?_⟩
          rw [hC]
          refine Po.step hfr (Po.of (O := [(_, .slice none 0 0)]) ((HPV.out.drewN n).on q1) (Fr.ofBelow S q1) (fun k hk => Nat.lt_of_lt_of_le (hlt k hk) hfr.size) ?_ (Ou.one q2 rfl))
          unfold askA
          rw [HGB.out]
          rfl
        have HC := Lib.hid hcall
        clear hfr hcall hC
        go_wp2_with fail
        refine HC.out.mono ?_
        rintro e' w' ⟨ov, rfl, q⟩
        have HQ := Lib.hid q
        clear q HC
        go_wp2
        go_ret
        exact ⟨ov, rfl, HQ.out⟩
end
end Go.Proofs.Ytmiagjcihmenfaa
/- The walk of the program's takeVote. -/
namespace Go.Proofs.Ytmiagjcihmenfaa
open Go.RowKit

section
variable {w w' : World} {A : Nat} {S T : Nat → Prop} {b : Bs} {lv : Value} {pf : Int}
theorem Bx.stay {W W' : World} {m : Ms} {mv : Value} (hB : Bx w W A S b m mv) (hlt : ∀ k, S k → k < w.heap.size) (hf : Fr W W' S) : W'.heap[w.heap.size]? = some (msO m mv) :=
  (hf.block _ (blk_lt hB.blk) (fun q => by have := hlt _ q; omega)).trans hB.blk
theorem getD_setB (l : List Bool) (t k : Nat) (x : Bool) (ht : t < l.length) : (l.set t x).getD k false = if k = t then x else l.getD k false := by
  by_cases h : k = t
  · subst h
    simp [ht]
  · rw [if_neg h]
    simp [List.getD, List.getElem?_set_ne (Ne.symm h)]
theorem pC_has (b : Bs) (lv : Value) (pf : Int) {t : Nat} (ht : t < 5) (hl : b.has.length = 5) : (pC b lv pf).setIfInBounds (15 + t) (.bool true) = pC { b with has := b.has.set t true } lv pf := by
  unfold pC
  simp only [getD_setB _ _ _ _ (by omega : t < b.has.length), Bs.last]
  have : t = 0 ∨ t = 1 ∨ t = 2 ∨ t = 3 ∨ t = 4 := by omega
  rcases this with rfl | rfl | rfl | rfl | rfl <;> simp
theorem votes_five (b : Bs) (h : b.Hs) (hs : b.size ≤ 5) : b.votes 5 = b.votes b.size := by
  have := Bs.votes_more b h (5 - b.size)
  rwa [show b.size + (5 - b.size) = 5 by omega] at this
theorem votes_leN (b : Bs) : ∀ n, b.votes n ≤ n
  | 0 => Nat.le_refl _
  | n + 1 => by
    have := votes_leN b n
    unfold Bs.votes
    split <;> omega
def VL (X : Bs) (V wr : World) (cv iv : Value) : Prop := ∃ t : Nat, t ≤ 5 ∧ iv = .int .i64 (t : Nat) ∧ cv = .int .i64 ((X.votes t : Nat) : Int) ∧ wr = V
set_option maxHeartbeats 1000000 in
set_option maxRecDepth 100000 in
theorem takeVote_p (h : Pb w A S b) (ok : Ok b) (hz : b.log.length + 1 ≤ 900000) (m : Ms) (mv : Value) (h0 : 0 ≤ m.fr) (h1 : m.fr < b.size) : Calls Try.prog 75 #[.pointer (some ⟨A, 0, none⟩), msV m mv] w fun e w' => ∃ ov, e = .returned ov ∧ Po w w' A S (b.vote' m).sent.1 (b.vote' m).sent.2 ov := by
  have hlt := h.lt
  obtain ⟨W, hB⟩ := Bx.mk' h m mv
  have hA := hB.pb
  have HW := Lib.hid hB.eq
  have hfw : Fr w W S := Fr.ofBelow S hB.bel
  have m1 : W.cell? ⟨w.heap.size, 1, none⟩ = some (.int .i64 m.fr) := cell_blk hB.blk 1
  have m7 : W.cell? ⟨w.heap.size, 7, none⟩ = some (.bool m.good) := cell_blk hB.blk 7
  obtain ⟨lv, pf, hv⟩ := hA
  have hA : Pb W A S b := ⟨lv, pf, hv⟩
  have c2 : W.cell? ⟨A, 2, none⟩ = some (.int .i64 b.role) := hv.cell 2
  by_cases hr : b.role = 1
  · by_cases hg : m.good = true
    · obtain ⟨f, hf⟩ : ∃ f : Nat, m.fr = f := ⟨m.fr.toNat, by omega⟩
      have hf5 : f < 5 := by have := hv.sz; omega
      have hft : m.fr.toNat = f := by omega
      obtain ⟨X, hX⟩ : ∃ X, ({ b with has := b.has.set f true } : Bs) = X := ⟨_, rfl⟩
      have evo : b.vote' m = X.count := by
        unfold Bs.vote'
        rw [if_pos ⟨hr, hg⟩, hft, hX]
      have hXo : X.out = [] := by rw [← hX]; exact ok.out
      have hXI : X.Inv := by
        rw [← hX]
        have h := ok.inv
        exact ⟨h.idl, h.sz, by simpa using h.hs, h.nx, h.mt, h.b0, h.bc, h.cl, h.v0, h.v1, h.t0⟩
      have hXs : X.size = b.size := by rw [← hX]
      have hXH : X.Hs := by
        rw [← hX]
        intro k hk
        have hk' : b.size ≤ k := hk
        show (b.has.set f true).getD k false = false
        rw [getD_setB _ _ _ _ (by rw [ok.inv.hs]; exact hf5), if_neg (by omega)]
        exact ok.hs k hk'
      have hXl : X.log.length + 1 ≤ 900000 := by rw [← hX]; exact hz
      -- the vote is noted
      have hob := set_blk (i := 15 + f) hv.ob (.bool true)
      rw [pC_has b lv pf hf5 ok.inv.hs, hX] at hob
      have hfs : Fr W (W.setCell ⟨A, 15 + f, none⟩ (.bool true)) S := Fr.set (a := ⟨A, 15 + f, none⟩) (Fr.refl W S) (Or.inl hv.covA) _
      have hPX : Pb (W.setCell ⟨A, 15 + f, none⟩ (.bool true)) A S X := by
        rw [← hX]
        rw [← hX] at hob
        exact ⟨lv, pf, ⟨hob, hv.log.like (fun k hk => set_other _ (hv.neA k hk)), hv.covA, hv.cov, fun k hk => Nat.lt_of_lt_of_le (hv.lt k hk) hfs.size, hv.len, hv.b0, hv.b1, hv.fm, hv.idl, hv.sz⟩⟩
      have x15 := hv.hasc hf5
      obtain ⟨hh, hhh⟩ : ∃ hh, b.has.getD f false = hh := ⟨_, rfl⟩
      rw [hhh] at x15
      have g15 : W.frozen? ⟨A, 15 + f, none⟩ = false := frozen_blk hv.ob _
      obtain ⟨V, hV⟩ : ∃ V, V = (W.setCell ⟨A, 15 + f, none⟩ (.bool true)).drew := ⟨_, rfl⟩
      have hPV : Pb V A S X := by rw [hV]; exact hPX.drewN 1
      have hfV : Fr w V S := by rw [hV]; exact (hfw.trans hfs).drew
      obtain ⟨lvV, pfV, hvV⟩ := hPV
      have hPV : Pb V A S X := ⟨lvV, pfV, hvV⟩
      have d8 : V.cell? ⟨A, 8, none⟩ = some (.int .i64 b.size) := by rw [← hXs]; exact hvV.cell 8
      have v0 : V.cell? ⟨A, 15, none⟩ = some (.bool (X.has.getD 0 false)) := hvV.cell 15
      have v1 : V.cell? ⟨A, 16, none⟩ = some (.bool (X.has.getD 1 false)) := hvV.cell 16
      have v2 : V.cell? ⟨A, 17, none⟩ = some (.bool (X.has.getD 2 false)) := hvV.cell 17
      have v3 : V.cell? ⟨A, 18, none⟩ = some (.bool (X.has.getD 3 false)) := hvV.cell 18
      have v4 : V.cell? ⟨A, 19, none⟩ = some (.bool (X.has.getD 4 false)) := hvV.cell 19
      have y0 : X.votes 1 = (if X.has.getD 0 false then 1 else 0) := Nat.zero_add _
      have y1 : X.votes 2 = X.votes 1 + (if X.has.getD 1 false then 1 else 0) := rfl
      have y2 : X.votes 3 = X.votes 2 + (if X.has.getD 2 false then 1 else 0) := rfl
      have y3 : X.votes 4 = X.votes 3 + (if X.has.getD 3 false then 1 else 0) := rfl
      have y4 : X.votes 5 = X.votes 4 + (if X.has.getD 4 false then 1 else 0) := rfl
      have le1 := votes_leN X 1
      have le2 := votes_leN X 2
      have le3 := votes_leN X 3
      have le4 := votes_leN X 4
      have le5 := votes_leN X 5
      have e5 := votes_five X hXH (by rw [hXs]; exact hv.sz)
      generalize X.has.getD 0 false = a0 at v0 y0
      generalize X.has.getD 1 false = a1 at v1 y1
      generalize X.has.getD 2 false = a2 at v2 y2
      generalize X.has.getD 3 false = a3 at v3 y3
      generalize X.has.getD 4 false = a4 at v4 y4
      have hle := lead_p hPV hXI hXl
      have f0 : (0 : Int) ≤ f := by omega
      have f5 : (f : Int) < 5 := by omega
      have hsz5 := hv.sz
      have HVV := Lib.hid hV
      have HPV := Lib.hid hPV
      have HFV := Lib.hid hfV
      have HY : Hid ((X.votes 1 = if a0 then 1 else 0) ∧ (X.votes 2 = X.votes 1 + if a1 then 1 else 0) ∧ (X.votes 3 = X.votes 2 + if a2 then 1 else 0) ∧ (X.votes 4 = X.votes 3 + if a3 then 1 else 0) ∧ (X.votes 5 = X.votes 4 + if a4 then 1 else 0)) := ⟨y0, y1, y2, y3, y4⟩
      rw [evo]
      rw [hf] at m1
      rw [hg] at m7
      rw [hr] at c2
      have HEV := Lib.hid e5
      have HXS := Lib.hid hXs
      have HXO := Lib.hid hXo
      clear y0 y1 y2 y3 y4 hvV hPV hfV hV hob hfs hPX hv hB hA hfw hX hhh evo hft h hf hg hr e5 hXs hXo hXI hXH
      go_enter Try.func75, Try.ntmps75
      go_upto_region 1 with fail
      rw [← HW.out]
      go_wp2
      go_region
      rw [← HVV.out]
      go_wp2
      go_loopw [5, 29] (fun cv iv wr => VL X V wr cv iv) (fun _ iv _ => 5 - (intOf iv).toNat)
      case atStart => exact ⟨0, Nat.zero_le _, rfl, rfl, rfl⟩
      case round =>
        obtain ⟨t, ht, rfl, rfl, rfl⟩ := hrel
        have hy := HY.out
        by_cases ht5 : t = 5
        · subst ht5
          obtain ⟨N, hN⟩ : ∃ N, X.votes 5 = N := ⟨_, rfl⟩
          rw [hN] at le5 ⊢
          have hXN : X.votes X.size = N := HEV.out.symm.trans hN
          by_cases hmaj : 2 * N ≤ b.size
          · have ec : X.count = X := by
              unfold Bs.count
              rw [if_pos (by rw [hXN, HXS.out]; exact hmaj)]
            have m2 : 2 * (N : Int) ≤ b.size := by omega
            have HEC : Hid (X.count.sent = (X, [])) := by
              rw [ec]
              exact Bs.sent_so X HXO.out
            clear hy hN hXN ec
            go_wp2
            go_ret
            rw [HEC.out]
            exact ⟨_, rfl, Po.step HFV.out (Po.none HPV.out)⟩
          · have ec : X.count = (led X).feedAll.settle := by
              unfold Bs.count
              rw [if_neg (by rw [hXN, HXS.out]; exact hmaj)]
              rfl
            have m2 : ¬ 2 * (N : Int) ≤ b.size := by omega
            have HEC : Hid (X.count.sent = ({ (led X).settleC with out := [] }, (led X).feeds ++ (led X).settleM)) := by
              rw [ec]
              exact Bs.all_sent (led X) HXO.out
            clear hy hN hXN ec
            go_wp2_with fail
            refine hle.mono ?_
            rintro e' w' ⟨ov, rfl, q⟩
            have HQ : Hid (Po w w' A S X.count.sent.1 X.count.sent.2 ov) := by
              rw [HEC.out]
              exact (Po.step HFV.out q).unsay _
            clear q hle
            go_wp2
            go_ret
            exact ⟨ov, rfl, HQ.out⟩
        · have : t = 0 ∨ t = 1 ∨ t = 2 ∨ t = 3 ∨ t = 4 := by omega
          clear hle ht5 ht
          rcases this with rfl | rfl | rfl | rfl | rfl
          · have e0 : X.votes 0 = 0 := rfl
            rw [e0]
            have hix : ∀ w, (Instr.index 73 (.agg #[.bool a0, .bool a1, .bool a2, .bool a3, .bool a4]) (.int .i64 0)).run Try.prog w = .ok (.bool a0) w := fun _ => by kernel_rfl
            have hy2 := Lib.hid hy.1
            clear hy e0
            cases a0 <;>
            · go_wp2
              exact ⟨⟨1, by omega, rfl, by rw [hy2.out]; rfl, rfl⟩, by simp [intOf]⟩
          · have hix : ∀ w, (Instr.index 73 (.agg #[.bool a0, .bool a1, .bool a2, .bool a3, .bool a4]) (.int .i64 1)).run Try.prog w = .ok (.bool a1) w := fun _ => by kernel_rfl
            obtain ⟨N, hN⟩ : ∃ N, X.votes 1 = N := ⟨_, rfl⟩
            rw [hN] at hy le1 ⊢
            have hy2 := Lib.hid hy.2.1
            clear hy hN
            cases a1 <;>
            · go_wp2
              exact ⟨⟨2, by omega, rfl, by rw [hy2.out]; simp, rfl⟩, by simp [intOf]⟩
          · have hix : ∀ w, (Instr.index 73 (.agg #[.bool a0, .bool a1, .bool a2, .bool a3, .bool a4]) (.int .i64 2)).run Try.prog w = .ok (.bool a2) w := fun _ => by kernel_rfl
            obtain ⟨N, hN⟩ : ∃ N, X.votes 2 = N := ⟨_, rfl⟩
            rw [hN] at hy le2 ⊢
            have hy2 := Lib.hid hy.2.2.1
            clear hy hN
            cases a2 <;>
            · go_wp2
              exact ⟨⟨3, by omega, rfl, by rw [hy2.out]; simp, rfl⟩, by simp [intOf]⟩
          · have hix : ∀ w, (Instr.index 73 (.agg #[.bool a0, .bool a1, .bool a2, .bool a3, .bool a4]) (.int .i64 3)).run Try.prog w = .ok (.bool a3) w := fun _ => by kernel_rfl
            obtain ⟨N, hN⟩ : ∃ N, X.votes 3 = N := ⟨_, rfl⟩
            rw [hN] at hy le3 ⊢
            have hy2 := Lib.hid hy.2.2.2.1
            clear hy hN
            cases a3 <;>
            · go_wp2
              exact ⟨⟨4, by omega, rfl, by rw [hy2.out]; simp, rfl⟩, by simp [intOf]⟩
          · have hix : ∀ w, (Instr.index 73 (.agg #[.bool a0, .bool a1, .bool a2, .bool a3, .bool a4]) (.int .i64 4)).run Try.prog w = .ok (.bool a4) w := fun _ => by kernel_rfl
            obtain ⟨N, hN⟩ : ∃ N, X.votes 4 = N := ⟨_, rfl⟩
            rw [hN] at hy le4 ⊢
            have hy2 := Lib.hid hy.2.2.2.2
            clear hy hN
            cases a4 <;>
            · go_wp2
              exact ⟨⟨5, by omega, rfl, by rw [hy2.out]; simp, rfl⟩, by simp [intOf]⟩
    · have evo : b.vote' m = b := if_neg (fun q => hg q.2)
      have HEV : Hid ((b.vote' m).sent = (b, [])) := by
        rw [evo]
        exact Bs.sent_so b ok.out
      have hg' : m.good = false := by simpa using hg
      have HP : Hid (Po w W A S b [] (.slice none 0 0)) := Po.step hfw (Po.none hA)
      rw [hg'] at m7
      rw [hr] at c2
      clear hv hB hA hfw evo h hg hg' hr
      go_enter Try.func75, Try.ntmps75
      go_upto_region 1 with fail
      rw [← HW.out]
      go_wp2
      go_ret
      rw [HEV.out]
      exact ⟨_, rfl, HP.out⟩
  · have evo : b.vote' m = b := if_neg (fun q => hr q.1)
    have HEV : Hid ((b.vote' m).sent = (b, [])) := by
      rw [evo]
      exact Bs.sent_so b ok.out
    have HP : Hid (Po w W A S b [] (.slice none 0 0)) := Po.step hfw (Po.none hA)
    clear hv hB hA hfw evo h
    go_enter Try.func75, Try.ntmps75
    go_upto_region 1 with fail
    rw [← HW.out]
    go_wp2
    go_ret
    rw [HEV.out]
    exact ⟨_, rfl, HP.out⟩
end
end Go.Proofs.Ytmiagjcihmenfaa
/- The walk of the program's refuse. -/
namespace Go.Proofs.Ytmiagjcihmenfaa
open Go.RowKit

section
variable {w w' : World} {A : Nat} {S T : Nat → Prop} {b : Bs} {lv : Value} {pf : Int}
theorem sent_one (b : Bs) (m : Ms) (h : b.out = []) : (b.send m).sent = (b, [mk b m]) := by
  unfold Bs.sent Bs.send
  simp only [h, List.nil_append]
  rw [out_self h]
theorem fed_po (h : Pb w A S b) (tt i : Int) (good : Bool) : Calls Try.prog 73 #[.pointer (some ⟨A, 0, none⟩), .int .i64 tt, .bool good, .int .i64 i] w fun e w' => ∃ ov, e = .returned ov ∧ Po w w' A S b [mk b { ms0 with kind := 4, tgt := tt, good := good, index := i }] ov := by
  refine (fed_any h tt good i).mono ?_
  rintro e w' ⟨ov, rfl, q1, q2⟩
  exact ⟨ov, rfl, Po.of (O := [(_, .slice none 0 0)]) (h.on q1) (Fr.ofBelow S q1) h.lt rfl (Ou.one q2 rfl)⟩
theorem voted_po (h : Pb w A S b) (tt : Int) (good : Bool) : Calls Try.prog 72 #[.pointer (some ⟨A, 0, none⟩), .int .i64 tt, .bool good] w fun e w' => ∃ ov, e = .returned ov ∧ Po w w' A S b [mk b { ms0 with kind := 2, tgt := tt, good := good }] ov := by
  refine (voted_any h tt good).mono ?_
  rintro e w' ⟨ov, rfl, q1, q2⟩
  exact ⟨ov, rfl, Po.of (O := [(_, .slice none 0 0)]) (h.on q1) (Fr.ofBelow S q1) h.lt rfl (Ou.one q2 rfl)⟩
set_option maxHeartbeats 1000000 in
set_option maxRecDepth 100000 in
theorem refuse_p (h : Pb w A S b) (ho : b.out = []) (m : Ms) (mv : Value) (hk1 : 1 ≤ m.kind) (hk5 : m.kind ≤ 5) : Calls Try.prog 48 #[.pointer (some ⟨A, 0, none⟩), msV m mv] w fun e w' => ∃ ov, e = .returned ov ∧ Po w w' A S (b.old m).sent.1 (b.old m).sent.2 ov := by
  obtain ⟨W, hB⟩ := Bx.mk' h m mv
  have hA := hB.pb
  have HW := Lib.hid hB.eq
  have hfw : Fr w W S := Fr.ofBelow S hB.bel
  have m0 : W.cell? ⟨w.heap.size, 0, none⟩ = some (.int .i64 m.kind) := cell_blk hB.blk 0
  have m1 : W.cell? ⟨w.heap.size, 1, none⟩ = some (.int .i64 m.fr) := cell_blk hB.blk 1
  obtain ⟨lv, pf, hv⟩ := hA
  have hA : Pb W A S b := ⟨lv, pf, hv⟩
  have c5 : W.cell? ⟨A, 5, none⟩ = some (.int .i64 b.last) := hv.cell 5
  by_cases e1 : m.kind = 1
  · have eo : (b.old m).sent = (b, [mk b { ms0 with kind := 2, tgt := m.fr }]) := by
      unfold Bs.old
      rw [if_pos e1]
      exact sent_one b _ ho
    have hcall : Calls Try.prog 72 #[.pointer (some ⟨A, 0, none⟩), .int .i64 m.fr, .bool false] W fun e w' => ∃ ov, e = .returned ov ∧ Po w w' A S (b.old m).sent.1 (b.old m).sent.2 ov := by
      refine (voted_po hA m.fr false).mono ?_
      rintro e w' ⟨ov, rfl, q⟩
      rw [eo]
      exact ⟨ov, rfl, Po.step hfw q⟩
    rw [e1] at m0
    have HC := Lib.hid hcall
    clear hv hB hA hfw eo h e1 hcall hk1 hk5
    go_enter Try.func48, Try.ntmps48
    go_upto_region 1 with fail
    rw [← HW.out]
    go_wp2_with fail
    refine HC.out.mono ?_
    rintro e' w' ⟨ov, rfl, q⟩
    have HQ := Lib.hid q
    clear q HC
    go_wp2
    go_ret
    exact ⟨ov, rfl, HQ.out⟩
  · by_cases e3 : m.kind = 3 ∨ m.kind = 5
    · have eo : (b.old m).sent = (b, [mk b { ms0 with kind := 4, tgt := m.fr, index := b.last }]) := by
        unfold Bs.old
        rw [if_neg e1, if_pos e3]
        exact sent_one b _ ho
      have hcall : ∀ n, Calls Try.prog 73 #[.pointer (some ⟨A, 0, none⟩), .int .i64 m.fr, .bool false, .int .i64 b.last] (W.drewN n) fun e w' => ∃ ov, e = .returned ov ∧ Po w w' A S (b.old m).sent.1 (b.old m).sent.2 ov := by
        intro n
        refine (fed_po (hA.drewN n) m.fr b.last false).mono ?_
        rintro e w' ⟨ov, rfl, q⟩
        rw [eo]
        exact ⟨ov, rfl, Po.step (hfw.drewN n) q⟩
      have HC := Lib.hid hcall
      rcases e3 with e3 | e3
      all_goals
        rw [e3] at m0
        clear hv hB hA hfw eo h e1 e3 hcall hk1 hk5
        go_enter Try.func48, Try.ntmps48
        go_upto_region 1 with fail
        rw [← HW.out]
        go_wp2
        go_region_with (go_at_call 73; refine (HC.out _).mono ?_; rintro e' w' ⟨ov, rfl, q⟩)
        all_goals
          have HQ := Lib.hid q
          clear q
          go_wp2
          go_ret
          exact ⟨ov, rfl, HQ.out⟩
    · have eo : (b.old m).sent = (b, []) := by
        unfold Bs.old
        rw [if_neg e1, if_neg e3]
        exact Bs.sent_so b ho
      have HP : Hid (Po w W A S (b.old m).sent.1 (b.old m).sent.2 (.slice none 0 0)) := by
        rw [eo]
        exact Po.step hfw (Po.none hA)
      have ek : m.kind = 2 ∨ m.kind = 4 := by omega
      rcases ek with ek | ek
      all_goals
        rw [ek] at m0
        clear hv hB hA hfw eo h e1 e3 ek hk1 hk5
        go_enter Try.func48, Try.ntmps48
        go_upto_region 1 with fail
        rw [← HW.out]
        go_wp2
        go_ret
        exact ⟨_, rfl, HP.out⟩
end
end Go.Proofs.Ytmiagjcihmenfaa
/- The walk of the program's takeGive. -/
namespace Go.Proofs.Ytmiagjcihmenfaa
open Go.RowKit

section
variable {w w' : World} {A : Nat} {S T : Nat → Prop} {b : Bs} {lv : Value} {pf : Int}
/-- A snapshot is taken over. -/
def gvC (b : Bs) (m : Ms) : Bs := { ({ b with role := 0, lead := m.fr } : Bs).rebase m.index m.prev m.snap (if b.termAt m.index = m.prev then b.log.drop (m.index - b.base).toNat else []) with commit := m.index }
theorem given_eq (b : Bs) (m : Ms) (ho : b.out = []) (hr : b.role ≠ 2) : (b.given m).sent = if b.commit < m.index then (gvC b m, [mk b { ms0 with kind := 4, tgt := m.fr, good := true, index := m.index }]) else ({ b with role := 0, lead := m.fr }, [mk b { ms0 with kind := 4, tgt := m.fr, good := true, index := m.index }]) := by
  unfold Bs.given
  rw [if_neg hr]
  by_cases h : b.commit < m.index
  · rw [if_pos h]
    simp only
    rw [if_pos h]
    exact sent_one (gvC b m) _ ho
  · rw [if_neg h]
    simp only
    rw [if_neg h]
    exact sent_one { b with role := 0, lead := m.fr } _ ho
set_option maxHeartbeats 1000000 in
set_option maxRecDepth 100000 in
theorem takeGive_p (h : Pb w A S b) (ok : Ok b) (m : Ms) (mv : Value) (hi1 : m.index ≤ 1099511627776) (hp0 : 0 ≤ m.prev) : Calls Try.prog 78 #[.pointer (some ⟨A, 0, none⟩), msV m mv] w fun e w' => ∃ ov, e = .returned ov ∧ Po w w' A S (b.given m).sent.1 (b.given m).sent.2 ov := by
  have hlt := h.lt
  obtain ⟨W, hB⟩ := Bx.mk' h m mv
  have hA := hB.pb
  have HW := Lib.hid hB.eq
  have hfw : Fr w W S := Fr.ofBelow S hB.bel
  obtain ⟨lv, pf, hv⟩ := hA
  have hA : Pb W A S b := ⟨lv, pf, hv⟩
  have c2 : W.cell? ⟨A, 2, none⟩ = some (.int .i64 b.role) := hv.cell 2
  by_cases hr : b.role = 2
  · have eg : (b.given m).sent = (b, []) := by
      unfold Bs.given
      rw [if_pos hr]
      exact Bs.sent_so b ok.out
    have HP : Hid (Po w W A S (b.given m).sent.1 (b.given m).sent.2 (.slice none 0 0)) := by
      rw [eg]
      exact Po.step hfw (Po.none hA)
    rw [hr] at c2
    clear hv hB hA hfw eg h hr
    go_enter Try.func78, Try.ntmps78
    go_upto_region 1 with fail
    rw [← HW.out]
    go_wp2
    go_ret
    exact ⟨_, rfl, HP.out⟩
  · have m1 : W.cell? ⟨w.heap.size, 1, none⟩ = some (.int .i64 m.fr) := cell_blk hB.blk 1
    have hfo := follow_any hA m.fr
    have HB := Lib.hid hB
    have HEQ := Lib.hid (given_eq b m ok.out hr)
    have hI := ok.inv
    clear hv hB hA h
    go_enter Try.func78, Try.ntmps78
    go_upto_region 1 with fail
    rw [← HW.out]
    go_wp2_with fail
    refine hfo.mono ?_
    rintro e1 w1 ⟨rfl, p1, f1⟩
    clear hfo m1 c2
    have hmb := HB.out.stay hlt f1
    have hf1 : Fr w w1 S := hfw.trans f1
    have k1 : w1.cell? ⟨w.heap.size, 1, none⟩ = some (.int .i64 m.fr) := cell_blk hmb 1
    have k4 : w1.cell? ⟨w.heap.size, 4, none⟩ = some (.int .i64 m.index) := cell_blk hmb 4
    have k5 : w1.cell? ⟨w.heap.size, 5, none⟩ = some (.int .i64 m.prev) := cell_blk hmb 5
    have k9 : w1.cell? ⟨w.heap.size, 9, none⟩ = some (.string m.snap) := cell_blk hmb 9
    obtain ⟨X, hX⟩ : ∃ X, ({ b with role := 0, lead := m.fr } : Bs) = X := ⟨_, rfl⟩
    rw [hX] at p1
    have hXb : X.base = b.base ∧ X.commit = b.commit ∧ X.log = b.log ∧ X.last = b.last ∧ X.id = b.id ∧ X.term = b.term := by rw [← hX]; exact ⟨rfl, rfl, rfl, rfl, rfl, rfl⟩
    obtain ⟨lv1, pf1, hv1⟩ := p1
    have c6 : w1.cell? ⟨A, 6, none⟩ = some (.int .i64 b.commit) := by rw [← hXb.2.1]; exact hv1.cell 6
    have hlt1 := hv1.lt
    by_cases hc : b.commit < m.index
    · have heq := HEQ.out
      rw [if_pos hc] at heq
      have hI0 := hI.b0
      have hIc := hI.bc
      have hhas := fun n => has_any (Pb.drewN ⟨lv1, pf1, hv1⟩ n) m.index m.prev
      have eX : mk b { ms0 with kind := 4, tgt := m.fr, good := true, index := m.index } = mk (gvC b m) { ms0 with kind := 4, tgt := m.fr, good := true, index := m.index } := rfl
      -- what is left to be done, from the list of entries on
      have hend : ∀ V L ad cap, Fr w1 V S → V.heap[A]? = some (.cells (pC X lv1 pf1) 78 (0, 0)) → Lg V L (.slice ad L.length cap) → (∀ k, lgB (.slice ad L.length cap) = some k → S k) → L.length ≤ 900000 → (L = if b.termAt m.index = m.prev then b.log.drop (m.index - b.base).toNat else []) →
          Calls Try.prog 52 #[.pointer (some ⟨A, 0, none⟩), .int .i64 m.index, .int .i64 m.prev, .string m.snap, .slice ad L.length cap] V fun e w' => e = .returned (.tuple #[]) ∧ Pb w' A S (gvC b m) ∧ Fr w w' S ∧ w'.heap[w.heap.size]? = some (msO m mv) := by
        intro V L ad cap q1 q2 q3 q4 q5 q6
        refine (rebase_p (tm := m.prev) (snap := m.snap) q2 q3 hv1.covA q4 (fun k hk => Nat.lt_of_lt_of_le (hlt1 k hk) q1.size) q5 (by omega) (by omega) hv1.idl hv1.sz).mono ?_
        rintro e w' ⟨rfl, r1, r2⟩
        refine ⟨rfl, ?_, hf1.trans (q1.trans r2), ?_⟩
        · have : gvC b m = { X.rebase m.index m.prev m.snap L with commit := max X.commit m.index } := by
            unfold gvC
            rw [q6, hX, hXb.2.1, show max b.commit m.index = m.index by omega]
          rw [this]
          exact r1
        · exact ((q1.trans r2).block _ (blk_lt hmb) (fun q => by have := hlt _ q; omega)).trans hmb
      have hgo : ∀ V, Pb V A S (gvC b m) → Fr w V S → Calls Try.prog 73 #[.pointer (some ⟨A, 0, none⟩), .int .i64 m.fr, .bool true, .int .i64 m.index] V fun e w' => ∃ ov, e = .returned ov ∧ Po w w' A S (b.given m).sent.1 (b.given m).sent.2 ov := by
        intro V q1 q2
        refine (fed_po q1 m.fr m.index true).mono ?_
        rintro e w' ⟨ov, rfl, q⟩
        rw [heq, eX]
        exact ⟨ov, rfl, Po.step q2 q⟩
      have HG := Lib.hid hgo
      by_cases hh : b.base ≤ m.index ∧ m.index ≤ b.last ∧ b.termAt m.index = m.prev
      · have hhX : X.base ≤ m.index ∧ m.index ≤ X.last ∧ X.termAt m.index = m.prev := by
          rw [hXb.1, hXb.2.2.2.1]
          exact ⟨hh.1, hh.2.1, by rw [← hX]; exact hh.2.2⟩
        have hbeh := fun n => behind_any (hv1.on (below_draw (Below.refl _ w1) n)) (i := m.index) hhX.1 hhX.2.1
        rw [decide_eq_true hhX] at hhas
        rw [hXb.1, hXb.2.2.1] at hbeh
        have hreb : ∀ n, Calls Try.prog 54 #[.pointer (some ⟨A, 0, none⟩), .int .i64 m.index] (w1.drewN n) fun e w' => ∃ ad cap, e = .returned (.slice ad (b.log.drop (m.index - b.base).toNat).length cap) ∧ w'.cell? ⟨w.heap.size, 4, none⟩ = some (.int .i64 m.index) ∧ w'.cell? ⟨w.heap.size, 5, none⟩ = some (.int .i64 m.prev) ∧ w'.cell? ⟨w.heap.size, 9, none⟩ = some (.string m.snap) ∧ Calls Try.prog 52 #[.pointer (some ⟨A, 0, none⟩), .int .i64 m.index, .int .i64 m.prev, .string m.snap, .slice ad (b.log.drop (m.index - b.base).toNat).length cap] w' fun e w' => e = .returned (.tuple #[]) ∧ Pb w' A S (gvC b m) ∧ Fr w w' S ∧ w'.heap[w.heap.size]? = some (msO m mv) := by
          intro n
          refine (hbeh n).mono ?_
          rintro e w' ⟨ad, cap, rfl, q1, q2, q3⟩
          have hl : (b.log.drop (m.index - b.base).toNat).length = b.log.length - (m.index - b.base).toNat := by simp
          have hfS : Fr w1 w' S := ((Fr.refl w1 S).drewN n).step (q2.mono (fun k hk => hv1.cov k hk)) (fun k hk => .inl hk)
          have hm' := (hfS.block _ (blk_lt hmb) (fun q => by have := hlt _ q; omega)).trans hmb
          rw [hl]
          refine ⟨ad, cap, rfl, cell_blk hm' 4, cell_blk hm' 5, cell_blk hm' 9, ?_⟩
          rw [← hl]
          refine hend w' _ ad cap hfS ?_ (by rw [hl]; exact q1) (fun k hk => hv1.cov k (q3 k (by rw [← hl]; exact hk))) ?_ ?_
          · exact (q2.block A (hlt1 A hv1.covA) (fun q => hv1.neA A q rfl)).trans hv1.ob
          · have := hv1.len
            rw [hXb.2.2.1] at this
            simp
            omega
          · rw [if_pos hh.2.2]
        obtain ⟨L, hL⟩ : ∃ L, b.log.drop (m.index - b.base).toNat = L := ⟨_, rfl⟩
        rw [hL] at hreb
        have HR := Lib.hid hreb
        have HHA := Lib.hid hhas
        clear hv1 hbeh hreb hend hgo hhas hhX hh heq eX hX hmb hf1 f1 hXb hL hI0 hIc hI
        go_wp2
        go_quiet (fail)
        go_wp2_with fail
        refine (HHA.out _).mono ?_
        rintro e2 w2 ⟨rfl, n2, rfl⟩
        rw [World.drewN_drewN]
        go_wp2_with fail
        refine (HR.out _).mono ?_
        rintro e3 w3 ⟨ad, cap, rfl, j4, j5, j9, hc3⟩
        go_wp2_with fail
        refine hc3.mono ?_
        rintro e4 w4 ⟨rfl, s1, s2, s3⟩
        have j1 : w4.cell? ⟨w.heap.size, 1, none⟩ = some (.int .i64 m.fr) := cell_blk s3 1
        have j44 : w4.cell? ⟨w.heap.size, 4, none⟩ = some (.int .i64 m.index) := cell_blk s3 4
        have hcall := HG.out w4 s1 s2
        clear s1 s2 s3 hc3
        go_wp2_with fail
        refine hcall.mono ?_
        rintro e' w' ⟨ov, rfl, q⟩
        have HQ := Lib.hid q
        clear q hcall
        go_wp2
        go_ret
        exact ⟨ov, rfl, HQ.out⟩
      · have hhX : ¬ (X.base ≤ m.index ∧ m.index ≤ X.last ∧ X.termAt m.index = m.prev) := by
          rw [hXb.1, hXb.2.2.2.1]
          exact fun q => hh ⟨q.1, q.2.1, by rw [← hX] at q; exact q.2.2⟩
        have ht : b.termAt m.index ≠ m.prev := by
          intro q
          by_cases hl : m.index ≤ b.last
          · exact hh ⟨by omega, hl, q⟩
          · rw [Bs.termAt_none (.inr (by omega))] at q
            omega
        rw [decide_eq_false hhX] at hhas
        have hreb : ∀ n, Calls Try.prog 52 #[.pointer (some ⟨A, 0, none⟩), .int .i64 m.index, .int .i64 m.prev, .string m.snap, .slice none 0 0] (w1.drewN n) fun e w' => e = .returned (.tuple #[]) ∧ Pb w' A S (gvC b m) ∧ Fr w w' S ∧ w'.heap[w.heap.size]? = some (msO m mv) := by
          intro n
          exact hend (w1.drewN n) [] none 0 ((Fr.refl w1 S).drewN n) hv1.ob (Lg.nil _) (fun k hk => by rw [lgB_zero] at hk; cases hk) (Nat.zero_le _) (by rw [if_neg ht])
        have HR := Lib.hid hreb
        have HHA := Lib.hid hhas
        clear hv1 hreb hend hgo hhas hhX hh heq eX hX hmb hf1 f1 hXb hI0 hIc hI ht
        go_wp2
        go_quiet (fail)
        go_wp2_with fail
        refine (HHA.out _).mono ?_
        rintro e2 w2 ⟨rfl, n2, rfl⟩
        rw [World.drewN_drewN]
        go_wp2_with fail
        refine (HR.out _).mono ?_
        rintro e4 w4 ⟨rfl, s1, s2, s3⟩
        have j1 : w4.cell? ⟨w.heap.size, 1, none⟩ = some (.int .i64 m.fr) := cell_blk s3 1
        have j44 : w4.cell? ⟨w.heap.size, 4, none⟩ = some (.int .i64 m.index) := cell_blk s3 4
        have hcall := HG.out w4 s1 s2
        clear s1 s2 s3
        go_wp2_with fail
        refine hcall.mono ?_
        rintro e' w' ⟨ov, rfl, q⟩
        have HQ := Lib.hid q
        clear q hcall
        go_wp2
        go_ret
        exact ⟨ov, rfl, HQ.out⟩
    · have heq := HEQ.out
      rw [if_neg hc, hX] at heq
      have hcall : ∀ n, Calls Try.prog 73 #[.pointer (some ⟨A, 0, none⟩), .int .i64 m.fr, .bool true, .int .i64 m.index] (w1.drewN n) fun e w' => ∃ ov, e = .returned ov ∧ Po w w' A S (b.given m).sent.1 (b.given m).sent.2 ov := by
        intro n
        refine (fed_po (Pb.drewN ⟨lv1, pf1, hv1⟩ n) m.fr m.index true).mono ?_
        rintro e w' ⟨ov, rfl, q⟩
        rw [heq]
        refine ⟨ov, rfl, Po.step (hf1.drewN n) ?_⟩
        rw [show mk b { ms0 with kind := 4, tgt := m.fr, good := true, index := m.index } = mk X { ms0 with kind := 4, tgt := m.fr, good := true, index := m.index } by unfold mk; rw [hXb.2.2.2.2.1, hXb.2.2.2.2.2]]
        exact q
      have HC := Lib.hid hcall
      clear hv1 hcall heq hX hmb hf1 f1 hXb
      go_wp2
      go_quiet (fail)
      go_wp2_with fail
      refine (HC.out _).mono ?_
      rintro e' w' ⟨ov, rfl, q⟩
      have HQ := Lib.hid q
      clear q
      go_wp2
      go_ret
      exact ⟨ov, rfl, HQ.out⟩
end
end Go.Proofs.Ytmiagjcihmenfaa
/- The walk of the program's adopt. -/
namespace Go.Proofs.Ytmiagjcihmenfaa
open Go.RowKit

section
variable {w w' : World} {A : Nat} {S T : Nat → Prop} {b : Bs} {lv : Value} {pf : Int}
theorem Es.dropped {L : List En} {bk o cap k : Nat} (h : Es w S L (.slice (some ⟨bk, o, none⟩) L.length cap)) (hk : k ≤ L.length) : Es w S (L.drop k) (.slice (some ⟨bk, o + k * 4, none⟩) (L.length - k) (cap - k)) := by
  obtain ⟨ad', cap', e, h0, h1, h2, h3⟩ := h
  cases e
  refine ⟨some ⟨bk, o + k * 4, none⟩, cap - k, (by rw [List.length_drop]), (fun q => by cases q), (by rw [List.length_drop]; omega), (by omega), fun i hi => ?_⟩
  rw [List.length_drop] at hi
  obtain ⟨bk', o', ha, hl, hS, c0, c1, c2, c3⟩ := h3 (k + i) (by omega)
  cases ha
  have e : (L.drop k)[i]'(by rw [List.length_drop]; exact hi) = L[k + i] := List.getElem_drop ..
  rw [e]
  refine ⟨bk, o + k * 4, rfl, hl, hS, ?_, ?_, ?_, ?_⟩
  · rw [show o + k * 4 + i * 4 = o + (k + i) * 4 by omega]; exact c0
  · rw [show o + k * 4 + i * 4 + 1 = o + (k + i) * 4 + 1 by omega]; exact c1
  · rw [show o + k * 4 + i * 4 + 2 = o + (k + i) * 4 + 2 by omega]; exact c2
  · rw [show o + k * 4 + i * 4 + 3 = o + (k + i) * 4 + 3 by omega]; exact c3
def AD (X : Bs) (st : Int) (l : List En) (w wr : World) (iv : Value) : Prop := ∃ k : Nat, k ≤ l.length ∧ iv = .int .i64 (k : Nat) ∧ Below w.heap.size w wr ∧ st + k ≤ X.last ∧ X.lay (st + 1) l = X.lay (st + 1 + k) (l.drop k)
set_option maxHeartbeats 1000000 in
set_option maxRecDepth 100000 in
theorem adopt_p {X : Bs} (h : Pb w A S X) {l : List En} {ad : Option Addr} {cap : Nat} (hl : Es w S l (.slice ad l.length cap)) {st : Int} (h1 : X.base ≤ X.commit) (h2 : X.commit ≤ st) (h3 : st ≤ X.last) (hz : X.log.length + l.length ≤ 900000) :
    Calls Try.prog 84 #[.pointer (some ⟨A, 0, none⟩), .int .i64 st, .slice ad l.length cap] w fun e w' => e = .returned (.tuple #[]) ∧ Pt w w' A S (X.lay (st + 1) l) := by
  have hlt := h.lt
  obtain ⟨l1, b0, b1⟩ := h.len
  have hll : X.last ≤ 4398047411104 := by unfold Bs.last; omega
  have hlc : l.length ≤ cap := by
    obtain ⟨_, cap', e, q, _⟩ := hl.shape
    cases e
    exact q
  have HH := Lib.hid h
  have HL := Lib.hid hl
  clear h hl
  go_enter Try.func84, Try.ntmps84
  go_wp2
  go_loopw [11] (fun iv wr => AD X st l w wr iv) (fun iv _ => l.length - (intOf iv).toNat)
  case atStart => exact ⟨0, Nat.zero_le _, rfl, Below.refl _ _, by omega, by simp⟩
  case round =>
    obtain ⟨k, hk, rfl, hb, hkl, hlay⟩ := hrel
    have hP := HH.out.on hb
    have hE := HL.out.on hb
    by_cases hlt2 : k < l.length
    · have k0 : (0 : Int) ≤ k := by omega
      have k1 : (k : Int) < l.length := by omega
      obtain ⟨ad', cp', e, _, _, _, h3'⟩ := hE
      cases e
      obtain ⟨bk, o, rfl, hbl, hbS, x0, x1, x2, x3⟩ := h3' k hlt2
      have hE := HL.out.on hb
      obtain ⟨en, hen⟩ : ∃ en, l[k] = en := ⟨_, rfl⟩
      rw [hen] at x0 x1 x2 x3
      have hdr : l.drop k = en :: l.drop (k + 1) := by rw [List.drop_eq_getElem_cons hlt2, hen]
      obtain ⟨i, hi⟩ : ∃ i, st + 1 + (k : Int) = i := ⟨_, rfl⟩
      rw [hi, hdr] at hlay
      have hal : Below wr.heap.size wr (wr.alloc (enO en)) := (Below.refl _ wr).alloc (Nat.le_refl _) _
      have hhas := has_any (hP.on hal) i en.term
      have w1 : IntKind.i64.wrap (st + 1) = st + 1 := by rw [IntKind.wrap_i64]; omega
      have w1' : wrap64 (st + 1) = st + 1 := IntWalk.wrap64_in _ ⟨by omega, by omega⟩
      have w2 : IntKind.i64.wrap (st + 1 + (k : Int)) = i := by rw [IntKind.wrap_i64]; omega
      have w2' : wrap64 (st + 1 + (k : Int)) = i := (IntWalk.wrap64_in _ ⟨by omega, by omega⟩).trans hi
      by_cases hh : X.base ≤ i ∧ i ≤ X.last ∧ X.termAt i = en.term
      · rw [decide_eq_true hh] at hhas
        have HN : Hid (∀ n, AD X st l w ((wr.alloc (enO en)).drewN n) (.int .i64 ((k : Int) + 1))) := by
          intro n
          refine ⟨k + 1, hlt2, by simp, below_draw (hb.trans (hal.mono hb.size)) n, by omega, ?_⟩
          rw [hlay]
          have : X.lay i (en :: l.drop (k + 1)) = X.lay (i + 1) (l.drop (k + 1)) := by
            show (if X.commit < i ∧ (X.last < i ∨ X.termAt i ≠ en.term) then _ else _) = _
            rw [if_neg (fun q => by rcases q.2 with z | z; omega; exact z hh.2.2)]
          rw [this, ← hi]
          congr 1
          simp
          omega
        clear hP hE h3' hlay hdr hen hal hb hbl hbS hi hh
        go_wp2_with fail
        refine hhas.mono ?_
        rintro e1 w2 ⟨rfl, n2, rfl⟩
        clear hhas
        go_wp2
        exact ⟨HN.out n2, by simp [intOf]; omega⟩
      · rw [decide_eq_false hh] at hhas
        have hcap2 : ¬ cap = k := by omega
        have hput : ∀ n, Calls Try.prog 70 #[.pointer (some ⟨A, 0, none⟩), .int .i64 i, .slice (some ⟨bk, o + k * 4, none⟩) (l.length - k) (cap - k)] ((wr.alloc (enO en)).drewN n) fun e w' => e = .returned (.tuple #[]) ∧ Pt w w' A S (X.lay (st + 1) l) := by
          intro n
          have hbn : Below wr.heap.size wr ((wr.alloc (enO en)).drewN n) := below_draw hal n
          have hd := (hE.dropped (k := k) hk).on hbn
          have hld : (l.drop k).length = l.length - k := by simp
          rw [← hld] at hd ⊢
          refine (put_p (i := i) (l := l.drop k) (hP.on hbn) (by omega) (by omega) hd (by rw [hld]; omega)).mono ?_
          rintro e w' ⟨rfl, hT⟩
          refine ⟨rfl, ?_⟩
          have : X.lay i (en :: l.drop (k + 1)) = X.put i (l.drop k) := by
            show (if X.commit < i ∧ (X.last < i ∨ X.termAt i ≠ en.term) then X.put i (en :: l.drop (k + 1)) else _) = _
            rw [hdr, if_pos ⟨by omega, by
              by_cases z : X.last < i
              · exact .inl z
              · exact .inr (fun y => hh ⟨by omega, by omega, y⟩)⟩]
          rw [hlay, this]
          exact Pt.from (hb.trans (hbn.mono hb.size)) hT
        have HP := Lib.hid hput
        have kc : (k : Int) ≤ cap := by omega
        have kc2 : k ≤ cap := by omega
        have kl2 : k ≤ l.length := hk
        have kli : (k : Int) ≤ l.length := by omega
        clear hP hE h3' hlay hdr hen hal hb hbl hbS hi hh hput
        go_wp2_with fail
        refine hhas.mono ?_
        rintro e1 w2 ⟨rfl, n2, rfl⟩
        clear hhas
        go_wp2_with fail
        refine (HP.out _).mono ?_
        rintro e2 w3 ⟨rfl, hT⟩
        have HT := Lib.hid hT
        clear hT HP
        go_wp2
        refine bodyPost_ret (results_none rfl _ _ _) rfl ?_
        exact ⟨rfl, HT.out⟩
    · have k1 : ¬ (k : Int) < l.length := by omega
      have ek : k = l.length := by omega
      have HT : Hid (Pt w wr A S (X.lay (st + 1) l)) := by
        rw [hlay, ek, List.drop_length]
        exact Pt.same HH.out hb
      clear hP hE hlay hb
      go_wp2
      go_end0
      exact ⟨rfl, HT.out⟩
end
end Go.Proofs.Ytmiagjcihmenfaa
/- The walk of the program's takeFeed. -/
namespace Go.Proofs.Ytmiagjcihmenfaa
open Go.RowKit

section
variable {w w' : World} {A : Nat} {S T : Nat → Prop} {b : Bs} {lv : Value} {pf : Int}
theorem lay_skip (X : Bs) : ∀ (j : Nat) (i : Int) (l : List En), j ≤ l.length → i + j ≤ X.commit + 1 → X.lay i l = X.lay (i + j) (l.drop j)
  | 0, i, l, _, _ => by simp
  | j + 1, i, [], h, _ => by simp at h
  | j + 1, i, e :: l, h, hc => by
    have e1 : X.lay i (e :: l) = X.lay (i + 1) l := by
      show (if X.commit < i ∧ (X.last < i ∨ X.termAt i ≠ e.term) then _ else _) = _
      rw [if_neg (fun q => by have := q.1; omega)]
    rw [e1, lay_skip X j (i + 1) l (by simpa using h) (by omega)]
    simp only [List.drop_succ_cons]
    congr 1
    omega
theorem lay_same (X : Bs) : ∀ (l : List En) (i : Int), (X.lay i l).commit = X.commit ∧ (X.lay i l).id = X.id ∧ (X.lay i l).term = X.term ∧ (X.lay i l).out = X.out
  | [], i => ⟨rfl, rfl, rfl, rfl⟩
  | e :: l, i => by
    unfold Bs.lay
    split
    · exact ⟨rfl, rfl, rfl, rfl⟩
    · exact lay_same X l (i + 1)
theorem reach_same (X : Bs) (c : Int) : (X.reach c).id = X.id ∧ (X.reach c).term = X.term ∧ (X.reach c).out = X.out ∧ (X.reach c).log = X.log ∧ (X.reach c).base = X.base ∧ (X.reach c).size = X.size ∧ (X.reach c).commit = max X.commit c := by
  unfold Bs.reach
  split
  · exact ⟨rfl, rfl, rfl, rfl, rfl, rfl, by show c = max X.commit c; omega⟩
  · exact ⟨rfl, rfl, rfl, rfl, rfl, rfl, by omega⟩
theorem Pb.reach {X : Bs} (h : Pb w A S X) (c : Int) : Pb (w.setCell ⟨A, 6, none⟩ (.int .i64 (max X.commit c))) A S (X.reach c) ∧ Fr w (w.setCell ⟨A, 6, none⟩ (.int .i64 (max X.commit c))) S := by
  obtain ⟨r1, r2⟩ := h.setf (i := 6) (v := .int .i64 (max X.commit c)) (b' := { X with commit := max X.commit c }) (fun _ _ => rfl) rfl rfl (fun _ q => q) rfl rfl
  refine ⟨?_, r2⟩
  have : X.reach c = { X with commit := max X.commit c } := by
    unfold Bs.reach
    split
    · rw [show max X.commit c = c by omega]
    · rw [show max X.commit c = X.commit by omega]
  rw [this]
  exact r1
theorem entries_end (b : Bs) (m : Ms) (ho : b.out = []) (hr : b.role ≠ 2) (h1 : ¬ m.index + m.list.length ≤ b.commit) (h2 : ¬ (b.commit ≤ m.index ∧ b.termAt m.index ≠ m.prev)) {X : Bs} (hX : ({ b with role := 0, lead := m.fr } : Bs) = X) :
    (b.entries m).sent = ((X.lay (m.index + 1) m.list).reach (min m.commit (m.index + m.list.length)), [mk b { ms0 with kind := 4, tgt := m.fr, good := true, index := m.index + m.list.length }]) := by
  unfold Bs.entries
  rw [if_neg hr]
  simp only
  rw [if_neg h1, if_neg h2, hX]
  have hs := lay_same X m.list (m.index + 1)
  have hrr := reach_same (X.lay (m.index + 1) m.list) (min m.commit (m.index + m.list.length))
  have hXo : X.out = [] := by rw [← hX]; exact ho
  rw [sent_one _ _ (hrr.2.2.1.trans (hs.2.2.2.trans hXo))]
  have e1 : ((X.lay (m.index + 1) m.list).reach (min m.commit (m.index + m.list.length))).id = b.id := by rw [hrr.1, hs.2.1, ← hX]
  have e2 : ((X.lay (m.index + 1) m.list).reach (min m.commit (m.index + m.list.length))).term = b.term := by rw [hrr.2.1, hs.2.2.1, ← hX]
  unfold mk
  rw [e1, e2]
set_option maxHeartbeats 1000000 in
set_option maxRecDepth 100000 in
theorem takeFeed_a (h : Pb w A S b) (ok : Ok b) (m : Ms) {mad : Option Addr} {mcap : Nat} (hE : Es w S m.list (.slice mad m.list.length mcap)) (hz : b.log.length + m.list.length ≤ 900000) (hi0 : 0 ≤ m.index) (hi1 : m.index ≤ 1099511627776) (hq : b.role = 2 ∨ m.index + m.list.length ≤ b.commit) : Calls Try.prog 76 #[.pointer (some ⟨A, 0, none⟩), msV m (.slice mad m.list.length mcap)] w fun e w' => ∃ ov, e = .returned ov ∧ Po w w' A S (b.entries m).sent.1 (b.entries m).sent.2 ov := by
  have hlt := h.lt
  obtain ⟨W, hB⟩ := Bx.mk' h m (.slice mad m.list.length mcap)
  have hA := hB.pb
  have HW := Lib.hid hB.eq
  have hfw : Fr w W S := Fr.ofBelow S hB.bel
  obtain ⟨lv, pf, hv⟩ := hA
  have hA : Pb W A S b := ⟨lv, pf, hv⟩
  have c2 : W.cell? ⟨A, 2, none⟩ = some (.int .i64 b.role) := hv.cell 2
  by_cases hr : b.role = 2
  · have eg : (b.entries m).sent = (b, []) := by
      unfold Bs.entries
      rw [if_pos hr]
      exact Bs.sent_so b ok.out
    have HP : Hid (Po w W A S (b.entries m).sent.1 (b.entries m).sent.2 (.slice none 0 0)) := by
      rw [eg]
      exact Po.step hfw (Po.none hA)
    rw [hr] at c2
    clear hv hB hA hfw eg h hr
    go_enter Try.func76, Try.ntmps76
    go_upto_region 1 with fail
    rw [← HW.out]
    go_wp2
    go_ret
    exact ⟨_, rfl, HP.out⟩
  · have m1 : W.cell? ⟨w.heap.size, 1, none⟩ = some (.int .i64 m.fr) := cell_blk hB.blk 1
    have hfo := follow_any hA m.fr
    have HB := Lib.hid hB
    have hI := ok.inv
    have ho := ok.out
    obtain ⟨l1, b0, b1⟩ := h.len
    have hll : b.last ≤ 4398047411104 ∧ 0 ≤ b.last := by unfold Bs.last; omega
    have hcl := hI.cl
    have hbc := hI.bc
    clear hv hB hA h
    go_enter Try.func76, Try.ntmps76
    go_upto_region 1 with fail
    rw [← HW.out]
    go_wp2_with fail
    refine hfo.mono ?_
    rintro e1 w1 ⟨rfl, p1, f1⟩
    clear hfo m1 c2
    have hmb := HB.out.stay hlt f1
    have hf1 : Fr w w1 S := hfw.trans f1
    have hE1 := hE.stays (S' := S) hf1 (fun _ q => .inl q)
    have k1 : w1.cell? ⟨w.heap.size, 1, none⟩ = some (.int .i64 m.fr) := cell_blk hmb 1
    have k4 : w1.cell? ⟨w.heap.size, 4, none⟩ = some (.int .i64 m.index) := cell_blk hmb 4
    have k5 : w1.cell? ⟨w.heap.size, 5, none⟩ = some (.int .i64 m.prev) := cell_blk hmb 5
    have k6 : w1.cell? ⟨w.heap.size, 6, none⟩ = some (.int .i64 m.commit) := cell_blk hmb 6
    have k8 : w1.cell? ⟨w.heap.size, 8, none⟩ = some (.slice mad m.list.length mcap) := cell_blk hmb 8
    obtain ⟨X, hX⟩ : ∃ X, ({ b with role := 0, lead := m.fr } : Bs) = X := ⟨_, rfl⟩
    rw [hX] at p1
    have hXb : X.base = b.base ∧ X.commit = b.commit ∧ X.log = b.log ∧ X.last = b.last ∧ X.id = b.id ∧ X.term = b.term := by rw [← hX]; exact ⟨rfl, rfl, rfl, rfl, rfl, rfl⟩
    have hXt : ∀ i, X.termAt i = b.termAt i := by intro i; rw [← hX]; rfl
    have hmk : ∀ q, mk b q = mk X q := by intro q; unfold mk; rw [hXb.2.2.2.2.1, hXb.2.2.2.2.2]
    obtain ⟨lv1, pf1, hv1⟩ := p1
    have p1 : Pb w1 A S X := ⟨lv1, pf1, hv1⟩
    have c6 : w1.cell? ⟨A, 6, none⟩ = some (.int .i64 b.commit) := by rw [← hXb.2.1]; exact hv1.cell 6
    have c5 : w1.cell? ⟨A, 5, none⟩ = some (.int .i64 b.last) := by rw [← hXb.2.2.2.1]; exact hv1.cell 5
    obtain ⟨n, hn⟩ : ∃ n, m.list.length = n := ⟨_, rfl⟩
    obtain ⟨en, hen⟩ : ∃ en, m.index + (n : Int) = en := ⟨_, rfl⟩
    have w1e : IntKind.i64.wrap (m.index + (n : Int)) = en := by rw [IntKind.wrap_i64]; omega
    have w1e' : wrap64 (m.index + (n : Int)) = en := (IntWalk.wrap64_in _ ⟨by omega, by omega⟩).trans hen
    have hcalls : ∀ V tt i good Y, Pb V A S Y → Fr w V S → Y.id = b.id → Y.term = b.term → (b.entries m).sent = (Y, [mk b { ms0 with kind := 4, tgt := tt, good := good, index := i }]) → Calls Try.prog 73 #[.pointer (some ⟨A, 0, none⟩), .int .i64 tt, .bool good, .int .i64 i] V fun e w' => ∃ ov, e = .returned ov ∧ Po w w' A S (b.entries m).sent.1 (b.entries m).sent.2 ov := by
      intro V tt i good Y q1 q2 q3 q4 q5
      refine (fed_po q1 tt i good).mono ?_
      rintro e w' ⟨ov, rfl, q⟩
      rw [q5]
      refine ⟨ov, rfl, Po.step q2 ?_⟩
      have : mk b { ms0 with kind := 4, tgt := tt, good := good, index := i } = mk Y { ms0 with kind := 4, tgt := tt, good := good, index := i } := by unfold mk; rw [q3, q4]
      rw [this]
      exact q
    by_cases hc0 : en ≤ b.commit
    · have heq : (b.entries m).sent = (X, [mk b { ms0 with kind := 4, tgt := m.fr, good := true, index := en }]) := by
        unfold Bs.entries
        rw [if_neg hr]
        simp only
        rw [if_pos (by rw [hn, hen]; exact hc0), hX, hn, hen, sent_one X _ (by rw [← hX]; exact ho), hmk]
      have HC := Lib.hid (hcalls w1 m.fr en true X p1 hf1 hXb.2.2.2.2.1 hXb.2.2.2.2.2 heq)
      rw [hn] at k8
      clear hv1 hcalls heq hX hmb hf1 f1 hXb hXt hmk hn hen p1 hE hE1 hI ok
      go_wp2_with fail
      refine HC.out.mono ?_
      rintro e' w' ⟨ov, rfl, q⟩
      have HQ := Lib.hid q
      clear q
      go_wp2
      go_ret
      exact ⟨ov, rfl, HQ.out⟩
    · rcases hq with q | q
      · exact absurd q hr
      · exact absurd (show en ≤ b.commit by rw [← hen, ← hn]; exact q) hc0
end
end Go.Proofs.Ytmiagjcihmenfaa
