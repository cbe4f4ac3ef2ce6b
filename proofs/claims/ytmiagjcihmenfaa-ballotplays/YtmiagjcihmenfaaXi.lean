/- The walk of the program's takeFed. -/
import Derived.Test.YtmiagjcihmenfaaXh
import Derived.Test.YtmiagjcihmenfaaXQr
import Derived.Laws.EntriesVeiled
namespace Go.Proofs.Ytmiagjcihmenfaa
open Go.RowKit

section
variable {w w' : World} {A : Nat} {S T : Nat → Prop} {b : Bs} {lv : Value} {pf : Int}
theorem pC_next1 (b : Bs) (lv : Value) (pf : Int) {t : Nat} (ht : t < 5) (hl : b.next.length = 5) (x : Int) : (pC b lv pf).setIfInBounds (20 + t * 2) (.int .i64 x) = pC { b with next := b.next.set t x } lv pf := by
  unfold pC
  simp only [getD_setI _ _ _ _ (by omega : t < b.next.length), Bs.last]
  have : t = 0 ∨ t = 1 ∨ t = 2 ∨ t = 3 ∨ t = 4 := by omega
  rcases this with rfl | rfl | rfl | rfl | rfl <;> simp
theorem pC_mat1 (b : Bs) (lv : Value) (pf : Int) {t : Nat} (ht : t < 5) (hl : b.mat.length = 5) (x : Int) : (pC b lv pf).setIfInBounds (20 + t * 2 + 1) (.int .i64 x) = pC { b with mat := b.mat.set t x } lv pf := by
  unfold pC
  simp only [getD_setI _ _ _ _ (by omega : t < b.mat.length), Bs.last]
  have : t = 0 ∨ t = 1 ∨ t = 2 ∨ t = 3 ∨ t = 4 := by omega
  rcases this with rfl | rfl | rfl | rfl | rfl <;> simp
theorem Pb.next1 (h : Pb w A S b) {t : Nat} (ht : t < 5) (hl : b.next.length = 5) (x : Int) : Pb (w.setCell ⟨A, 20 + t * 2, none⟩ (.int .i64 x)) A S { b with next := b.next.set t x } ∧ Fr w (w.setCell ⟨A, 20 + t * 2, none⟩ (.int .i64 x)) S :=
  h.setf (fun lv pf => pC_next1 b lv pf ht hl x) rfl rfl (fun _ q => q) rfl rfl
theorem Pb.mat1 (h : Pb w A S b) {t : Nat} (ht : t < 5) (hl : b.mat.length = 5) (x : Int) : Pb (w.setCell ⟨A, 20 + t * 2 + 1, none⟩ (.int .i64 x)) A S { b with mat := b.mat.set t x } ∧ Fr w (w.setCell ⟨A, 20 + t * 2 + 1, none⟩ (.int .i64 x)) S :=
  h.setf (fun lv pf => pC_mat1 b lv pf ht hl x) rfl rfl (fun _ q => q) rfl rfl
theorem less_ld (ok : Ok b) (hr : b.role = 2) {f : Nat} (hf : f < b.size) (i : Int) : (b.less f i).Ld ∧ (b.less f i).next.getD f 0 ≤ b.last + 1 := by
  have hl := ok.ld hr
  have hn := ok.inv.nx
  have hs := ok.inv.sz
  have h1 := hl.nx f hf
  have h2 := hl.mt f hf
  have h3 := hl.lo f hf
  have key : ∀ k, (b.less f i).next.getD k 0 = if k = f then max (min (i + 1) (b.next.getD f 0 - 1)) (b.mat.getD f 0 + 1) else b.next.getD k 0 := fun k => getD_setI _ _ _ _ (by omega)
  refine ⟨⟨fun k hk => ?_, hl.mt, fun k hk => ?_⟩, ?_⟩
  · rw [key]
    split
    · show _ ≤ b.last + 1
      omega
    · exact hl.nx k hk
  · rw [key]
    show 0 ≤ b.mat.getD k 0 ∧ b.mat.getD k 0 < _
    have h4 := hl.lo k hk
    split
    · rename_i e
      subst e
      omega
    · exact h4
  · rw [key, if_pos rfl]
    omega
theorem more_ld (ok : Ok b) (hr : b.role = 2) {f : Nat} (hf : f < b.size) (i : Int) : (b.more f i).Ld := by
  have hl := ok.ld hr
  have hn := ok.inv.nx
  have hm := ok.inv.mt
  have hs := ok.inv.sz
  have h2 := hl.mt f hf
  have h3 := hl.lo f hf
  have k1 : ∀ k, (b.more f i).next.getD k 0 = if k = f then max (b.mat.getD f 0) (min i b.last) + 1 else b.next.getD k 0 := fun k => getD_setI _ _ _ _ (by omega)
  have k2 : ∀ k, (b.more f i).mat.getD k 0 = if k = f then max (b.mat.getD f 0) (min i b.last) else b.mat.getD k 0 := fun k => getD_setI _ _ _ _ (by omega)
  refine ⟨fun k hk => ?_, fun k hk => ?_, fun k hk => ?_⟩
  · rw [k1]
    split
    · show _ ≤ b.last + 1
      omega
    · exact hl.nx k hk
  · rw [k2]
    split
    · show _ ≤ b.last
      omega
    · exact hl.mt k hk
  · rw [k1, k2]
    split
    · omega
    · exact hl.lo k hk
/-- A message in a list of its own. -/
theorem one_ou {w1 : World} {m : Ms} {lv : Value} (hb : Below w.heap.size w w1) (hl : w1.ownsRow w.heap.size 49 4 lv m.list.length (enC m.list)) : Ou (w1.alloc (msO m lv)) w.heap.size [(m, lv)] (.slice (some ⟨w1.heap.size, 0, none⟩) 1 1) ∧ Below w.heap.size w (w1.alloc (msO m lv)) := by
  have hal : Below w1.heap.size w1 (w1.alloc (msO m lv)) := (Below.refl _ w1).alloc (Nat.le_refl _) _
  refine ⟨⟨⟨rfl, .inr ⟨w1.heap.size, 1, #[.int .i64 m.kind, .int .i64 m.fr, .int .i64 m.tgt, .int .i64 m.term, .int .i64 m.index, .int .i64 m.prev, .int .i64 m.commit, .bool m.good, lv, .string m.snap], rfl, hb.size, heap_alloc_new w1 _, Nat.le_refl _, (by unfold maxLen; omega), rfl, by simp [msC]⟩⟩, fun p hp => ?_⟩, hb.trans (hal.mono hb.size)⟩
  rw [List.mem_singleton.1 hp]
  exact own_below hl hal
theorem heard_less (ok : Ok b) (hr : b.role = 2) (m : Ms) (hg : m.good = false) : (b.heard m).sent = (b.less m.fr.toNat m.index, [mk b ((b.less m.fr.toNat m.index).feedM m.fr.toNat)]) := by
  unfold Bs.heard
  rw [if_pos hr, hg]
  simp only [Bool.false_eq_true, if_false]
  exact sent_one (b.less m.fr.toNat m.index) _ ok.out
set_option maxHeartbeats 1000000 in
set_option maxRecDepth 100000 in
theorem takeFed_p0 (h : Pb w A S b) (ok : Ok b) (m : Ms) (mv : Value) (h0 : 0 ≤ m.fr) (h1 : m.fr < b.size) (hi0 : -1 ≤ m.index) (hi1 : m.index ≤ 1099511627776) (hr : b.role = 2) (hg : m.good = false) : Calls Try.prog 77 #[.pointer (some ⟨A, 0, none⟩), msV m mv] w fun e w' => ∃ ov, e = .returned ov ∧ Po w w' A S (b.heard m).sent.1 (b.heard m).sent.2 ov := by
  have hlt := h.lt
  obtain ⟨W, hB⟩ := Bx.mk' h m mv
  have hA := hB.pb
  have HW := Lib.hid hB.eq
  have hfw : Fr w W S := Fr.ofBelow S hB.bel
  obtain ⟨f, hf⟩ : ∃ f : Nat, m.fr = f := ⟨m.fr.toNat, by omega⟩
  have hfs : f < b.size := by omega
  have hf5 : f < 5 := by have := ok.inv.sz; omega
  have hft : m.fr.toNat = f := by omega
  have heq := heard_less ok hr m hg
  rw [hft] at heq
  have hnA : A ≠ w.heap.size := Nat.ne_of_lt (hlt A (by obtain ⟨_, _, q⟩ := h; exact q.covA))
  have m1 : W.cell? ⟨w.heap.size, 1, none⟩ = some (.int .i64 m.fr) := cell_blk hB.blk 1
  have m4 : W.cell? ⟨w.heap.size, 4, none⟩ = some (.int .i64 m.index) := cell_blk hB.blk 4
  have m7 : W.cell? ⟨w.heap.size, 7, none⟩ = some (.bool m.good) := cell_blk hB.blk 7
  obtain ⟨lv, pf, hv⟩ := hA
  have hA : Pb W A S b := ⟨lv, pf, hv⟩
  have c2 : W.cell? ⟨A, 2, none⟩ = some (.int .i64 b.role) := hv.cell 2
  have cn := hv.nextc hf5
  have cm := hv.matc hf5
  have fn : W.frozen? ⟨A, 20 + f * 2, none⟩ = false := frozen_blk hv.ob _
  obtain ⟨hld, hnx⟩ := less_ld ok hr hfs m.index
  have hl3 := (ok.ld hr).lo f hfs
  have hl1 := (ok.ld hr).nx f hfs
  have hl2 := (ok.ld hr).mt f hfs
  obtain ⟨ll1, bb0, bb1⟩ := h.len
  have hll : b.last ≤ 4398047411104 := by unfold Bs.last; omega
  obtain ⟨X, hX⟩ : ∃ X, b.less f m.index = X := ⟨_, rfl⟩
  have hXn : X = { b with next := b.next.set f (max (min (m.index + 1) (b.next.getD f 0 - 1)) (b.mat.getD f 0 + 1)) } := by rw [← hX]; rfl
  obtain ⟨nx, hnxx⟩ : ∃ nx, b.next.getD f 0 = nx := ⟨_, rfl⟩
  obtain ⟨mt, hmtt⟩ : ∃ mt, b.mat.getD f 0 = mt := ⟨_, rfl⟩
  rw [hnxx, hmtt] at hXn
  rw [hnxx] at cn hl1 hl3
  rw [hmtt] at cm hl2 hl3
  rw [hX] at heq hld hnx
  obtain ⟨x, hx⟩ : ∃ x, max (min (m.index + 1) (nx - 1)) (mt + 1) = x := ⟨_, rfl⟩
  rw [hx] at hXn
  have hPX : ∀ n, Pb ((W.drewN n).setCell ⟨A, 20 + f * 2, none⟩ (.int .i64 x)) A S X ∧ Fr w ((W.drewN n).setCell ⟨A, 20 + f * 2, none⟩ (.int .i64 x)) S := by
    intro n
    obtain ⟨r1, r2⟩ := (hA.drewN n).next1 hf5 ok.inv.nx x
    rw [hXn]
    exact ⟨r1, (hfw.drewN n).trans ⟨r2.os, r2.tape, r2.output, r2.size, r2.block⟩⟩
  have emk : ∀ q, mk b q = mk X q := by intro q; rw [hXn]
  have hcall : ∀ n, Calls Try.prog 50 #[.pointer (some ⟨A, 0, none⟩), .int .i64 f] ((W.drewN n).setCell ⟨A, 20 + f * 2, none⟩ (.int .i64 x)) fun e w' => ∃ lv, e = .returned (msV (mk X (X.feedM f)) lv) ∧ Po w (w'.alloc (msO (mk X (X.feedM f)) lv)) A S (b.heard m).sent.1 (b.heard m).sent.2 (.slice (some ⟨w'.heap.size, 0, none⟩) 1 1) := by
    intro n
    obtain ⟨p1, p2⟩ := hPX n
    refine (feed_p p1 hf5 (by rw [show X.last = b.last by rw [hXn]; rfl]; exact hnx)).mono ?_
    rintro e w' ⟨lv, rfl, q1, q2⟩
    obtain ⟨s1, s2⟩ := one_ou (m := mk X (X.feedM f)) q1 q2
    refine ⟨lv, rfl, ?_⟩
    rw [heq]
    refine Po.step p2 (Po.of (O := [(mk X (X.feedM f), lv)]) (p1.on s2) (Fr.ofBelow S s2) p1.lt ?_ s1)
    show [mk X (X.feedM f)] = [mk b (X.feedM f)]
    rw [emk]
  obtain ⟨M, hM⟩ : ∃ M, mk X (X.feedM f) = M := ⟨_, rfl⟩
  rw [hM] at hcall
  have i1 : IntKind.i64.wrap (m.index + 1) = m.index + 1 := by rw [IntKind.wrap_i64]; omega
  have i2 : IntKind.i64.wrap (nx - 1) = nx - 1 := by rw [IntKind.wrap_i64]; omega
  have i3 : IntKind.i64.wrap (mt + 1) = mt + 1 := by rw [IntKind.wrap_i64]; omega
  have f0 : (0 : Int) ≤ f := by omega
  have f5 : (f : Int) < 5 := by omega
  rw [hf] at m1
  rw [hg] at m7
  rw [hr] at c2
  have HC := Lib.hid hcall
  have HX := Lib.hid hx
  clear hv hB hA hfw heq hX hXn hnxx hmtt hPX emk hcall hM hld hnx hr hg hf hft h hx ok
  go_enter Try.func77, Try.ntmps77
  go_upto_region 1 with fail
  rw [← HW.out]
  go_wp2
  go_quiet (fail)
  go_wp2
  go_cut [] (fun wx => ∃ n, wx = (W.drewN n).setCell ⟨A, 20 + f * 2, none⟩ (.int .i64 x))
  case first =>
    by_cases q1 : nx - 1 < m.index + 1
    · by_cases q2 : mt + 1 ≤ nx - 1
      · have ex : x = nx - 1 := by have := HX.out; omega
        have HEX := Lib.hid ex
        clear ex
        go_region
        go_wp2_with fail
        go_meet
        exact ⟨nq + 1, by rw [HEX.out]⟩
      · have ex : x = mt + 1 := by have := HX.out; omega
        have HEX := Lib.hid ex
        clear ex
        go_region
        go_wp2_with fail
        go_meet
        exact ⟨nq + 1, by rw [HEX.out]⟩
    · by_cases q2 : mt + 1 ≤ m.index + 1
      · have ex : x = m.index + 1 := by have := HX.out; omega
        have HEX := Lib.hid ex
        clear ex
        go_region
        go_wp2_with fail
        go_meet
        exact ⟨nq + 1, by rw [HEX.out]⟩
      · have ex : x = mt + 1 := by have := HX.out; omega
        have HEX := Lib.hid ex
        clear ex
        go_region
        go_wp2_with fail
        go_meet
        exact ⟨nq + 1, by rw [HEX.out]⟩
  case rest =>
    obtain ⟨n, rfl⟩ := hcut
    go_wp2_with fail
    refine (HC.out n).mono ?_
    rintro e2 w2 ⟨lv2, rfl, hP⟩
    have HP := Lib.hid hP
    clear hP HC
    go_wp2
    go_ret
    exact ⟨_, rfl, HP.out⟩
end
end Go.Proofs.Ytmiagjcihmenfaa
/- The walk of the program's takeFed where the log is the same. -/
namespace Go.Proofs.Ytmiagjcihmenfaa
open Go.RowKit

section
variable {w w' : World} {A : Nat} {S T : Nat → Prop} {b : Bs} {lv : Value} {pf : Int}
theorem settleC_same (b : Bs) : b.settleC.mat = b.mat ∧ b.settleC.next = b.next ∧ b.settleC.last = b.last ∧ b.settleC.id = b.id ∧ b.settleC.term = b.term ∧ b.settleC.size = b.size := by
  unfold Bs.settleC
  split <;> exact ⟨rfl, rfl, rfl, rfl, rfl, rfl⟩
theorem heard_more (ok : Ok b) (hr : b.role = 2) (m : Ms) (hg : m.good = true) {f : Nat} (hft : m.fr.toNat = f) {X : Bs} (hX : b.more f m.index = X) {x : Int} (hx : max (b.mat.getD f 0) (min m.index b.last) = x) (hf : f < 5) : (b.heard m).sent = (X.settleC, X.settleM ++ if b.mat.getD f 0 < x ∧ x + 1 ≤ b.last then [mk X.settleC (X.settleC.feedM f)] else []) := by
  have hXo : X.out = [] := by rw [← hX]; exact ok.out
  have hs := settleC_same X
  have hCo : X.settleC.out = [] := (Bs.settleC_sz X).trans hXo
  have hm : X.mat.getD f 0 = x := by
    rw [← hX]
    show (b.mat.set f _).getD f 0 = x
    rw [getD_setI _ _ _ _ (by rw [ok.inv.mt]; exact hf), if_pos rfl, hx]
  have hn : X.next.getD f 0 = x + 1 := by
    rw [← hX]
    show (b.next.set f _).getD f 0 = x + 1
    rw [getD_setI _ _ _ _ (by rw [ok.inv.nx]; exact hf), if_pos rfl, hx]
  have hl : X.last = b.last := by rw [← hX]; rfl
  have e1 : X.settle = { X.settleC with out := X.settleM } := by rw [Bs.settle_eq, hXo, List.nil_append]
  unfold Bs.heard
  rw [if_pos hr, if_pos hg, hft, hX, e1]
  have c1 : ({ X.settleC with out := X.settleM } : Bs).mat.getD f 0 = x := by show X.settleC.mat.getD f 0 = x; rw [hs.1]; exact hm
  have c2 : ({ X.settleC with out := X.settleM } : Bs).next.getD f 0 = x + 1 := by show X.settleC.next.getD f 0 = x + 1; rw [hs.2.1]; exact hn
  have c3 : ({ X.settleC with out := X.settleM } : Bs).last = b.last := by show X.settleC.last = b.last; rw [hs.2.2.1]; exact hl
  rw [c1, c2, c3]
  by_cases h : b.mat.getD f 0 < x ∧ x + 1 ≤ b.last
  · rw [if_pos h, if_pos h]
    unfold Bs.feed Bs.sent Bs.send
    simp only
    rw [out_self hCo]
    rfl
  · rw [if_neg h, if_neg h]
    unfold Bs.sent
    simp only [List.append_nil]
    rw [out_self hCo]
set_option maxHeartbeats 1000000 in
set_option maxRecDepth 100000 in
theorem takeFed_p1 (h : Pb w A S b) (ok : Ok b) (m : Ms) (mv : Value) (h0 : 0 ≤ m.fr) (h1 : m.fr < b.size) (hi0 : -1 ≤ m.index) (hi1 : m.index ≤ 1099511627776) (hr : b.role = 2) (hg : m.good = true) : Calls Try.prog 77 #[.pointer (some ⟨A, 0, none⟩), msV m mv] w fun e w' => ∃ ov, e = .returned ov ∧ Po w w' A S (b.heard m).sent.1 (b.heard m).sent.2 ov := by
  have hlt := h.lt
  obtain ⟨W, hB⟩ := Bx.mk' h m mv
  have hA := hB.pb
  have HW := Lib.hid hB.eq
  have hfw : Fr w W S := Fr.ofBelow S hB.bel
  obtain ⟨f, hf⟩ : ∃ f : Nat, m.fr = f := ⟨m.fr.toNat, by omega⟩
  have hfs : f < b.size := by omega
  have hf5 : f < 5 := by have := ok.inv.sz; omega
  have hft : m.fr.toNat = f := by omega
  have hnA : A ≠ w.heap.size := Nat.ne_of_lt (hlt A (by obtain ⟨_, _, q⟩ := h; exact q.covA))
  have m1 : W.cell? ⟨w.heap.size, 1, none⟩ = some (.int .i64 m.fr) := cell_blk hB.blk 1
  have m4 : W.cell? ⟨w.heap.size, 4, none⟩ = some (.int .i64 m.index) := cell_blk hB.blk 4
  have m7 : W.cell? ⟨w.heap.size, 7, none⟩ = some (.bool m.good) := cell_blk hB.blk 7
  obtain ⟨lv, pf, hv⟩ := hA
  have hA : Pb W A S b := ⟨lv, pf, hv⟩
  have c2 : W.cell? ⟨A, 2, none⟩ = some (.int .i64 b.role) := hv.cell 2
  have c5 : W.cell? ⟨A, 5, none⟩ = some (.int .i64 b.last) := hv.cell 5
  have cn := hv.nextc hf5
  have cm := hv.matc hf5
  have fn : W.frozen? ⟨A, 20 + f * 2, none⟩ = false := frozen_blk hv.ob _
  have fm : W.frozen? ⟨A, 20 + f * 2 + 1, none⟩ = false := frozen_blk hv.ob _
  have hXL := more_ld ok hr hfs m.index
  have hl3 := (ok.ld hr).lo f hfs
  have hl2 := (ok.ld hr).mt f hfs
  obtain ⟨ll1, bb0, bb1⟩ := h.len
  have hll : b.last ≤ 4398047411104 := by unfold Bs.last; omega
  obtain ⟨X, hX⟩ : ∃ X, b.more f m.index = X := ⟨_, rfl⟩
  obtain ⟨x, hx⟩ : ∃ x, max (b.mat.getD f 0) (min m.index b.last) = x := ⟨_, rfl⟩
  have heq := heard_more ok hr m hg hft hX hx hf5
  have hXn : X = { b with mat := b.mat.set f x, next := b.next.set f (x + 1) } := by rw [← hX, ← hx]; rfl
  obtain ⟨nx, hnxx⟩ : ∃ nx, b.next.getD f 0 = nx := ⟨_, rfl⟩
  obtain ⟨mt, hmtt⟩ : ∃ mt, b.mat.getD f 0 = mt := ⟨_, rfl⟩
  rw [hnxx] at cn hl3
  rw [hmtt] at cm hl2 hl3 hx heq
  rw [hX] at hXL
  have hXI : X.base ≤ X.commit ∧ X.commit ≤ X.last ∧ X.last = b.last ∧ X.size = b.size := by rw [hXn]; exact ⟨ok.inv.bc, ok.inv.cl, rfl, rfl⟩
  have hPX : ∀ n, Pb (((W.drewN n).setCell ⟨A, 20 + f * 2 + 1, none⟩ (.int .i64 x)).setCell ⟨A, 20 + f * 2, none⟩ (.int .i64 (x + 1))) A S X ∧ Fr w (((W.drewN n).setCell ⟨A, 20 + f * 2 + 1, none⟩ (.int .i64 x)).setCell ⟨A, 20 + f * 2, none⟩ (.int .i64 (x + 1))) S := by
    intro n
    obtain ⟨r1, r2⟩ := (hA.drewN n).mat1 hf5 ok.inv.mt x
    obtain ⟨r3, r4⟩ := r1.next1 hf5 ok.inv.nx (x + 1)
    rw [hXn]
    exact ⟨r3, ((hfw.drewN n).trans ⟨r2.os, r2.tape, r2.output, r2.size, r2.block⟩).trans r4⟩
  have hmbW := hB.blk
  have hsame := settleC_same X
  have hCn : X.settleC.next.getD f 0 = x + 1 := by
    rw [hsame.2.1, hXn]
    show (b.next.set f _).getD f 0 = x + 1
    rw [getD_setI _ _ _ _ (by rw [ok.inv.nx]; exact hf5), if_pos rfl]
  have hCm : X.settleC.mat.getD f 0 = x := by
    rw [hsame.1, hXn]
    show (b.mat.set f _).getD f 0 = x
    rw [getD_setI _ _ _ _ (by rw [ok.inv.mt]; exact hf5), if_pos rfl]
  have hset : ∀ n, Calls Try.prog 79 #[.pointer (some ⟨A, 0, none⟩)] (((W.drewN n).setCell ⟨A, 20 + f * 2 + 1, none⟩ (.int .i64 x)).setCell ⟨A, 20 + f * 2, none⟩ (.int .i64 (x + 1))) fun e w' => ∃ ad cap O, e = .returned (.slice ad O cap) ∧ w'.cell? ⟨A, 20 + f * 2, none⟩ = some (.int .i64 (x + 1)) ∧ w'.cell? ⟨A, 20 + f * 2 + 1, none⟩ = some (.int .i64 x) ∧ w'.cell? ⟨A, 5, none⟩ = some (.int .i64 b.last) ∧ w'.cell? ⟨w.heap.size, 1, none⟩ = some (.int .i64 f) ∧ Hid (Pb w' A S X.settleC ∧ Fr w w' S ∧ ∃ Ol : List (Ms × Value), O = Ol.length ∧ Ol.map Prod.fst = X.settleM ∧ Ou w' w.heap.size Ol (.slice ad O cap)) := by
    intro n
    obtain ⟨p1, p2⟩ := hPX n
    refine (settle_p p1 hXL hXI.1 hXI.2.1).mono ?_
    rintro e w' ⟨ov, rfl, q1, q2, Ol, q3, q4⟩
    obtain ⟨ad, cap, rfl⟩ := own_shape q4.own
    have hfa := p2.trans q2
    have hmb : w'.heap[w.heap.size]? = some (msO m mv) := by
      have e1 : (((W.drewN n).setCell ⟨A, 20 + f * 2 + 1, none⟩ (.int .i64 x)).setCell ⟨A, 20 + f * 2, none⟩ (.int .i64 (x + 1))).heap[w.heap.size]? = some (msO m mv) := by
        rw [set_other _ (Ne.symm hnA), set_other _ (Ne.symm hnA)]
        exact hmbW
      exact (q2.block _ (blk_lt e1) (fun q => by have := hlt _ q; omega)).trans e1
    obtain ⟨lv1, pf1, hv1⟩ := q1
    refine ⟨ad, cap, Ol.length, rfl, ?_, ?_, ?_, ?_, ⟨⟨lv1, pf1, hv1⟩, hfa, Ol, rfl, q3, q4.mono p2.size⟩⟩
    · rw [← hCn]; exact hv1.nextc hf5
    · rw [← hCm]; exact hv1.matc hf5
    · rw [← hXI.2.2.1, ← hsame.2.2.1]; exact hv1.cell 5
    · rw [← hf]; exact cell_blk hmb 1
  have hCl := hsame.2.2.1
  have HEQ := Lib.hid heq
  have i3 : IntKind.i64.wrap (x + 1) = x + 1 := by rw [IntKind.wrap_i64]; omega
  have i3' : wrap64 (x + 1) = x + 1 := IntWalk.wrap64_in _ ⟨by omega, by omega⟩
  have f0 : (0 : Int) ≤ f := by omega
  have f5 : (f : Int) < 5 := by omega
  have hlf : X.settleC.next.getD f 0 ≤ X.settleC.last + 1 := by rw [hCn, hCl, hXI.2.2.1]; omega
  rw [hf] at m1
  rw [hg] at m7
  rw [hr] at c2
  have HC := Lib.hid hset
  have HX := Lib.hid hx
  have HLF := Lib.hid hlf
  have hzS : X.size ≤ 5 := by rw [hXI.2.2.2]; exact ok.inv.sz
  clear hv hB hA hfw heq hX hXn hnxx hmtt hPX hset hr hg hf hft h hx ok hmbW hsame hCn hCm hCl hlf hXL hXI
  go_enter Try.func77, Try.ntmps77
  go_upto_region 1 with fail
  rw [← HW.out]
  go_wp2
  go_quiet (fail)
  go_wp2
  go_cut [] (fun wx => ∃ n, wx = (W.drewN n).setCell ⟨A, 20 + f * 2 + 1, none⟩ (.int .i64 x))
  case first =>
    by_cases q1 : b.last < m.index
    · by_cases q2 : mt < b.last
      · have ex : x = b.last := by have := HX.out; omega
        have HEX := Lib.hid ex
        clear ex
        go_region
        go_wp2_with fail
        go_meet
        exact ⟨nq + 1, by rw [HEX.out]⟩
      · have ex : x = mt := by have := HX.out; omega
        have HEX := Lib.hid ex
        clear ex
        go_region
        go_wp2_with fail
        go_meet
        exact ⟨nq + 1, by rw [HEX.out]⟩
    · by_cases q2 : mt < m.index
      · have ex : x = m.index := by have := HX.out; omega
        have HEX := Lib.hid ex
        clear ex
        go_region
        go_wp2_with fail
        go_meet
        exact ⟨nq + 1, by rw [HEX.out]⟩
      · have ex : x = mt := by have := HX.out; omega
        have HEX := Lib.hid ex
        clear ex
        go_region
        go_wp2_with fail
        go_meet
        exact ⟨nq + 1, by rw [HEX.out]⟩
  case rest =>
    obtain ⟨n, rfl⟩ := hcut
    go_wp2_with fail
    refine (HC.out n).mono ?_
    rintro e2 w2 ⟨ad, cap, O, rfl, j0, j1, j5, j6, HP⟩
    clear HC
    by_cases q1 : mt < x
    · have hd : decide (mt < x) = true := decide_eq_true q1
      by_cases q2 : x + 1 ≤ b.last
      · have q1' := q1
        have q2'' := q2
        obtain ⟨M, hM⟩ : ∃ M, mk X.settleC (X.settleC.feedM f) = M := ⟨_, rfl⟩
        have hcall : ∀ n, Calls Try.prog 50 #[.pointer (some ⟨A, 0, none⟩), .int .i64 f] (w2.drewN n) fun e w' => ∃ lv, e = .returned (msV M lv) ∧ ∃ ad' cap' w'', (Builtin.append_ #[37, 37] 37 #[.slice ad O cap, .slice (some ⟨w'.heap.size, 0, none⟩) 1 1]).run Try.prog (w'.alloc (msO M lv)) = .ok (.slice ad' (O + 1) cap') w'' ∧ Hid (Po w w'' A S (b.heard m).sent.1 (b.heard m).sent.2 (.slice ad' (O + 1) cap')) := by
          intro n
          obtain ⟨a1, a2, Ol, rfl, a4, a5⟩ := HP.out
          have hlen : Ol.length ≤ X.size := by rw [← List.length_map (f := Prod.fst), a4]; exact settleM_len X
          refine (feed_p (a1.drewN n) hf5 HLF.out).mono ?_
          rintro e w' ⟨lv, rfl, q1, q2⟩
          rw [hM]
          have hb : Below w2.heap.size w2 w' := ⟨q1.os, q1.tape, q1.output, q1.size, q1.block⟩
          have q2' : w'.ownsRow w2.heap.size 49 4 lv M.list.length (enC M.list) := by rw [← hM]; exact q2
          obtain ⟨ad', cap', w'', hrun, r1, r2⟩ := (a5.on hb).snoc (m := M) (Nat.le_trans a2.size hb.size) (own_mono q2' a2.size) (by omega)
          refine ⟨lv, rfl, ad', cap', w'', hrun, ?_⟩
          have hS2 : ∀ k, S k → ¬ w.heap.size ≤ k := fun k hk q => by have := hlt k hk; omega
          rw [HEQ.out, if_pos ⟨q1', q2''⟩]
          refine Po.of (O := Ol ++ [(M, lv)]) ((a1.on hb).stays r2 hS2) ?_ hlt ?_ r1
          · exact (a2.below hb).step r2 (fun k q => .inr q)
          · rw [List.map_append, a4, hM]
            rfl
        have HCC := Lib.hid hcall
        clear hcall HP hM
        go_wp2
        go_quiet (fail)
        go_wp2_with fail
        refine (HCC.out _).mono ?_
        rintro e3 w3 ⟨lv3, rfl, ad3, cap3, w4, hrun, HPo⟩
        clear HCC
        go_wp2_with (at_builtin; refine wpl_run2 _ _ rfl (by simp [Act.eval]) (by simp [Act.eval]) hrun ?_)
        go_ret
        exact ⟨_, rfl, HPo.out⟩
      · have HPo : Hid (∀ n, Po w (w2.drewN n) A S (b.heard m).sent.1 (b.heard m).sent.2 (.slice ad O cap)) := by
          intro n
          obtain ⟨a1, a2, Ol, rfl, a4, a5⟩ := HP.out
          rw [HEQ.out, if_neg (fun q => q2 q.2), List.append_nil]
          exact Po.of (a1.drewN n) (a2.drewN n) hlt a4 (a5.on (below_draw (Below.refl _ _) n))
        clear HP
        go_wp2
        go_quiet (fail)
        go_wp2
        go_ret
        exact ⟨_, rfl, HPo.out nq⟩
    · have hd : decide (mt < x) = false := decide_eq_false q1
      have HPo : Hid (∀ n, Po w (w2.drewN n) A S (b.heard m).sent.1 (b.heard m).sent.2 (.slice ad O cap)) := by
        intro n
        obtain ⟨a1, a2, Ol, rfl, a4, a5⟩ := HP.out
        rw [HEQ.out, if_neg (fun q => q1 q.1), List.append_nil]
        exact Po.of (a1.drewN n) (a2.drewN n) hlt a4 (a5.on (below_draw (Below.refl _ _) n))
      clear HP
      go_wp2
      go_quiet (fail)
      go_wp2
      go_ret
      exact ⟨_, rfl, HPo.out nq⟩
end
end Go.Proofs.Ytmiagjcihmenfaa
/- The walk of the program's takeFeed where entries are taken over. -/
namespace Go.Proofs.Ytmiagjcihmenfaa
open Go.RowKit

section
variable {w w' : World} {A : Nat} {S T : Nat → Prop} {b : Bs} {lv : Value} {pf : Int}
set_option maxHeartbeats 1000000 in
set_option maxRecDepth 100000 in
theorem takeFeed_e (h : Pb w A S b) (ok : Ok b) (m : Ms) {mad : Option Addr} {mcap : Nat} (hE : Es w S m.list (.slice mad m.list.length mcap)) (hz : b.log.length + m.list.length ≤ 900000) (hi0 : 0 ≤ m.index) (hi1 : m.index ≤ 1099511627776) (hp0 : 0 ≤ m.prev) (hr : b.role ≠ 2) (h1n : ¬ m.index + m.list.length ≤ b.commit) (hc1 : ¬ (b.commit ≤ m.index ∧ b.termAt m.index ≠ m.prev)) : Calls Try.prog 76 #[.pointer (some ⟨A, 0, none⟩), msV m (.slice mad m.list.length mcap)] w fun e w' => ∃ ov, e = .returned ov ∧ Po w w' A S (b.entries m).sent.1 (b.entries m).sent.2 ov := by
  have HN1 := Lib.hid h1n
  have HC1 := Lib.hid hc1
  clear h1n hc1
  have hlt := h.lt
  obtain ⟨W, hB⟩ := Bx.mk' h m (.slice mad m.list.length mcap)
  have hA := hB.pb
  have HW := Lib.hid hB.eq
  have hfw : Fr w W S := Fr.ofBelow S hB.bel
  obtain ⟨lv, pf, hv⟩ := hA
  have hA : Pb W A S b := ⟨lv, pf, hv⟩
  have c2 : W.cell? ⟨A, 2, none⟩ = some (.int .i64 b.role) := hv.cell 2
  have m1 : W.cell? ⟨w.heap.size, 1, none⟩ = some (.int .i64 m.fr) := cell_blk hB.blk 1
  have hfo := follow_any hA m.fr
  have HB := Lib.hid hB
  have hI := ok.inv
  have ho := ok.out
  obtain ⟨l1, b0, b1⟩ := h.len
  have hll : b.last ≤ 4398047411104 ∧ 0 ≤ b.last := by unfold Bs.last; omega
  have hcl := hI.cl
  have hbc := hI.bc
  clear hv hB hA h
  go_enter Try.func76, Try.ntmps76
  go_upto_region 1 with fail
  rw [← HW.out]
  go_wp2_with fail
  refine hfo.mono ?_
  rintro e1 w1 ⟨rfl, p1, f1⟩
  clear hfo m1 c2
  have hmb := HB.out.stay hlt f1
  have hf1 : Fr w w1 S := hfw.trans f1
  have hE1 := hE.stays (S' := S) hf1 (fun _ q => .inl q)
  have k1 : w1.cell? ⟨w.heap.size, 1, none⟩ = some (.int .i64 m.fr) := cell_blk hmb 1
  have k4 : w1.cell? ⟨w.heap.size, 4, none⟩ = some (.int .i64 m.index) := cell_blk hmb 4
  have k5 : w1.cell? ⟨w.heap.size, 5, none⟩ = some (.int .i64 m.prev) := cell_blk hmb 5
  have k6 : w1.cell? ⟨w.heap.size, 6, none⟩ = some (.int .i64 m.commit) := cell_blk hmb 6
  have k8 : w1.cell? ⟨w.heap.size, 8, none⟩ = some (.slice mad m.list.length mcap) := cell_blk hmb 8
  obtain ⟨X, hX⟩ : ∃ X, ({ b with role := 0, lead := m.fr } : Bs) = X := ⟨_, rfl⟩
  rw [hX] at p1
  have hXb : X.base = b.base ∧ X.commit = b.commit ∧ X.log = b.log ∧ X.last = b.last ∧ X.id = b.id ∧ X.term = b.term := by rw [← hX]; exact ⟨rfl, rfl, rfl, rfl, rfl, rfl⟩
  have hXt : ∀ i, X.termAt i = b.termAt i := by intro i; rw [← hX]; rfl
  have hmk : ∀ q, mk b q = mk X q := by intro q; unfold mk; rw [hXb.2.2.2.2.1, hXb.2.2.2.2.2]
  obtain ⟨lv1, pf1, hv1⟩ := p1
  have p1 : Pb w1 A S X := ⟨lv1, pf1, hv1⟩
  have c6 : w1.cell? ⟨A, 6, none⟩ = some (.int .i64 b.commit) := by rw [← hXb.2.1]; exact hv1.cell 6
  have c5 : w1.cell? ⟨A, 5, none⟩ = some (.int .i64 b.last) := by rw [← hXb.2.2.2.1]; exact hv1.cell 5
  obtain ⟨n, hn⟩ : ∃ n, m.list.length = n := ⟨_, rfl⟩
  obtain ⟨en, hen⟩ : ∃ en, m.index + (n : Int) = en := ⟨_, rfl⟩
  have w1e : IntKind.i64.wrap (m.index + (n : Int)) = en := by rw [IntKind.wrap_i64]; omega
  have w1e' : wrap64 (m.index + (n : Int)) = en := (IntWalk.wrap64_in _ ⟨by omega, by omega⟩).trans hen
  have hcalls : ∀ V tt i good Y, Pb V A S Y → Fr w V S → Y.id = b.id → Y.term = b.term → (b.entries m).sent = (Y, [mk b { ms0 with kind := 4, tgt := tt, good := good, index := i }]) → Calls Try.prog 73 #[.pointer (some ⟨A, 0, none⟩), .int .i64 tt, .bool good, .int .i64 i] V fun e w' => ∃ ov, e = .returned ov ∧ Po w w' A S (b.entries m).sent.1 (b.entries m).sent.2 ov := by
    intro V tt i good Y q1 q2 q3 q4 q5
    refine (fed_po q1 tt i good).mono ?_
    rintro e w' ⟨ov, rfl, q⟩
    rw [q5]
    refine ⟨ov, rfl, Po.step q2 ?_⟩
    have : mk b { ms0 with kind := 4, tgt := tt, good := good, index := i } = mk Y { ms0 with kind := 4, tgt := tt, good := good, index := i } := by unfold mk; rw [q3, q4]
    rw [this]
    exact q
  have h1n : ¬ m.index + m.list.length ≤ b.commit := by have := HN1.out; omega
  have hc1 : ¬ (b.commit ≤ m.index ∧ b.termAt m.index ≠ m.prev) := by
    have := HC1.out
    first
    | exact this
    | exact fun q => q.2 (this q.1)
  have hc0 : ¬ en ≤ b.commit := by rw [← hen, ← hn]; exact h1n
  have heq := entries_end b m ho hr h1n hc1 hX
  rw [hn, hen] at heq
  obtain ⟨st, hst⟩ : ∃ st, max m.index b.commit = st := ⟨_, rfl⟩
  have hstl : st ≤ b.last := by
    by_cases q : b.commit ≤ m.index
    · have ht : b.termAt m.index = m.prev := Classical.byContradiction fun z => hc1 ⟨q, z⟩
      by_cases z : m.index ≤ b.last
      · omega
      · rw [Bs.termAt_none (.inr (by omega))] at ht
        omega
    · omega
  obtain ⟨j, hj⟩ : ∃ j : Nat, st - m.index = j := ⟨(st - m.index).toNat, by omega⟩
  have hjn : j ≤ n ∧ (0 < n → j < n) ∧ (n = 0 → j = 0) := by omega
  obtain ⟨Y, hY⟩ : ∃ Y, X.lay (m.index + 1) m.list = Y := ⟨_, rfl⟩
  rw [hY] at heq
  have hYe : X.lay (st + 1) (m.list.drop j) = Y := by
    rw [← hY]
    by_cases z : j = 0
    · rw [z, List.drop_zero, show st = m.index by omega]
    · rw [lay_skip X j (m.index + 1) m.list (by omega) (by rw [hXb.2.1]; omega)]
      congr 1
      omega
  have hYs := lay_same X m.list (m.index + 1)
  rw [hY, hXb.2.1, hXb.2.2.2.2.1, hXb.2.2.2.2.2] at hYs
  have hAd : ∀ n' ad' cap', Es w1 S (m.list.drop j) (.slice ad' (n - j) cap') → Calls Try.prog 84 #[.pointer (some ⟨A, 0, none⟩), .int .i64 st, .slice ad' (n - j) cap'] (w1.drewN n') fun e w' => e = .returned (.tuple #[]) ∧ w'.cell? ⟨A, 6, none⟩ = some (.int .i64 b.commit) ∧ w'.frozen? ⟨A, 6, none⟩ = false ∧ w'.cell? ⟨w.heap.size, 1, none⟩ = some (.int .i64 m.fr) ∧ w'.cell? ⟨w.heap.size, 6, none⟩ = some (.int .i64 m.commit) ∧ Hid (Pt w w' A S Y) := by
    intro n' ad' cap' hEs
    have hld : (m.list.drop j).length = n - j := by rw [List.length_drop, hn]
    rw [← hld] at hEs ⊢
    have hb' : Below w1.heap.size w1 (w1.drewN n') := below_draw (Below.refl _ _) n'
    refine (adopt_p (p1.drewN n') (hEs.on hb') (st := st) (by rw [hXb.1, hXb.2.1]; exact hbc) (by rw [hXb.2.1]; omega) (by rw [hXb.2.2.2.1]; exact hstl) (by rw [hXb.2.2.1]; omega)).mono ?_
    rintro e w' ⟨rfl, hT⟩
    rw [hYe] at hT
    obtain ⟨S1, t1, t2, t3⟩ := hT
    have hm' := (t3.block _ (blk_lt (show (w1.drewN n').heap[w.heap.size]? = _ from hmb)) (fun q => by have := hlt _ q; omega)).trans hmb
    obtain ⟨lv2, pf2, hv2⟩ := t1
    exact ⟨rfl, by rw [← hYs.1]; exact hv2.cell 6, frozen_blk hv2.ob 6, cell_blk hm' 1, cell_blk hm' 6, Pt.step (hf1.drewN n') ⟨S1, ⟨lv2, pf2, hv2⟩, t2, t3⟩⟩
  obtain ⟨mx, hmx⟩ : ∃ mx, max b.commit (min m.commit en) = mx := ⟨_, rfl⟩
  have hfin : ∀ V n', Pt w V A S Y → Calls Try.prog 73 #[.pointer (some ⟨A, 0, none⟩), .int .i64 m.fr, .bool true, .int .i64 en] ((V.drewN n').setCell ⟨A, 6, none⟩ (.int .i64 mx)) fun e w' => ∃ ov, e = .returned ov ∧ Po w w' A S (b.entries m).sent.1 (b.entries m).sent.2 ov := by
    intro V n' hT
    obtain ⟨S1, t1, t2, t3⟩ := hT
    obtain ⟨r1, r2⟩ := (t1.drewN n').reach (min m.commit en)
    rw [hYs.1, hmx] at r1 r2
    have hrs := reach_same Y (min m.commit en)
    refine (fed_po r1 m.fr en true).mono ?_
    rintro e w' ⟨ov, rfl, q⟩
    rw [heq]
    refine ⟨ov, rfl, ?_⟩
    have : mk b { ms0 with kind := 4, tgt := m.fr, good := true, index := en } = mk (Y.reach (min m.commit en)) { ms0 with kind := 4, tgt := m.fr, good := true, index := en } := by
      unfold mk
      rw [hrs.1, hrs.2.1, hYs.2.1, hYs.2.2.1]
    rw [this]
    exact Po.comb t2 t3 (Po.step ⟨r2.os, r2.tape, r2.output, r2.size, r2.block⟩ q)
  have hEj : (0 < n ∧ ∃ bk o, mad = some ⟨bk, o, none⟩ ∧ n ≤ mcap ∧ Es w1 S (m.list.drop j) (.slice (some ⟨bk, o + j * 4, none⟩) (n - j) (mcap - j))) ∨ (n = 0 ∧ j = 0 ∧ (mad = none → mcap = 0) ∧ m.list = [] ∧ mcap ≤ maxLen) := by
    rcases Nat.eq_zero_or_pos n with z | z
    · obtain ⟨_, _, e, q0, _, q2, _⟩ := hE1
      cases e
      exact .inr ⟨z, hjn.2.2 z, q0, List.eq_nil_of_length_eq_zero (by omega), q2⟩
    · obtain ⟨_, _, e, q0, q1, q2, q3⟩ := hE1
      cases e
      obtain ⟨bk, o, rfl, _⟩ := q3 0 (by omega)
      have hE2 : Es w1 S m.list (.slice (some ⟨bk, o, none⟩) m.list.length mcap) := ⟨_, _, rfl, q0, q1, q2, q3⟩
      have := hE2.dropped (k := j) (by omega)
      rw [hn] at this q1
      exact .inl ⟨z, bk, o, rfl, q1, this⟩
  have wj : IntKind.i64.wrap (st - m.index) = (j : Int) := by rw [IntKind.wrap_i64]; omega
  have wj' : wrap64 (st - m.index) = (j : Int) := (IntWalk.wrap64_in _ ⟨by omega, by omega⟩).trans hj
  have hhas : b.commit ≤ m.index → ∀ n, Calls Try.prog 83 #[.pointer (some ⟨A, 0, none⟩), .int .i64 m.index, .int .i64 m.prev] (w1.drewN n) fun e w' => e = .returned (.bool true) ∧ ∃ k, w' = (w1.drewN n).drewN k := fun hc n => by
    have := has_any (p1.drewN n) m.index m.prev
    have ht : b.termAt m.index = m.prev := Classical.byContradiction fun z => hc1 ⟨hc, z⟩
    rwa [decide_eq_true ⟨by rw [hXb.1]; omega, by rw [hXb.2.2.2.1]; omega, (hXt _).trans ht⟩] at this
  rw [hn] at k8
  have HST := Lib.hid hst
  have HMX := Lib.hid hmx
  have HAD := Lib.hid hAd
  have HFI := Lib.hid hfin
  have HJN := Lib.hid hjn
  have HEJ := Lib.hid hEj
  have HHAS := Lib.hid hhas
  have nn : j ≤ n := hjn.1
  have j0 : (0 : Int) ≤ j := by omega
  clear hv1 hcalls heq hX hmb hf1 f1 hXb hXt hmk hn hen p1 hE hE1 hI ok hc1 h1n hst hmx hAd hfin hjn hEj hhas hYe hYs hY hj hstl
  go_wp2
  go_cut [51] (fun v wx => v = .bool false ∧ ∃ n, wx = w1.drewN n)
  case first =>
    by_cases q : b.commit ≤ m.index
    · have hd : decide (b.commit ≤ m.index) = true := decide_eq_true q
      have hh := HHAS.out q
      go_quiet ((go_at_call 83; exact Calls.quiet_of (hh _)))
      go_wp2_with fail
      go_meet
      exact ⟨rfl, _, rfl⟩
    · have hd : decide (b.commit ≤ m.index) = false := decide_eq_false q
      go_quiet (fail)
      go_wp2_with fail
      go_meet
      exact ⟨rfl, _, rfl⟩
  case rest =>
    obtain ⟨rfl, n', rfl⟩ := hcut
    go_wp2
    go_cut [6] (fun v wx => v = .int .i64 st ∧ ∃ n, wx = w1.drewN n)
    case first =>
      by_cases q : b.commit ≤ m.index
      · have est : st = m.index := by have := HST.out; omega
        have HES := Lib.hid est
        clear est
        go_region
        go_wp2_with fail
        go_meet
        exact ⟨by rw [HES.out], n' + 1, rfl⟩
      · have est : st = b.commit := by have := HST.out; omega
        have HES := Lib.hid est
        clear est
        go_region
        go_wp2_with fail
        go_meet
        exact ⟨by rw [HES.out], n' + 1, rfl⟩
    case rest =>
      obtain ⟨rfl, n2, rfl⟩ := hcut
      rcases HEJ.out with ⟨z, bk, o, rfl, zc, zE⟩ | ⟨rfl, rfl, zc, zl, zm⟩
      · have HX := HAD.out n2 _ _ zE
        have jn2 := HJN.out.2.1 z
        have jc : ¬ mcap = j := by omega
        have jc2 : j ≤ mcap := by omega
        have jc3 : (j : Int) ≤ mcap := by omega
        have jn3 : (j : Int) ≤ n := by omega
        clear zE
        go_wp2_with fail
        refine HX.mono ?_
        rintro e3 w3 ⟨rfl, d6, g6, d1, d66, HT⟩
        clear HX
        go_wp2
        go_cut [] (fun wx => ∃ n, wx = (w3.drewN n).setCell ⟨A, 6, none⟩ (.int .i64 mx))
        case first =>
          by_cases q1 : en < m.commit
          · by_cases q2 : en ≤ b.commit
            · exact absurd q2 (by omega)
            · have ex : mx = en := by have := HMX.out; omega
              have HEX := Lib.hid ex
              clear ex
              go_region
              go_wp2_with fail
              go_meet
              exact ⟨1, by rw [HEX.out]; rfl⟩
          · by_cases q2 : m.commit ≤ b.commit
            · have ex : mx = b.commit := by have := HMX.out; omega
              have HEX := Lib.hid ex
              clear ex
              go_region
              go_wp2_with fail
              go_meet
              exact ⟨1, by rw [HEX.out]; rfl⟩
            · have ex : mx = m.commit := by have := HMX.out; omega
              have HEX := Lib.hid ex
              clear ex
              go_region
              go_wp2_with fail
              go_meet
              exact ⟨1, by rw [HEX.out]; rfl⟩
        case rest =>
          obtain ⟨n3, rfl⟩ := hcut
          have hcall := HFI.out w3 n3 HT.out
          go_wp2_with fail
          refine hcall.mono ?_
          rintro e' w' ⟨ov, rfl, q⟩
          have HQ := Lib.hid q
          clear q hcall
          go_wp2
          go_ret
          exact ⟨ov, rfl, HQ.out⟩
      · have zE : ∀ ad' cap', (ad' = none → cap' = 0) → cap' ≤ maxLen → Es w1 S (m.list.drop 0) (.slice ad' (0 - 0) cap') := by
          intro ad' cap' y1 y2
          rw [zl]
          exact ⟨ad', cap', rfl, y1, Nat.zero_le _, y2, fun i hi => by simp at hi⟩
        cases mad with
        | none =>
          have ez : mcap = 0 := zc rfl
          subst ez
          have HX := HAD.out n2 none 0 (zE none 0 (fun _ => rfl) (Nat.zero_le _))
          clear zE zc zl
          go_wp2_with fail
          refine HX.mono ?_
          rintro e3 w3 ⟨rfl, d6, g6, d1, d66, HT⟩
          clear HX
          go_wp2
          go_cut [] (fun wx => ∃ n, wx = (w3.drewN n).setCell ⟨A, 6, none⟩ (.int .i64 mx))
          case first =>
            by_cases q1 : en < m.commit
            · by_cases q2 : en ≤ b.commit
              · exact absurd q2 (by omega)
              · have ex : mx = en := by have := HMX.out; omega
                have HEX := Lib.hid ex
                clear ex
                go_region
                go_wp2_with fail
                go_meet
                exact ⟨1, by rw [HEX.out]; rfl⟩
            · by_cases q2 : m.commit ≤ b.commit
              · have ex : mx = b.commit := by have := HMX.out; omega
                have HEX := Lib.hid ex
                clear ex
                go_region
                go_wp2_with fail
                go_meet
                exact ⟨1, by rw [HEX.out]; rfl⟩
              · have ex : mx = m.commit := by have := HMX.out; omega
                have HEX := Lib.hid ex
                clear ex
                go_region
                go_wp2_with fail
                go_meet
                exact ⟨1, by rw [HEX.out]; rfl⟩
          case rest =>
            obtain ⟨n3, rfl⟩ := hcut
            have hcall := HFI.out w3 n3 HT.out
            go_wp2_with fail
            refine hcall.mono ?_
            rintro e' w' ⟨ov, rfl, q⟩
            have HQ := Lib.hid q
            clear q hcall
            go_wp2
            go_ret
            exact ⟨ov, rfl, HQ.out⟩
        | some a =>
          have HX := HAD.out n2 (some a) mcap (zE (some a) mcap (fun q => by cases q) zm)
          clear zE zc zl
          go_wp2_with fail
          refine HX.mono ?_
          rintro e3 w3 ⟨rfl, d6, g6, d1, d66, HT⟩
          clear HX
          go_wp2
          go_cut [] (fun wx => ∃ n, wx = (w3.drewN n).setCell ⟨A, 6, none⟩ (.int .i64 mx))
          case first =>
            by_cases q1 : en < m.commit
            · by_cases q2 : en ≤ b.commit
              · exact absurd q2 (by omega)
              · have ex : mx = en := by have := HMX.out; omega
                have HEX := Lib.hid ex
                clear ex
                go_region
                go_wp2_with fail
                go_meet
                exact ⟨1, by rw [HEX.out]; rfl⟩
            · by_cases q2 : m.commit ≤ b.commit
              · have ex : mx = b.commit := by have := HMX.out; omega
                have HEX := Lib.hid ex
                clear ex
                go_region
                go_wp2_with fail
                go_meet
                exact ⟨1, by rw [HEX.out]; rfl⟩
              · have ex : mx = m.commit := by have := HMX.out; omega
                have HEX := Lib.hid ex
                clear ex
                go_region
                go_wp2_with fail
                go_meet
                exact ⟨1, by rw [HEX.out]; rfl⟩
          case rest =>
            obtain ⟨n3, rfl⟩ := hcut
            have hcall := HFI.out w3 n3 HT.out
            go_wp2_with fail
            refine hcall.mono ?_
            rintro e' w' ⟨ov, rfl, q⟩
            have HQ := Lib.hid q
            clear q hcall
            go_wp2
            go_ret
            exact ⟨ov, rfl, HQ.out⟩
end
end Go.Proofs.Ytmiagjcihmenfaa
/- The walk of the program's letsBy. -/
namespace Go.Proofs.Ytmiagjcihmenfaa
open Go.RowKit

section
variable {w w' : World} {A : Nat} {S T : Nat → Prop} {b : Bs} {lv : Value} {pf : Int}
set_option maxHeartbeats 2000000 in
set_option maxRecDepth 100000 in
theorem letsBy_p (h : Pb w A S b) (m : Ms) (mv : Value) : Calls Try.prog 47 #[.pointer (some ⟨A, 0, none⟩), msV m mv] w fun e w' => e = .returned (.bool (decide (b.strange m))) ∧ Below w.heap.size w w' := by
  obtain ⟨W, hB⟩ := Bx.mk' h m mv
  have hA := hB.pb
  have HW := Lib.hid hB.eq
  have HBL := Lib.hid hB.bel
  have m0 : W.cell? ⟨w.heap.size, 0, none⟩ = some (.int .i64 m.kind) := cell_blk hB.blk 0
  have m1 : W.cell? ⟨w.heap.size, 1, none⟩ = some (.int .i64 m.fr) := cell_blk hB.blk 1
  have m2 : W.cell? ⟨w.heap.size, 2, none⟩ = some (.int .i64 m.tgt) := cell_blk hB.blk 2
  have m3 : W.cell? ⟨w.heap.size, 3, none⟩ = some (.int .i64 m.term) := cell_blk hB.blk 3
  have m4 : W.cell? ⟨w.heap.size, 4, none⟩ = some (.int .i64 m.index) := cell_blk hB.blk 4
  have m5 : W.cell? ⟨w.heap.size, 5, none⟩ = some (.int .i64 m.prev) := cell_blk hB.blk 5
  have m6 : W.cell? ⟨w.heap.size, 6, none⟩ = some (.int .i64 m.commit) := cell_blk hB.blk 6
  have hnode : ∀ n, Calls Try.prog 68 #[.pointer (some ⟨A, 0, none⟩), .int .i64 m.fr] (W.drewN n) fun e w' => e = .returned (.bool (decide (0 ≤ m.fr) && decide (m.fr ≤ b.size - 1))) ∧ ∃ k, w' = (W.drewN n).drewN k := fun n => by
    refine (isNode_any (hA.drewN n) m.fr).mono ?_
    rintro e w' ⟨rfl, rfl⟩
    exact ⟨rfl, 0, rfl⟩
  obtain ⟨lv, pf, hv⟩ := hA
  have c7 : W.cell? ⟨A, 7, none⟩ = some (.int .i64 b.id) := hv.cell 7
  have hsz := hv.sz
  obtain ⟨fb, hfb⟩ : ∃ fb, decide (m.tgt ≠ b.id ∨ m.fr = b.id ∨ ¬ (0 ≤ m.fr ∧ m.fr ≤ b.size - 1) ∨ m.kind < 1 ∨ 5 < m.kind) = fb := ⟨_, rfl⟩
  have HFB := Lib.hid hfb
  clear hv hB h hfb
  go_enter Try.func47, Try.ntmps47
  go_upto_region 1 with fail
  rw [← HW.out]
  go_cut [38] (fun v wx => v = .bool fb ∧ ∃ n, wx = W.drewN n)
  case first =>
    by_cases q1 : m.tgt = b.id
    · have hd1 : (m.tgt != (b.id : Int)) = false := by simpa using q1
      by_cases q2 : m.fr = b.id
      · have hd2 : (m.fr == (b.id : Int)) = true := by simpa using q2
        have hg : fb = true := HFB.out.symm.trans (decide_eq_true (by omega))
        subst hg
        go_quiet (fail)
        go_wp2_with fail
        go_meet
        exact ⟨rfl, _, rfl⟩
      · have hd2 : (m.fr == (b.id : Int)) = false := by simpa using q2
        by_cases q3 : 0 ≤ m.fr ∧ m.fr ≤ b.size - 1
        · rw [decide_eq_true q3.1, decide_eq_true q3.2] at hnode
          by_cases q4 : m.kind < 1
          · have hd4 : decide (m.kind < 1) = true := decide_eq_true q4
            have hg : fb = true := HFB.out.symm.trans (decide_eq_true (by omega))
            subst hg
            go_quiet ((go_at_call 68; exact Calls.quiet_of (hnode _)))
            go_wp2_with fail
            go_meet
            exact ⟨rfl, _, rfl⟩
          · have hd4 : decide (m.kind < 1) = false := decide_eq_false q4
            by_cases q5 : 5 < m.kind
            · have hd5 : decide (5 < m.kind) = true := decide_eq_true q5
              have hg : fb = true := HFB.out.symm.trans (decide_eq_true (by omega))
              subst hg
              go_quiet ((go_at_call 68; exact Calls.quiet_of (hnode _)))
              go_wp2_with fail
              go_meet
              exact ⟨rfl, _, rfl⟩
            · have hd5 : decide (5 < m.kind) = false := decide_eq_false q5
              have hg : fb = false := HFB.out.symm.trans (decide_eq_false (by omega))
              subst hg
              go_quiet ((go_at_call 68; exact Calls.quiet_of (hnode _)))
              go_wp2_with fail
              go_meet
              exact ⟨rfl, _, rfl⟩
        · have hnb : (decide (0 ≤ m.fr) && decide (m.fr ≤ b.size - 1)) = false := by
            by_cases z : 0 ≤ m.fr
            · rw [decide_eq_false (show ¬ m.fr ≤ b.size - 1 from fun y => q3 ⟨z, y⟩), Bool.and_false]
            · rw [decide_eq_false z, Bool.false_and]
          rw [hnb] at hnode
          have hg : fb = true := HFB.out.symm.trans (decide_eq_true (by omega))
          subst hg
          go_quiet ((go_at_call 68; exact Calls.quiet_of (hnode _)))
          go_wp2_with fail
          go_meet
          exact ⟨rfl, _, rfl⟩
    · have hd1 : (m.tgt != (b.id : Int)) = true := by simpa using q1
      have hg : fb = true := HFB.out.symm.trans (decide_eq_true (by omega))
      subst hg
      go_quiet (fail)
      go_wp2_with fail
      go_meet
      exact ⟨rfl, _, rfl⟩
  case rest =>
    obtain ⟨rfl, n, rfl⟩ := hcut
    clear hnode c7
    by_cases hf : m.tgt ≠ b.id ∨ m.fr = b.id ∨ ¬ (0 ≤ m.fr ∧ m.fr ≤ b.size - 1) ∨ m.kind < 1 ∨ 5 < m.kind
    · have hg : fb = true := HFB.out.symm.trans (decide_eq_true hf)
      subst hg
      have hs : b.strange m := by unfold Bs.strange; omega
      have HS := Lib.hid (decide_eq_true hs)
      clear hs hf
      go_wp2
      go_ret
      exact ⟨by rw [HS.out]; rfl, below_draw HBL.out n⟩
    · have hg : fb = false := HFB.out.symm.trans (decide_eq_false hf)
      subst hg
      by_cases hk : m.kind = 4
      · have hkb : (m.kind == 4) = true := by simpa using hk
        go_wp2_with fail
        refine (within_any _ _ _ _).mono ?_
        rintro et wt ⟨rfl, rfl⟩
        by_cases qt : 1 ≤ m.term ∧ m.term ≤ 1099511627776
        · rw [decide_eq_true qt.1, decide_eq_true qt.2]
          go_wp2_with fail
          refine (within_any _ _ _ _).mono ?_
          rintro ei wi ⟨rfl, rfl⟩
          by_cases qi : -1 ≤ m.index ∧ m.index ≤ 1099511627776
          · rw [decide_eq_true qi.1, decide_eq_true qi.2]
            go_wp2_with fail
            refine (within_any _ _ _ _).mono ?_
            rintro ep wp ⟨rfl, rfl⟩
            by_cases qp : 0 ≤ m.prev ∧ m.prev ≤ 1099511627776
            · rw [decide_eq_true qp.1, decide_eq_true qp.2]
              go_wp2_with fail
              refine (within_any _ _ _ _).mono ?_
              rintro ec wc ⟨rfl, rfl⟩
              by_cases qc : 0 ≤ m.commit ∧ m.commit ≤ 1099511627776
              · rw [decide_eq_true qc.1, decide_eq_true qc.2]
                go_wp2
                go_ret
                exact ⟨by rw [decide_eq_false (show ¬ b.strange m by unfold Bs.strange; omega)]; rfl, below_draw HBL.out n⟩
              · have hbc : (decide (0 ≤ m.commit) && decide (m.commit ≤ 1099511627776)) = false := by
                  by_cases z : 0 ≤ m.commit
                  · rw [decide_eq_false (show ¬ m.commit ≤ 1099511627776 from fun y => qc ⟨z, y⟩), Bool.and_false]
                  · rw [decide_eq_false z, Bool.false_and]
                rw [hbc]
                go_wp2
                go_ret
                exact ⟨by rw [decide_eq_true (show b.strange m by unfold Bs.strange; omega)]; rfl, below_draw HBL.out n⟩
            · have hbp : (decide (0 ≤ m.prev) && decide (m.prev ≤ 1099511627776)) = false := by
                by_cases z : 0 ≤ m.prev
                · rw [decide_eq_false (show ¬ m.prev ≤ 1099511627776 from fun y => qp ⟨z, y⟩), Bool.and_false]
                · rw [decide_eq_false z, Bool.false_and]
              rw [hbp]
              go_wp2
              go_ret
              exact ⟨by rw [decide_eq_true (show b.strange m by unfold Bs.strange; omega)]; rfl, below_draw HBL.out n⟩
          · have hbi : (decide (-1 ≤ m.index) && decide (m.index ≤ 1099511627776)) = false := by
              by_cases z : -1 ≤ m.index
              · rw [decide_eq_false (show ¬ m.index ≤ 1099511627776 from fun y => qi ⟨z, y⟩), Bool.and_false]
              · rw [decide_eq_false z, Bool.false_and]
            rw [hbi]
            go_wp2
            go_ret
            exact ⟨by rw [decide_eq_true (show b.strange m by unfold Bs.strange; omega)]; rfl, below_draw HBL.out n⟩
        · have hbt : (decide (1 ≤ m.term) && decide (m.term ≤ 1099511627776)) = false := by
            by_cases z : 1 ≤ m.term
            · rw [decide_eq_false (show ¬ m.term ≤ 1099511627776 from fun y => qt ⟨z, y⟩), Bool.and_false]
            · rw [decide_eq_false z, Bool.false_and]
          rw [hbt]
          go_wp2
          go_ret
          exact ⟨by rw [decide_eq_true (show b.strange m by unfold Bs.strange; omega)]; rfl, below_draw HBL.out n⟩
      · have hkb : (m.kind == 4) = false := by simpa using hk
        go_wp2_with fail
        refine (within_any _ _ _ _).mono ?_
        rintro et wt ⟨rfl, rfl⟩
        by_cases qt : 1 ≤ m.term ∧ m.term ≤ 1099511627776
        · rw [decide_eq_true qt.1, decide_eq_true qt.2]
          go_wp2_with fail
          refine (within_any _ _ _ _).mono ?_
          rintro ei wi ⟨rfl, rfl⟩
          by_cases qi : 0 ≤ m.index ∧ m.index ≤ 1099511627776
          · rw [decide_eq_true qi.1, decide_eq_true qi.2]
            go_wp2_with fail
            refine (within_any _ _ _ _).mono ?_
            rintro ep wp ⟨rfl, rfl⟩
            by_cases qp : 0 ≤ m.prev ∧ m.prev ≤ 1099511627776
            · rw [decide_eq_true qp.1, decide_eq_true qp.2]
              go_wp2_with fail
              refine (within_any _ _ _ _).mono ?_
              rintro ec wc ⟨rfl, rfl⟩
              by_cases qc : 0 ≤ m.commit ∧ m.commit ≤ 1099511627776
              · rw [decide_eq_true qc.1, decide_eq_true qc.2]
                go_wp2
                go_ret
                exact ⟨by rw [decide_eq_false (show ¬ b.strange m by unfold Bs.strange; omega)]; rfl, below_draw HBL.out n⟩
              · have hbc : (decide (0 ≤ m.commit) && decide (m.commit ≤ 1099511627776)) = false := by
                  by_cases z : 0 ≤ m.commit
                  · rw [decide_eq_false (show ¬ m.commit ≤ 1099511627776 from fun y => qc ⟨z, y⟩), Bool.and_false]
                  · rw [decide_eq_false z, Bool.false_and]
                rw [hbc]
                go_wp2
                go_ret
                exact ⟨by rw [decide_eq_true (show b.strange m by unfold Bs.strange; omega)]; rfl, below_draw HBL.out n⟩
            · have hbp : (decide (0 ≤ m.prev) && decide (m.prev ≤ 1099511627776)) = false := by
                by_cases z : 0 ≤ m.prev
                · rw [decide_eq_false (show ¬ m.prev ≤ 1099511627776 from fun y => qp ⟨z, y⟩), Bool.and_false]
                · rw [decide_eq_false z, Bool.false_and]
              rw [hbp]
              go_wp2
              go_ret
              exact ⟨by rw [decide_eq_true (show b.strange m by unfold Bs.strange; omega)]; rfl, below_draw HBL.out n⟩
          · have hbi : (decide (0 ≤ m.index) && decide (m.index ≤ 1099511627776)) = false := by
              by_cases z : 0 ≤ m.index
              · rw [decide_eq_false (show ¬ m.index ≤ 1099511627776 from fun y => qi ⟨z, y⟩), Bool.and_false]
              · rw [decide_eq_false z, Bool.false_and]
            rw [hbi]
            go_wp2
            go_ret
            exact ⟨by rw [decide_eq_true (show b.strange m by unfold Bs.strange; omega)]; rfl, below_draw HBL.out n⟩
        · have hbt : (decide (1 ≤ m.term) && decide (m.term ≤ 1099511627776)) = false := by
            by_cases z : 1 ≤ m.term
            · rw [decide_eq_false (show ¬ m.term ≤ 1099511627776 from fun y => qt ⟨z, y⟩), Bool.and_false]
            · rw [decide_eq_false z, Bool.false_and]
          rw [hbt]
          go_wp2
          go_ret
          exact ⟨by rw [decide_eq_true (show b.strange m by unfold Bs.strange; omega)]; rfl, below_draw HBL.out n⟩
end
end Go.Proofs.Ytmiagjcihmenfaa
/- The walk of the program's Take. -/
namespace Go.Proofs.Ytmiagjcihmenfaa
open Go.RowKit

theorem info97 : (Try.prog.info? 97).map (·.size) = some 6 := by kernel_rfl
theorem takers_p (w : World) : Calls Try.prog 49 #[] w fun e w' => e = .returned (.agg #[.nilFunc, .func (.func 74) #[] #[], .func (.func 75) #[] #[], .func (.func 76) #[] #[], .func (.func 77) #[] #[], .func (.func 78) #[] #[]]) ∧ Below w.heap.size w w' := by
  go_enter Try.func49, Try.ntmps49
  go_wp2
  exact bodyPost_ret (v := .agg #[.nilFunc, .func (.func 74) #[] #[], .func (.func 75) #[] #[], .func (.func 76) #[] #[], .func (.func 77) #[] #[], .func (.func 78) #[] #[]]) (by simp [results, Try.results49, go_sem]) rfl ⟨rfl, (Below.refl _ _).alloc (Nat.le_refl _) _⟩
section
variable {w w' : World} {A : Nat} {S T : Nat → Prop} {b : Bs} {lv : Value} {pf : Int}
theorem takeFeed_p (h : Pb w A S b) (ok : Ok b) (m : Ms) {mad : Option Addr} {mcap : Nat} (hE : Es w S m.list (.slice mad m.list.length mcap)) (hz : b.log.length + m.list.length ≤ 900000) (hi0 : 0 ≤ m.index) (hi1 : m.index ≤ 1099511627776) (hp0 : 0 ≤ m.prev) : Calls Try.prog 76 #[.pointer (some ⟨A, 0, none⟩), msV m (.slice mad m.list.length mcap)] w fun e w' => ∃ ov, e = .returned ov ∧ Po w w' A S (b.entries m).sent.1 (b.entries m).sent.2 ov := by
  by_cases hr : b.role = 2
  · exact takeFeed_a h ok m hE hz hi0 hi1 (.inl hr)
  · by_cases h1 : m.index + m.list.length ≤ b.commit
    · exact takeFeed_a h ok m hE hz hi0 hi1 (.inr h1)
    · by_cases h2 : b.commit ≤ m.index ∧ b.termAt m.index ≠ m.prev
      · exact takeFeed_r h ok m hE hz hi0 hi1 hr h1 h2
      · exact takeFeed_e h ok m hE hz hi0 hi1 hp0 hr h1 h2
theorem takeFed_p (h : Pb w A S b) (ok : Ok b) (m : Ms) (mv : Value) (h0 : 0 ≤ m.fr) (h1 : m.fr < b.size) (hi0 : -1 ≤ m.index) (hi1 : m.index ≤ 1099511627776) : Calls Try.prog 77 #[.pointer (some ⟨A, 0, none⟩), msV m mv] w fun e w' => ∃ ov, e = .returned ov ∧ Po w w' A S (b.heard m).sent.1 (b.heard m).sent.2 ov := by
  by_cases hr : b.role = 2
  · cases hg : m.good with
    | true => exact takeFed_p1 h ok m mv h0 h1 hi0 hi1 hr hg
    | false => exact takeFed_p0 h ok m mv h0 h1 hi0 hi1 hr hg
  · obtain ⟨W, hB⟩ := Bx.mk' h m mv
    have hA := hB.pb
    have HW := Lib.hid hB.eq
    have hfw : Fr w W S := Fr.ofBelow S hB.bel
    obtain ⟨lv, pf, hv⟩ := hA
    have hA : Pb W A S b := ⟨lv, pf, hv⟩
    have c2 : W.cell? ⟨A, 2, none⟩ = some (.int .i64 b.role) := hv.cell 2
    have eg : (b.heard m).sent = (b, []) := by
      unfold Bs.heard
      rw [if_neg hr]
      exact Bs.sent_so b ok.out
    have HP : Hid (Po w W A S (b.heard m).sent.1 (b.heard m).sent.2 (.slice none 0 0)) := by
      rw [eg]
      exact Po.step hfw (Po.none hA)
    clear hv hB hA hfw eg h
    go_enter Try.func77, Try.ntmps77
    go_upto_region 1 with fail
    rw [← HW.out]
    go_wp2
    go_ret
    exact ⟨_, rfl, HP.out⟩
/-- What is done with a message of its own term. -/
theorem act_p (h : Pb w A S b) (ok : Ok b) (m : Ms) {mad : Option Addr} {mcap : Nat} (hE : Es w S m.list (.slice mad m.list.length mcap)) (hz : b.log.length + m.list.length + 1 ≤ 900000) (hs : ¬ b.strange m) : ∀ K, (m.kind = 1 ∧ K = 74) ∨ (m.kind = 2 ∧ K = 75) ∨ (m.kind = 3 ∧ K = 76) ∨ (m.kind = 4 ∧ K = 77) ∨ (m.kind = 5 ∧ K = 78) → Calls Try.prog K #[.pointer (some ⟨A, 0, none⟩), msV m (.slice mad m.list.length mcap)] w fun e w' => ∃ ov, e = .returned ov ∧ Po w w' A S (b.act m).sent.1 (b.act m).sent.2 ov := by
  unfold Bs.strange at hs
  intro K hK
  rcases hK with ⟨hk, rfl⟩ | ⟨hk, rfl⟩ | ⟨hk, rfl⟩ | ⟨hk, rfl⟩ | ⟨hk, rfl⟩
  · have e : b.act m = b.ask m := if_pos hk
    have es : (b.ask m).sent = (askC b m, [askA b m]) := by
      rw [ask_eq, ok.out]
      unfold Bs.sent
      simp only [List.nil_append]
      have : (askC b m).out = [] := by unfold askC; split <;> exact ok.out
      rw [out_self this]
    rw [e, es]
    exact takeAsk_p h m _
  · have e : b.act m = b.vote' m := by unfold Bs.act; rw [if_neg (by omega), if_pos hk]
    rw [e]
    exact takeVote_p h ok (by omega) m _ (by omega) (by omega)
  · have e : b.act m = b.entries m := by unfold Bs.act; rw [if_neg (by omega), if_neg (by omega), if_pos hk]
    rw [e]
    exact takeFeed_p h ok m hE (by omega) (by omega) (by omega) (by omega)
  · have e : b.act m = b.heard m := by unfold Bs.act; rw [if_neg (by omega), if_neg (by omega), if_neg (by omega), if_pos hk]
    rw [e]
    exact takeFed_p h ok m _ (by omega) (by omega) (by omega) (by omega)
  · have e : b.act m = b.given m := by unfold Bs.act; rw [if_neg (by omega), if_neg (by omega), if_neg (by omega), if_neg (by omega)]
    rw [e]
    exact takeGive_p h ok m _ (by omega) (by omega)
theorem newer_ok (ok : Ok b) (m : Ms) : Ok (b.newer m) := by
  have hi := (Bs.newer_stays (m := m) ok.inv).2.1
  unfold Bs.newer at *
  split
  · rename_i h
    rw [if_pos h] at hi
    exact ⟨hi, ok.hs, (fun q => by cases q), ok.out⟩
  · exact ok
end
end Go.Proofs.Ytmiagjcihmenfaa
