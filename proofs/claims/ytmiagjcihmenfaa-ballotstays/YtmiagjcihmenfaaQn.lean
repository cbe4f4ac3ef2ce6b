/- The walk of the program's takeFed. -/
import Derived.Test.YtmiagjcihmenfaaQm
namespace Go.Proofs.Ytmiagjcihmenfaa
open Go.RowKit

section
variable {w w' : World} {A : Nat} {S T : Nat → Prop} {b : Bs} {lv : Value} {pf : Int}
theorem pC_next1 (b : Bs) (lv : Value) (pf : Int) {t : Nat} (ht : t < 5) (hl : b.next.length = 5) (x : Int) : (pC b lv pf).setIfInBounds (20 + t * 2) (.int .i64 x) = pC { b with next := b.next.set t x } lv pf := by
  unfold pC
  simp only [getD_setI _ _ _ _ (by omega : t < b.next.length), Bs.last]
  have : t = 0 ∨ t = 1 ∨ t = 2 ∨ t = 3 ∨ t = 4 := by omega
  rcases this with rfl | rfl | rfl | rfl | rfl <;> simp
theorem pC_mat1 (b : Bs) (lv : Value) (pf : Int) {t : Nat} (ht : t < 5) (hl : b.mat.length = 5) (x : Int) : (pC b lv pf).setIfInBounds (20 + t * 2 + 1) (.int .i64 x) = pC { b with mat := b.mat.set t x } lv pf := by
  unfold pC
  simp only [getD_setI _ _ _ _ (by omega : t < b.mat.length), Bs.last]
  have : t = 0 ∨ t = 1 ∨ t = 2 ∨ t = 3 ∨ t = 4 := by omega
  rcases this with rfl | rfl | rfl | rfl | rfl <;> simp
theorem Pb.next1 (h : Pb w A S b) {t : Nat} (ht : t < 5) (hl : b.next.length = 5) (x : Int) : Pb (w.setCell ⟨A, 20 + t * 2, none⟩ (.int .i64 x)) A S { b with next := b.next.set t x } ∧ Fr w (w.setCell ⟨A, 20 + t * 2, none⟩ (.int .i64 x)) S :=
  h.setf (fun lv pf => pC_next1 b lv pf ht hl x) rfl rfl (fun _ q => q) rfl rfl
theorem Pb.mat1 (h : Pb w A S b) {t : Nat} (ht : t < 5) (hl : b.mat.length = 5) (x : Int) : Pb (w.setCell ⟨A, 20 + t * 2 + 1, none⟩ (.int .i64 x)) A S { b with mat := b.mat.set t x } ∧ Fr w (w.setCell ⟨A, 20 + t * 2 + 1, none⟩ (.int .i64 x)) S :=
  h.setf (fun lv pf => pC_mat1 b lv pf ht hl x) rfl rfl (fun _ q => q) rfl rfl
theorem less_ld (ok : Ok b) (hr : b.role = 2) {f : Nat} (hf : f < b.size) (i : Int) : (b.less f i).Ld ∧ (b.less f i).next.getD f 0 ≤ b.last + 1 := by
  have hl := ok.ld hr
  have hn := ok.inv.nx
  have hs := ok.inv.sz
  have h1 := hl.nx f hf
  have h2 := hl.mt f hf
  have h3 := hl.lo f hf
  have key : ∀ k, (b.less f i).next.getD k 0 = if k = f then max (min (i + 1) (b.next.getD f 0 - 1)) (b.mat.getD f 0 + 1) else b.next.getD k 0 := fun k => getD_setI _ _ _ _ (by omega)
  refine ⟨⟨fun k hk => ?_, hl.mt, fun k hk => ?_⟩, ?_⟩
  · rw [key]
    split
    · show _ ≤ b.last + 1
      omega
    · exact hl.nx k hk
  · rw [key]
    show 0 ≤ b.mat.getD k 0 ∧ b.mat.getD k 0 < _
    have h4 := hl.lo k hk
    split
    · rename_i e
      subst e
      omega
    · exact h4
  · rw [key, if_pos rfl]
    omega
theorem more_ld (ok : Ok b) (hr : b.role = 2) {f : Nat} (hf : f < b.size) (i : Int) : (b.more f i).Ld := by
  have hl := ok.ld hr
  have hn := ok.inv.nx
  have hm := ok.inv.mt
  have hs := ok.inv.sz
  have h2 := hl.mt f hf
  have h3 := hl.lo f hf
  have k1 : ∀ k, (b.more f i).next.getD k 0 = if k = f then max (b.mat.getD f 0) (min i b.last) + 1 else b.next.getD k 0 := fun k => getD_setI _ _ _ _ (by omega)
  have k2 : ∀ k, (b.more f i).mat.getD k 0 = if k = f then max (b.mat.getD f 0) (min i b.last) else b.mat.getD k 0 := fun k => getD_setI _ _ _ _ (by omega)
  refine ⟨fun k hk => ?_, fun k hk => ?_, fun k hk => ?_⟩
  · rw [k1]
    split
    · show _ ≤ b.last + 1
      omega
    · exact hl.nx k hk
  · rw [k2]
    split
    · show _ ≤ b.last
      omega
    · exact hl.mt k hk
  · rw [k1, k2]
    split
    · omega
    · exact hl.lo k hk
/-- A message in a list of its own. -/
theorem one_ou {w1 : World} {m : Ms} {lv : Value} (hb : Below w.heap.size w w1) (hl : w1.ownsRow w.heap.size 49 4 lv m.list.length (enC m.list)) : Ou (w1.alloc (msO m lv)) w.heap.size [(m, lv)] (.slice (some ⟨w1.heap.size, 0, none⟩) 1 1) ∧ Below w.heap.size w (w1.alloc (msO m lv)) := by
  have hal : Below w1.heap.size w1 (w1.alloc (msO m lv)) := (Below.refl _ w1).alloc (Nat.le_refl _) _
  refine ⟨⟨⟨rfl, .inr ⟨w1.heap.size, 1, #[.int .i64 m.kind, .int .i64 m.fr, .int .i64 m.to, .int .i64 m.term, .int .i64 m.index, .int .i64 m.prev, .int .i64 m.commit, .bool m.good, lv, .string m.snap], rfl, hb.size, heap_alloc_new w1 _, Nat.le_refl _, (by unfold maxLen; omega), rfl, by simp [msC]⟩⟩, fun p hp => ?_⟩, hb.trans (hal.mono hb.size)⟩
  rw [List.mem_singleton.1 hp]
  exact own_below hl hal
theorem heard_less (ok : Ok b) (hr : b.role = 2) (m : Ms) (hg : m.good = false) : (b.heard m).sent = (b.less m.fr.toNat m.index, [mk b ((b.less m.fr.toNat m.index).feedM m.fr.toNat)]) := by
  unfold Bs.heard
  rw [if_pos hr, hg]
  simp only [Bool.false_eq_true, if_false]
  exact sent_one (b.less m.fr.toNat m.index) _ ok.out
set_option maxHeartbeats 1000000 in
set_option maxRecDepth 100000 in
theorem takeFed_p0 (h : Pb w A S b) (ok : Ok b) (m : Ms) (mv : Value) (h0 : 0 ≤ m.fr) (h1 : m.fr < b.size) (hi0 : -1 ≤ m.index) (hi1 : m.index ≤ 1099511627776) (hr : b.role = 2) (hg : m.good = false) : Calls Try.prog 77 #[.pointer (some ⟨A, 0, none⟩), msV m mv] w fun e w' => ∃ ov, e = .returned ov ∧ Po w w' A S (b.heard m).sent.1 (b.heard m).sent.2 ov := by
  have hlt := h.lt
  obtain ⟨W, hB⟩ := Bx.mk' h m mv
  have hA := hB.pb
  have HW := Lib.hid hB.eq
  have hfw : Fr w W S := Fr.ofBelow S hB.bel
  obtain ⟨f, hf⟩ : ∃ f : Nat, m.fr = f := ⟨m.fr.toNat, by omega⟩
  have hfs : f < b.size := by omega
  have hf5 : f < 5 := by have := ok.inv.sz; omega
  have hft : m.fr.toNat = f := by omega
  have heq := heard_less ok hr m hg
  rw [hft] at heq
  have hnA : A ≠ w.heap.size := Nat.ne_of_lt (hlt A (by obtain ⟨_, _, q⟩ := h; exact q.covA))
  have m1 : W.cell? ⟨w.heap.size, 1, none⟩ = some (.int .i64 m.fr) := cell_blk hB.blk 1
  have m4 : W.cell? ⟨w.heap.size, 4, none⟩ = some (.int .i64 m.index) := cell_blk hB.blk 4
  have m7 : W.cell? ⟨w.heap.size, 7, none⟩ = some (.bool m.good) := cell_blk hB.blk 7
  obtain ⟨lv, pf, hv⟩ := hA
  have hA : Pb W A S b := ⟨lv, pf, hv⟩
  have c2 : W.cell? ⟨A, 2, none⟩ = some (.int .i64 b.role) := hv.cell 2
  have cn := hv.nextc hf5
  have cm := hv.matc hf5
  have fn : W.frozen? ⟨A, 20 + f * 2, none⟩ = false := frozen_blk hv.ob _
  obtain ⟨hld, hnx⟩ := less_ld ok hr hfs m.index
  have hl3 := (ok.ld hr).lo f hfs
  have hl1 := (ok.ld hr).nx f hfs
  have hl2 := (ok.ld hr).mt f hfs
  obtain ⟨ll1, bb0, bb1⟩ := h.len
  have hll : b.last ≤ 4398047411104 := by unfold Bs.last; omega
  obtain ⟨X, hX⟩ : ∃ X, b.less f m.index = X := ⟨_, rfl⟩
  have hXn : X = { b with next := b.next.set f (max (min (m.index + 1) (b.next.getD f 0 - 1)) (b.mat.getD f 0 + 1)) } := by rw [← hX]; rfl
  obtain ⟨nx, hnxx⟩ : ∃ nx, b.next.getD f 0 = nx := ⟨_, rfl⟩
  obtain ⟨mt, hmtt⟩ : ∃ mt, b.mat.getD f 0 = mt := ⟨_, rfl⟩
  rw [hnxx, hmtt] at hXn
  rw [hnxx] at cn hl1 hl3
  rw [hmtt] at cm hl2 hl3
  rw [hX] at heq hld hnx
  obtain ⟨x, hx⟩ : ∃ x, max (min (m.index + 1) (nx - 1)) (mt + 1) = x := ⟨_, rfl⟩
  rw [hx] at hXn
  have hPX : ∀ n, Pb ((W.drewN n).setCell ⟨A, 20 + f * 2, none⟩ (.int .i64 x)) A S X ∧ Fr w ((W.drewN n).setCell ⟨A, 20 + f * 2, none⟩ (.int .i64 x)) S := by
    intro n
    obtain ⟨r1, r2⟩ := (hA.drewN n).next1 hf5 ok.inv.nx x
    rw [hXn]
    exact ⟨r1, (hfw.drewN n).trans ⟨r2.os, r2.tape, r2.output, r2.size, r2.block⟩⟩
  have emk : ∀ q, mk b q = mk X q := by intro q; rw [hXn]
  have hcall : ∀ n, Calls Try.prog 50 #[.pointer (some ⟨A, 0, none⟩), .int .i64 f] ((W.drewN n).setCell ⟨A, 20 + f * 2, none⟩ (.int .i64 x)) fun e w' => ∃ lv, e = .returned (msV (mk X (X.feedM f)) lv) ∧ Po w (w'.alloc (msO (mk X (X.feedM f)) lv)) A S (b.heard m).sent.1 (b.heard m).sent.2 (.slice (some ⟨w'.heap.size, 0, none⟩) 1 1) := by
    intro n
    obtain ⟨p1, p2⟩ := hPX n
    refine (feed_p p1 hf5 (by rw [show X.last = b.last by rw [hXn]; rfl]; exact hnx)).mono ?_
    rintro e w' ⟨lv, rfl, q1, q2⟩
    obtain ⟨s1, s2⟩ := one_ou (m := mk X (X.feedM f)) q1 q2
    refine ⟨lv, rfl, ?_⟩
    rw [heq]
    refine Po.step p2 (Po.of (O := [(mk X (X.feedM f), lv)]) (p1.on s2) (Fr.ofBelow S s2) p1.lt ?_ s1)
    show [mk X (X.feedM f)] = [mk b (X.feedM f)]
    rw [emk]
  obtain ⟨M, hM⟩ : ∃ M, mk X (X.feedM f) = M := ⟨_, rfl⟩
  rw [hM] at hcall
  have i1 : IntKind.i64.wrap (m.index + 1) = m.index + 1 := by rw [IntKind.wrap_i64]; omega
  have i2 : IntKind.i64.wrap (nx - 1) = nx - 1 := by rw [IntKind.wrap_i64]; omega
  have i3 : IntKind.i64.wrap (mt + 1) = mt + 1 := by rw [IntKind.wrap_i64]; omega
  have f0 : (0 : Int) ≤ f := by omega
  have f5 : (f : Int) < 5 := by omega
  rw [hf] at m1
  rw [hg] at m7
  rw [hr] at c2
  have HC := Lib.hid hcall
  have HX := Lib.hid hx
  clear hv hB hA hfw heq hX hXn hnxx hmtt hPX emk hcall hM hld hnx hr hg hf hft h hx ok
  go_enter Try.func77, Try.ntmps77
  go_upto_region 1 with fail
  rw [← HW.out]
  go_wp2
  go_quiet (fail)
  go_wp2
  go_cut [] (fun wx => ∃ n, wx = (W.drewN n).setCell ⟨A, 20 + f * 2, none⟩ (.int .i64 x))
  case first =>
    by_cases q1 : nx - 1 < m.index + 1
    · by_cases q2 : mt + 1 ≤ nx - 1
      · have ex : x = nx - 1 := by have := HX.out; omega
        have HEX := Lib.hid ex
        clear ex
        go_region
        go_wp2_with fail
        go_meet
        exact ⟨nq + 1, by rw [HEX.out]⟩
      · have ex : x = mt + 1 := by have := HX.out; omega
        have HEX := Lib.hid ex
        clear ex
        go_region
        go_wp2_with fail
        go_meet
        exact ⟨nq + 1, by rw [HEX.out]⟩
    · by_cases q2 : mt + 1 ≤ m.index + 1
      · have ex : x = m.index + 1 := by have := HX.out; omega
        have HEX := Lib.hid ex
        clear ex
        go_region
        go_wp2_with fail
        go_meet
        exact ⟨nq + 1, by rw [HEX.out]⟩
      · have ex : x = mt + 1 := by have := HX.out; omega
        have HEX := Lib.hid ex
        clear ex
        go_region
        go_wp2_with fail
        go_meet
        exact ⟨nq + 1, by rw [HEX.out]⟩
  case rest =>
    obtain ⟨n, rfl⟩ := hcut
    go_wp2_with fail
    refine (HC.out n).mono ?_
    rintro e2 w2 ⟨lv2, rfl, hP⟩
    have HP := Lib.hid hP
    clear hP HC
    go_wp2
    go_ret
    exact ⟨_, rfl, HP.out⟩
end
end Go.Proofs.Ytmiagjcihmenfaa
