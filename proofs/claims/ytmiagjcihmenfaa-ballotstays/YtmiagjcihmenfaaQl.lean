/- The walk of the program's takeVote. -/
import Derived.Test.YtmiagjcihmenfaaQk
namespace Go.Proofs.Ytmiagjcihmenfaa
open Go.RowKit

section
variable {w w' : World} {A : Nat} {S T : Nat → Prop} {b : Bs} {lv : Value} {pf : Int}
theorem Bx.stay {W W' : World} {m : Ms} {mv : Value} (hB : Bx w W A S b m mv) (hlt : ∀ k, S k → k < w.heap.size) (hf : Fr W W' S) : W'.heap[w.heap.size]? = some (msO m mv) :=
  (hf.block _ (blk_lt hB.blk) (fun q => by have := hlt _ q; omega)).trans hB.blk
theorem getD_setB (l : List Bool) (t k : Nat) (x : Bool) (ht : t < l.length) : (l.set t x).getD k false = if k = t then x else l.getD k false := by
  by_cases h : k = t
  · subst h
    simp [ht]
  · rw [if_neg h]
    simp [List.getD, List.getElem?_set_ne (Ne.symm h)]
theorem pC_has (b : Bs) (lv : Value) (pf : Int) {t : Nat} (ht : t < 5) (hl : b.has.length = 5) : (pC b lv pf).setIfInBounds (15 + t) (.bool true) = pC { b with has := b.has.set t true } lv pf := by
  unfold pC
  simp only [getD_setB _ _ _ _ (by omega : t < b.has.length), Bs.last]
  have : t = 0 ∨ t = 1 ∨ t = 2 ∨ t = 3 ∨ t = 4 := by omega
  rcases this with rfl | rfl | rfl | rfl | rfl <;> simp
theorem votes_five (b : Bs) (h : b.Hs) (hs : b.size ≤ 5) : b.votes 5 = b.votes b.size := by
  have := Bs.votes_more b h (5 - b.size)
  rwa [show b.size + (5 - b.size) = 5 by omega] at this
theorem votes_leN (b : Bs) : ∀ n, b.votes n ≤ n
  | 0 => Nat.le_refl _
  | n + 1 => by
    have := votes_leN b n
    unfold Bs.votes
    split <;> omega
def VL (X : Bs) (V wr : World) (cv iv : Value) : Prop := ∃ t : Nat, t ≤ 5 ∧ iv = .int .i64 (t : Nat) ∧ cv = .int .i64 ((X.votes t : Nat) : Int) ∧ wr = V
set_option maxHeartbeats 1000000 in
set_option maxRecDepth 100000 in
theorem takeVote_p (h : Pb w A S b) (ok : Ok b) (hz : b.log.length + 1 ≤ 900000) (m : Ms) (mv : Value) (h0 : 0 ≤ m.fr) (h1 : m.fr < b.size) : Calls Try.prog 75 #[.pointer (some ⟨A, 0, none⟩), msV m mv] w fun e w' => ∃ ov, e = .returned ov ∧ Po w w' A S (b.vote' m).sent.1 (b.vote' m).sent.2 ov := by
  have hlt := h.lt
  obtain ⟨W, hB⟩ := Bx.mk' h m mv
  have hA := hB.pb
  have HW := Lib.hid hB.eq
  have hfw : Fr w W S := Fr.ofBelow S hB.bel
  have m1 : W.cell? ⟨w.heap.size, 1, none⟩ = some (.int .i64 m.fr) := cell_blk hB.blk 1
  have m7 : W.cell? ⟨w.heap.size, 7, none⟩ = some (.bool m.good) := cell_blk hB.blk 7
  obtain ⟨lv, pf, hv⟩ := hA
  have hA : Pb W A S b := ⟨lv, pf, hv⟩
  have c2 : W.cell? ⟨A, 2, none⟩ = some (.int .i64 b.role) := hv.cell 2
  by_cases hr : b.role = 1
  · by_cases hg : m.good = true
    · obtain ⟨f, hf⟩ : ∃ f : Nat, m.fr = f := ⟨m.fr.toNat, by omega⟩
      have hf5 : f < 5 := by have := hv.sz; omega
      have hft : m.fr.toNat = f := by omega
      obtain ⟨X, hX⟩ : ∃ X, ({ b with has := b.has.set f true } : Bs) = X := ⟨_, rfl⟩
      have evo : b.vote' m = X.count := by
        unfold Bs.vote'
        rw [if_pos ⟨hr, hg⟩, hft, hX]
      have hXo : X.out = [] := by rw [← hX]; exact ok.out
      have hXI : X.Inv := by
        rw [← hX]
        have h := ok.inv
        exact ⟨h.idl, h.sz, by simpa using h.hs, h.nx, h.mt, h.b0, h.bc, h.cl, h.v0, h.v1, h.t0⟩
      have hXs : X.size = b.size := by rw [← hX]
      have hXH : X.Hs := by
        rw [← hX]
        intro k hk
        have hk' : b.size ≤ k := hk
        show (b.has.set f true).getD k false = false
        rw [getD_setB _ _ _ _ (by rw [ok.inv.hs]; exact hf5), if_neg (by omega)]
        exact ok.hs k hk'
      have hXl : X.log.length + 1 ≤ 900000 := by rw [← hX]; exact hz
      -- the vote is noted
      have hob := set_blk (i := 15 + f) hv.ob (.bool true)
      rw [pC_has b lv pf hf5 ok.inv.hs, hX] at hob
      have hfs : Fr W (W.setCell ⟨A, 15 + f, none⟩ (.bool true)) S := Fr.set (a := ⟨A, 15 + f, none⟩) (Fr.refl W S) (Or.inl hv.covA) _
      have hPX : Pb (W.setCell ⟨A, 15 + f, none⟩ (.bool true)) A S X := by
        rw [← hX]
        rw [← hX] at hob
        exact ⟨lv, pf, ⟨hob, hv.log.like (fun k hk => set_other _ (hv.neA k hk)), hv.covA, hv.cov, fun k hk => Nat.lt_of_lt_of_le (hv.lt k hk) hfs.size, hv.len, hv.b0, hv.b1, hv.fm, hv.idl, hv.sz⟩⟩
      have x15 := hv.hasc hf5
      obtain ⟨hh, hhh⟩ : ∃ hh, b.has.getD f false = hh := ⟨_, rfl⟩
      rw [hhh] at x15
      have g15 : W.frozen? ⟨A, 15 + f, none⟩ = false := frozen_blk hv.ob _
      obtain ⟨V, hV⟩ : ∃ V, V = (W.setCell ⟨A, 15 + f, none⟩ (.bool true)).drew := ⟨_, rfl⟩
      have hPV : Pb V A S X := by rw [hV]; exact hPX.drewN 1
      have hfV : Fr w V S := by rw [hV]; exact (hfw.trans hfs).drew
      obtain ⟨lvV, pfV, hvV⟩ := hPV
      have hPV : Pb V A S X := ⟨lvV, pfV, hvV⟩
      have d8 : V.cell? ⟨A, 8, none⟩ = some (.int .i64 b.size) := by rw [← hXs]; exact hvV.cell 8
      have v0 : V.cell? ⟨A, 15, none⟩ = some (.bool (X.has.getD 0 false)) := hvV.cell 15
      have v1 : V.cell? ⟨A, 16, none⟩ = some (.bool (X.has.getD 1 false)) := hvV.cell 16
      have v2 : V.cell? ⟨A, 17, none⟩ = some (.bool (X.has.getD 2 false)) := hvV.cell 17
      have v3 : V.cell? ⟨A, 18, none⟩ = some (.bool (X.has.getD 3 false)) := hvV.cell 18
      have v4 : V.cell? ⟨A, 19, none⟩ = some (.bool (X.has.getD 4 false)) := hvV.cell 19
      have y0 : X.votes 1 = (if X.has.getD 0 false then 1 else 0) := Nat.zero_add _
      have y1 : X.votes 2 = X.votes 1 + (if X.has.getD 1 false then 1 else 0) := rfl
      have y2 : X.votes 3 = X.votes 2 + (if X.has.getD 2 false then 1 else 0) := rfl
      have y3 : X.votes 4 = X.votes 3 + (if X.has.getD 3 false then 1 else 0) := rfl
      have y4 : X.votes 5 = X.votes 4 + (if X.has.getD 4 false then 1 else 0) := rfl
      have le1 := votes_leN X 1
      have le2 := votes_leN X 2
      have le3 := votes_leN X 3
      have le4 := votes_leN X 4
      have le5 := votes_leN X 5
      have e5 := votes_five X hXH (by rw [hXs]; exact hv.sz)
      generalize X.has.getD 0 false = a0 at v0 y0
      generalize X.has.getD 1 false = a1 at v1 y1
      generalize X.has.getD 2 false = a2 at v2 y2
      generalize X.has.getD 3 false = a3 at v3 y3
      generalize X.has.getD 4 false = a4 at v4 y4
      have hle := lead_p hPV hXI hXl
      have f0 : (0 : Int) ≤ f := by omega
      have f5 : (f : Int) < 5 := by omega
      have hsz5 := hv.sz
      have HVV := Lib.hid hV
      have HPV := Lib.hid hPV
      have HFV := Lib.hid hfV
      have HY : Hid ((X.votes 1 = if a0 then 1 else 0) ∧ (X.votes 2 = X.votes 1 + if a1 then 1 else 0) ∧ (X.votes 3 = X.votes 2 + if a2 then 1 else 0) ∧ (X.votes 4 = X.votes 3 + if a3 then 1 else 0) ∧ (X.votes 5 = X.votes 4 + if a4 then 1 else 0)) := ⟨y0, y1, y2, y3, y4⟩
      rw [evo]
      rw [hf] at m1
      rw [hg] at m7
      rw [hr] at c2
      have HEV := Lib.hid e5
      have HXS := Lib.hid hXs
      have HXO := Lib.hid hXo
      clear y0 y1 y2 y3 y4 hvV hPV hfV hV hob hfs hPX hv hB hA hfw hX hhh evo hft h hf hg hr e5 hXs hXo hXI hXH
      go_enter Try.func75, Try.ntmps75
      go_upto_region 1 with fail
      rw [← HW.out]
      go_wp2
      go_region
      rw [← HVV.out]
      go_wp2
      go_loopw [5, 29] (fun cv iv wr => VL X V wr cv iv) (fun _ iv _ => 5 - (intOf iv).toNat)
      case atStart => exact ⟨0, Nat.zero_le _, rfl, rfl, rfl⟩
      case round =>
        obtain ⟨t, ht, rfl, rfl, rfl⟩ := hrel
        have hy := HY.out
        by_cases ht5 : t = 5
        · subst ht5
          obtain ⟨N, hN⟩ : ∃ N, X.votes 5 = N := ⟨_, rfl⟩
          rw [hN] at le5 ⊢
          have hXN : X.votes X.size = N := HEV.out.symm.trans hN
          by_cases hmaj : 2 * N ≤ b.size
          · have ec : X.count = X := by
              unfold Bs.count
              rw [if_pos (by rw [hXN, HXS.out]; exact hmaj)]
            have m2 : 2 * (N : Int) ≤ b.size := by omega
            have HEC : Hid (X.count.sent = (X, [])) := by
              rw [ec]
              exact Bs.sent_so X HXO.out
            clear hy hN hXN ec
            go_wp2
            go_ret
            rw [HEC.out]
            exact ⟨_, rfl, Po.step HFV.out (Po.none HPV.out)⟩
          · have ec : X.count = (led X).feedAll.settle := by
              unfold Bs.count
              rw [if_neg (by rw [hXN, HXS.out]; exact hmaj)]
              rfl
            have m2 : ¬ 2 * (N : Int) ≤ b.size := by omega
            have HEC : Hid (X.count.sent = ({ (led X).settleC with out := [] }, (led X).feeds ++ (led X).settleM)) := by
              rw [ec]
              exact Bs.all_sent (led X) HXO.out
            clear hy hN hXN ec
            go_wp2_with fail
            refine hle.mono ?_
            rintro e' w' ⟨ov, rfl, q⟩
            have HQ : Hid (Po w w' A S X.count.sent.1 X.count.sent.2 ov) := by
              rw [HEC.out]
              exact (Po.step HFV.out q).unsay _
            clear q hle
            go_wp2
            go_ret
            exact ⟨ov, rfl, HQ.out⟩
        · have : t = 0 ∨ t = 1 ∨ t = 2 ∨ t = 3 ∨ t = 4 := by omega
          clear hle ht5 ht
          rcases this with rfl | rfl | rfl | rfl | rfl
          · have e0 : X.votes 0 = 0 := rfl
            rw [e0]
            have hix : ∀ w, (Instr.index 73 (.agg #[.bool a0, .bool a1, .bool a2, .bool a3, .bool a4]) (.int .i64 0)).run Try.prog w = .ok (.bool a0) w := fun _ => by kernel_rfl
            have hy2 := Lib.hid hy.1
            clear hy e0
            cases a0 <;>
            · go_wp2
              exact ⟨⟨1, by omega, rfl, by rw [hy2.out]; rfl, rfl⟩, by simp [intOf]⟩
          · have hix : ∀ w, (Instr.index 73 (.agg #[.bool a0, .bool a1, .bool a2, .bool a3, .bool a4]) (.int .i64 1)).run Try.prog w = .ok (.bool a1) w := fun _ => by kernel_rfl
            obtain ⟨N, hN⟩ : ∃ N, X.votes 1 = N := ⟨_, rfl⟩
            rw [hN] at hy le1 ⊢
            have hy2 := Lib.hid hy.2.1
            clear hy hN
            cases a1 <;>
            · go_wp2
              exact ⟨⟨2, by omega, rfl, by rw [hy2.out]; simp, rfl⟩, by simp [intOf]⟩
          · have hix : ∀ w, (Instr.index 73 (.agg #[.bool a0, .bool a1, .bool a2, .bool a3, .bool a4]) (.int .i64 2)).run Try.prog w = .ok (.bool a2) w := fun _ => by kernel_rfl
            obtain ⟨N, hN⟩ : ∃ N, X.votes 2 = N := ⟨_, rfl⟩
            rw [hN] at hy le2 ⊢
            have hy2 := Lib.hid hy.2.2.1
            clear hy hN
            cases a2 <;>
            · go_wp2
              exact ⟨⟨3, by omega, rfl, by rw [hy2.out]; simp, rfl⟩, by simp [intOf]⟩
          · have hix : ∀ w, (Instr.index 73 (.agg #[.bool a0, .bool a1, .bool a2, .bool a3, .bool a4]) (.int .i64 3)).run Try.prog w = .ok (.bool a3) w := fun _ => by kernel_rfl
            obtain ⟨N, hN⟩ : ∃ N, X.votes 3 = N := ⟨_, rfl⟩
            rw [hN] at hy le3 ⊢
            have hy2 := Lib.hid hy.2.2.2.1
            clear hy hN
            cases a3 <;>
            · go_wp2
              exact ⟨⟨4, by omega, rfl, by rw [hy2.out]; simp, rfl⟩, by simp [intOf]⟩
          · have hix : ∀ w, (Instr.index 73 (.agg #[.bool a0, .bool a1, .bool a2, .bool a3, .bool a4]) (.int .i64 4)).run Try.prog w = .ok (.bool a4) w := fun _ => by kernel_rfl
            obtain ⟨N, hN⟩ : ∃ N, X.votes 4 = N := ⟨_, rfl⟩
            rw [hN] at hy le4 ⊢
            have hy2 := Lib.hid hy.2.2.2.2
            clear hy hN
            cases a4 <;>
            · go_wp2
              exact ⟨⟨5, by omega, rfl, by rw [hy2.out]; simp, rfl⟩, by simp [intOf]⟩
    · have evo : b.vote' m = b := if_neg (fun q => hg q.2)
      have HEV : Hid ((b.vote' m).sent = (b, [])) := by
        rw [evo]
        exact Bs.sent_so b ok.out
      have hg' : m.good = false := by simpa using hg
      have HP : Hid (Po w W A S b [] (.slice none 0 0)) := Po.step hfw (Po.none hA)
      rw [hg'] at m7
      rw [hr] at c2
      clear hv hB hA hfw evo h hg hg' hr
      go_enter Try.func75, Try.ntmps75
      go_upto_region 1 with fail
      rw [← HW.out]
      go_wp2
      go_ret
      rw [HEV.out]
      exact ⟨_, rfl, HP.out⟩
  · have evo : b.vote' m = b := if_neg (fun q => hr q.1)
    have HEV : Hid ((b.vote' m).sent = (b, [])) := by
      rw [evo]
      exact Bs.sent_so b ok.out
    have HP : Hid (Po w W A S b [] (.slice none 0 0)) := Po.step hfw (Po.none hA)
    clear hv hB hA hfw evo h
    go_enter Try.func75, Try.ntmps75
    go_upto_region 1 with fail
    rw [← HW.out]
    go_wp2
    go_ret
    rw [HEV.out]
    exact ⟨_, rfl, HP.out⟩
end
end Go.Proofs.Ytmiagjcihmenfaa
