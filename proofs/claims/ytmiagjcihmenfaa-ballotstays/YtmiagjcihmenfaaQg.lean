/- The walk of the program's lead. -/
import Derived.Test.YtmiagjcihmenfaaQf
namespace Go.Proofs.Ytmiagjcihmenfaa
open Go.RowKit

theorem getD_setI (l : List Int) (t k : Nat) (x : Int) (ht : t < l.length) : (l.set t x).getD k 0 = if k = t then x else l.getD k 0 := by
  by_cases h : k = t
  · subst h
    simp [ht]
  · rw [if_neg h]
    simp [List.getD, List.getElem?_set_ne (Ne.symm h)]
theorem pC_peer (b : Bs) (lv : Value) (pf : Int) {t : Nat} (ht : t < 5) (hl : b.next.length = 5) (hm : b.mat.length = 5) (x y : Int) : ((pC b lv pf).setIfInBounds (20 + t * 2) (.int .i64 x)).setIfInBounds (20 + t * 2 + 1) (.int .i64 y) = pC { b with next := b.next.set t x, mat := b.mat.set t y } lv pf := by
  unfold pC
  simp only [getD_setI _ _ _ _ (by omega : t < b.next.length), getD_setI _ _ _ _ (by omega : t < b.mat.length), Bs.last]
  have : t = 0 ∨ t = 1 ∨ t = 2 ∨ t = 3 ∨ t = 4 := by omega
  rcases this with rfl | rfl | rfl | rfl | rfl <;> simp
theorem fill_next {α : Type} (l : List α) (t : Nat) (x : α) (ht : t < l.length) : Bs.fill l (t + 1) x = (Bs.fill l t x).set t x := by
  unfold Bs.fill
  rw [List.set_append_right _ _ (by simp), List.length_replicate, Nat.sub_self, List.replicate_succ']
  have e : (l.drop t).set 0 x = x :: l.drop (t + 1) := by
    rw [List.drop_eq_getElem_cons ht]
    rfl
  rw [e]
  simp
theorem fill_at (l : List Int) (n k : Nat) (x : Int) : (Bs.fill l n x).getD k 0 = if k < n then x else l.getD k 0 := by
  unfold Bs.fill
  rw [List.getD_eq_getElem?_getD, List.getD_eq_getElem?_getD]
  by_cases q : k < n
  · rw [List.getElem?_append_left (by simpa using q), if_pos q, List.getElem?_replicate, if_pos q]
    rfl
  · rw [List.getElem?_append_right (by simp; omega), if_neg q, List.getElem?_drop, List.length_replicate, show n + (k - n) = k by omega]
/-- The first t nodes' numbers are set. -/
def lT (b : Bs) (t : Nat) : Bs := { b with role := 2, lead := b.id, next := Bs.fill b.next t (b.last + 1), mat := Bs.fill b.mat t 0 }
theorem lT_zero (b : Bs) : lT b 0 = { b with role := 2, lead := b.id } := by unfold lT Bs.fill; simp
theorem lT_size (b : Bs) : lT b b.size = b.leads := rfl
/-- What a new leader has. -/
def led (b : Bs) : Bs := b.leads.put (b.last + 1) [⟨b.term, 0, 0, noT⟩]
theorem led_ok {b : Bs} (hI : b.Inv) : b.leads.Ld := by
  have hb : b.base ≤ b.last := by unfold Bs.last; omega
  have h0 := hI.b0
  refine ⟨fun k hk => ?_, fun k hk => ?_, fun k hk => ?_⟩
  · show (Bs.fill b.next b.size (b.last + 1)).getD k 0 ≤ b.last + 1
    rw [fill_at, if_pos (show k < b.size from hk)]
    exact Int.le_refl _
  · show (Bs.fill b.mat b.size 0).getD k 0 ≤ b.last
    rw [fill_at, if_pos (show k < b.size from hk)]
    omega
  · show 0 ≤ (Bs.fill b.mat b.size 0).getD k 0 ∧ (Bs.fill b.mat b.size 0).getD k 0 < (Bs.fill b.next b.size (b.last + 1)).getD k 0
    have hk' : k < b.size := hk
    rw [fill_at, fill_at, if_pos hk', if_pos hk']
    omega
section
variable {w w' : World} {A : Nat} {S T : Nat → Prop} {b : Bs} {lv : Value} {pf : Int}
theorem lT_step {t : Nat} (h : Pb w A S (lT b t)) (ht : t < b.size) (hs : b.size ≤ 5) (hn : b.next.length = 5) (hm : b.mat.length = 5) :
    Pb ((w.setCell ⟨A, 20 + t * 2, none⟩ (.int .i64 (b.last + 1))).setCell ⟨A, 20 + t * 2 + 1, none⟩ (.int .i64 0)) A S (lT b (t + 1)) ∧ Fr w ((w.setCell ⟨A, 20 + t * 2, none⟩ (.int .i64 (b.last + 1))).setCell ⟨A, 20 + t * 2 + 1, none⟩ (.int .i64 0)) S := by
  obtain ⟨lv, pf, h⟩ := h
  have f1 : (Bs.fill b.next t (b.last + 1)).length = 5 := (Bs.fill_len _ _ _ (by omega)).trans hn
  have f2 : (Bs.fill b.mat t 0).length = 5 := (Bs.fill_len _ _ _ (by omega)).trans hm
  have hf : Fr w ((w.setCell ⟨A, 20 + t * 2, none⟩ (.int .i64 (b.last + 1))).setCell ⟨A, 20 + t * 2 + 1, none⟩ (.int .i64 0)) S := Fr.set (a := ⟨A, 20 + t * 2 + 1, none⟩) (Fr.set (a := ⟨A, 20 + t * 2, none⟩) (Fr.refl w S) (Or.inl h.covA) _) (Or.inl h.covA) _
  have e : lT b (t + 1) = { lT b t with next := (Bs.fill b.next t (b.last + 1)).set t (b.last + 1), mat := (Bs.fill b.mat t 0).set t 0 } := by
    unfold lT
    rw [fill_next _ _ _ (by omega), fill_next _ _ _ (by omega)]
  refine ⟨⟨lv, pf, ⟨?_, ?_, h.covA, h.cov, fun k hk => Nat.lt_of_lt_of_le (h.lt k hk) hf.size, h.len, h.b0, h.b1, h.fm, h.idl, h.sz⟩⟩, hf⟩
  · have hb := set_blk (i := 20 + t * 2 + 1) (set_blk (i := 20 + t * 2) h.ob (.int .i64 (b.last + 1))) (.int .i64 0)
    rw [pC_peer (lT b t) lv pf (by omega) f1 f2] at hb
    rw [e]
    exact hb
  · exact h.log.like (fun k hk => by rw [set_other _ (h.neA k hk), set_other _ (h.neA k hk)])
set_option maxHeartbeats 1000000 in
set_option maxRecDepth 100000 in
theorem lead_p (h : Pb w A S b) (hI : b.Inv) (hz : b.log.length + 1 ≤ 900000) : Calls Try.prog 44 #[.pointer (some ⟨A, 0, none⟩)] w fun e' w' => ∃ ov, e' = .returned ov ∧ Po w w' A S (led b).settleC ((led b).feeds ++ (led b).settleM) ov := by
  obtain ⟨l1, b0, b1⟩ := h.len
  have hll : b.last ≤ 4398047411104 ∧ 0 ≤ b.last := by unfold Bs.last; omega
  obtain ⟨a1, f1⟩ := h.setf (i := 2) (v := .int .i64 2) (b' := { b with role := 2 }) (fun _ _ => rfl) rfl rfl (fun _ q => q) rfl rfl
  obtain ⟨a2, f2⟩ := a1.setf (i := 3) (v := .int .i64 b.id) (b' := { b with role := 2, lead := b.id }) (fun _ _ => rfl) rfl rfl (fun _ q => q) rfl rfl
  rw [← lT_zero b] at a2
  have f12 := f1.trans f2
  obtain ⟨lv, pf, hv⟩ := h
  have c2 : w.cell? ⟨A, 2, none⟩ = some (.int .i64 b.role) := hv.cell 2
  have c3 : w.cell? ⟨A, 3, none⟩ = some (.int .i64 b.lead) := hv.cell 3
  have c7 : w.cell? ⟨A, 7, none⟩ = some (.int .i64 b.id) := hv.cell 7
  have c8 : w.cell? ⟨A, 8, none⟩ = some (.int .i64 b.size) := hv.cell 8
  have g2 : w.frozen? ⟨A, 2, none⟩ = false := frozen_blk hv.ob 2
  have g3 : w.frozen? ⟨A, 3, none⟩ = false := frozen_blk hv.ob 3
  have hsz := hv.sz
  obtain ⟨L1, hL1⟩ : ∃ L1, b.last + 1 = L1 := ⟨_, rfl⟩
  have hw1 : IntKind.i64.wrap (b.last + 1) = L1 := by rw [IntKind.wrap_i64]; omega
  have HA := Lib.hid a2
  have HF := Lib.hid f12
  have HI := Lib.hid hI
  have HL := Lib.hid hL1
  clear hv a1 f1 f2 f12 a2 hI hL1
  go_enter Try.func44, Try.ntmps44
  go_wp2
  go_loopw [20] (fun iv wr => ∃ t : Nat, t ≤ b.size ∧ iv = .int .i64 (t : Nat) ∧ Pb wr A S (lT b t) ∧ Fr w wr S) (fun iv _ => b.size - (intOf iv).toNat)
  case atStart => exact ⟨0, Nat.zero_le _, rfl, HA.out, HF.out⟩
  case round =>
    clear c2 c3 c7 c8 g2 g3
    obtain ⟨t, ht, rfl, hR, hFr⟩ := hrel
    obtain ⟨lv2, pf2, h2⟩ := hR
    by_cases hlt : t < b.size
    · have t0 : (0 : Int) ≤ t := by omega
      have t1 : (t : Int) < b.size := by omega
      have t5 : (t : Int) < 5 := by omega
      have t6 : t < 5 := by omega
      have cn := h2.nextc t6
      have cm := h2.matc t6
      have c5 : wr.cell? ⟨A, 5, none⟩ = some (.int .i64 b.last) := h2.cell 5
      have fn : wr.frozen? ⟨A, 20 + t * 2, none⟩ = false := frozen_blk h2.ob _
      have fm : wr.frozen? ⟨A, 20 + t * 2 + 1, none⟩ = false := frozen_blk h2.ob _
      obtain ⟨xn, hxn⟩ : ∃ xn, (lT b t).next.getD t 0 = xn := ⟨_, rfl⟩
      obtain ⟨xm, hxm⟩ : ∃ xm, (lT b t).mat.getD t 0 = xm := ⟨_, rfl⟩
      rw [hxn] at cn
      rw [hxm] at cm
      obtain ⟨s1, s2⟩ := lT_step ⟨lv2, pf2, h2⟩ hlt hsz HI.out.nx HI.out.mt
      rw [HL.out] at s1 s2
      have HS : Hid (Pb ((wr.setCell ⟨A, 20 + t * 2, none⟩ (.int .i64 L1)).setCell ⟨A, 20 + t * 2 + 1, none⟩ (.int .i64 0)) A S (lT b (t + 1)) ∧ Fr w ((wr.setCell ⟨A, 20 + t * 2, none⟩ (.int .i64 L1)).setCell ⟨A, 20 + t * 2 + 1, none⟩ (.int .i64 0)) S) := ⟨s1, hFr.trans s2⟩
      clear s1 s2 hFr h2 hxn hxm
      go_wp2
      go_region
      go_wp2
      exact ⟨⟨t + 1, hlt, by go_num, HS.out.1.drewN 1, HS.out.2.drew⟩, by simp [intOf]; omega⟩
    · have t1 : ¬ (t : Int) < b.size := by omega
      have et : t = b.size := by omega
      subst et
      rw [lT_size] at h2
      have hiL := (Bs.leads_stays HI.out).2
      have hwr := write_p ⟨lv2, pf2, h2⟩ hiL (led_ok HI.out) hz ⟨b.term, 0, 0, noT⟩
      have HWR : Hid (Calls Try.prog 51 #[.pointer (some ⟨A, 0, none⟩), enV ⟨b.term, 0, 0, noT⟩] wr fun e' w' => ∃ ov, e' = .returned ov ∧ Po w w' A S (led b).settleC ((led b).feeds ++ (led b).settleM) ov) := by
        refine hwr.mono ?_
        rintro e' w' ⟨ov, rfl, q⟩
        exact ⟨ov, rfl, Po.step hFr q⟩
      have c0 : wr.cell? ⟨A, 0, none⟩ = some (.int .i64 b.term) := h2.cell 0
      clear hwr h2 hFr hiL
      go_wp2_with fail
      refine HWR.out.mono ?_
      rintro e' w' ⟨ov, rfl, q⟩
      have HQ := Lib.hid q
      clear q HWR
      go_wp2
      go_ret
      exact ⟨ov, rfl, HQ.out⟩
end
end Go.Proofs.Ytmiagjcihmenfaa
