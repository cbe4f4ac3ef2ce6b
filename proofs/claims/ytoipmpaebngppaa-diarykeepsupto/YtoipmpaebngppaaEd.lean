/- The walks of the document's diary, the second part: Rewrite and Open. -/
import Derived.Test.YtoipmpaebngppaaEc
namespace Go.Proofs.Ytoipmpaebngppaa
open Go.RowKit Go.Maps

/-- What Open leaves: the files, the error, the diary and the payloads. -/
def Opn (X : World → Nat → (Nat → Prop) → Nat → Ds → Prop) (ob : Nat → ByteArray → Obj) (w : World) (B : Nat) (T : Nat → Prop) (N : Nat) (s : Ds) (n : ByteArray) (e : Ending) (w' : World) : Prop :=
  ∃ ps k, Scans (s.text n).data.toList (lists ps) k ∧ k ≤ (s.text n).size ∧ 8 * ps.length ≤ (s.text n).size ∧ Fr w w' T ∧ ∃ T', (∀ j, T' j → Gro T w w' j) ∧ X w' B T' (N + 1) (s.dOpn n k) ∧
    (((s.dOpn n k).down = true ∧ e = .returned (.tuple #[.pointer none, .slice none 0 0, .int .i64 50])) ∨
     ((s.dOpn n k).down = false ∧ ∃ Y v, e = .returned (.tuple #[.pointer (some ⟨Y, 0, none⟩), v, .int .i64 0]) ∧ w'.heap[Y]? = some (ob B n) ∧ ¬ T' Y ∧ w.heap.size ≤ Y ∧ w'.ownsRow w.heap.size 9 1 v ps.length (ps.map Value.string) ∧ ∀ j, v.ownBlock = some j → ¬ T' j))
section
variable {w w' w1 w2 : World} {A B X Y N M : Nat} {S T : Nat → Prop} {s : Ds} {n d : ByteArray} {L : List ByteArray} {ad : Option Addr} {cap : Nat}

set_option maxHeartbeats 2000000 in
set_option maxRecDepth 100000 in
theorem rd_rewrite (h : RD w B T N s) (hY : w.heap[Y]? = some (rdO B n)) (hL : Ls L ad w) (hz : sumS L ≤ 1000000000000) (hn : n.size ≤ maxLen) (hN : N < 900000) :
    Calls Try.prog 15 #[.pointer (some ⟨Y, 0, none⟩), .slice ad L.length cap] w fun e w' => e = .returned (.int .i64 (s.dRew n L).2) ∧ RD w' B (Gro T w w') (N + 1) (s.dRew n L).1 ∧ Fr w w' T := by
  cases hg : bigL L with
  | true =>
    have e1 : s.dRew n L = (s, 30) := by simp [Ds.dRew, hg]
    rw [e1]
    have hr := refRecords_big (cap := cap) hL hz hg
    go_enter Try.func15, Try.ntmps15
    go_wp2_with fail
    refine hr.mono ?_
    rintro e w1 ⟨rfl, hb1⟩
    go_wp2
    go_ret
    exact ⟨rfl, h.grow hb1 hN, Fr.ofBelow _ hb1⟩
  | false =>
    have hr := refRecords_ok (cap := cap) hL hz hg
    have hR : (recsB L).size = sumS L := rfl
    obtain ⟨R, eR⟩ : ∃ R, recsB L = R := ⟨_, rfl⟩
    rw [eR] at hR hr
    have hap := fun w1 (hb1 : Below w.heap.size w w1) => r_swp (n := n) (d := R) (h.on hb1) hn (by omega) hN
    obtain ⟨s1, es⟩ : ∃ s1, s.swp n R = s1 := ⟨_, rfl⟩
    have e1 : s.dRew n L = (s1, s1.code) := by simp [Ds.dRew, hg, eR, es]
    rw [e1]
    simp only [es] at hap
    clear eR es e1
    go_enter Try.func15, Try.ntmps15
    go_wp2_with fail
    refine hr.mono ?_
    rintro e w1 ⟨rfl, hb1⟩
    obtain ⟨c0, c1⟩ := di_cells hY hb1
    have hcall := hap w1.drew (below_draw hb1 1)
    clear hap
    go_wp2
    go_region_with (go_at_call 27; refine hcall.mono ?_; rintro e w2 ⟨rfl, hd2, hf2⟩)
    all_goals
      go_wp2
      go_ret
      exact ⟨rfl, RD.shift h.lt hd2 hb1.size hf2.size, Fr.after (below_draw hb1 1) hf2⟩

theorem text_down (h : s.down = true) (n : ByteArray) : s.text n = ⟨#[]⟩ := by simp [Ds.text, h]
theorem opn_down (h : s.down = true) (n : ByteArray) (k : Nat) : s.dOpn n k = s := by
  have e : ¬ k < (s.text n).size := by rw [text_down h]; exact Nat.not_lt_zero k
  simp [Ds.dOpn, e]
theorem opn_all {k : Nat} (h : ¬ k < (s.text n).size) : s.dOpn n k = s := by simp [Ds.dOpn, h]
theorem opn_cut {k : Nat} (h : k < (s.text n).size) : s.dOpn n k = s.swp n ((s.text n).extract 0 k) := by simp [Ds.dOpn, h]
theorem own_mono {B1 B2 : Nat} {v : Value} {e : TypeId} {c m : Nat} {xs : List Value} (h : w.ownsRow B2 e c v m xs) (hB : B1 ≤ B2) : w.ownsRow B1 e c v m xs := by
  rcases h with ⟨h1, h2 | ⟨g, cap, cur, hv, hg, hr⟩⟩
  · exact ⟨h1, .inl h2⟩
  · exact ⟨h1, .inr ⟨g, cap, cur, hv, Nat.le_trans hB hg, hr⟩⟩
theorem row_stays {v : Value} {e : TypeId} {c m : Nat} {xs : List Value} (h : w1.ownsRow w.heap.size e c v m xs) (hf : Fr w1 w2 T) (hs : ∀ k, T k → k < w.heap.size) : w2.ownsRow w.heap.size e c v m xs :=
  own_like h (fun j hj => hf.block j (h.lt j hj).2 (fun q => by have := hs j q; have := (h.lt j hj).1; omega))

set_option maxHeartbeats 2000000 in
set_option maxRecDepth 100000 in
theorem rd_open (h : RD w B T N s) (hn : n.size ≤ maxLen) (ho : (s.text n).size ≤ 1000000000000) (hN : N < 900000) :
    Calls Try.prog 11 #[.pointer (some ⟨B, 0, none⟩), .string n] w fun e w' => Opn RD rdO w B T N s n e w' := by
  have hrd := r_read h hn
  cases hd : s.down with
  | true =>
    rw [text_down hd, code_down hd] at hrd
    go_enter Try.func11, Try.ntmps11
    go_wp2_with fail
    refine hrd.mono ?_
    rintro e w1 ⟨rfl, hb1⟩
    go_wp2
    go_ret3
    refine ⟨[], 0, ?_, Nat.zero_le _, Nat.zero_le _, Fr.ofBelow _ hb1, Gro T w w1, fun j q => q, ?_, .inl ⟨?_, rfl⟩⟩
    · rw [text_down hd]
      exact scans_none noRec_nil
    · rw [opn_down hd]
      exact h.grow hb1 hN
    · rw [opn_down hd]
      exact hd
  | false =>
    rw [code_up hd] at hrd
    obtain ⟨t, et⟩ : ∃ t, s.text n = t := ⟨_, rfl⟩
    rw [et] at hrd ho
    go_enter Try.func11, Try.ntmps11
    go_wp2_with fail
    refine hrd.mono ?_
    rintro e w1 ⟨rfl, hb1⟩
    go_wp2_with fail
    refine (refScan_any t w1 ho).mono ?_
    rintro e w2 ⟨v, ps, k, rfl, hown, hsc, hk, hps, hb2⟩
    have hb12 := hb1.trans (hb2.mono hb1.size)
    have HS := Lib.hid hsc
    clear hsc
    by_cases hkt : k < t.size
    · have hkt' : (k : Int) < t.size := by omega
      have eO : s.dOpn n k = s.swp n (t.extract 0 k) := by rw [← et] at hkt ⊢; exact opn_cut hkt
      obtain ⟨d, ed⟩ : ∃ d, t.extract 0 k = d := ⟨_, rfl⟩
      have hds : d.size ≤ 140737488355328 := by
        rw [← ed]
        simp
        omega
      have hcall := r_swp (n := n) (d := d) (h.on hb12) hn hds hN
      rw [ed] at eO
      rw [← eO] at hcall
      obtain ⟨s1, es⟩ : ∃ s1, s.dOpn n k = s1 := ⟨_, rfl⟩
      rw [es] at hcall
      have hsub : ∀ w3 : World, w2.heap.size ≤ w3.heap.size → ∀ j, Gro T w2 w3 j → Gro T w w3 j := by
        intro w3 _ j q
        rcases q with q | q
        · exact .inl q
        · exact .inr ⟨Nat.le_trans hb12.size q.1, q.2⟩
      cases hd1 : s1.down with
      | true =>
        rw [code_down hd1] at hcall
        go_wp2_with fail
        refine hcall.mono ?_
        rintro e w3 ⟨rfl, hd3, hf3⟩
        go_wp2
        go_ret3
        refine ⟨ps, k, by rw [et]; exact HS.out, by rw [et]; exact hk, by rw [et]; exact hps, Fr.after hb12 hf3, Gro T w2 w3, hsub w3 hf3.size, by rw [es]; exact hd3, .inl ⟨by rw [es]; exact hd1, rfl⟩⟩
      | false =>
        rw [code_up hd1] at hcall
        go_wp2_with fail
        refine hcall.mono ?_
        rintro e w3 ⟨rfl, hd3, hf3⟩
        go_wp2
        go_ret3
        have hal : Below w3.heap.size w3 (w3.alloc (rdO B n)) := (Below.refl _ w3).alloc (Nat.le_refl _) _
        have hz3 := hf3.size
        have hz2 := hb12.size
        refine ⟨ps, k, by rw [et]; exact HS.out, by rw [et]; exact hk, by rw [et]; exact hps, (Fr.after hb12 hf3).below hal, Gro T w2 w3, fun j q => ?_, by rw [es]; exact hd3.on hal, .inr ⟨by rw [es]; exact hd1, w3.heap.size, _, rfl, heap_alloc_new w3 _, fun q => ?_, by omega, ?_, fun j hj q => ?_⟩⟩
        · rcases hsub w3 hf3.size j q with q | q
          · exact .inl q
          · exact .inr ⟨q.1, Nat.lt_of_lt_of_le q.2 hal.size⟩
        · rcases q with q | q
          · have := h.lt _ q
            omega
          · omega
        · exact own_below (row_stays (w := w) (own_mono hown hb1.size) hf3 h.lt) hal
        · have q1 := hown.lt j hj
          have q2 := hb1.size
          rcases q with q | q
          · have := h.lt _ q
            omega
          · omega
    · have hkt' : ¬ (k : Int) < t.size := by omega
      have eO : s.dOpn n k = s := by rw [← et] at hkt; exact opn_all hkt
      go_wp2
      go_ret3
      have hal : Below w2.heap.size w2 (w2.alloc (rdO B n)) := (Below.refl _ w2).alloc (Nat.le_refl _) _
      have hz2 := hb12.size
      refine ⟨ps, k, by rw [et]; exact HS.out, by rw [et]; exact hk, by rw [et]; exact hps, (Fr.ofBelow T hb12).below hal, T, fun j q => .inl q, by rw [eO]; exact ((h.on hb12).on hal).more (by omega) (by omega), .inr ⟨by rw [eO]; exact hd, w2.heap.size, _, rfl, heap_alloc_new w2 _, fun q => ?_, hz2, ?_, fun j hj q => ?_⟩⟩
      · have := h.lt _ q
        omega
      · exact own_below (own_mono hown hb1.size) hal
      · have q1 := (hown.lt j hj).1
        have q2 := hb1.size
        have := h.lt _ q
        omega
end
end Go.Proofs.Ytoipmpaebngppaa
