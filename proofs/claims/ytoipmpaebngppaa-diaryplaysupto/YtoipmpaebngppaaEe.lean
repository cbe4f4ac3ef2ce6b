/- The walks of the program's diary: records, Append. -/
import Derived.Test.YtoipmpaebngppaaEd
import Derived.Test.YtoipmpaebngppaaSb
namespace Go.Proofs.Ytoipmpaebngppaa
open Go.RowKit Go.Maps

set_option maxHeartbeats 2000000 in
set_option maxRecDepth 100000 in
theorem records_any (L : List ByteArray) (ad : Option Addr) (cap : Nat) (w : World) (hL : Ls L ad w) (hz : sumS L ≤ 1000000000000) :
    Calls Try.prog 28 #[.slice ad L.length cap] w fun e w' => e = .returned (.tuple #[.string (outB L), .int .i64 (codeB L)]) ∧ Below w.heap.size w w' := by
  have hlen := sumS_len L
  go_enter Try.func28, Try.ntmps28
  go_wp2
  go_loopw [11] (fun i wr => ∃ k : Nat, k ≤ L.length ∧ i = .int .i64 k ∧ Hid (Lib.IsBuilder 87 5 w.heap.size w.heap.size (Lib.byteCells (recsB (L.take k)).data.toList) wr) ∧ Hid (∀ j (hj : j < k) (hl : j < L.length), L[j].size ≤ 65536) ∧ Below w.heap.size w wr) (fun i _ => L.length - (intOf i).toNat)
  case atStart => exact ⟨0, Nat.zero_le _, rfl, Lib.fresh_isBuilder 87 5 w, Lib.hid (fun j hj => absurd hj (by omega)), (Below.refl _ w).alloc (Nat.le_refl _) _⟩
  case round =>
    obtain ⟨k, hk, rfl, HS, HB, hb⟩ := hrel
    by_cases hkl : k < L.length
    · have hki : (k : Int) < L.length := by omega
      obtain ⟨b, o, rfl, hbl, c0⟩ := (hL.on hb).at' k hkl
      have hm := sumS_mem (List.getElem_mem hkl)
      by_cases hbg : 65536 < L[k].size
      · have HG : Hid (bigL L = true) := big_of hkl hbg
        go_wp2_with (go_at_call 45; refine (put_big _ _ (by unfold maxLen; omega) hbg).mono ?_; rintro e w1 ⟨rfl, hb1⟩; refine Hid.out ?_)
        refine Lib.hid ?_
        go_wp2
        go_ret2
        unfold outB codeB
        rw [HG.out]
        exact ⟨rfl, hb.trans (hb1.mono hb.size)⟩
      · have HE : Hid (Lib.byteCells (recsB (L.take k)).data.toList ++ Lib.strCells (recB L[k]) = Lib.byteCells (recsB (L.take (k + 1))).data.toList) := by
          show _ = _
          rw [take_snocB L k hkl, recsB_snoc, app_list, Lib.byteCells_append]
          rfl
        have hsz : (Lib.byteCells (recsB (L.take k)).data.toList).length + (recB L[k]).size ≤ 140737488355328 := by
          have h1 := sumS_take L (k + 1)
          rw [take_snocB L k hkl] at h1
          unfold sumS at h1 hz
          rw [recsB_snoc, ByteArray.size_append] at h1
          have h2 : (Lib.byteCells (recsB (L.take k)).data.toList).length = (recsB (L.take k)).size := by rw [Lib.byteCells_length]; rfl
          omega
        go_wp2_with fail
        refine (put_any _ _ (by omega)).mono ?_
        rintro e w1 ⟨rfl, hb1⟩
        have hz1 := hb1.size
        have hwr := writeString_any w.heap.size w.heap.size _ (recB L[k]) w1 (builder_on HS.out hb1) hsz (Nat.le_trans hb.size hz1)
        rw [HE.out] at hwr
        go_wp2_with fail
        refine hwr.mono ?_
        rintro e w2 ⟨rfl, hB2, hb2⟩
        go_wp2
        refine ⟨⟨k + 1, hkl, by go_num, Lib.hid (.inr hB2), Lib.hid (fun j hj hl => ?_), (hb.trans (hb1.mono hb.size)).trans hb2⟩, by simp [intOf]; omega⟩
        rcases Nat.lt_or_ge j k with h | h
        · exact HB.out j h hl
        · have : j = k := by omega
          subst this
          omega
    · have : k = L.length := by omega
      subst this
      have HG : Hid (bigL L = false) := not_big (fun j hj => HB.out j hj hj)
      have hst := string_any w.heap.size w.heap.size _ _ HS.out hb.size
      go_wp2_with fail
      refine hst.mono ?_
      rintro e w1 ⟨rfl, hb1⟩
      go_wp2
      go_ret2
      unfold outB codeB
      rw [HG.out]
      exact ⟨rfl, hb.trans hb1⟩
/-- The program's diary in memory. -/
def pdO (B : Nat) (n : ByteArray) : Obj := .cells #[.pointer (some ⟨B, 0, none⟩), .string n] 62
section
variable {w w' w1 w2 : World} {A B X Y N M : Nat} {S T : Nat → Prop} {s : Ds} {n d : ByteArray} {L : List ByteArray} {ad : Option Addr} {cap : Nat}
theorem records_big (hL : Ls L ad w) (hz : sumS L ≤ 1000000000000) (hg : bigL L = true) :
    Calls Try.prog 28 #[.slice ad L.length cap] w fun e w' => e = .returned (.tuple #[.string ⟨#[]⟩, .int .i64 30]) ∧ Below w.heap.size w w' := by
  have := records_any L ad cap w hL hz
  simpa only [outB, codeB, hg, if_true] using this
theorem records_ok (hL : Ls L ad w) (hz : sumS L ≤ 1000000000000) (hg : bigL L = false) :
    Calls Try.prog 28 #[.slice ad L.length cap] w fun e w' => e = .returned (.tuple #[.string (recsB L), .int .i64 0]) ∧ Below w.heap.size w w' := by
  have := records_any L ad cap w hL hz
  simpa [outB, codeB, hg] using this
theorem PD.shift (hs : ∀ k, T k → k < w.heap.size) (h : PD w2 B (Gro T w1 w2) N s) (h1 : w.heap.size ≤ w1.heap.size) (h2 : w1.heap.size ≤ w2.heap.size) : PD w2 B (Gro T w w2) N s := by
  refine h.wider (fun k q => ?_) (fun k q => ?_)
  · rcases q with q | q
    · exact .inl q
    · exact .inr ⟨by omega, q.2⟩
  · rcases q with q | q
    · have := hs k q
      omega
    · exact q.2
theorem dp_cells (hY : w.heap[Y]? = some (pdO B n)) (hb : Below w.heap.size w w1) : w1.cell? ⟨Y, 0, none⟩ = some (.pointer (some ⟨B, 0, none⟩)) ∧ w1.cell? ⟨Y, 1, none⟩ = some (.string n) := by
  have hYl : Y < w.heap.size := (Array.getElem?_eq_some_iff.1 hY).1
  exact ⟨(hb.cell (p := ⟨Y, 0, none⟩) hYl).trans (by rw [cell_blk hY]; rfl), (hb.cell (p := ⟨Y, 1, none⟩) hYl).trans (by rw [cell_blk hY]; rfl)⟩

theorem dp_fr (hY : w.heap[Y]? = some (pdO B n)) (hb : Below w.heap.size w w1) (hf : Fr w1 w2 T) (hYT : ¬ T Y) : w2.heap[Y]? = some (pdO B n) := by
  have hYl : Y < w.heap.size := (Array.getElem?_eq_some_iff.1 hY).1
  rw [hf.block Y (Nat.lt_of_lt_of_le hYl hb.size) hYT, hb.block Y hYl]
  exact hY

set_option maxHeartbeats 2000000 in
set_option maxRecDepth 100000 in
theorem pd_append (h : PD w B T N s) (hY : w.heap[Y]? = some (pdO B n)) (hYT : ¬ T Y) (hL : Ls L ad w) (hz : sumS L ≤ 1000000000000) (hn : n.size ≤ maxLen) (ho : (oldF s.F n).data.size ≤ 1000000000000) (hN : N + 1 < 900000) :
    Calls Try.prog 12 #[.pointer (some ⟨Y, 0, none⟩), .slice ad L.length cap] w fun e w' => e = .returned (.int .i64 (s.dApp n L).2) ∧ PD w' B (Gro T w w') (N + 2) (s.dApp n L).1 ∧ Fr w w' T := by
  have hlen := sumS_len L
  have hYl : Y < w.heap.size := (Array.getElem?_eq_some_iff.1 hY).1
  cases hg : bigL L with
  | true =>
    have e1 : s.dApp n L = (s, 30) := by simp [Ds.dApp, hg]
    rw [e1]
    have hr := records_big (cap := cap) hL hz hg
    go_enter Try.func12, Try.ntmps12
    go_wp2_with fail
    refine hr.mono ?_
    rintro e w1 ⟨rfl, hb1⟩
    go_wp2
    go_ret
    exact ⟨rfl, (h.grow hb1 (by omega)).more (by omega) (by omega), Fr.ofBelow _ hb1⟩
  | false =>
    have hr := records_ok (cap := cap) hL hz hg
    by_cases h0 : L.length = 0
    · have e1 : s.dApp n L = (s, 0) := by simp [Ds.dApp, hg, h0]
      rw [e1]
      rw [h0] at hr ⊢
      go_enter Try.func12, Try.ntmps12
      go_wp2_with fail
      refine hr.mono ?_
      rintro e w1 ⟨rfl, hb1⟩
      go_wp2
      go_ret
      exact ⟨rfl, (h.grow hb1 (by omega)).more (by omega) (by omega), Fr.ofBelow _ hb1⟩
    · have h0' : ¬ (L.length : Int) = 0 := by omega
      have hR : (recsB L).size = sumS L := rfl
      obtain ⟨R, eR⟩ : ∃ R, recsB L = R := ⟨_, rfl⟩
      rw [eR] at hR hr
      have hap := fun w1 (hb1 : Below w.heap.size w w1) => p_app (n := n) (d := R) (h.on hb1) hn (by omega) (by omega)
      obtain ⟨s1, es⟩ : ∃ s1, s.app n R = s1 := ⟨_, rfl⟩
      cases hd : s1.down with
      | true =>
        have e1 : s.dApp n L = (s1, 50) := by simp [Ds.dApp, hg, h0, eR, es, hd]
        rw [e1]
        simp only [es, code_down hd] at hap
        clear h0 eR es e1
        go_enter Try.func12, Try.ntmps12
        go_wp2_with fail
        refine hr.mono ?_
        rintro e w1 ⟨rfl, hb1⟩
        obtain ⟨c0, c1⟩ := dp_cells hY hb1
        have hcall := hap w1.drew (below_draw hb1 1)
        clear hap
        go_wp2
        go_region_with (go_at_call 29; refine hcall.mono ?_; rintro e w2 ⟨rfl, hd2, hf2⟩)
        all_goals
          go_wp2
          go_ret
          exact ⟨rfl, (PD.shift h.lt hd2 hb1.size hf2.size).more (by omega) (by omega), Fr.after (below_draw hb1 1) hf2⟩
      | false =>
        obtain ⟨s2, es2⟩ : ∃ s2, s1.syn n = s2 := ⟨_, rfl⟩
        have e1 : s.dApp n L = (s2, s2.code) := by simp [Ds.dApp, hg, h0, eR, es, hd, es2]
        rw [e1]
        simp only [es, code_up hd] at hap
        clear h0 eR es e1
        go_enter Try.func12, Try.ntmps12
        go_wp2_with fail
        refine hr.mono ?_
        rintro e w1 ⟨rfl, hb1⟩
        obtain ⟨c0, c1⟩ := dp_cells hY hb1
        have hcall := hap w1.drew (below_draw hb1 1)
        clear hap
        go_wp2
        go_region_with (go_at_call 29; refine hcall.mono ?_; rintro e w2 ⟨rfl, hd2, hf2⟩)
        all_goals
          clear c0 c1
          have hY2 := dp_fr hY (below_draw hb1 1) hf2 hYT
          obtain ⟨c0, c1⟩ := dp_cells hY2 (Below.refl _ w2)
          have hcall2 := p_syn (n := n) (hd2.on (below_draw (Below.refl _ w2) 1)) hn hN
          rw [es2] at hcall2
          have z1 := hb1.size
          have z2 : w1.heap.size ≤ w2.heap.size := hf2.size
          go_wp2
          go_region_with (go_at_call 30; refine hcall2.mono ?_; rintro e w3 ⟨rfl, hd3, hf3⟩)
          all_goals
            go_wp2
            go_ret
            have z3 : w2.heap.size ≤ w3.heap.size := hf3.size
            have hf23 : Fr w2 w3 (Gro T w1.drew w2) := ⟨hf3.os, hf3.tape, hf3.output, hf3.size, hf3.block⟩
            exact ⟨rfl, PD.shift h.lt (PD.two (w := w1.drew) (w1 := w2) (fun k q => Nat.lt_of_lt_of_le (h.lt k q) z1) hd3 z2 z3) z1 (Nat.le_trans z2 z3), Fr.after (below_draw hb1 1) (Fr.two hf2 hf23)⟩
end
end Go.Proofs.Ytoipmpaebngppaa
