/- The walks of the document's diary: Append, Rewrite, Open. -/
import Derived.Test.YtoipmpaebngppaaEa
import Derived.Test.YtoipmpaebngppaaEb
namespace Go.Proofs.Ytoipmpaebngppaa
open Go.RowKit Go.Maps

namespace Ds
/-- What Append, Rewrite and Open leave. -/
def dApp (s : Ds) (n : ByteArray) (L : List ByteArray) : Ds × Int :=
  if bigL L then (s, 30) else if L.length = 0 then (s, 0) else if (s.app n (recsB L)).down then (s.app n (recsB L), 50) else ((s.app n (recsB L)).syn n, ((s.app n (recsB L)).syn n).code)
def dRew (s : Ds) (n : ByteArray) (L : List ByteArray) : Ds × Int :=
  if bigL L then (s, 30) else (s.swp n (recsB L), (s.swp n (recsB L)).code)
def dOpn (s : Ds) (n : ByteArray) (k : Nat) : Ds :=
  if k < (s.text n).size then s.swp n ((s.text n).extract 0 k) else s
end Ds
/-- The document's diary in memory. -/
def rdO (B : Nat) (n : ByteArray) : Obj := .cells #[.pointer (some ⟨B, 0, none⟩), .string n] 65
section
variable {w w' w1 w2 : World} {A B X Y N M : Nat} {S T : Nat → Prop} {s : Ds} {n d : ByteArray} {L : List ByteArray} {ad : Option Addr} {cap : Nat}
theorem refRecords_big (hL : Ls L ad w) (hz : sumS L ≤ 1000000000000) (hg : bigL L = true) :
    Calls Try.prog 31 #[.slice ad L.length cap] w fun e w' => e = .returned (.tuple #[.string ⟨#[]⟩, .int .i64 30]) ∧ Below w.heap.size w w' := by
  have := refRecords_any L ad cap w hL hz
  simpa only [outB, codeB, hg, if_true] using this
theorem refRecords_ok (hL : Ls L ad w) (hz : sumS L ≤ 1000000000000) (hg : bigL L = false) :
    Calls Try.prog 31 #[.slice ad L.length cap] w fun e w' => e = .returned (.tuple #[.string (recsB L), .int .i64 0]) ∧ Below w.heap.size w w' := by
  have := refRecords_any L ad cap w hL hz
  simpa [outB, codeB, hg] using this
theorem code_down (h : s.down = true) : s.code = 50 := by simp [Ds.code, h, pw]
theorem code_up (h : s.down = false) : s.code = 0 := by simp [Ds.code, h, pw]
theorem RD.shift (hs : ∀ k, T k → k < w.heap.size) (h : RD w2 B (Gro T w1 w2) N s) (h1 : w.heap.size ≤ w1.heap.size) (h2 : w1.heap.size ≤ w2.heap.size) : RD w2 B (Gro T w w2) N s := by
  refine h.wider (fun k q => ?_) (fun k q => ?_)
  · rcases q with q | q
    · exact .inl q
    · exact .inr ⟨by omega, q.2⟩
  · rcases q with q | q
    · have := hs k q
      omega
    · exact q.2
theorem Fr.after (hb : Below w.heap.size w w1) (h : Fr w1 w2 T) : Fr w w2 T := (Fr.ofBelow T hb).trans h
theorem below_draw (h : Below w.heap.size w w1) (k : Nat) : Below w.heap.size w (w1.drewN k) := ⟨h.os, h.tape, h.output, h.size, h.block⟩

theorem di_cells (hY : w.heap[Y]? = some (rdO B n)) (hb : Below w.heap.size w w1) : w1.cell? ⟨Y, 0, none⟩ = some (.pointer (some ⟨B, 0, none⟩)) ∧ w1.cell? ⟨Y, 1, none⟩ = some (.string n) := by
  have hYl : Y < w.heap.size := (Array.getElem?_eq_some_iff.1 hY).1
  exact ⟨(hb.cell (p := ⟨Y, 0, none⟩) hYl).trans (by rw [cell_blk hY]; rfl), (hb.cell (p := ⟨Y, 1, none⟩) hYl).trans (by rw [cell_blk hY]; rfl)⟩

theorem di_fr (hY : w.heap[Y]? = some (rdO B n)) (hb : Below w.heap.size w w1) (hf : Fr w1 w2 T) (hYT : ¬ T Y) : w2.heap[Y]? = some (rdO B n) := by
  have hYl : Y < w.heap.size := (Array.getElem?_eq_some_iff.1 hY).1
  rw [hf.block Y (Nat.lt_of_lt_of_le hYl hb.size) hYT, hb.block Y hYl]
  exact hY

set_option maxHeartbeats 2000000 in
set_option maxRecDepth 100000 in
theorem rd_append (h : RD w B T N s) (hY : w.heap[Y]? = some (rdO B n)) (hYT : ¬ T Y) (hL : Ls L ad w) (hz : sumS L ≤ 1000000000000) (hn : n.size ≤ maxLen) (ho : (oldF s.F n).data.size ≤ 1000000000000) (hN : N + 1 < 900000) :
    Calls Try.prog 13 #[.pointer (some ⟨Y, 0, none⟩), .slice ad L.length cap] w fun e w' => e = .returned (.int .i64 (s.dApp n L).2) ∧ RD w' B (Gro T w w') (N + 2) (s.dApp n L).1 ∧ Fr w w' T := by
  have hlen := sumS_len L
  have hYl : Y < w.heap.size := (Array.getElem?_eq_some_iff.1 hY).1
  cases hg : bigL L with
  | true =>
    have e1 : s.dApp n L = (s, 30) := by simp [Ds.dApp, hg]
    rw [e1]
    have hr := refRecords_big (cap := cap) hL hz hg
    go_enter Try.func13, Try.ntmps13
    go_wp2_with fail
    refine hr.mono ?_
    rintro e w1 ⟨rfl, hb1⟩
    go_wp2
    go_ret
    exact ⟨rfl, (h.grow hb1 (by omega)).more (by omega) (by omega), Fr.ofBelow _ hb1⟩
  | false =>
    have hr := refRecords_ok (cap := cap) hL hz hg
    by_cases h0 : L.length = 0
    · have e1 : s.dApp n L = (s, 0) := by simp [Ds.dApp, hg, h0]
      rw [e1]
      rw [h0] at hr ⊢
      go_enter Try.func13, Try.ntmps13
      go_wp2_with fail
      refine hr.mono ?_
      rintro e w1 ⟨rfl, hb1⟩
      go_wp2
      go_ret
      exact ⟨rfl, (h.grow hb1 (by omega)).more (by omega) (by omega), Fr.ofBelow _ hb1⟩
    · have h0' : ¬ (L.length : Int) = 0 := by omega
      have hR : (recsB L).size = sumS L := rfl
      obtain ⟨R, eR⟩ : ∃ R, recsB L = R := ⟨_, rfl⟩
      rw [eR] at hR hr
      have hap := fun w1 (hb1 : Below w.heap.size w w1) => r_app (n := n) (d := R) (h.on hb1) hn (by omega) (by omega)
      obtain ⟨s1, es⟩ : ∃ s1, s.app n R = s1 := ⟨_, rfl⟩
      cases hd : s1.down with
      | true =>
        have e1 : s.dApp n L = (s1, 50) := by simp [Ds.dApp, hg, h0, eR, es, hd]
        rw [e1]
        simp only [es, code_down hd] at hap
        clear h0 eR es e1
        go_enter Try.func13, Try.ntmps13
        go_wp2_with fail
        refine hr.mono ?_
        rintro e w1 ⟨rfl, hb1⟩
        obtain ⟨c0, c1⟩ := di_cells hY hb1
        have hcall := hap w1.drew (below_draw hb1 1)
        clear hap
        go_wp2
        go_region_with (go_at_call 32; refine hcall.mono ?_; rintro e w2 ⟨rfl, hd2, hf2⟩)
        all_goals
          go_wp2
          go_ret
          exact ⟨rfl, (RD.shift h.lt hd2 hb1.size hf2.size).more (by omega) (by omega), Fr.after (below_draw hb1 1) hf2⟩
      | false =>
        obtain ⟨s2, es2⟩ : ∃ s2, s1.syn n = s2 := ⟨_, rfl⟩
        have e1 : s.dApp n L = (s2, s2.code) := by simp [Ds.dApp, hg, h0, eR, es, hd, es2]
        rw [e1]
        simp only [es, code_up hd] at hap
        clear h0 eR es e1
        go_enter Try.func13, Try.ntmps13
        go_wp2_with fail
        refine hr.mono ?_
        rintro e w1 ⟨rfl, hb1⟩
        obtain ⟨c0, c1⟩ := di_cells hY hb1
        have hcall := hap w1.drew (below_draw hb1 1)
        clear hap
        go_wp2
        go_region_with (go_at_call 32; refine hcall.mono ?_; rintro e w2 ⟨rfl, hd2, hf2⟩)
        all_goals
          clear c0 c1
          have hY2 := di_fr hY (below_draw hb1 1) hf2 hYT
          obtain ⟨c0, c1⟩ := di_cells hY2 (Below.refl _ w2)
          have hcall2 := r_syn (n := n) (hd2.on (below_draw (Below.refl _ w2) 1)) hn hN
          rw [es2] at hcall2
          have z1 := hb1.size
          have z2 : w1.heap.size ≤ w2.heap.size := hf2.size
          go_wp2
          go_region_with (go_at_call 33; refine hcall2.mono ?_; rintro e w3 ⟨rfl, hd3, hf3⟩)
          all_goals
            go_wp2
            go_ret
            have z3 : w2.heap.size ≤ w3.heap.size := hf3.size
            have hf23 : Fr w2 w3 (Gro T w1.drew w2) := ⟨hf3.os, hf3.tape, hf3.output, hf3.size, hf3.block⟩
            exact ⟨rfl, RD.shift h.lt (RD.two (w := w1.drew) (w1 := w2) (fun k q => Nat.lt_of_lt_of_le (h.lt k q) z1) hd3 z2 z3) z1 (Nat.le_trans z2 z3), Fr.after (below_draw hb1 1) (Fr.two hf2 hf23)⟩
end
end Go.Proofs.Ytoipmpaebngppaa
