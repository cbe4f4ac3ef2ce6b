/- A shard's part: the one that there is, or a new one behind all. -/
import Derived.Test.YtfokgalgdlajlaaCr
namespace Go.Proofs.Ytfokgalgdlajlaa
open Go.RowKit
/-- The parts so far, in the block that a variable has; the row is from B on. -/
structure Pv (B : Nat) (X : World) (Pb : Nat) (L : List Gp) (v : Value) : Prop where
  blk : X.heap[Pb]? = some (.cells #[v] 79 (0, 0))
  row : X.ownsRow B 84 3 v L.length (L.flatMap gpL)
  few : L.length ≤ 800000
  rise : Rising L
theorem Sought.at {L : List Gp} {t : Int} {i k : Nat} (h : Sought L t i) (hr : Rising L) (hk : k < L.length) (e : L[k].sh = t) : i = k := by
  rcases Nat.lt_trichotomy i k with q | q | q
  · have hi : i < L.length := by omega
    have h1 := h.hi i hi (Nat.le_refl _)
    have h2 := hr i k hi hk q
    omega
  · exact q
  · have := h.lo k hk q
    omega
theorem Sought.end {L : List Gp} {t : Int} {i : Nat} (h : Sought L t i) (e : ∀ g ∈ L, g.sh < t) : i = L.length := by
  rcases Nat.lt_or_ge i L.length with q | q
  · have h1 := h.hi i q (Nat.le_refl _)
    have h2 := e L[i] (List.getElem_mem q)
    omega
  · have := h.le
    omega
theorem Pv.lr {B Pb : Nat} {X : World} {L : List Gp} {v : Value} (h : Pv B X Pb L v) : Lr gpE 3 X L v := Lr.own gpL_len h.row
theorem Pv.on {B Pb : Nat} {X X' : World} {L : List Gp} {v : Value} (h : Pv B X Pb L v) (hb : Below X.heap.size X X') : Pv B X' Pb L v := ⟨(hb.block _ (blk_lt h.blk)).trans h.blk, own_below h.row hb, h.few, h.rise⟩
section
variable {w : World} {B Pb : Nat} {L : List Gp} {v : Value}
set_option maxHeartbeats 4000000 in
set_option maxRecDepth 100000 in
theorem in_found (h : Pv B w Pb L v) {k : Nat} (hk : k < L.length) {t : Int} (e : L[k].sh = t) : Calls Try.prog 38 #[.int .i64 t, .pointer (some ⟨Pb, 0, none⟩)] w fun e w' => (∃ g, v.ownBlock = some g ∧ e = .returned (.pointer (some ⟨g, k * 3, none⟩))) ∧ Below w.heap.size w w' := by
  obtain ⟨g, cap, rfl⟩ : ∃ g cap, v = .slice (some ⟨g, 0, none⟩) L.length cap := by
    rcases h.row.2 with ⟨_, q⟩ | ⟨g, cap, _, q, _⟩
    · omega
    · exact ⟨g, cap, q⟩
  have hs := search_any h.lr h.rise (by have := h.few; omega) t
  have l0 : w.cell? ⟨Pb, 0, none⟩ = some (.slice (some ⟨g, 0, none⟩) L.length cap) := cell_blk h.blk 0
  have HH := Lib.hid h
  have HS := Lib.hid hs
  have HK := Lib.hid hk
  have HE := Lib.hid e
  clear hs e
  go_enter Try.func38, Try.ntmps38
  go_wp2_with fail
  refine HS.out.mono ?_
  rintro e w1 ⟨i, hi, rfl, b1⟩
  obtain rfl : i = k := hi.at h.rise HK.out HE.out
  have hd : decide (∃ h : i < L.length, L[i].sh = t) = true := decide_eq_true ⟨HK.out, HE.out⟩
  rw [hd]
  have l1 := cell_on b1 l0
  have HB := Lib.hid b1
  have k0 : (0 : Int) ≤ i := by omega
  have k1 : (i : Int) < L.length := by have := HK.out; omega
  clear hi hd b1 l0 h
  go_wp2
  refine bodyPost_ret (v := .pointer (some ⟨g, i * 3, none⟩)) (by simp [results, Try.results38, go_sem]) rfl ?_
  exact ⟨⟨g, rfl, rfl⟩, HB.out⟩
def newP (t : Int) : Gp := ⟨t, .nil, .nil⟩
set_option maxHeartbeats 4000000 in
set_option maxRecDepth 100000 in
theorem in_end (h : Pv B w Pb L v) (hB : B ≤ w.heap.size) (hne : v.ownBlock ≠ some Pb) {t : Int} (hl : ∀ g ∈ L, g.sh < t) (hf : L.length ≤ 700000) : Calls Try.prog 38 #[.int .i64 t, .pointer (some ⟨Pb, 0, none⟩)] w fun e w' => ∃ g cap, e = .returned (.pointer (some ⟨g, L.length * 3, none⟩)) ∧ Pv B w' Pb (L ++ [newP t]) (.slice (some ⟨g, 0, none⟩) (L.length + 1) cap) ∧ g ≠ Pb ∧ Fr w w' (fun k => k = Pb ∨ v.ownBlock = some k) := by
  have hPl := blk_lt h.blk
  have hs := search_any h.lr h.rise (by have := h.few; omega) t
  obtain ⟨va, vc, rfl⟩ := own_shape h.row
  have l0 : w.cell? ⟨Pb, 0, none⟩ = some (.slice va L.length vc) := cell_blk h.blk 0
  have HH := Lib.hid h
  have HS := Lib.hid hs
  have HL := Lib.hid hl
  have HP := Lib.hid (And.intro hB (And.intro hPl hne))
  have HF := Lib.hid hf
  clear hs hl hf hB hPl hne
  go_enter Try.func38, Try.ntmps38
  go_wp2_with fail
  refine HS.out.mono ?_
  rintro e w1 ⟨i, hi, rfl, b1⟩
  obtain rfl : i = L.length := hi.end HL.out
  have hd : decide (∃ h : L.length < L.length, L[L.length].sh = t) = false := decide_eq_false fun ⟨q, _⟩ => absurd q (Nat.lt_irrefl _)
  rw [hd]
  have l1 := cell_on b1 l0
  have hv1 := h.on b1
  obtain ⟨W, hW⟩ : ∃ W, W = w1.alloc (.cells (gpA (newP t)) 84) := ⟨_, rfl⟩
  have bW : Below w1.heap.size w1 W := by rw [hW]; exact bnew w1 _
  have jW : W.heap[w1.heap.size]? = some (.cells (gpA (newP t)) 84 (0, 0)) := by rw [hW]; exact heap_alloc_new w1 _
  have hvW := hv1.on bW
  have hins := insert_end (c := 1) (g := newP t) hvW.row (Nat.le_trans HP.out.1 (bgo b1 bW).size) jW (by have := HF.out; omega)
  have HW := Lib.hid hW
  have HI := Lib.hid hins
  have HVW := Lib.hid hvW
  have HBW := Lib.hid (bgo b1 bW)
  clear hi hd b1 l0 h hv1 hW bW jW hvW hins
  go_upto_region 3 with fail
  go_wp2_with fail
  have hW' : W = w1.alloc (.cells #[.int .i64 t, .slice none 0 0, .slice none 0 0] 84) := HW.out
  rw [← hW']
  clear hW'
  refine HI.out.mono ?_
  rintro e w2 ⟨ad, cap, rfl, o2, f2⟩
  obtain ⟨g, rfl⟩ : ∃ g, ad = some ⟨g, 0, none⟩ := by
    rcases o2.2 with ⟨_, q⟩ | ⟨g, _, _, q, _⟩
    · omega
    · injection q with q1
      exact ⟨g, q1⟩
  have hPW : Pb < W.heap.size := Nat.lt_of_lt_of_le HP.out.2.1 HBW.out.size
  have j2 : w2.heap[Pb]? = some (.cells #[.slice va L.length vc] 79 (0, 0)) := (f2.block Pb hPW HP.out.2.2).trans HVW.out.blk
  obtain ⟨w3, hw3⟩ : ∃ w3, w3 = w2.setCell ⟨Pb, 0, none⟩ (.slice (some ⟨g, 0, none⟩) (L.length + 1) cap) := ⟨_, rfl⟩
  have c2 : w2.cell? ⟨Pb, 0, none⟩ = some (.slice va L.length vc) := cell_blk j2 0
  have z2 : w2.frozen? ⟨Pb, 0, none⟩ = false := frozen_blk j2 _
  have hst : (Instr.storeAt 79 (.pointer (some ⟨Pb, 0, none⟩)) (.slice (some ⟨g, 0, none⟩) (L.length + 1) cap)).run Try.prog w2 = .ok () w3 := by rw [hw3]; go_simp
  have f3 : Fr w2 w3 (fun k => k = Pb) := by rw [hw3]; exact (Fr.refl w2 (fun k => k = Pb)).set (a := ⟨Pb, 0, none⟩) (.inl rfl) _
  have j3 : w3.heap[Pb]? = some (.cells #[.slice (some ⟨g, 0, none⟩) (L.length + 1) cap] 79 (0, 0)) := by rw [hw3]; exact set_blk j2 _
  have hgP : g ≠ Pb := fun q => by
    obtain ⟨cs, t9⟩ := own_tag o2 g rfl
    rw [q, j2] at t9
    simp only [Option.some.injEq, Obj.cells.injEq] at t9
    exact absurd t9.2.1 (by decide)
  have o3 : w3.ownsRow B 84 3 (.slice (some ⟨g, 0, none⟩) (L.length + 1) cap) (L.length + 1) ((L ++ [newP t]).flatMap gpL) := row_keep o2 f3 (fun k hk q => by
    have hk' : g = k := by simpa [Value.ownBlock] using hk
    have q' : k = Pb := q
    exact hgP (hk'.trans q'))
  have hpv : Pv B w3 Pb (L ++ [newP t]) (.slice (some ⟨g, 0, none⟩) (L.length + 1) cap) := by
    refine ⟨j3, by rw [List.length_append]; exact o3, by rw [List.length_append]; have := HF.out; simp; omega, fun i k hi hk hik => ?_⟩
    rw [List.length_append, List.length_singleton] at hi hk
    have hiL : i < L.length := by omega
    rw [List.getElem_append_left hiL]
    rcases Nat.lt_or_ge k L.length with q | q
    · rw [List.getElem_append_left q]
      exact HH.out.rise i k hiL q hik
    · obtain rfl : k = L.length := by omega
      rw [List.getElem_append_right (Nat.le_refl _)]
      simpa [newP] using HL.out L[i] (List.getElem_mem hiL)
  have l3 : w3.cell? ⟨Pb, 0, none⟩ = some (.slice (some ⟨g, 0, none⟩) (L.length + 1) cap) := cell_blk j3 0
  have hfr : Fr w w3 (fun k => k = Pb ∨ (Value.slice va L.length vc).ownBlock = some k) := (((Fr.ofBelow _ HBW.out).trans (f2.mono fun k q => .inr q)).trans (f3.mono fun k q => .inl q))
  have HST := Lib.hid hst
  have HR := Lib.hid (And.intro hpv (And.intro hgP hfr))
  have k0 : (0 : Int) ≤ (L.length : Int) := by omega
  have k1 : (L.length : Int) < ((L.length + 1 : Nat) : Int) := by omega
  clear o2 f2 hPW j2 hw3 c2 z2 hst f3 j3 hgP o3 hpv hfr l1
  go_wp2_with (refine wpl_store _ _ rfl (by first | rfl | simp [Act.eval]) (by first | rfl | simp [Act.eval]) HST.out ?_)
  refine bodyPost_ret (v := .pointer (some ⟨g, L.length * 3, none⟩)) (by simp [results, Try.results38, go_sem]) rfl ?_
  exact ⟨g, cap, rfl, HR.out.1, HR.out.2.1, HR.out.2.2⟩
end
end Go.Proofs.Ytfokgalgdlajlaa
