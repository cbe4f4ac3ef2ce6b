/- A list of changes, copied. -/
import Derived.Test.YtmiagjcihmenfaaXk
import Derived.Test.YtmiagjcihmenfaaXUc
import Derived.Test.YtmiagjcihmenfaaXVb
import Derived.Test.YtmiagjcihmenfaaXVc
import Derived.Test.YtmiagjcihmenfaaXRf
namespace Go.Proofs.Ytmiagjcihmenfaa
open Go.RowKit

def dqC (L : List Dq) : List Value := L.flatMap fun p => [.int .i64 p.1.term, .int .i64 p.1.vote, .bool p.1.whole, .int .i64 p.1.base, .int .i64 p.1.baseTerm, .string p.1.snap, .int .i64 p.1.fr, .slice p.2.1 p.1.list.length p.2.2]
theorem dqC_cons (p : Dq) (L : List Dq) : dqC (p :: L) = .int .i64 p.1.term :: .int .i64 p.1.vote :: .bool p.1.whole :: .int .i64 p.1.base :: .int .i64 p.1.baseTerm :: .string p.1.snap :: .int .i64 p.1.fr :: .slice p.2.1 p.1.list.length p.2.2 :: dqC L := by simp [dqC]
theorem dqC_len (L : List Dq) : (dqC L).length = L.length * 8 := by
  induction L with
  | nil => rfl
  | cons l L ih => rw [dqC_cons]; simp [ih]; omega
/-- The cell j of one change. -/
def dqAt (p : Dq) : Nat → Value
  | 0 => .int .i64 p.1.term
  | 1 => .int .i64 p.1.vote
  | 2 => .bool p.1.whole
  | 3 => .int .i64 p.1.base
  | 4 => .int .i64 p.1.baseTerm
  | 5 => .string p.1.snap
  | 6 => .int .i64 p.1.fr
  | _ => .slice p.2.1 p.1.list.length p.2.2
theorem dqC_get (L : List Dq) : ∀ (k : Nat) (h : k < L.length) (j : Nat), j < 8 → (dqC L)[k * 8 + j]? = some (dqAt L[k] j) := by
  induction L with
  | nil => intro k h; simp at h
  | cons l L ih =>
    intro k h j hj
    rw [dqC_cons]
    cases k with
    | zero =>
      have : j = 0 ∨ j = 1 ∨ j = 2 ∨ j = 3 ∨ j = 4 ∨ j = 5 ∨ j = 6 ∨ j = 7 := by omega
      rcases this with rfl | rfl | rfl | rfl | rfl | rfl | rfl | rfl <;> simp [dqAt]
    | succ k =>
      have := ih k (by simpa using h) j hj
      have e : (k + 1) * 8 + j = k * 8 + j + 8 := by omega
      rw [e]
      simpa using this
theorem dqC_one (L : List Dq) : ∀ u ∈ dqC L, u.oneCell' = true := by
  intro u hu
  obtain ⟨f, _, hf⟩ := List.mem_flatMap.1 hu
  simp at hf
  rcases hf with rfl | rfl | rfl | rfl | rfl | rfl | rfl | rfl <;> rfl
theorem infoDe : (Try.prog.info? 44).map (fun i => (i.zero, i.size, i.bytes)) = some (some (.agg #[.int .i64 0, .int .i64 0, .bool false, .int .i64 0, .int .i64 0, .string ⟨#[]⟩, .int .i64 0, .slice none 0 0]), 8, 88) := by kernel_rfl
section
variable {w w' : World} {L : List Dq} {ad : Option Addr} {cap : Nat}
theorem Lq.cells (h : Lq w L ad) (i : Nat) (hi : i < L.length) (j : Nat) (hj : j < 8) : ∃ b o, ad = some ⟨b, o, none⟩ ∧ w.cell? ⟨b, o + i * 8 + j, none⟩ = some (dqAt L[i] j) := by
  obtain ⟨b, o, ha, _, c0, c1, c2, c3, c4, c5, c6, c7⟩ := h.at' i hi
  refine ⟨b, o, ha, ?_⟩
  have : j = 0 ∨ j = 1 ∨ j = 2 ∨ j = 3 ∨ j = 4 ∨ j = 5 ∨ j = 6 ∨ j = 7 := by omega
  rcases this with rfl | rfl | rfl | rfl | rfl | rfl | rfl | rfl
  · exact c0
  · exact c1
  · exact c2
  · exact c3
  · exact c4
  · exact c5
  · exact c6
  · exact c7
theorem Lq.src (h : Lq w L ad) (h0 : ad = none → cap = 0) : (ad = none ∧ L.length = 0 ∧ cap = 0 ∧ dqC L = []) ∨ ∃ a, ad = some a ∧ (∀ j u, (dqC L)[j]? = some u → w.cell? (a.add j) = some u) := by
  cases had : ad with
  | none =>
    have hL : L = [] := by
      rcases L with _ | ⟨l, L⟩
      · rfl
      · obtain ⟨b, o, e, _⟩ := h.at' 0 (by simp)
        rw [had] at e
        cases e
    subst hL
    exact .inl ⟨rfl, rfl, h0 had, rfl⟩
  | some a =>
    refine .inr ⟨a, rfl, fun j u hu => ?_⟩
    have hj : j < L.length * 8 := by
      have := (List.getElem?_eq_some_iff.1 hu).1
      rwa [dqC_len] at this
    have hi : j / 8 < L.length := by omega
    have hg := dqC_get L (j / 8) hi (j % 8) (by omega)
    rw [show j / 8 * 8 + j % 8 = j by omega, hu] at hg
    obtain ⟨b, o, e, hc⟩ := h.cells (j / 8) hi (j % 8) (by omega)
    rw [had] at e
    cases e
    rw [add_at, show o + j = o + j / 8 * 8 + j % 8 by omega, hc, ← hg]
theorem own_emptyD (w : World) : (w.alloc (.cells #[] 44)).ownsRow w.heap.size 44 8 (.slice (some ⟨w.heap.size, 0, none⟩) 0 0) 0 [] :=
  ⟨rfl, .inr ⟨w.heap.size, 0, #[], rfl, Nat.le_refl _, heap_alloc_new w _, Nat.le_refl _, Nat.zero_le _, rfl, rfl⟩⟩
/-- append([]api.Delta{}, list...) -/
theorem dels_copy (hL : Lq w L ad) (h0 : ad = none → cap = 0) (hz : L.length ≤ 900000) :
    ∃ ad' cap' w', (Builtin.append_ #[51, 51] 51 #[.slice (some ⟨w.heap.size, 0, none⟩) 0 0, .slice ad L.length cap]).run Try.prog (w.alloc (.cells #[] 44)) = .ok (.slice ad' L.length cap') w' ∧ Lq w' L ad' ∧ L.length ≤ cap' ∧ cap' ≤ maxLen ∧ Below w.heap.size w w' := by
  have hal : Below w.heap.size w (w.alloc (.cells #[] 44)) := (Below.refl _ w).alloc (Nat.le_refl _) _
  have ho := own_emptyD w
  have hrun : ∃ v' w', (Builtin.append_ #[51, 51] 51 #[.slice (some ⟨w.heap.size, 0, none⟩) 0 0, .slice ad L.length cap]).run Try.prog (w.alloc (.cells #[] 44)) = .ok v' w' ∧ w'.ownsRow w.heap.size 44 8 v' L.length (dqC L) ∧ (w.alloc (.cells #[] 44)).grownBy w' (some w.heap.size) := by
    obtain ⟨i0, hi, hz0, hz1, hz2⟩ := info_parts infoDe
    rcases (hL.on hal).src h0 with ⟨rfl, e1, rfl, e2⟩ | ⟨a, rfl, hc⟩
    · refine ⟨_, _, ?_, by rw [e1, e2]; exact ho, ⟨rfl, rfl, rfl, Nat.le_refl _, fun _ _ _ => rfl⟩⟩
      rw [e1]
      exact run_append_owned_none (P := Try.prog) (w := w.alloc (.cells #[] 44)) w.heap.size 51 51 44 i0 8 Try.underlying51 hi _ 0 [] ho
    · obtain ⟨v', w', hr, ho', hg, _, hat⟩ := run_append_own_at (P := Try.prog) (w := w.alloc (.cells #[] 44)) w.heap.size 51 51 44 i0 _ 8 88 Try.underlying51 hi hz0 hz1 hz2 rfl (by decide) _ 0 [] ho a L.length cap (dqC L) (dqC_len L) hc (dqC_one L) (by unfold maxLen; omega) (by omega) hal.size
      rw [Nat.zero_add, List.nil_append] at ho'
      exact ⟨v', w', hr, ho', hg⟩
  obtain ⟨v', w', hr, ho', hg⟩ := hrun
  have hb : Below w.heap.size w w' := hal.grown hg hal.size (fun k hk => by cases hk; exact Nat.le_refl _)
  have ho2 := ho'
  rcases ho'.2 with ⟨rfl, e0⟩ | ⟨g, cap', cur, rfl, hg0, hgc, h1, h2, hr2⟩
  · have e : L = [] := List.eq_nil_of_length_eq_zero e0
    subst e
    exact ⟨none, 0, w', hr, ⟨fun i hi => by simp at hi, fun p hp => by simp at hp, fun p hp => by simp at hp⟩, Nat.le_refl _, Nat.zero_le _, hb⟩
  · refine ⟨_, cap', w', hr, ⟨fun i hi => ⟨g, 0, rfl, blk_lt hgc, ?_⟩, fun p hp => (hL.es p hp).on hb, hL.sz⟩, h1, h2, hb⟩
    have hc : ∀ j, j < 8 → w'.cell? ⟨g, 0 + i * 8 + j, none⟩ = some (dqAt L[i] j) := fun j hj => by
      rw [Nat.zero_add]
      exact (ho2.cellAt _ (by omega)).trans (dqC_get L i hi j hj)
    exact ⟨hc 0 (by omega), hc 1 (by omega), hc 2 (by omega), hc 3 (by omega), hc 4 (by omega), hc 5 (by omega), hc 6 (by omega), hc 7 (by omega)⟩
end
end Go.Proofs.Ytmiagjcihmenfaa
/- BallotLoads. -/
namespace Go.Proofs.Ytmiagjcihmenfaa
open Go.RowKit

theorem redo_spec : RedoSpec := by
  intro w A S b h d dad dcap hE hm hz
  cases hw : d.whole with
  | true => exact redo_w h d hE hm hw hz
  | false => exact redo_n h d hE hm hw hz
theorem refload_no (w : World) (id size : Int) (v : Value) (h : ¬ (1 ≤ size ∧ size ≤ 5 ∧ 0 ≤ id ∧ id < size)) : Calls Try.prog 21 #[.int .i64 id, .int .i64 size, v] w fun e w' => e = .returned (.tuple #[.pointer none, .int .i64 1]) ∧ w' = w := by
  have hnew := refnew_no w id size h
  clear h
  go_enter Try.func21, Try.ntmps21
  go_wp2_with fail
  refine hnew.mono ?_
  rintro e w1 ⟨rfl, rfl⟩
  clear hnew
  go_wp2
  refine bodyPost_ret (v := .tuple #[.pointer none, .int .i64 1]) (by simp [results, Try.results21, go_sem]) rfl ?_
  exact ⟨rfl, rfl⟩
theorem overAll_calm : ∀ {L : List De} {b c : Bs}, b.overAll L = some c → b.touched = false → c.touched = false
  | [], b, c, h, ht => by
    simp only [Bs.overAll, Option.some.injEq] at h
    rw [← h]
    exact ht
  | d :: L, b, c, h, ht => by
    simp only [Bs.overAll] at h
    split at h
    · refine overAll_calm h ?_
      unfold Bs.over
      split <;> exact ht
    · cases h
theorem load_calm {id size : Nat} {L : List De} {c : Bs} (h : Bs.load id size L = some c) : c.touched = false := by
  unfold Bs.load at h
  rw [Option.map_eq_some_iff] at h
  obtain ⟨b, hb, rfl⟩ := h
  show b.touched = false
  exact overAll_calm hb (show (Bs.new id size).touched = false from rfl)
section
variable {w : World} {L : List Dq} {ad : Option Addr} {cap : Nat}
set_option maxHeartbeats 8000000 in
set_option maxRecDepth 100000 in
theorem loads_law (hL : Lq w L ad) (h0 : ad = none → cap = 0) (hc : L.length ≤ cap) (hm : cap ≤ maxLen) (id size : Int) :
    Calls Try.prog 4 #[.int .i64 id, .int .i64 size, .slice ad L.length cap] w fun e w' => e = .returned (.bool true) ∧ Below w.heap.size w w' := by
  have l1 : (L.length : Int) ≤ 9223372036854775807 := by unfold maxLen at hm; omega
  have haw := awake_p w
  have HL := Lib.hid hL
  clear hL
  by_cases hg : (100 : Int) < L.length
  · go_enter Try.func4, Try.ntmps4
    go_wp2_with fail
    refine haw.mono ?_
    rintro e w1 ⟨rfl, hb1⟩
    have haw2 := awake_p w1
    clear haw
    go_wp2_with fail
    refine haw2.mono ?_
    rintro e w2 ⟨rfl, hb2⟩
    clear haw2
    have HB := Lib.hid (hb1.trans (hb2.mono hb1.size))
    clear hb1 hb2
    go_wp2
    go_ret
    exact ⟨rfl, HB.out⟩
  · have hln : L.length ≤ 100 := by omega
    go_enter Try.func4, Try.ntmps4
    go_wp2_with fail
    refine haw.mono ?_
    rintro e w1 ⟨rfl, hb1⟩
    clear haw
    have HB1 := Lib.hid hb1
    clear hb1
    go_wp2
    go_loopw [7, 26] (fun n i wr => ∃ k : Nat, k ≤ L.length ∧ i = .int .i64 ((k : Nat) : Int) ∧ n = .int .i64 ((szD (L.take k) : Nat) : Int) ∧ szD (L.take k) ≤ 4096 ∧ Below w.heap.size w wr) (fun _ i _ => L.length - (intOf i).toNat)
    case atStart => exact ⟨0, Nat.zero_le _, rfl, rfl, Nat.zero_le _, HB1.out⟩
    case round =>
      clear HB1
      obtain ⟨k, hk, rfl, rfl, hs, hb⟩ := hrel
      by_cases hlt : k < L.length
      · have k0 : (0 : Int) ≤ k := by omega
        have k1 : (k : Int) < L.length := by omega
        obtain ⟨bb, o, rfl, hbb, c0, c1, c2, c3, c4, c5, c6, c7⟩ := (HL.out.on hb).at' k hlt
        have hst := szD_take L k hlt
        have hsz := HL.out.sz _ (List.getElem_mem hlt)
        obtain ⟨⟨d, dad, dcap⟩, hx⟩ : ∃ x, L[k] = x := ⟨_, rfl⟩
        rw [hx] at c0 c1 c2 c3 c4 c5 c6 c7 hst hsz
        simp only at c0 c1 c2 c3 c4 c5 c6 c7 hst hsz
        obtain ⟨s, hsd⟩ : ∃ s, szD (L.take k) = s := ⟨_, rfl⟩
        rw [hsd] at hst hs
        obtain ⟨s', hs'⟩ : ∃ s' : Nat, s + d.list.length = s' := ⟨_, rfl⟩
        have i1 : IntKind.i64.wrap ((s : Int) + d.list.length) = (s' : Int) := by rw [IntKind.wrap_i64]; omega
        obtain ⟨W, hW⟩ : ∃ W, W = wr.alloc (deO d (.slice dad d.list.length dcap)) := ⟨_, rfl⟩
        have bW : Below w.heap.size w W := by rw [hW]; exact hb.alloc hb.size _
        have jd : W.heap[wr.heap.size]? = some (deB d (.slice dad d.list.length dcap)) := by rw [hW]; exact heap_alloc_new wr _
        have e7 : W.cell? ⟨wr.heap.size, 7, none⟩ = some (.slice dad d.list.length dcap) := cell_blk jd 7
        have HW := Lib.hid hW
        have HBW := Lib.hid bW
        have HK : Hid (s' ≤ 4096 → ∃ k' : Nat, k' ≤ L.length ∧ (.int .i64 ((k + 1 : Nat) : Int) : Value) = .int .i64 ((k' : Nat) : Int) ∧ (.int .i64 (s' : Int) : Value) = .int .i64 ((szD (L.take k') : Nat) : Int) ∧ szD (L.take k') ≤ 4096 ∧ Below w.heap.size w W) := fun h => ⟨k + 1, hlt, rfl, by rw [hst, hs'], by rw [hst, hs']; exact h, bW⟩
        rw [hsd]
        have haw2 := awake_p W
        by_cases hgs : (4096 : Int) < s'
        · clear hk hx hst hsz hsd hs' hW bW jd hs hb
          go_upto_region 7 with fail
          rw [← HW.out]
          go_wp2
          go_ret
          exact ⟨rfl, HBW.out⟩
        · have hkk := HK.out (by omega)
          have HKK := Lib.hid hkk
          clear hk hx hst hsz hsd hs' hW bW jd hs hb hkk
          go_upto_region 7 with fail
          rw [← HW.out]
          go_wp2
          go_roundw
          case rel => exact HKK.out
          case measure => simp [intOf]; omega
      · have k1 : ¬ (k : Int) < L.length := by omega
        have hkl : k = L.length := by omega
        subst hkl
        rw [List.take_length] at hs
        have hbd := below_draw (Below.refl wr.heap.size wr) 1
        have hLr := HL.out.on hb
        obtain ⟨ad1, cap1, w2, hrun, hL2, hc2, hm2, hb2⟩ := dels_copy hLr h0 (by omega)
        have hb02 := hb.trans (hb2.mono hb.size)
        by_cases hgood : 1 ≤ size ∧ size ≤ 5 ∧ 0 ≤ id ∧ id < size
        · obtain ⟨idn, rfl⟩ : ∃ n : Nat, id = n := ⟨id.toNat, by omega⟩
          obtain ⟨szn, rfl⟩ : ∃ n : Nat, size = n := ⟨size.toNat, by omega⟩
          have hload := load_p redo_spec hL2 hc2 hm2 (by omega) idn szn (by omega) (by omega) (by omega)
          have HRL : Hid (∀ V, Below w2.heap.size w2 V → Calls Try.prog 21 #[.int .i64 idn, .int .i64 szn, .slice ad L.length cap] V fun e w' => RloadAns V (Bs.load idn szn (L.map Prod.fst)) e w') := fun V hV => refload_p (HL.out.on (hb02.trans (hV.mono hb02.size))) hc hm (by omega) idn szn (by omega) (by omega) (by omega)
          have HB2 := Lib.hid hb02
          clear hgood hs hbd hLr hL2 hc2 hm2 hb2 hb02 hb hk
          go_wp2_with (at_builtin; refine wpl_run _ _ rfl hrun ?_)
          refine hload.mono ?_
          rintro e w3 ⟨hb3, hans⟩
          have hrl := HRL.out w3 hb3
          have hb03 := HB2.out.trans (hb3.mono HB2.out.size)
          have HB3 := Lib.hid hb03
          clear hload HRL hb3 HB2 hb03
          cases hres : Bs.load idn szn (L.map Prod.fst) with
          | none =>
            rw [hres] at hans hrl
            simp only at hans
            subst hans
            go_wp2_with fail
            refine hrl.mono ?_
            rintro e w4 ⟨hb4, hans4⟩
            simp only at hans4
            subst hans4
            have HB4 := Lib.hid (HB3.out.trans (hb4.mono HB3.out.size))
            clear hrl hb4
            go_wp2
            go_ret
            exact ⟨rfl, HB4.out⟩
          | some b =>
            rw [hres] at hans hrl
            simp only at hans
            obtain ⟨rfl, S, hP, hlo⟩ := hans
            have hcalm := load_calm hres
            have HP := Lib.hid hP
            have HLO := Lib.hid hlo
            have HC := Lib.hid hcalm
            clear hP hlo hcalm hres
            go_wp2_with fail
            refine hrl.mono ?_
            rintro e w4 ⟨hb4, hans4⟩
            simp only at hans4
            obtain ⟨rfl, T, hG, hlo4⟩ := hans4
            clear hrl
            have hP4 := HP.out.on hb4
            have hdel := delta_no hP4 HC.out
            have HB4 := Lib.hid (HB3.out.trans (hb4.mono HB3.out.size))
            have HP4 := Lib.hid hP4
            have HG4 := Lib.hid hG
            clear hP4 hG hlo4 hb4
            go_wp2_with fail
            refine hdel.mono ?_
            rintro e w5 ⟨rfl, hb5⟩
            clear hdel
            obtain ⟨W, hW⟩ : ∃ W, W = w5.alloc (.cells #[.int .i64 0, .int .i64 0, .bool false, .int .i64 0, .int .i64 0, .string ⟨#[]⟩, .int .i64 0, .slice none 0 0] 44) := ⟨_, rfl⟩
            have bW : Below w4.heap.size w4 W := by rw [hW]; exact hb5.alloc hb5.size _
            have hst := stands_p (HP4.out.on bW) (HG4.out.on bW)
            have HBW := Lib.hid (HB4.out.trans (bW.mono HB4.out.size))
            have HW := Lib.hid hW
            clear hW bW hb5
            go_upto_region 16 with fail
            rw [← HW.out]
            go_wp2_with fail
            refine hst.mono ?_
            rintro e w6 ⟨rfl, hb6⟩
            have HB6 := Lib.hid (HBW.out.trans (hb6.mono HBW.out.size))
            clear hst hb6
            go_wp2
            go_ret
            exact ⟨rfl, HB6.out⟩
        · have hload := load_no w2 id size (.slice ad1 L.length cap1) hgood
          have hrl := refload_no w2 id size (.slice ad L.length cap) hgood
          have HB2 := Lib.hid hb02
          clear hgood hs hbd hLr hL2 hc2 hm2 hb2 hb02 hb hk
          go_wp2_with (at_builtin; refine wpl_run _ _ rfl hrun ?_)
          refine hload.mono ?_
          rintro e w3 ⟨rfl, rfl⟩
          clear hload
          go_wp2_with fail
          refine hrl.mono ?_
          rintro e w4 ⟨rfl, rfl⟩
          clear hrl
          go_wp2
          go_ret
          exact ⟨rfl, HB2.out⟩
end
end Go.Proofs.Ytmiagjcihmenfaa
