/- The law RowsCells. -/
import Derived.Test.YtbepekgaipipjaaSf
import Derived.Test.YtbepekgaipipjaaSh
import Derived.Test.YtbepekgaipipjaaRs
namespace Go.Proofs.Ytbepekgaipipjaa
open Go.RowKit
theorem rowB_ge : ∀ (L : List Ce), (∀ c ∈ L, rightV c.v = true) → 11 * L.length ≤ (rowB L).length
  | [], _ => by simp
  | c :: L, h => by
    have h1 := h c (by simp)
    have h2 := rowB_ge L (fun x hx => h x (by simp [hx]))
    have e : rowB (c :: L) = oneB c ++ rowB L := rfl
    obtain ⟨a, r, hh, _⟩ := enc1_head c.v
    have hk : 10 ≤ (ckey c).length := by
      rw [ckey_eq h1, encL_cons, encL_cons, enc_nv, hh]
      simp only [List.length_append, List.length_cons, be_len]
      omega
    rw [e, List.length_append, List.length_cons]
    simp only [oneB, List.length_cons]
    omega
set_option maxHeartbeats 8000000 in
set_option maxRecDepth 100000 in
theorem cells_law {w : World} {L : List Ce} {v : Value} {s : ByteArray} (hL : Lr ceE 4 w L v) (hf : ∀ c ∈ L, FitC c) : Calls Try.prog 4 #[v, .string s] w fun e w' => e = .returned (.bool true) ∧ Below w.heap.size w w' := by
  obtain ⟨la, lc, rfl, hlx⟩ := hL.len0
  have haw := awake_any w
  have HL := Lib.hid hL
  have HF := Lib.hid hf
  clear hL hf
  go_enter Try.func4, Try.ntmps4
  go_wp2_with (go_at_call 10; refine haw.mono ?_; rintro e w1 ⟨rfl, b1⟩; refine Hid.out ?_)
  refine Lib.hid ?_
  have HB1 := Lib.hid b1
  clear haw b1
  by_cases g1 : 300 < L.length
  · have haw := awake_any w1
    go_wp2_with (go_at_call 10; refine haw.mono ?_; rintro e w2 ⟨rfl, b2⟩; refine Hid.out ?_)
    refine Lib.hid ?_
    have HB2 := Lib.hid (bgo HB1.out b2)
    clear haw b2
    go_wp2
    go_ret
    exact ⟨rfl, HB2.out⟩
  · by_cases g2 : 16384 < s.size
    · have haw := awake_any w1
      go_wp2_with (go_at_call 10; refine haw.mono ?_; rintro e w2 ⟨rfl, b2⟩; refine Hid.out ?_)
      refine Lib.hid ?_
      have HB2 := Lib.hid (bgo HB1.out b2)
      clear haw b2
      go_wp2
      go_ret
      exact ⟨rfl, HB2.out⟩
    · have HG1 : Hid (L.length ≤ 300) := Lib.hid (by omega)
      have HG2 : Hid (s.size ≤ 16384) := Lib.hid (by omega)
      have hp1 := put_any w1 (HL.out.on ceE_held HB1.out) HF.out (by omega)
      have hp2 : ∀ X, Below w1.heap.size w1 X → Calls Try.prog 23 #[.slice la L.length lc] X fun e w' => e = .returned (.tuple #[.string (bs (putS L)), .int .i64 (putE L)]) ∧ Below X.heap.size X w' := fun X hX => refPut_any X (HL.out.on ceE_held (bgo HB1.out hX)) HF.out (by omega)
      obtain ⟨S, hS⟩ : ∃ S, bs (putS L) = S := ⟨_, rfl⟩
      obtain ⟨E, hE⟩ : ∃ E, putE L = E := ⟨_, rfl⟩
      rw [hS, hE] at hp1
      simp only [hS, hE] at hp2
      have HP2 := Lib.hid hp2
      have HSS := Lib.hid hS
      have HEE := Lib.hid hE
      clear hp2 hS hE
      go_wp2_with (go_at_call 22; refine hp1.mono ?_; rintro e w2 ⟨rfl, b2⟩; refine Hid.out ?_)
      refine Lib.hid ?_
      have HB2 := Lib.hid (bgo HB1.out b2)
      have hp2 := HP2.out w2 b2
      clear hp1 b2 HP2
      go_wp2_with (go_at_call 23; refine hp2.mono ?_; rintro e w3 ⟨rfl, b3⟩; refine Hid.out ?_)
      refine Lib.hid ?_
      have HB3 := Lib.hid (bgo HB2.out b3)
      have e1 := same_eq S S
      simp only [decide_true] at e1
      clear hp2 b3
      cases hok : okC 0 L with
      | false =>
        obtain rfl : E = 100 := by rw [← HEE.out]; exact (putS_no hok).2
        clear hok
        have hgs := get_any s w3 (by have := HG2.out; omega)
        cases hgp : getP 0 s.data.toList with
        | none =>
          have hg1 : Calls Try.prog 24 #[.string s] w3 fun e w' => e = .returned (.tuple #[.slice none 0 0, .int .i64 100]) ∧ Below w3.heap.size w3 w' := by
            refine hgs.mono ?_
            rintro e w' ⟨hb, ⟨M, v', h, _⟩ | ⟨_, rfl⟩⟩
            · rw [hgp] at h; cases h
            · exact ⟨rfl, hb⟩
          have HG9 : Hid (∀ Y, Calls Try.prog 26 #[.string s] Y fun e w' => e = .returned (.tuple #[.slice none 0 0, .int .i64 100]) ∧ Below Y.heap.size Y w') := Lib.hid fun Y => by
            refine (refGet_any s Y (by have := HG2.out; omega)).mono ?_
            rintro e w' ⟨hb, ⟨M, v', h, _⟩ | ⟨_, rfl⟩⟩
            · rw [hgp] at h; cases h
            · exact ⟨rfl, hb⟩
          clear hgs hgp
          go_wp2_with (go_at_call 24; refine hg1.mono ?_; rintro e y1 ⟨rfl, d1⟩; refine Hid.out ?_)
          refine Lib.hid ?_
          have D1 := Lib.hid (bgo HB3.out d1)
          have hg2 := HG9.out y1
          clear hg1 d1
          go_wp2_with (go_at_call 26; refine hg2.mono ?_; rintro e y2 ⟨rfl, d2⟩; refine Hid.out ?_)
          refine Lib.hid ?_
          have D2 := Lib.hid (bgo D1.out d2)
          have hsm : Calls Try.prog 25 #[.slice none 0 0, .slice none 0 0] y2 _ := same_cells (L := []) lr_nil lr_nil
          clear hg2 d2
          go_wp2_with (go_at_call 25; refine hsm.mono ?_; rintro e y3 ⟨rfl, d3⟩; refine Hid.out ?_)
          refine Lib.hid ?_
          have D3 := Lib.hid (bgo D2.out d3)
          have hpt : Calls Try.prog 22 #[.slice none 0 0] y3 _ := put_any2 (L := []) y3 lr_nil (fun c hc => by cases hc) (by simp)
          clear hsm d3
          go_wp2_with (go_at_call 22; refine hpt.mono ?_; rintro e y4 ⟨rfl, d4⟩; refine Hid.out ?_)
          refine Lib.hid ?_
          have D4 := Lib.hid (bgo D3.out d4)
          clear hpt d4
          go_wp2
          go_ret
          exact ⟨rfl, D4.out⟩
        | some M =>
          obtain ⟨hokM, hrM, hfM⟩ := row_get _ _ _ _ hgp
          have hlM : M.length ≤ 2000 := by
            have h1 := rowB_ge M (okC_mem hokM)
            rw [hrM] at h1
            have e : s.data.toList.length = s.size := Array.length_toList
            have := HG2.out
            omega
          have hg1 : Calls Try.prog 24 #[.string s] w3 fun e w' => ∃ ad cap, e = .returned (.tuple #[.slice ad M.length cap, .int .i64 0]) ∧ Below w3.heap.size w3 w' ∧ Lr ceE 4 w' M (.slice ad M.length cap) := by
            refine hgs.mono ?_
            rintro e w' ⟨hb, ⟨M', v', h, rfl, ho⟩ | ⟨h, _⟩⟩
            · rw [hgp] at h
              obtain rfl := Option.some.inj h
              obtain ⟨ad, cap, rfl⟩ := own_shape ho
              exact ⟨ad, cap, rfl, hb, Lr.own (f := ceL) ceL_len ho⟩
            · rw [hgp] at h; cases h
          have HG9 : Hid (∀ Y, Calls Try.prog 26 #[.string s] Y fun e w' => ∃ ad cap, e = .returned (.tuple #[.slice ad M.length cap, .int .i64 0]) ∧ Below Y.heap.size Y w' ∧ Lr ceE 4 w' M (.slice ad M.length cap)) := Lib.hid fun Y => by
            refine (refGet_any s Y (by have := HG2.out; omega)).mono ?_
            rintro e w' ⟨hb, ⟨M', v', h, rfl, ho⟩ | ⟨h, _⟩⟩
            · rw [hgp] at h
              obtain rfl := Option.some.inj h
              obtain ⟨ad, cap, rfl⟩ := own_shape ho
              exact ⟨ad, cap, rfl, hb, Lr.own (f := ceL) ceL_len ho⟩
            · rw [hgp] at h; cases h
          have HPT : Hid (bs (putS M) = s ∧ putE M = 0) := Lib.hid ⟨by rw [(putS_ok hokM).1, hrM, bs_of], (putS_ok hokM).2⟩
          have HFM := Lib.hid hfM
          have HLM := Lib.hid hlM
          clear hgs hgp hokM hrM hfM hlM
          go_wp2_with (go_at_call 24; refine hg1.mono ?_; rintro e y1 ⟨a1, p1, rfl, d1, l1⟩; refine Hid.out ?_)
          refine Lib.hid ?_
          have D1 := Lib.hid (bgo HB3.out d1)
          have L1 := Lib.hid l1
          have hg2 := HG9.out y1
          clear hg1 d1 l1
          go_wp2_with (go_at_call 26; refine hg2.mono ?_; rintro e y2 ⟨a2, p2, rfl, d2, l2⟩; refine Hid.out ?_)
          refine Lib.hid ?_
          have D2 := Lib.hid (bgo D1.out d2)
          have L2 := Lib.hid (L1.out.on ceE_held d2)
          have hsm := same_cells L2.out l2
          clear hg2 d2 l2
          go_wp2_with (go_at_call 25; refine hsm.mono ?_; rintro e y3 ⟨rfl, d3⟩; refine Hid.out ?_)
          refine Lib.hid ?_
          have D3 := Lib.hid (bgo D2.out d3)
          have hpt := put_any2 y3 (L2.out.on ceE_held d3) HFM.out HLM.out
          rw [HPT.out.1, HPT.out.2] at hpt
          have e2 := same_eq s s
          simp only [decide_true] at e2
          clear hsm d3
          go_wp2_with (go_at_call 22; refine hpt.mono ?_; rintro e y4 ⟨rfl, d4⟩; refine Hid.out ?_)
          refine Lib.hid ?_
          have D4 := Lib.hid (bgo D3.out d4)
          clear hpt d4
          go_wp2
          go_ret
          exact ⟨rfl, D4.out⟩
      | true =>
        obtain rfl : E = 0 := by rw [← HEE.out]; exact (putS_ok hok).2
        have hSd : S.data.toList = rowB L := by rw [← HSS.out, (putS_ok hok).1, bs_data]
        have hSz : S.size ≤ 1000000 := by
          have h1 := rowB_len L (okC_mem hok) HF.out
          have e : S.data.toList.length = S.size := Array.length_toList
          rw [hSd] at e
          have := HG1.out
          omega
        have hget := get_any S w3 hSz
        have hget2 : Calls Try.prog 24 #[.string S] w3 fun e w' => ∃ ad cap, e = .returned (.tuple #[.slice ad L.length cap, .int .i64 0]) ∧ Below w3.heap.size w3 w' ∧ Lr ceE 4 w' L (.slice ad L.length cap) := by
          refine hget.mono ?_
          rintro e w' ⟨hb, ⟨M, v', h, rfl, ho⟩ | ⟨h, _⟩⟩
          · rw [hSd, get_row 0 L hok HF.out] at h
            obtain rfl := Option.some.inj h
            obtain ⟨ad, cap, rfl⟩ := own_shape ho
            exact ⟨ad, cap, rfl, hb, Lr.own (f := ceL) ceL_len ho⟩
          · rw [hSd, get_row 0 L hok HF.out] at h
            cases h
        clear hok hSd hSz hget
        go_wp2_with (go_at_call 24; refine hget2.mono ?_; rintro e w4 ⟨ad, cap, rfl, b4, hl4⟩; refine Hid.out ?_)
        refine Lib.hid ?_
        have HB4 := Lib.hid (bgo HB3.out b4)
        have hsm := same_cells hl4 (HL.out.on ceE_held HB4.out)
        clear hget2 b4 hl4
        go_wp2_with (go_at_call 25; refine hsm.mono ?_; rintro e w5 ⟨rfl, b5⟩; refine Hid.out ?_)
        refine Lib.hid ?_
        have HB5 := Lib.hid (bgo HB4.out b5)
        clear hsm b5
        have hgs := get_any s w5 (by have := HG2.out; omega)
        cases hgp : getP 0 s.data.toList with
        | none =>
          have hg1 : Calls Try.prog 24 #[.string s] w5 fun e w' => e = .returned (.tuple #[.slice none 0 0, .int .i64 100]) ∧ Below w5.heap.size w5 w' := by
            refine hgs.mono ?_
            rintro e w' ⟨hb, ⟨M, v', h, _⟩ | ⟨_, rfl⟩⟩
            · rw [hgp] at h; cases h
            · exact ⟨rfl, hb⟩
          have HG9 : Hid (∀ Y, Calls Try.prog 26 #[.string s] Y fun e w' => e = .returned (.tuple #[.slice none 0 0, .int .i64 100]) ∧ Below Y.heap.size Y w') := Lib.hid fun Y => by
            refine (refGet_any s Y (by have := HG2.out; omega)).mono ?_
            rintro e w' ⟨hb, ⟨M, v', h, _⟩ | ⟨_, rfl⟩⟩
            · rw [hgp] at h; cases h
            · exact ⟨rfl, hb⟩
          clear hgs hgp
          go_wp2_with (go_at_call 24; refine hg1.mono ?_; rintro e y1 ⟨rfl, d1⟩; refine Hid.out ?_)
          refine Lib.hid ?_
          have D1 := Lib.hid (bgo HB5.out d1)
          have hg2 := HG9.out y1
          clear hg1 d1
          go_wp2_with (go_at_call 26; refine hg2.mono ?_; rintro e y2 ⟨rfl, d2⟩; refine Hid.out ?_)
          refine Lib.hid ?_
          have D2 := Lib.hid (bgo D1.out d2)
          have hsm : Calls Try.prog 25 #[.slice none 0 0, .slice none 0 0] y2 _ := same_cells (L := []) lr_nil lr_nil
          clear hg2 d2
          go_wp2_with (go_at_call 25; refine hsm.mono ?_; rintro e y3 ⟨rfl, d3⟩; refine Hid.out ?_)
          refine Lib.hid ?_
          have D3 := Lib.hid (bgo D2.out d3)
          have hpt : Calls Try.prog 22 #[.slice none 0 0] y3 _ := put_any2 (L := []) y3 lr_nil (fun c hc => by cases hc) (by simp)
          clear hsm d3
          go_wp2_with (go_at_call 22; refine hpt.mono ?_; rintro e y4 ⟨rfl, d4⟩; refine Hid.out ?_)
          refine Lib.hid ?_
          have D4 := Lib.hid (bgo D3.out d4)
          clear hpt d4
          go_wp2
          go_ret
          exact ⟨rfl, D4.out⟩
        | some M =>
          obtain ⟨hokM, hrM, hfM⟩ := row_get _ _ _ _ hgp
          have hlM : M.length ≤ 2000 := by
            have h1 := rowB_ge M (okC_mem hokM)
            rw [hrM] at h1
            have e : s.data.toList.length = s.size := Array.length_toList
            have := HG2.out
            omega
          have hg1 : Calls Try.prog 24 #[.string s] w5 fun e w' => ∃ ad cap, e = .returned (.tuple #[.slice ad M.length cap, .int .i64 0]) ∧ Below w5.heap.size w5 w' ∧ Lr ceE 4 w' M (.slice ad M.length cap) := by
            refine hgs.mono ?_
            rintro e w' ⟨hb, ⟨M', v', h, rfl, ho⟩ | ⟨h, _⟩⟩
            · rw [hgp] at h
              obtain rfl := Option.some.inj h
              obtain ⟨ad, cap, rfl⟩ := own_shape ho
              exact ⟨ad, cap, rfl, hb, Lr.own (f := ceL) ceL_len ho⟩
            · rw [hgp] at h; cases h
          have HG9 : Hid (∀ Y, Calls Try.prog 26 #[.string s] Y fun e w' => ∃ ad cap, e = .returned (.tuple #[.slice ad M.length cap, .int .i64 0]) ∧ Below Y.heap.size Y w' ∧ Lr ceE 4 w' M (.slice ad M.length cap)) := Lib.hid fun Y => by
            refine (refGet_any s Y (by have := HG2.out; omega)).mono ?_
            rintro e w' ⟨hb, ⟨M', v', h, rfl, ho⟩ | ⟨h, _⟩⟩
            · rw [hgp] at h
              obtain rfl := Option.some.inj h
              obtain ⟨ad, cap, rfl⟩ := own_shape ho
              exact ⟨ad, cap, rfl, hb, Lr.own (f := ceL) ceL_len ho⟩
            · rw [hgp] at h; cases h
          have HPT : Hid (bs (putS M) = s ∧ putE M = 0) := Lib.hid ⟨by rw [(putS_ok hokM).1, hrM, bs_of], (putS_ok hokM).2⟩
          have HFM := Lib.hid hfM
          have HLM := Lib.hid hlM
          clear hgs hgp hokM hrM hfM hlM
          go_wp2_with (go_at_call 24; refine hg1.mono ?_; rintro e y1 ⟨a1, p1, rfl, d1, l1⟩; refine Hid.out ?_)
          refine Lib.hid ?_
          have D1 := Lib.hid (bgo HB5.out d1)
          have L1 := Lib.hid l1
          have hg2 := HG9.out y1
          clear hg1 d1 l1
          go_wp2_with (go_at_call 26; refine hg2.mono ?_; rintro e y2 ⟨a2, p2, rfl, d2, l2⟩; refine Hid.out ?_)
          refine Lib.hid ?_
          have D2 := Lib.hid (bgo D1.out d2)
          have L2 := Lib.hid (L1.out.on ceE_held d2)
          have hsm := same_cells L2.out l2
          clear hg2 d2 l2
          go_wp2_with (go_at_call 25; refine hsm.mono ?_; rintro e y3 ⟨rfl, d3⟩; refine Hid.out ?_)
          refine Lib.hid ?_
          have D3 := Lib.hid (bgo D2.out d3)
          have hpt := put_any2 y3 (L2.out.on ceE_held d3) HFM.out HLM.out
          rw [HPT.out.1, HPT.out.2] at hpt
          have e2 := same_eq s s
          simp only [decide_true] at e2
          clear hsm d3
          go_wp2_with (go_at_call 22; refine hpt.mono ?_; rintro e y4 ⟨rfl, d4⟩; refine Hid.out ?_)
          refine Lib.hid ?_
          have D4 := Lib.hid (bgo D3.out d4)
          clear hpt d4
          go_wp2
          go_ret
          exact ⟨rfl, D4.out⟩
end Go.Proofs.Ytbepekgaipipjaa
