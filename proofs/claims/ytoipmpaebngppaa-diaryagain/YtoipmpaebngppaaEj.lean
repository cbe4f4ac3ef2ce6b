/- The walk of the statement DiaryAgain. -/
import Derived.Test.YtoipmpaebngppaaEi
namespace Go.Proofs.Ytoipmpaebngppaa
open Go.RowKit Go.Maps

/-- The records alone are told as they were. -/
theorem scans_self {s : List UInt8} {ps : List (List UInt8)} {k : Nat} (h : Scans s ps k) : s.take k = recs ps ∧ Scans (s.take k) ps k := by
  obtain ⟨r, e, hk, hl, _⟩ := h
  have e1 : s.take k = recs ps := by rw [e, hk, List.take_append_of_le_length (Nat.le_refl _), List.take_of_length_le (Nat.le_refl _)]
  refine ⟨e1, [], by rw [e1, List.append_nil], hk, hl, noRec_nil⟩
theorem again1 (data : ByteArray) : (⟨[], 0, false⟩ : Ds).swp nF data = ⟨[⟨nF, data, data.size⟩], 0, false⟩ := rfl
theorem again2 {data : ByteArray} {k : Nat} (hk : k ≤ data.size) : (⟨[⟨nF, data, data.size⟩], 0, false⟩ : Ds).dOpn nF k = ⟨[⟨nF, data.extract 0 k, k⟩], 0, false⟩ := by
  by_cases h : k < data.size
  · have h' : k < ((⟨[⟨nF, data, data.size⟩], 0, false⟩ : Ds).text nF).size := h
    rw [opn_cut h']
    show (⟨[⟨nF, data.extract 0 k, (data.extract 0 k).size⟩], 0, false⟩ : Ds) = _
    rw [ext_size _ _ _ hk]
    rfl
  · have h' : ¬ k < ((⟨[⟨nF, data, data.size⟩], 0, false⟩ : Ds).text nF).size := h
    rw [opn_all h']
    have : k = data.size := by omega
    subst this
    rw [ext_all]
theorem again3 {t : ByteArray} {k : Nat} (hk : t.size ≤ k) : (⟨[⟨nF, t, t.size⟩], 1, false⟩ : Ds).dOpn nF k = ⟨[⟨nF, t, t.size⟩], 1, false⟩ := by
  have h' : ¬ k < ((⟨[⟨nF, t, t.size⟩], 1, false⟩ : Ds).text nF).size := by
    show ¬ k < t.size
    omega
  rw [opn_all h']
theorem code_z (F : List Fl) (l : Int) : (⟨F, l, false⟩ : Ds).code = 0 := rfl
theorem row_keep {w w' : World} {B : Nat} {S : Nat → Prop} {v : Value} {e : TypeId} {c m : Nat} {xs : List Value} (h : w.ownsRow B e c v m xs) (hf : Fr w w' S) (hs : ∀ j, v.ownBlock = some j → ¬ S j) : w'.ownsRow B e c v m xs :=
  own_like h (fun j hj => hf.block j (h.lt j hj).2 (hs j hj))

set_option maxHeartbeats 2000000 in
set_option maxRecDepth 100000 in
theorem again_law (data : ByteArray) (w : World) :
    Calls Try.prog 5 #[.string data] w fun e w' => e = .returned (.bool true) ∧ Below w.heap.size w w' := by
  by_cases hbig : 65536 < data.size
  · have q1 : (65536 : Int) < data.size := by omega
    go_enter Try.func5, Try.ntmps5
    go_wp2_with fail
    refine (new_any w).mono ?_
    rintro e w1 ⟨rfl, _, hb1, _⟩
    go_wp2_with fail
    refine (awake_any w1).mono ?_
    rintro e w2 ⟨rfl, hb2⟩
    go_wp2_with fail
    refine (awake_any w2).mono ?_
    rintro e w3 ⟨rfl, hb3⟩
    go_wp2
    go_ret
    have hb12 := hb1.trans (hb2.mono hb1.size)
    exact ⟨rfl, hb12.trans (hb3.mono hb12.size)⟩
  · have q1 : ¬ (65536 : Int) < data.size := by omega
    go_enter Try.func5, Try.ntmps5
    go_wp2_with fail
    refine (new_any w).mono ?_
    rintro e w1 ⟨rfl, hd1, hb1, _⟩
    have p1 : PD w1 w.heap.size (fun k => k = w.heap.size) 0 ⟨[], 0, false⟩ := ⟨_, _, hd1⟩
    clear hd1
    go_wp2_with fail
    refine (awake_any w1).mono ?_
    rintro e w2 ⟨rfl, hb2⟩
    have p2 := p1.on hb2
    have hb12 := hb1.trans (hb2.mono hb1.size)
    have z1 := hb1.size
    clear p1
    have hsw := p_swp (n := nF) (d := data) p2 (by decide) (by omega) (by omega)
    rw [again1, code_z] at hsw
    go_wp2_with fail
    refine hsw.mono ?_
    rintro e w3 ⟨rfl, p3, hf3⟩
    clear hsw p2
    have hfr3 : ∀ j, Gro (fun k => k = w.heap.size) w2 w3 j → w.heap.size ≤ j := by
      intro j q
      rcases q with q | q
      · have q' : j = w.heap.size := q
        omega
      · have := hb12.size
        omega
    have hb13 : Below w.heap.size w w3 := fr_below (w0 := w) (T := fun k => k = w.heap.size) (fun k q => by have q' : k = w.heap.size := q; omega) hb12 hf3
    go_wp2_with fail
    refine (pd_open (n := nF) p3 (by decide) (by show data.size ≤ _; omega) (by omega)).mono ?_
    rintro e w4 ⟨ps, k, hsc, hk, hps, hf4, S4, hS4, p4, hc⟩
    have hk' : k ≤ data.size := hk
    have hps' : 8 * ps.length ≤ data.size := hps
    have hsc' : Scans data.data.toList (lists ps) k := hsc
    rw [again2 hk'] at p4 hc
    rcases hc with ⟨hd, _⟩ | ⟨_, X, v, rfl, hX, hSX, hwX, hown, hvS⟩
    · cases hd
    have hb14 := fr_below hfr3 hb13 hf4
    have hfr4 : ∀ j, S4 j → w.heap.size ≤ j := fun j q => gro_fresh hfr3 hb13.size j (hS4 j q)
    have hts : (data.extract 0 k).size = k := by rw [ext_size _ _ _ hk']; omega
    have hself := scans_self hsc'
    have htl : (data.extract 0 k).data.toList = data.data.toList.take k := by rw [ext_list, List.drop_zero]; rfl
    rw [← htl] at hself
    have HT : Hid (data.extract 0 k = data.extract 0 k) := Lib.hid rfl
    obtain ⟨t, et⟩ : ∃ t, data.extract 0 k = t := ⟨_, rfl⟩
    rw [et] at p4 hts hself
    rw [← hts] at p4
    have HE := Lib.hid et
    have tx1 : Ds.text ⟨[⟨nF, t, t.size⟩], 0, false⟩ nF = t := rfl
    have tx2 : Ds.text ⟨[⟨nF, t, t.size⟩], 1, false⟩ nF = t := rfl
    clear et HT htl hf4 hS4 p3 hf3 hfr3 hsc hk hps
    have hr4 := p_read (n := nF) p4 (by decide)
    rw [code_z, tx1] at hr4
    go_wp2_with fail
    refine hr4.mono ?_
    rintro e w5 ⟨rfl, hb5⟩
    have p5 := p4.on hb5
    have hown5 := own_below hown hb5
    have hb15 := hb14.trans (hb5.mono hb14.size)
    go_wp2_with fail
    refine (p_arm (m := 1) p5 (by omega)).mono ?_
    rintro e w6 ⟨rfl, p6, hf6, _⟩
    have p6' : PD w6 w.heap.size S4 (1 + 1) ⟨[⟨nF, t, t.size⟩], 1, false⟩ := p6
    have hown6 := row_keep hown5 hf6 hvS
    have hb16 := fr_below hfr4 hb15 hf6
    clear p6 p5 p4 hown5 hown
    go_wp2_with fail
    refine (pd_open (n := nF) p6' (by decide) (by show t.size ≤ _; omega) (by omega)).mono ?_
    rintro e w7 ⟨ps7, k7, hsc7, _, _, hf7, S7, hS7, p7, hc7⟩
    have hsc7' : Scans t.data.toList (lists ps7) k7 := hsc7
    obtain ⟨e7, rfl⟩ := scans_one hsc7' hself.2
    have e7' := lists_inj e7
    subst e7'
    rw [again3 (by omega)] at p7 hc7
    rcases hc7 with ⟨hd, _⟩ | ⟨_, X7, v7, rfl, _, _, _, hown7, _⟩
    · cases hd
    have hown67 := row_keep hown6 hf7 hvS
    have hb17 := fr_below hfr4 hb16 hf7
    clear hsc7 hsc7' e7 hown6 p6'
    have hr7 := p_read (n := nF) p7 (by decide)
    rw [code_z, tx2] at hr7
    go_wp2_with fail
    refine hr7.mono ?_
    rintro e w8 ⟨rfl, hb8⟩
    have hb18 := hb17.trans (hb8.mono hb17.size)
    go_wp2_with fail
    refine (refScan_any data w8 (by omega)).mono ?_
    rintro e w9 ⟨v9, ps9, n9, rfl, hown9, hsc9, _, _, hb9⟩
    obtain ⟨e9, rfl⟩ := scans_one hsc9 hsc'
    have e9' := lists_inj e9
    subst e9'
    have hb19 := hb18.trans (hb9.mono hb18.size)
    have hb79 := hb8.trans (hb9.mono hb8.size)
    obtain ⟨adA, capA, rfl, hlA, _, _⟩ := Ls.own (own_below hown67 hb79)
    obtain ⟨adB, capB, rfl, hlB, _, _⟩ := Ls.own (own_below hown7 hb79)
    obtain ⟨adC, capC, rfl, hlC, _, _⟩ := Ls.own hown9
    have hlen9 : ps9.length ≤ 9223372036854775806 := by omega
    clear hsc9 hsc' e9 hself p7 hown67 hown7 hown9 tx1 tx2 hr4 hr7
    have hk9 : (n9 : Int) ≤ data.size := by omega
    have et := HE.out
    go_wp2_with fail
    refine (same_t ps9 adA adB capA capB w9 hlA hlB hlen9).mono ?_
    rintro e wA ⟨rfl, hbA⟩
    go_wp2_with fail
    refine (same_t ps9 adA adC capA capC wA (hlA.on hbA) (hlC.on hbA) hlen9).mono ?_
    rintro e wB ⟨rfl, hbB⟩
    have hbAB := hbA.trans (hbB.mono hbA.size)
    go_wp2
    go_ret
    exact ⟨rfl, hb19.trans (hbAB.mono hb19.size)⟩
end Go.Proofs.Ytoipmpaebngppaa
