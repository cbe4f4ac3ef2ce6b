/- Get. -/
import Derived.Test.YtbepekgaipipjaaRj
import Derived.Test.YtbepekgaipipjaaRh
namespace Go.Proofs.Ytbepekgaipipjaa
open Go.RowKit
theorem info89 : (Try.prog.info? 89).map (fun i => (i.zero, i.size, i.bytes)) = some (some (.agg #[.int .i64 0, .int .i64 0, .int .i64 0, .string ⟨#[]⟩]), 4, 40) := by kernel_rfl
/-- What Get answers and leaves. -/
def GetPost (L : List UInt8) (w : World) (e : Ending) (w' : World) : Prop :=
  Below w.heap.size w w' ∧ ((∃ (M : List Ce) (v : Value), getP 0 L = some M ∧ e = .returned (.tuple #[v, .int .i64 0]) ∧ w'.ownsRow w.heap.size 89 4 v M.length (M.flatMap ceL)) ∨ (getP 0 L = none ∧ e = .returned (.tuple #[.slice none 0 0, .int .i64 100])))
theorem get_no {L : List UInt8} {w w' : World} (h : getP 0 L = none) (hb : Below w.heap.size w w') : GetPost L w (.returned (.tuple #[.slice none 0 0, .int .i64 100])) w' := ⟨hb, .inr ⟨h, rfl⟩⟩
theorem news_ce (w : World) (c : Ce) : ∀ j u, (ceL c)[j]? = some u → (w.alloc (.cells (ceA c) 89)).cell? ((⟨w.heap.size, 0, none⟩ : Addr).add j) = some u := by
  intro j u hu
  rw [add_at, Nat.zero_add, cell_blk (heap_alloc_new w _)]
  simpa using hu
theorem own_ce {w : World} {B : Nat} {v : Value} {M : List Ce} {c : Ce} (h : w.ownsRow B 89 4 v (M.length + 1) (M.flatMap ceL ++ ceL c)) : w.ownsRow B 89 4 v (M ++ [c]).length ((M ++ [c]).flatMap ceL) := by
  rw [List.flatMap_append, List.length_append, List.flatMap_cons, List.flatMap_nil, List.append_nil]
  exact h
theorem take_extract (s : ByteArray) (n : Nat) : (s.extract 0 n).data.toList = s.data.toList.take n := by
  simp
set_option maxHeartbeats 8000000 in
set_option maxRecDepth 100000 in
theorem get_any (s : ByteArray) (w : World) (hm : s.size ≤ 1000000) : Calls Try.prog 24 #[.string s] w (GetPost s.data.toList w) := by
  obtain ⟨iV, hi, hz0, hz1, hz2⟩ := info_parts info89
  have hst := getAt_start s
  obtain ⟨L, hL⟩ : ∃ L, s.data.toList = L := ⟨_, rfl⟩
  rw [hL] at hst ⊢
  have HS := Lib.hid hst
  clear hL hst
  go_enter Try.func24, Try.ntmps24
  go_wp2
  go_loopw [0, 4, 5] (fun sv v l wr => ∃ (s' : ByteArray) (M : List Ce), sv = .string s' ∧ l = .int .i64 (lastF 0 M) ∧ wr.ownsRow w.heap.size 89 4 v M.length (M.flatMap ceL) ∧ Below w.heap.size w wr ∧ s'.size + M.length ≤ 1000000 ∧ Hid (GetAt L M s')) (fun sv _ _ _ => match sv with | .string s => s.size | _ => 0)
  case atStart => exact ⟨s, [], rfl, rfl, World.ownsRow_nil _ _ _ _, Below.refl _ _, by simpa using hm, HS⟩
  case round =>
    clear HS
    obtain ⟨s', M, rfl, rfl, hown, hb, hsm, HD⟩ := hrel
    have HB := Lib.hid hb
    have HSM := Lib.hid hsm
    have hzb := hb.size
    obtain ⟨lst, hlst⟩ : ∃ lst, lastF 0 M = lst := ⟨_, rfl⟩
    rw [hlst]
    have HLST := Lib.hid hlst
    clear hlst hb
    cases he : s'.toList.isEmpty
    · have hpos : 0 < s'.size := by
        rw [toL] at he
        rcases Nat.eq_zero_or_pos s'.size with h | h
        · have : s'.data.toList = [] := List.eq_nil_of_length_eq_zero (by simpa using h)
          rw [this] at he
          simp at he
        · exact h
      have hl1 := list1 s' hpos
      obtain ⟨N, hN⟩ : ∃ N, s'[0].toNat = N := ⟨_, rfl⟩
      have hN9 : N < 256 := by rw [← hN]; exact s'[0].toNat_lt
      obtain ⟨s1, hs1⟩ : ∃ s1, s'.extract 1 s'.size = s1 := ⟨_, rfl⟩
      have hs1z : s1.size + 1 = s'.size := by rw [← hs1]; simp; omega
      rw [hs1] at hl1
      have HL1 := Lib.hid hl1
      have HNN := Lib.hid hN
      by_cases h1 : s1.size < N
      · have t1 : (s1.size : Int) < (N : Int) := by omega
        have HN := Lib.hid (getAt_no HD.out (by rw [HL1.out, getP_short]; rw [HNN.out]; simpa using h1))
        clear hsm hl1 hs1z hzb
        go_wp2
        go_ret2
        exact get_no HN.out HB.out
      · have t1 : ¬ (s1.size : Int) < (N : Int) := by omega
        have t0 : (N : Int) ≤ (s1.size : Int) := by omega
        obtain ⟨s2, hs2⟩ : ∃ s2, s1.extract 0 N = s2 := ⟨_, rfl⟩
        have hs2d : s2.data.toList = s1.data.toList.take N := by rw [← hs2]; exact take_extract s1 N
        have hs2m : s2.size ≤ maxLen := by
          have : s2.data.toList.length ≤ N := by rw [hs2d]; exact List.length_take_le _ _
          have e : s2.data.toList.length = s2.size := Array.length_toList
          unfold maxLen
          omega
        have HSH : Hid (¬ s1.data.toList.length < s'[0].toNat) := Lib.hid (by rw [HNN.out]; simpa using h1)
        cases hc : cellP s2.data.toList with
        | none =>
          have hcall := cell_no s2 wr hs2m hc
          have HN := Lib.hid (getAt_no HD.out (by rw [HL1.out]; exact getP_bad HSH.out (by rw [HNN.out, ← hs2d]; exact hc)))
          clear hsm hl1 hs2d hs2m hc hs1z hzb
          go_wp2_with (go_at_call 45; refine hcall.mono ?_; rintro e w4 ⟨rfl, b4⟩; refine Hid.out ?_)
          refine Lib.hid ?_
          have HB4 := Lib.hid (HB.out.trans (b4.mono HB.out.size))
          clear hcall b4
          go_wp2
          go_ret2
          exact get_no HN.out (HB4.out.alloc HB4.out.size _)
        | some c =>
          have hcall := cell_yes s2 wr hs2m hc
          by_cases hid : c.id ≤ lst
          · have HN := Lib.hid (getAt_no HD.out (by rw [HL1.out, HLST.out]; exact getP_old HSH.out (by rw [HNN.out, ← hs2d]; exact hc) (by omega)))
            clear hsm hl1 hs2d hs2m hc hs1z hzb
            go_wp2_with (go_at_call 45; refine hcall.mono ?_; rintro e w4 ⟨rfl, b4⟩; refine Hid.out ?_)
            refine Lib.hid ?_
            have HB4 := Lib.hid (HB.out.trans (b4.mono HB.out.size))
            clear hcall b4
            go_wp2
            go_ret2
            exact get_no HN.out (HB4.out.alloc HB4.out.size _)
          · obtain ⟨s3, hs3⟩ : ∃ s3, s1.extract N s1.size = s3 := ⟨_, rfl⟩
            have hs3z : s3.size + N = s1.size := by rw [← hs3]; simp; omega
            have hs3d : s3.data.toList = s1.data.toList.drop N := by rw [← hs3]; exact Lib.extract_to_end s1 N
            have HN : Hid (GetAt L (M ++ [c]) s3) := Lib.hid (getAt_step HD.out HL1.out HSH.out (by rw [HNN.out, ← hs2d]; exact hc) (by rw [HLST.out]; omega) (by rw [HNN.out]; exact hs3d))
            have hML : M.length ≤ 1000000 := by omega
            have HZ : Hid (s3.size + (M ++ [c]).length ≤ 1000000 ∧ s3.size < s'.size) := Lib.hid ⟨by simp; omega, by omega⟩
            clear hsm hl1 hs2d hs2m hc hs3z hs3d hs1z
            go_wp2_with (go_at_call 45; refine hcall.mono ?_; rintro e w4 ⟨rfl, b4⟩; refine Hid.out ?_)
            refine Lib.hid ?_
            have HB4 := Lib.hid (HB.out.trans (b4.mono HB.out.size))
            have hown4 := own_below hown b4
            have hz4 := HB4.out.size
            obtain ⟨V, hV⟩ : ∃ V, V = w4.alloc (.cells (ceA c) 89) := ⟨_, rfl⟩
            obtain ⟨Q, hQ⟩ : ∃ Q, w4.heap.size = Q := ⟨_, rfl⟩
            have jQ : V.heap[Q]? = some (.cells (ceA c) 89 (0, 0)) := by rw [hV, ← hQ]; exact heap_alloc_new w4 _
            have bV : Below w4.heap.size w4 V := by rw [hV]; exact bnew _ _
            have hownV := own_below hown4 bV
            have d0 : V.cell? ⟨Q, 0, none⟩ = some (.int .i64 c.id) := cell_blk jQ 0
            have d1 : V.cell? ⟨Q, 1, none⟩ = some (.int .i64 c.v.k) := cell_blk jQ 1
            have d2 : V.cell? ⟨Q, 2, none⟩ = some (.int .i64 c.v.n) := cell_blk jQ 2
            have d3 : V.cell? ⟨Q, 3, none⟩ = some (.string c.v.s) := cell_blk jQ 3
            have HBV := Lib.hid (bgo HB4.out bV)
            have HV := Lib.hid hV
            have HQ := Lib.hid hQ
            have JQ := Lib.hid jQ
            have HQO : Hid (∀ k, _ = some k → k ≠ Q) := Lib.hid fun k hk => by have := (hown4.lt k hk).2; omega
            have hzV := HBV.out.size
            clear hcall b4 hV hQ jQ bV hown4 hown hz4 hzb
            go_upto_region 9 with fail
            rw [← HV.out, HQ.out]
            go_wp2_with (at_builtin; refine wpList_append_own _ rfl _ _ 40 rfl w.heap.size 89 iV (.agg #[.int .i64 0, .int .i64 0, .int .i64 0, .string ⟨#[]⟩]) 4 40 Try.underlying40 hi hz0 hz1 hz2 rfl (by decide) _ _ _ rfl (hownV.alloc _) ⟨V.heap.size, 0, none⟩ 1 1 (ceL c) rfl rfl (news_ce V c) (by intro u' hu'; simp at hu'; rcases hu' with rfl | rfl | rfl | rfl <;> rfl) (by unfold maxLen; omega) (by omega) (by simp; omega) ?_; intro v3 w3 hown3 hgrow3 _; refine Hid.out ?_)
            refine Lib.hid ?_
            have HB3 : Hid (Below w.heap.size w w3) := Lib.hid ((HBV.out.alloc HBV.out.size _).grown hgrow3 (by simp; omega) (fun k hk => (hownV.lt k hk).1))
            have e0 : w3.cell? ⟨Q, 0, none⟩ = some (.int .i64 c.id) := by
              have : w3.heap[Q]? = some (.cells (ceA c) 89 (0, 0)) := (hgrow3.block Q (by have := blk_lt JQ.out; simp; omega) (fun q => HQO.out Q q.symm rfl)).trans ((Below.heap_alloc V _ Q (blk_lt JQ.out)).trans JQ.out)
              exact cell_blk this 0
            have HO3 := Lib.hid hown3
            clear hownV hgrow3 hown3 d0 d1 d2 d3 hzV
            go_wp2
            go_roundw
            case rel => exact ⟨s3, M ++ [c], rfl, by rw [lastF_snoc], own_ce HO3.out, HB3.out, HZ.out.1, HN⟩
            case measure => exact HZ.out.2
    · have HN := Lib.hid (getAt_end HD.out (List.isEmpty_iff.1 (by rw [← toL]; exact he)))
      have HO := Lib.hid hown
      clear hsm hown
      go_wp2
      go_ret2
      exact ⟨HB.out, .inl ⟨M, _, HN.out, rfl, HO.out⟩⟩
end Go.Proofs.Ytbepekgaipipjaa
