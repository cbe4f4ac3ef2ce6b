/- seenIn: those that were seen in a span. -/
import Derived.Test.YtfokgalgdlajlaaCs
namespace Go.Proofs.Ytfokgalgdlajlaa
open Go.RowKit
def inB (lo hi k : ByteArray) : Bool := decide (¬ cb k lo < 0) && decide (cb k hi < 0)
def seenP (lo hi : ByteArray) (S : List Sm) : List Sm := S.filter fun x => inB lo hi x.key
abbrev smA (x : Sm) : Array Value := #[.string x.key, .int .i64 x.ts]
theorem seen_next {lo hi : ByteArray} {S : List Sm} {i : Nat} (h : i < S.length) : seenP lo hi (S.take (i + 1)) = seenP lo hi (S.take i) ++ if inB lo hi S[i].key then [S[i]] else [] := by
  unfold seenP
  rw [List.take_add_one, List.getElem?_eq_getElem h, List.filter_append]
  congr 1
  simp only [Option.toList_some]
  rw [List.filter_cons, List.filter_nil]
section
variable {w : World}
theorem push_sm {V : World} {B : Nat} {lv : Value} {P : List Sm} (h : V.ownsRow B 64 2 lv P.length (P.flatMap smL)) (hB : B ≤ V.heap.size) (hz : P.length ≤ 900000) (x : Sm) : ∃ ad cap w', (Builtin.append_ #[65, 65] 65 #[lv, .slice (some ⟨V.heap.size, 0, none⟩) 1 1]).run Try.prog (V.alloc (.cells (smA x) 64)) = .ok (.slice ad (P.length + 1) cap) w' ∧ w'.ownsRow B 64 2 (.slice ad (P.length + 1) cap) (P ++ [x]).length ((P ++ [x]).flatMap smL) ∧ Below B V w' := by
  have hb := bnew V (.cells (smA x) 64)
  obtain ⟨ad, cap, w', hr, ho, hg, _⟩ := run_sm (m := 1) (c := 1) (news := smL x) (own_below h hb) (Nat.le_trans hB hb.size) (.inr ⟨⟨V.heap.size, 0, none⟩, rfl, rfl, fun j u hu => by
    rw [add_at, Nat.zero_add, cell_blk (heap_alloc_new V _), ← hu]
    exact (Array.getElem?_toList (xs := smA x) (i := j)).symm⟩) (by
    intro u hu
    exact sm_one [x] u (by simpa using hu)) (by omega)
  have hf : Fr (V.alloc (.cells (smA x) 64)) w' (fun k => lv.ownBlock = some k) := Fr.grown (Fr.refl _ _) hg (fun k hk => .inl hk)
  refine ⟨ad, cap, w', hr, by rw [List.length_append, List.flatMap_append]; simpa using ho, ?_⟩
  exact (hb.mono hB).trans (hf.toBelow (fun k hk q => by
    have := (h.lt k q).1
    omega) (Nat.le_trans hB hb.size))
set_option maxHeartbeats 4000000 in
set_option maxRecDepth 100000 in
theorem seen_any {lo hi : ByteArray} {S : List Sm} {v : Value} (h : Lr smE 2 w S v) (hz : S.length ≤ 900000) : Calls Try.prog 44 #[.agg #[.string lo, .string hi], v] w fun e w' => ∃ ad cap, e = .returned (.slice ad (seenP lo hi S).length cap) ∧ w'.ownsRow w.heap.size 64 2 (.slice ad (seenP lo hi S).length cap) (seenP lo hi S).length ((seenP lo hi S).flatMap smL) ∧ Below w.heap.size w w' := by
  obtain ⟨W, hW⟩ : ∃ W, W = w.alloc (.cells #[.string lo, .string hi] 62) := ⟨_, rfl⟩
  obtain ⟨Y, hY⟩ : ∃ Y, w.heap.size = Y := ⟨_, rfl⟩
  have hb : Below w.heap.size w W := by rw [hW]; exact bnew w _
  have jY : W.heap[Y]? = some (.cells #[.string lo, .string hi] 62 (0, 0)) := by rw [hW, ← hY]; exact heap_alloc_new w _
  obtain ⟨la, lc, rfl, _, z1, z2, hX⟩ := h
  have hmx : (S.length : Int) ≤ 9223372036854775807 := by omega
  have HX := Lib.hid hX
  have HZ := Lib.hid hz
  have HW := Lib.hid hW
  have HY := Lib.hid hY
  have HB := Lib.hid hb
  have HJ := Lib.hid jY
  clear hX z1 z2 hz hW hY hb jY
  go_enter Try.func44, Try.ntmps44
  go_upto_region 1 with fail
  rw [← HW.out, HY.out]
  go_wp2
  go_loopw [5, 10] (fun lv iv wr => ∃ i : Nat, i ≤ S.length ∧ iv = .int .i64 (i : Int) ∧ Below W.heap.size W wr ∧ wr.ownsRow W.heap.size 64 2 lv (seenP lo hi (S.take i)).length ((seenP lo hi (S.take i)).flatMap smL)) (fun _ iv _ => S.length - (intOf iv).toNat)
  case atStart => exact ⟨0, Nat.zero_le _, rfl, Below.refl _ _, World.ownsRow_nil _ _ _ _⟩
  case round =>
    obtain ⟨i, hile, rfl, hbw, ho⟩ := hrel
    obtain ⟨V, rfl⟩ : ∃ V, V = wr := ⟨_, rfl⟩
    obtain ⟨oad, ocap, rfl⟩ := own_shape ho
    have HBW := Lib.hid hbw
    have HO := Lib.hid ho
    clear ho hbw
    by_cases hlt : i < S.length
    · obtain ⟨b, o, cs', rfl, hbl, hE, _, hcell⟩ := HX.out i hlt
      have hE' : cs' = smL S[i] := hE
      subst hE'
      have hnx := seen_next (lo := lo) (hi := hi) hlt
      have hln : (seenP lo hi (S.take i)).length ≤ 900000 := by
        have h1 : (seenP lo hi (S.take i)).length ≤ (S.take i).length := List.length_filter_le ..
        have h2 : (S.take i).length ≤ S.length := by rw [List.length_take]; omega
        have := HZ.out
        omega
      have HNX := Lib.hid hnx
      have HLN := Lib.hid hln
      clear hnx hln
      generalize seenP lo hi (S.take i) = P at *
      generalize S[i] = x at *
      have hbV := bgo HB.out HBW.out
      have hld : (Instr.loadAt 64 (.pointer (some ⟨b, o + i * 2, none⟩))).run Try.prog V = .ok (.agg (smA x)) V := run_loadAt_mid V b (o + i * 2) 64 (smL x) _ (fun j u hu => cell_on hbV (hcell j u hu)) Try.underlying64 rfl size64
      obtain ⟨V2, e2, k2, f2⟩ := st_row (heap_alloc_new V (.cells #[.string ⟨#[]⟩, .int .i64 0] 64)) (us := smA x) rfl size64 (by simp [Value.oneCell'])
      have b2 : Below V.heap.size V V2 := below_put (bnew V _) (Nat.le_refl _) f2 (Nat.le_refl _)
      have hbW2 := bgo HBW.out b2
      have l0 : V2.cell? ⟨V.heap.size, 0, none⟩ = some (.string x.key) := cell_blk k2 0
      have m0 : V2.cell? ⟨Y, 0, none⟩ = some (.string lo) := cell_on hbW2 (cell_blk HJ.out 0)
      have m1 : V2.cell? ⟨Y, 1, none⟩ = some (.string hi) := cell_on hbW2 (cell_blk HJ.out 1)
      have hld2 := load_row k2 Try.underlying64 rfl size64
      obtain ⟨ad, cap, w3, hrun, o3, b3⟩ := push_sm (own_below HO.out b2) hbW2.size HLN.out x
      have hle := leq_eq lo x.key
      have hlt2 := less_eq x.key hi
      have k0 : (0 : Int) ≤ i := by omega
      have k1 : (i : Int) < S.length := by omega
      have HLD := Lib.hid hld
      have HS2 := Lib.hid e2
      have HLD2 := Lib.hid hld2
      have HRUN := Lib.hid hrun
      have HO3 := Lib.hid (And.intro (own_below HO.out b2) (And.intro hbW2 (And.intro o3 (hbW2.trans b3))))
      clear hbV hld e2 k2 f2 b2 hbW2 hld2 hrun o3 b3 hcell
      unfold inB at HNX
      by_cases h1 : ¬ cb x.key lo < 0
      · have d1 := decide_eq_true h1
        rw [d1] at hle HNX
        by_cases h2 : cb x.key hi < 0
        · have d2 := decide_eq_true h2
          rw [d2] at hlt2 HNX
          clear d1 d2 h1 h2
          go_wp2_with (first | (refine wpl_load _ rfl (by first | rfl | simp [Act.eval]) HLD.out ?_) | (refine wpl_store _ _ rfl (by first | rfl | simp [Act.eval]) (by first | rfl | simp [Act.eval]) HS2.out ?_) | (refine wpl_load _ rfl (by first | rfl | simp [Act.eval]) HLD2.out ?_) | (at_builtin; refine wpl_run2 _ _ rfl (by simp [Act.eval]) (by simp [Act.eval]) HRUN.out ?_))
          go_roundw
          case rel => exact ⟨i + 1, hlt, by go_num, HO3.out.2.2.2, by rw [HNX.out]; simpa using HO3.out.2.2.1⟩
          case measure => simp [intOf]; omega
        · have d2 := decide_eq_false h2
          rw [d2] at hlt2 HNX
          clear d1 d2 h1 h2
          go_wp2_with (first | (refine wpl_load _ rfl (by first | rfl | simp [Act.eval]) HLD.out ?_) | (refine wpl_store _ _ rfl (by first | rfl | simp [Act.eval]) (by first | rfl | simp [Act.eval]) HS2.out ?_))
          go_roundw
          case rel => exact ⟨i + 1, hlt, by go_num, HO3.out.2.1, by rw [HNX.out]; simpa using HO3.out.1⟩
          case measure => simp [intOf]; omega
      · have d1 := decide_eq_false h1
        rw [d1] at hle HNX
        clear d1 h1
        go_wp2_with (first | (refine wpl_load _ rfl (by first | rfl | simp [Act.eval]) HLD.out ?_) | (refine wpl_store _ _ rfl (by first | rfl | simp [Act.eval]) (by first | rfl | simp [Act.eval]) HS2.out ?_))
        go_roundw
        case rel => exact ⟨i + 1, hlt, by go_num, HO3.out.2.1, by rw [HNX.out]; simpa using HO3.out.1⟩
        case measure => simp [intOf]; omega
    · obtain rfl : i = S.length := by omega
      have k1 : ¬ (S.length : Int) < S.length := by omega
      have ho := HO.out
      rw [List.take_length] at ho
      have HO9 := Lib.hid ho
      rw [List.take_length]
      clear ho HO
      go_wp2
      refine bodyPost_ret (v := .slice oad (seenP lo hi S).length ocap) (by simp [results, Try.results44, go_sem]) rfl ?_
      exact ⟨oad, ocap, rfl, own_mono HO9.out (Nat.le_trans (Nat.le_refl _) HB.out.size), bgo HB.out HBW.out⟩
end
end Go.Proofs.Ytfokgalgdlajlaa
