/- Put. -/
import Derived.Test.YtbepekgaipipjaaRf
import Derived.Test.YtbepekgaipipjaaRc
import Derived.Lib.AppendStr
import Derived.RegionTactic
namespace Go.Proofs.Ytbepekgaipipjaa
open Go.RowKit
theorem putS_ok {L : List Ce} (h : okC 0 L = true) : putS L = rowB L ∧ putE L = 0 := by unfold putS putE; rw [h]; exact ⟨rfl, rfl⟩
theorem putS_no {L : List Ce} (h : okC 0 L = false) : putS L = [] ∧ putE L = 100 := by unfold putS putE; rw [h]; exact ⟨rfl, rfl⟩
theorem lastF_fit {L : List Ce} (hf : ∀ c ∈ L, FitC c) (k : Nat) : Fit (lastF 0 (L.take k)) := by
  rcases hL : L.take k with _ | ⟨c, r⟩
  · exact ⟨by decide, by decide⟩
  · rw [← hL]
    have hne : L.take k ≠ [] := by rw [hL]; simp
    have e : L.take k = (L.take k).dropLast ++ [(L.take k).getLast hne] := (List.dropLast_concat_getLast hne).symm
    rw [e, lastF_snoc]
    exact (hf _ (List.mem_of_mem_take (List.getLast_mem hne))).1
/-- What stands in a block of another type stays where a row grows. -/
theorem grow_keep {w w' : World} {B e c n Q T : Nat} {v : Value} {xs : List Value} {cs : Array Value} (hown : w.ownsRow B e c v n xs) (j : w.heap[Q]? = some (.cells cs T (0, 0))) (hT : T ≠ e) (g : w.grownBy w' v.ownBlock) : w'.heap[Q]? = some (.cells cs T (0, 0)) :=
  (g.block Q (blk_lt j) (fun q => by
    obtain ⟨cs', t⟩ := own_tag hown Q q.symm
    rw [j] at t
    simp only [Option.some.injEq, Obj.cells.injEq] at t
    exact hT t.2.1)).trans j
theorem own_two {w : World} {B : Nat} {v : Value} {A K : List UInt8} {S : ByteArray} (hK : K.length ≤ 140) (hs : S.size = K.length ∧ S.data.toList = K) (h : w.ownsRow B 5 1 v (A.length + 1 + S.size) (Lib.byteCells A ++ [Value.int .u8 (S.size : Int)] ++ Lib.strCells S)) : w.ownsRow B 5 1 v (A ++ (UInt8.ofNat K.length :: K)).length (Lib.byteCells (A ++ (UInt8.ofNat K.length :: K))) := by
  have e1 : (A ++ (UInt8.ofNat K.length :: K)).length = A.length + 1 + S.size := by rw [hs.1]; simp; omega
  have e2 : Lib.byteCells (A ++ (UInt8.ofNat K.length :: K)) = Lib.byteCells A ++ [Value.int .u8 (S.size : Int)] ++ Lib.strCells S := by
    unfold Lib.byteCells Lib.strCells
    rw [hs.2, hs.1, List.map_append, List.map_cons, ofNat_len hK]
    simp
  rw [e1, e2]
  exact h
theorem conv_own' {B : Nat} {v : Value} {l : List UInt8} {w : World} (h : w.ownsRow B 5 1 v l.length (Lib.byteCells l)) : (Go.convert 87 9 v).run Try.prog w = .ok (.string (bs l)) w := conv_own h
set_option maxHeartbeats 8000000 in
set_option maxRecDepth 100000 in
theorem put_any {L : List Ce} {v : Value} (w : World) (hL : Lr ceE 4 w L v) (hf : ∀ c ∈ L, FitC c) (hlen : L.length ≤ 1000) : Calls Try.prog 22 #[v] w fun e w' => e = .returned (.tuple #[.string (bs (putS L)), .int .i64 (putE L)]) ∧ Below w.heap.size w w' := by
  obtain ⟨i0, hi, hz0, hz1, hz2⟩ := info_parts infoByte
  obtain ⟨ad, cap, rfl, hr0⟩ := hL
  have hL : Lr ceE 4 w L (.slice ad L.length cap) := ⟨ad, cap, rfl, hr0⟩
  have hmx : (L.length : Int) ≤ 1000 := by omega
  have HL := Lib.hid hL
  have HF := Lib.hid hf
  clear hL hr0 hf
  go_enter Try.func22, Try.ntmps22
  go_wp2
  go_loopw [4, 5, 11] (fun v l i wr => ∃ k : Nat, k ≤ L.length ∧ i = .int .i64 (k : Int) ∧ l = .int .i64 (lastF 0 (L.take k)) ∧ wr.ownsRow w.heap.size 5 1 v (rowB (L.take k)).length (Lib.byteCells (rowB (L.take k))) ∧ Below w.heap.size w wr ∧ Hid (okC 0 (L.take k) = true)) (fun _ _ i _ => L.length - (intOf i).toNat)
  case atStart => exact ⟨0, Nat.zero_le _, rfl, rfl, World.ownsRow_nil _ _ _ _, Below.refl _ _, rfl⟩
  case round =>
    obtain ⟨k, hk, rfl, rfl, hown, hb, HO⟩ := hrel
    have hlR : (rowB (L.take k)).length ≤ 141000 := by
      have h1 := rowB_len (L.take k) (okC_mem HO.out) (fun c hc => HF.out c (List.mem_of_mem_take hc))
      have h2 : (L.take k).length ≤ k := List.length_take_le _ _
      omega
    have HB := Lib.hid hb
    obtain ⟨lst, hlst⟩ : ∃ lst, lastF 0 (L.take k) = lst := ⟨_, rfl⟩
    rw [hlst]
    by_cases hlt : k < L.length
    · obtain ⟨_, _, _, hcells⟩ := (HL.out.on ceE_held hb).at4
      obtain ⟨b, o, rfl, hbl, c0, c1, c2, c3⟩ := hcells k hlt
      obtain ⟨x, hx⟩ : ∃ x, L[k] = x := ⟨_, rfl⟩
      have hfx : FitC x := by rw [← hx]; exact HF.out _ (List.getElem_mem hlt)
      have hst := okC_take hlt
      have hrs := rowB_take hlt
      have hls : lastF 0 (L.take (k + 1)) = x.id := by rw [List.take_succ_eq_append_getElem hlt, lastF_snoc, hx]
      rw [HO.out, hlst, hx, Bool.true_and] at hst
      rw [hx] at c0 c1 c2 c3 hrs
      have k1 : (k : Int) < L.length := by omega
      have k0 : (0 : Int) ≤ k := by omega
      obtain ⟨V1, hV1⟩ : ∃ V1, V1 = wr.alloc (.cells (ceA x) 89) := ⟨_, rfl⟩
      obtain ⟨Q, hQ⟩ : ∃ Q, wr.heap.size = Q := ⟨_, rfl⟩
      have bV : Below wr.heap.size wr V1 := by rw [hV1]; exact bnew _ _
      have jQ : V1.heap[Q]? = some (.cells (ceA x) 89 (0, 0)) := by rw [hV1, ← hQ]; exact heap_alloc_new wr _
      have d0 : V1.cell? ⟨Q, 0, none⟩ = some (.int .i64 x.id) := cell_blk jQ 0
      have d1 : V1.cell? ⟨Q, 0 + 1, none⟩ = some (.int .i64 x.v.k) := cell_blk jQ 1
      have d2 : V1.cell? ⟨Q, 0 + 1 + 1, none⟩ = some (.int .i64 x.v.n) := cell_blk jQ 2
      have d3 : V1.cell? ⟨Q, 0 + 1 + 2, none⟩ = some (.string x.v.s) := cell_blk jQ 3
      have hownV : V1.ownsRow w.heap.size 5 1 _ _ _ := own_below hown bV
      have hfit : Fits [nv x.id, x.v] := fits2 hfx.1 hfx.2
      have HST := Lib.hid hst
      have HRS := Lib.hid hrs
      have HLS := Lib.hid hls
      have HFX := Lib.hid hfx
      have HV1 := Lib.hid hV1
      have HQ := Lib.hid hQ
      have HBV := Lib.hid (bgo hb bV)
      have HX := Lib.hid hx
      have HLST := Lib.hid hlst
      have HKL : Hid (k < L.length) := Lib.hid hlt
      clear hb hcells hx hst hrs hls hfx hV1 hQ bV hown hlst hbl
      go_upto_region 6 with fail
      rw [← HV1.out, HQ.out]
      clear c0 c1 c2 c3
      refine wp_region_fb (fun _ X9 => Below V1.heap.size V1 X9) (fun X9 X8 => Below X9.heap.size X9 X8) [
        fun v9 _ => v9 = .pointer (some ⟨Q, 0, none⟩),
        fun v9 _ => v9 = .int .i64 x.id,
        fun v9 _ => v9 = vlV (nv x.id),
        fun v9 _ => v9 = .pointer (some ⟨Q, 1, none⟩),
        fun v9 _ => v9 = vlV x.v,
        fun v9 X9 => ∃ F9, v9 = .slice (some ⟨F9, 0, none⟩) 2 2 ∧ Li [nv x.id, x.v] (some ⟨F9, 0, none⟩) X9,
        fun v9 _ => v9 = .string (bs (ckey x)),
        fun v9 _ => v9 = .string (bs (ckey x))]
        (by kernel_rfl) (by kernel_rfl) (by kernel_rfl) ?st ?g0 ?os ?en
      case st => exact ⟨fun _ _ _ _ h => h, fun _ _ _ _ h => h, fun _ _ _ _ h => h, fun _ _ _ _ h => h, fun _ _ _ _ h => h, (fun _ _ _ hb h => by obtain ⟨F9, e9, h9⟩ := h; exact ⟨F9, e9, h9.on hb⟩), fun _ _ _ _ h => h, fun _ _ _ _ h => h, trivial⟩
      case g0 => exact ⟨rfl, rfl, rfl, Nat.le_refl _, fun _ _ => rfl⟩
      case os =>
        refine ⟨?_, ?_, ?_, ?_, ?_, ?_, ?_, ?_, trivial⟩
        · exact fun ρ X9 fl hg hn hl hp ho hc hf hr => .inl ⟨rfl, Runs.val _ (op_f89_0 (show ρ (.tmp 7) = .pointer (some ⟨Q, 0, none⟩) from ho 7 rfl)) ⟨hg, Below.refl _ _, rfl⟩⟩
        · exact fun ρ X9 fl hg hn hl hp ho hc hf hr => .inl ⟨rfl, Runs.val _ (op_load3 (show ρ (.tmp 15) = .pointer (some ⟨Q, 0, none⟩) from hr 0 15 rfl rfl) (cell_on hg d0)) ⟨hg, Below.refl _ _, rfl⟩⟩
        · intro ρ X9 fl hg hn hl hp ho hc hf hr
          refine .inl ⟨rfl, ?_⟩
          refine Runs.goes 39 #[.int .i64 x.id] (op_call1 hf (by go_simp) (show ρ (.tmp 16) = .int .i64 x.id from hr 1 16 rfl rfl)) ((number_any _ X9).mono ?_)
          rintro e7 w7 ⟨rfl, b7⟩
          exact ⟨_, rfl, bgo hg b7, b7, rfl⟩
        · exact fun ρ X9 fl hg hn hl hp ho hc hf hr => .inl ⟨rfl, Runs.val _ (op_f89_1 (show ρ (.tmp 7) = .pointer (some ⟨Q, 0, none⟩) from ho 7 rfl)) ⟨hg, Below.refl _ _, rfl⟩⟩
        · exact fun ρ X9 fl hg hn hl hp ho hc hf hr => .inl ⟨rfl, Runs.val _ (op_load23 (show ρ (.tmp 18) = .pointer (some ⟨Q, 1, none⟩) from hr 3 18 rfl rfl) (cell_on hg d1) (cell_on hg d2) (cell_on hg d3)) ⟨hg, Below.refl _ _, rfl⟩⟩
        · intro ρ X9 fl hg hn hl hp ho hc hf hr
          refine .inl ⟨rfl, ?_⟩
          exact Runs.val _ (op_s32_2 (show ρ (.tmp 17) = vlV (nv x.id) from hr 2 17 rfl rfl) (show ρ (.tmp 19) = vlV x.v from hr 4 19 rfl rfl)) ⟨bgo hg (bnew _ _), bnew _ _, _, rfl, li_new _ _⟩
        · intro ρ X9 fl hg hn hl hp ho hc hf hr
          obtain ⟨F9, e9, h9⟩ : ∃ F9, ρ (.tmp 20) = .slice (some ⟨F9, 0, none⟩) 2 2 ∧ Li [nv x.id, x.v] (some ⟨F9, 0, none⟩) X9 := hr 5 20 rfl rfl
          refine .inl ⟨rfl, ?_⟩
          refine Runs.goes 38 #[.slice (some ⟨F9, 0, none⟩) 2 2] (op_call1 hf (by go_simp) e9) ((key_any [nv x.id, x.v] _ 2 X9 h9 hfit).mono ?_)
          rintro e7 w7 ⟨rfl, b7⟩
          exact ⟨_, rfl, bgo hg b7, b7, rfl⟩
        · exact fun ρ X9 fl hg hn hl hp ho hc hf hr => .inl ⟨rfl, Runs.val _ (op_assign (show ρ (.tmp 21) = .string (bs (ckey x)) from hr 6 21 rfl rfl)) ⟨hg, Below.refl _ _, rfl⟩⟩
      case en =>
        intro a9 w6 fl hfl b6 hs9 hd9 ho9 hr9
        obtain ⟨x9, hx, hxt⟩ := act_put hs9 hd9 ho9
        have x8 : x9 8 = .string (bs (ckey x)) := (hxt 8).symm.trans (hr9 7 8 rfl)
        change a9 = putAll _ x9 [15, 16, 17, 18, 19, 20, 21, 8] at hx
        simp only [putAll, Act.put, List.setIfInBounds_toArray, List.set_cons_zero, List.set_cons_succ, x8] at hx
        subst hx
        clear hs9 hd9 ho9 hr9 hfl x8
        generalize x9 15 = z15, x9 16 = z16, x9 17 = z17, x9 18 = z18, x9 19 = z19, x9 20 = z20, x9 21 = z21
        have e0 : w6.cell? ⟨Q, 0, none⟩ = some (.int .i64 x.id) := cell_on b6 d0
        have JQ6 := Lib.hid ((b6.block Q (blk_lt jQ)).trans jQ)
        have hown6 := own_below hownV b6
        have HB6 := Lib.hid (bgo HBV.out b6)
        have hz6 : w.heap.size ≤ w6.heap.size := HB6.out.size
        obtain ⟨S, hS⟩ : ∃ S, bs (ckey x) = S := ⟨_, rfl⟩
        rw [hS]
        clear d0 d1 d2 d3 hownV jQ b6 hfit
        by_cases h1 : x.id ≤ lst
        · have HN := Lib.hid (putS_no (L := L) (okC_no (k := k + 1) (by rw [HST.out]; unfold cOk; rw [decide_eq_false (by omega)]; rfl)))
          clear hS
          go_wp2
          go_ret2
          rw [HN.out.1, HN.out.2]
          exact ⟨rfl, HB6.out⟩
        · have h2 : (x.id ≤ lst) = False := eq_false h1
          cases hr : rightV x.v with
          | false =>
            have HN := Lib.hid (putS_no (L := L) (okC_no (k := k + 1) (by rw [HST.out]; unfold cOk; rw [hr, Bool.and_false])))
            have he : S = ⟨#[]⟩ := by rw [← hS, ckey_no hr]; rfl
            subst he
            clear hS
            go_wp2
            go_ret2
            rw [HN.out.1, HN.out.2]
            exact ⟨rfl, HB6.out⟩
          | true =>
            have hkl := ckey_len hr HFX.out
            have hSz : S.size ≤ 140 := by rw [← hS, bs_size]; exact hkl
            have hSe : S.toList.isEmpty = false := by
              rw [toL, ← hS, bs_data]
              have := ckey_ne hr
              cases hc : ckey x with
              | nil => exact absurd hc this
              | cons a r => rfl
            have hok : okC 0 (L.take (k + 1)) = true := by rw [HST.out]; unfold cOk; rw [decide_eq_true (by omega), hr]; rfl
            have HOK := Lib.hid hok
            have HSE : Hid (S.size = (ckey x).length ∧ S.data.toList = ckey x) := Lib.hid ⟨by rw [← hS, bs_size], by rw [← hS, bs_data]⟩
            have HKY := Lib.hid hkl
            have hu8 : IntKind.u8.wrap (S.size : Int) = (S.size : Int) := by rw [IntKind.wrap_u8]; omega
            clear hok hkl hS
            go_wp2_with (at_builtin; refine wpList_append_own _ rfl _ _ 87 rfl w.heap.size 5 i0 (.int .u8 0) 1 1 Try.underlying87 hi hz0 hz1 hz2 rfl (by decide) _ _ _ rfl (hown6.alloc _) ⟨w6.heap.size, 0, none⟩ 1 1 [Value.int .u8 (S.size : Int)] rfl rfl (news_one _ _ _) (by intro u' hu'; simp at hu'; subst hu'; rfl) (by unfold maxLen; omega) (by omega) (by simp; omega) ?_; intro v7 w7 hown7 hgrow7 _; refine Hid.out ?_)
            refine Lib.hid ?_
            have hb7 : Below w.heap.size w w7 := (HB6.out.alloc hz6 _).grown hgrow7 (by simp; omega) (fun k hk => (hown6.lt k hk).1)
            have HB7 := Lib.hid hb7
            have hz7 : w.heap.size ≤ w7.heap.size := hb7.size
            have JQ7 := Lib.hid (grow_keep (hown6.alloc _) ((Below.heap_alloc w6 _ Q (blk_lt JQ6.out)).trans JQ6.out) (by decide) hgrow7)
            have e1 : w7.cell? ⟨Q, 0, none⟩ = some (.int .i64 x.id) := cell_blk JQ7.out 0
            clear hb7 hgrow7 hown6
            go_wp2_with (at_builtin; refine Lib.wpList_append_own_string _ rfl _ _ 87 9 rfl w.heap.size 5 i0 Try.underlying87 Try.underlying9 hi hz0 hz1 hz2 _ _ _ rfl hown7 S rfl (by unfold maxLen; omega) (by omega) hz7 ?_; intro v8 w8 hown8 hgrow8 _; refine Hid.out ?_)
            refine Lib.hid ?_
            have hb8 : Below w.heap.size w w8 := HB7.out.grown hgrow8 hz7 (fun k hk => (hown7.lt k hk).1)
            have e2 : w8.cell? ⟨Q, 0, none⟩ = some (.int .i64 x.id) := cell_blk (grow_keep hown7 JQ7.out (by decide) hgrow8) 0
            have HB8 := Lib.hid hb8
            have HO8 := Lib.hid hown8
            clear hown8 hown7 hgrow8 hb8
            go_wp2
            go_roundw
            case rel =>
              refine ⟨k + 1, HKL.out, by go_num, by rw [HLS.out], ?_, HB8.out, HOK⟩
              rw [HRS.out]
              exact own_two HKY.out HSE.out HO8.out
            case measure => simp [intOf]; omega
    · have k1 : ¬ ((k : Int) < L.length) := by omega
      have hk' : L.take k = L := List.take_of_length_le (by omega)
      rw [hk'] at hown
      have hcv := conv_own' hown
      have HN : Hid (putS L = rowB L ∧ putE L = 0) := Lib.hid (putS_ok (by rw [← hk']; exact HO.out))
      clear hk' hb hlR hlst
      go_wp2
      go_ret2
      rw [HN.out.1, HN.out.2]
      exact ⟨rfl, HB.out⟩
end Go.Proofs.Ytbepekgaipipjaa
