/- The walk of the document's Keys. -/
import Derived.Test.YthjnfkgheihgkaaUb
import Derived.Test.YthjnfkgheihgkaaVu
namespace Go.Proofs.Ythjnfkgheihgkaa
open Go.RowKit
abbrev stC (K : List ByteArray) : List Value := K.map Value.string
theorem keysOf_from {D : List On} {q : ByteArray} (h : q ∈ keysOf D) : ∃ p ∈ D, p.1 = q := by
  have := (keysOf_mem D q).1 h
  unfold vsOf at this
  rw [ne_eq, List.map_eq_nil_iff, List.filter_eq_nil_iff] at this
  simp only [decide_eq_true_eq, Classical.not_forall, Classical.not_not] at this
  obtain ⟨p, h, e⟩ := this
  exact ⟨p, h, e⟩
theorem insK_len (K : List ByteArray) (k : ByteArray) : (insK K k).length ≤ K.length + 1 := by
  unfold insK
  split
  · omega
  · unfold inn
    simp only [List.length_append, List.length_cons, List.length_take, List.length_drop]
    omega
theorem keysOf_len (D : List On) : (keysOf D).length ≤ D.length := by
  unfold keysOf
  suffices h : ∀ (D : List On) (K : List ByteArray), (D.foldl (fun K p => insK K p.1) K).length ≤ K.length + D.length by
    have := h D []
    simpa using this
  intro D
  induction D with
  | nil => exact fun K => by simp
  | cons p D ih =>
    intro K
    rw [List.foldl_cons]
    have h1 := ih (insK K p.1)
    have h2 := insK_len K p.1
    simp only [List.length_cons]
    omega
theorem keysOf_take {D : List On} {i : Nat} (h : i < D.length) : keysOf (D.take (i + 1)) = insK (keysOf (D.take i)) D[i].1 := by
  have e : D.take (i + 1) = D.take i ++ [D[i]] := by rw [List.take_add_one, List.getElem?_eq_getElem h]; rfl
  rw [e, keysOf_snoc]
section
variable {w w' V : World} {B : Nat} {K : List ByteArray} {ad : Option Addr} {cap s : Nat} {k : ByteArray}
theorem st_at (h : w.ownsRow B 9 1 (.slice ad K.length cap) K.length (stC K)) {i : Nat} (hi : i < K.length) : ∃ g, ad = some ⟨g, 0, none⟩ ∧ w.cell? ⟨g, i, none⟩ = some (.string K[i]) := by
  rcases h.2 with ⟨hv, h0⟩ | ⟨g, cap', cur, hv, _⟩
  · omega
  · cases hv
    refine ⟨g, rfl, ?_⟩
    have := h.cellAt i (by omega)
    rw [this, List.getElem?_map, List.getElem?_eq_getElem hi]
    rfl
theorem st_bnd (h : w.ownsRow B 9 1 (.slice ad K.length cap) K.length (stC K)) : K.length ≤ cap ∧ cap ≤ maxLen := by
  rcases h.2 with ⟨hv, h0⟩ | ⟨g, cap', cur, hv, _, _, h1, h2, _⟩
  · cases hv0 : ad <;> simp_all
  · cases hv
    exact ⟨h1, h2⟩
/-- out[:s] and out[s:] -/
theorem st_cut (h : w.ownsRow B 9 1 (.slice ad K.length cap) K.length (stC K)) (hs : s ≤ K.length) : ∃ a1 c1 a2 c2, (∀ X : World, (Instr.sliceAt 74 (.slice ad K.length cap) none (some (.int .i64 (s : Int))) none).run Try.prog X = .ok (.slice a1 s c1) X) ∧ (∀ X : World, (Instr.sliceAt 74 (.slice ad K.length cap) (some (.int .i64 (s : Int))) none none).run Try.prog X = .ok (.slice a2 (K.length - s) c2) X) ∧
    (∀ w', Below w.heap.size w w' → ((a1 = none ∧ s = 0 ∧ c1 = 0 ∧ stC (K.take s) = []) ∨ ∃ a, a1 = some a ∧ (stC (K.take s)).length = s * 1 ∧ (∀ j u, (stC (K.take s))[j]? = some u → w'.cell? (a.add j) = some u))) ∧
    (∀ w', Below w.heap.size w w' → ((a2 = none ∧ K.length - s = 0 ∧ c2 = 0 ∧ stC (K.drop s) = []) ∨ ∃ a, a2 = some a ∧ (stC (K.drop s)).length = (K.length - s) * 1 ∧ (∀ j u, (stC (K.drop s))[j]? = some u → w'.cell? (a.add j) = some u))) := by
  obtain ⟨hlc, hcm⟩ := st_bnd h
  have hm : (cap : Int) ≤ 9223372036854775807 := by unfold maxLen at hcm; omega
  have i0 : (0 : Int) ≤ (s : Int) := by omega
  have i1 : (s : Int) ≤ (K.length : Int) := by omega
  have i2 : s ≤ cap := by omega
  have i3 : (s : Int) ≤ (cap : Int) := by omega
  have i4 : (K.length : Int) ≤ (cap : Int) := by omega
  rcases h.2 with ⟨hv, h0⟩ | ⟨g, cap', cur, hv, _⟩
  · have hK : K = [] := List.eq_nil_of_length_eq_zero h0
    subst hK
    cases hv
    have hs0 : s = 0 := by simpa using hs
    subst hs0
    exact ⟨none, 0, none, 0, fun X => by go_simp, fun X => by go_simp, fun _ _ => .inl ⟨rfl, rfl, rfl, rfl⟩, fun _ _ => .inl ⟨rfl, rfl, rfl, rfl⟩⟩
  · cases hv
    have hcl : ∀ w', Below w.heap.size w w' → ∀ j u, (stC K)[j]? = some u → w'.cell? ⟨g, j, none⟩ = some u := fun w' hb j u hu => by
      have hj : j < (stC K).length := (List.getElem?_eq_some_iff.1 hu).1
      rw [List.length_map] at hj
      exact cell_on hb ((h.cellAt j (by omega)).trans hu)
    have ht : ∀ w', Below w.heap.size w w' → ∀ j u, (stC (K.take s))[j]? = some u → w'.cell? ((⟨g, 0, none⟩ : Addr).add j) = some u := fun w' hb j u hu => by
      rw [add_at, Nat.zero_add]
      refine hcl w' hb j u ?_
      have hj : j < (stC (K.take s)).length := (List.getElem?_eq_some_iff.1 hu).1
      simp only [List.length_map, List.length_take] at hj
      rw [← hu]
      simp only [List.getElem?_map]
      rw [List.getElem?_take_of_lt (by omega)]
    have l1 : (stC (K.take s)).length = s * 1 := by simp; omega
    have l2 : (stC (K.drop s)).length = (K.length - s) * 1 := by simp
    by_cases hpc : cap = s
    · have hpl : s = K.length := by omega
      refine ⟨some ⟨g, 0, none⟩, cap, some ⟨g, 0, none⟩, 0, fun X => ?_, fun X => ?_, fun w' hb => .inr ⟨_, rfl, l1, ht w' hb⟩, fun w' hb => .inr ⟨_, rfl, l2, fun j u hu => ?_⟩⟩
      · go_simp
      · have z1 : K.length - s = 0 := by omega
        rw [z1, hpc, ← hpl]
        go_simp
      · have hj : j < (stC (K.drop s)).length := (List.getElem?_eq_some_iff.1 hu).1
        rw [l2] at hj
        omega
    · have z2 : ¬ cap = s := hpc
      refine ⟨some ⟨g, 0, none⟩, cap, some ((⟨g, 0, none⟩ : Addr).add s), cap - s, fun X => ?_, fun X => ?_, fun w' hb => .inr ⟨_, rfl, l1, ht w' hb⟩, fun w' hb => .inr ⟨_, rfl, l2, fun j u hu => ?_⟩⟩
      · go_simp
      · go_simp
      · rw [add_at, Nat.zero_add, add_at]
        refine hcl w' hb (s + j) u ?_
        rw [← hu]
        simp only [List.getElem?_map, List.getElem?_drop]
theorem st_one (K : List ByteArray) : ∀ u ∈ stC K, u.oneCell' = true := by
  intro u hu
  obtain ⟨q, _, rfl⟩ := List.mem_map.1 hu
  rfl
theorem keys_ins (h : V.ownsRow B 9 1 (.slice ad K.length cap) K.length (stC K)) (hs : s ≤ K.length) (hf : K.length < 800000) (k : ByteArray) : ∃ a1 c1 a2 c2 x1 y1 w1 x2 y2 w2 x3 y3 w3,
    (∀ X : World, (Instr.sliceAt 74 (.slice ad K.length cap) none (some (.int .i64 (s : Int))) none).run Try.prog X = .ok (.slice a1 s c1) X) ∧ (∀ X : World, (Instr.sliceAt 74 (.slice ad K.length cap) (some (.int .i64 (s : Int))) none none).run Try.prog X = .ok (.slice a2 (K.length - s) c2) X) ∧
    (Builtin.append_ #[74, 74] 74 #[.slice none 0 0, .slice a1 s c1]).run Try.prog V = .ok (.slice x1 s y1) w1 ∧
    (Builtin.append_ #[74, 74] 74 #[.slice x1 s y1, .slice (some ⟨w1.heap.size, 0, none⟩) 1 1]).run Try.prog (w1.alloc (.cells #[.string k] 9)) = .ok (.slice x2 (s + 1) y2) w2 ∧
    (Builtin.append_ #[74, 74] 74 #[.slice x2 (s + 1) y2, .slice a2 (K.length - s) c2]).run Try.prog w2 = .ok (.slice x3 (K.length + 1) y3) w3 ∧
    w3.ownsRow V.heap.size 9 1 (.slice x3 (K.length + 1) y3) (K.length + 1) (stC (inn K s k)) ∧ Below V.heap.size V w3 := by
  obtain ⟨a1, c1, a2, c2, e1, e2, s1, s2⟩ := st_cut h hs
  obtain ⟨x1, y1, w1, r1, o1, g1, _⟩ := run_st (m := s) (c := c1) (World.ownsRow_nil V V.heap.size 9 1) (Nat.le_refl _) (s1 V (Below.refl _ _)) (st_one _) (by omega)
  rw [Nat.zero_add] at r1 o1
  rw [List.nil_append] at o1
  have b1 : Below V.heap.size V w1 := (Below.refl V.heap.size V).grown g1 (Nat.le_refl _) (fun k hk => by cases hk)
  have bl : Below w1.heap.size w1 (w1.alloc (.cells #[.string k] 9)) := (Below.refl _ w1).alloc (Nat.le_refl _) _
  have b1' := b1.trans (bl.mono b1.size)
  obtain ⟨x2, y2, w2, r2, o2, g2, _⟩ := run_st (m := 1) (c := 1) (news := [.string k]) (own_below o1 bl) b1'.size (.inr ⟨⟨w1.heap.size, 0, none⟩, rfl, rfl, fun j u hu => by
    rw [add_at, Nat.zero_add, cell_blk (heap_alloc_new w1 _)]
    simpa using hu⟩) (st_one [k]) (by omega)
  have b2 : Below V.heap.size V w2 := b1'.grown g2 b1'.size (fun k hk => ((own_below o1 bl).lt k hk).1)
  obtain ⟨x3, y3, w3, r3, o3, g3, _⟩ := run_st (m := K.length - s) (c := c2) o2 b2.size (s2 w2 b2) (st_one _) (by omega)
  have b3 : Below V.heap.size V w3 := b2.grown g3 b2.size (fun k hk => (o2.lt k hk).1)
  have en : s + 1 + (K.length - s) = K.length + 1 := by omega
  rw [en] at r3 o3
  refine ⟨a1, c1, a2, c2, x1, y1, w1, x2, y2, w2, x3, y3, w3, e1, e2, r1, r2, r3, ?_, b3⟩
  have : stC (inn K s k) = stC (K.take s) ++ [.string k] ++ stC (K.drop s) := by unfold inn stC; simp
  rw [this]
  exact o3
end
section
variable {w : World} {A : Nat} {S : Nat → Prop} {D : List On} {lv : Value}
def KeysAns (w : World) (K : List ByteArray) (e : Ending) (w' : World) : Prop := ∃ ad cap, e = .returned (.slice ad K.length cap) ∧ w'.ownsRow w.heap.size 9 1 (.slice ad K.length cap) K.length (stC K) ∧ Below w.heap.size w w'
set_option maxHeartbeats 8000000 in
set_option maxRecDepth 100000 in
theorem keys_r (h : Rs w A S D lv) (hz : ∀ p ∈ D, p.1.size ≤ maxLen) (hf : D.length < 800000) : Calls Try.prog 29 #[.pointer (some ⟨A, 0, none⟩)] w fun e w' => KeysAns w (keysOf D) e w' := by
  obtain ⟨lad, lcap, rfl, z1, z2⟩ := h.shape
  have hml : (D.length : Int) ≤ 9223372036854775807 := by omega
  have HH := Lib.hid h
  have HZ := Lib.hid hz
  clear h hz z1 z2
  go_enter Try.func29, Try.ntmps29
  go_wp2
  go_loopw [3, 4] (fun ov iv wr => ∃ (i : Nat) (K : List ByteArray), i ≤ D.length ∧ iv = .int .i64 (i : Int) ∧ K = keysOf (D.take i) ∧ wr.ownsRow w.heap.size 9 1 ov K.length (stC K) ∧ Below w.heap.size w wr) (fun _ iv _ => D.length - (intOf iv).toNat)
  case atStart => exact ⟨0, [], Nat.zero_le _, rfl, rfl, World.ownsRow_nil _ _ _ _, Below.refl _ _⟩
  case round =>
    obtain ⟨i, K, hi, rfl, hK, hO, hb⟩ := hrel
    obtain ⟨V, rfl⟩ : ∃ V, V = wr := ⟨_, rfl⟩
    obtain ⟨ad, cap, rfl⟩ := own_shape hO
    obtain ⟨bl1, bl2⟩ := st_bnd hO
    have hv := HH.out.on hb
    have a0 : V.cell? ⟨A, 0, none⟩ = some (.slice lad D.length lcap) := cell_blk hv.ob 0
    have hKl : K.length ≤ i := by have := keysOf_len (D.take i); rw [← hK, List.length_take] at this; omega
    have hmk : (K.length : Int) ≤ 9223372036854775807 := by omega
    have HK := Lib.hid hK
    have HO := Lib.hid hO
    have HB := Lib.hid hb
    by_cases hlt : i < D.length
    · obtain ⟨g, cap', e, _, _, d0, _⟩ := hv.at' hlt
      cases e
      have k0 : (0 : Int) ≤ i := by omega
      have k1 : (i : Int) < D.length := by omega
      obtain ⟨k, hk⟩ : ∃ k, D[i].1 = k := ⟨_, rfl⟩
      rw [hk] at d0
      have HS : Hid (SortK K) := by rw [hK]; exact keysOf_sort _
      have HKZ : Hid (∀ q ∈ K, q.size ≤ maxLen) := fun q hq => by
        rw [hK] at hq
        obtain ⟨p, hp, e⟩ := keysOf_from hq
        rw [← e]
        exact HZ.out p (List.mem_of_mem_take hp)
      have HKS : Hid (k.size ≤ maxLen) := by rw [← hk]; exact HZ.out _ (List.getElem_mem hlt)
      have HNX : Hid (keysOf (D.take (i + 1)) = insK K k) := by show _ = _; rw [keysOf_take hlt, ← hK, hk]
      clear hK hO hb hv hk bl1 bl2
      go_wp2
      go_loopw [6] (fun sv wr => ∃ s : Nat, s ≤ K.length ∧ sv = .int .i64 (s : Int) ∧ (∀ j (h : j < K.length), j < s → cb K[j] k < 0) ∧ Below V.heap.size V wr) (fun sv _ => K.length - (intOf sv).toNat)
      case atStart => exact ⟨0, Nat.zero_le _, rfl, fun j _ h => by omega, Below.refl _ _⟩
      case round =>
        clear a0 d0
        obtain ⟨s, hs, rfl, hlo, hb⟩ := hrel
        obtain ⟨X, rfl⟩ : ∃ X, X = wr := ⟨_, rfl⟩
        have hOX := own_below HO.out hb
        have HBX := Lib.hid (HB.out.trans (hb.mono HB.out.size))
        have s0 : (0 : Int) ≤ s := by omega
        have HLO := Lib.hid hlo
        have HOX := Lib.hid hOX
        clear hlo
        by_cases hsl : s < K.length
        · obtain ⟨gk, rfl, c0⟩ := st_at hOX hsl
          have s1 : (s : Int) < K.length := by omega
          have hst := stands_any K[s] k X (HKZ.out _ (List.getElem_mem hsl)) HKS.out
          have HVX := Lib.hid hb
          clear hb hOX
          go_wp2_with fail
          refine hst.mono ?_
          rintro e X1 ⟨rfl, b1⟩
          have hO1 := own_below HOX.out b1
          have HB1 := Lib.hid (HBX.out.trans (b1.mono HBX.out.size))
          obtain ⟨g1, eg1, c1⟩ := st_at hO1 hsl
          cases eg1
          have HO1 := Lib.hid hO1
          clear hst
          by_cases hcb : cb K[s] k < 0
          · have HBV : Hid (Below V.heap.size V X1) := HVX.out.trans (b1.mono HVX.out.size)
            clear b1 hO1 c0 c1
            go_wp2
            go_roundw
            case rel => exact ⟨s + 1, hsl, by go_num, fun j hj hjs => by
              by_cases e : j = s
              · subst e; exact hcb
              · exact HLO.out j hj (by omega), HBV.out⟩
            case measure => simp [intOf]; omega
          · have HPK : Hid (pk K k = s) := pk_is hs HLO.out (fun _ => hcb)
            by_cases heq : K[s] = k
            · have es := same_eq K[s] k
              rw [decide_eq_true heq] at es
              have HIN : Hid (insK K k = K) := by
                show _ = _
                unfold insK
                rw [HPK.out, List.getElem?_eq_getElem hsl, heq, if_pos rfl]
              clear b1 hO1 heq
              go_wp2
              go_roundw
              case rel => exact ⟨i + 1, K, hlt, by go_num, by rw [HNX.out, HIN.out], HO1.out, HB1.out⟩
              case measure => simp [intOf]; omega
            · have es := same_eq K[s] k
              rw [decide_eq_false heq] at es
              have HIN : Hid (insK K k = inn K s k) := by
                show _ = _
                unfold insK
                rw [HPK.out, List.getElem?_eq_getElem hsl, if_neg (fun q => heq (by injection q))]
              clear b1 heq
              obtain ⟨t1, t2, t3, t4, x1, y1, w1, x2, y2, w2, x3, y3, w3, q1, q2, r1, r2, r3, o3, b3⟩ := keys_ins hO1 hs (by omega) k
              have HO3 := Lib.hid o3
              have HB3 := Lib.hid (HB1.out.trans (b3.mono HB1.out.size))
              have ell : (inn K s k).length = K.length + 1 := by unfold inn; simp; omega
              have HEL := Lib.hid ell
              clear o3 b3 ell hO1
              go_wp2_with (at_builtin; first | refine wpl_run2 _ _ rfl (by simp [Act.eval]) (by simp [Act.eval]) r1 ?_ | refine wpl_run2 _ _ rfl (by simp [Act.eval]) (by simp [Act.eval]) r2 ?_ | refine wpl_run2 _ _ rfl (by simp [Act.eval]) (by simp [Act.eval]) r3 ?_)
              go_roundw
              case rel => exact ⟨i + 1, inn K s k, hlt, by go_num, by rw [HNX.out, HIN.out], by rw [HEL.out]; exact own_mono HO3.out HB1.out.size, HB3.out⟩
              case measure => simp [intOf]; omega
        · have s1 : ¬ ((s : Int) < K.length) := by omega
          have HPK : Hid (pk K k = s) := pk_is hs HLO.out (fun h => absurd h hsl)
          have HIN : Hid (insK K k = inn K s k) := by
            show _ = _
            unfold insK
            rw [HPK.out, List.getElem?_eq_none (by omega), if_neg (fun q => by cases q)]
          clear hb
          obtain ⟨t1, t2, t3, t4, x1, y1, w1, x2, y2, w2, x3, y3, w3, q1, q2, r1, r2, r3, o3, b3⟩ := keys_ins hOX hs (by omega) k
          have HO3 := Lib.hid o3
          have HB3 := Lib.hid (HBX.out.trans (b3.mono HBX.out.size))
          have ell : (inn K s k).length = K.length + 1 := by unfold inn; simp; omega
          have HEL := Lib.hid ell
          clear o3 b3 ell hOX
          go_wp2_with (at_builtin; first | refine wpl_run2 _ _ rfl (by simp [Act.eval]) (by simp [Act.eval]) r1 ?_ | refine wpl_run2 _ _ rfl (by simp [Act.eval]) (by simp [Act.eval]) r2 ?_ | refine wpl_run2 _ _ rfl (by simp [Act.eval]) (by simp [Act.eval]) r3 ?_)
          go_roundw
          case rel => exact ⟨i + 1, inn K s k, hlt, by go_num, by rw [HNX.out, HIN.out], by rw [HEL.out]; exact own_mono HO3.out HBX.out.size, HB3.out⟩
          case measure => simp [intOf]; omega
    · have k1 : ¬ ((i : Int) < D.length) := by omega
      have e : D.take i = D := List.take_of_length_le (by omega)
      have hKD : K = keysOf D := by rw [hK, e]
      have HKD := Lib.hid hKD
      clear e hK hO hb hv HK hKD
      go_wp2
      refine bodyPost_ret (v := .slice ad K.length cap) (by simp [results, Try.results29, go_sem]) rfl ?_
      rw [← HKD.out]
      exact ⟨ad, cap, rfl, HO.out, HB.out⟩
end
end Go.Proofs.Ythjnfkgheihgkaa
