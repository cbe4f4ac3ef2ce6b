/- The walk of the document's Keys. -/
import Derived.Test.YtcoaahlakkghhaaGx
import Derived.Test.YtcoaahlakkghhaaGe
namespace Go.Proofs.Ytcoaahlakkghhaa
open Go.RowKit
abbrev stC (K : List ByteArray) : List Value := K.map Value.string
theorem keysOf_from {D : List On} {q : ByteArray} (h : q ∈ keysOf D) : ∃ p ∈ D, p.1 = q := by
  have := (keysOf_mem D q).1 h
  unfold vsOf at this
  rw [ne_eq, List.map_eq_nil_iff, List.filter_eq_nil_iff] at this
  simp only [decide_eq_true_eq, Classical.not_forall, Classical.not_not] at this
  obtain ⟨p, h, e⟩ := this
  exact ⟨p, h, e⟩
theorem insK_len (K : List ByteArray) (k : ByteArray) : (insK K k).length ≤ K.length + 1 := by
  unfold insK
  split
  · omega
  · unfold inn
    simp only [List.length_append, List.length_cons, List.length_take, List.length_drop]
    omega
theorem keysOf_len (D : List On) : (keysOf D).length ≤ D.length := by
  unfold keysOf
  suffices h : ∀ (D : List On) (K : List ByteArray), (D.foldl (fun K p => insK K p.1) K).length ≤ K.length + D.length by
    have := h D []
    simpa using this
  intro D
  induction D with
  | nil => exact fun K => by simp
  | cons p D ih =>
    intro K
    rw [List.foldl_cons]
    have h1 := ih (insK K p.1)
    have h2 := insK_len K p.1
    simp only [List.length_cons]
    omega
theorem keysOf_take {D : List On} {i : Nat} (h : i < D.length) : keysOf (D.take (i + 1)) = insK (keysOf (D.take i)) D[i].1 := by
  have e : D.take (i + 1) = D.take i ++ [D[i]] := by rw [List.take_add_one, List.getElem?_eq_getElem h]; rfl
  rw [e, keysOf_snoc]
section
variable {w w' V : World} {B : Nat} {K : List ByteArray} {ad : Option Addr} {cap s : Nat} {k : ByteArray}
theorem st_at (h : w.ownsRow B 9 1 (.slice ad K.length cap) K.length (stC K)) {i : Nat} (hi : i < K.length) : ∃ g, ad = some ⟨g, 0, none⟩ ∧ w.cell? ⟨g, i, none⟩ = some (.string K[i]) := by
  rcases h.2 with ⟨hv, h0⟩ | ⟨g, cap', cur, hv, _⟩
  · omega
  · cases hv
    refine ⟨g, rfl, ?_⟩
    have := h.cellAt i (by omega)
    rw [this, List.getElem?_map, List.getElem?_eq_getElem hi]
    rfl
theorem st_bnd (h : w.ownsRow B 9 1 (.slice ad K.length cap) K.length (stC K)) : K.length ≤ cap ∧ cap ≤ maxLen := by
  rcases h.2 with ⟨hv, h0⟩ | ⟨g, cap', cur, hv, _, _, h1, h2, _⟩
  · cases hv0 : ad <;> simp_all
  · cases hv
    exact ⟨h1, h2⟩
/-- out[:s] and out[s:] -/
theorem st_cut (h : w.ownsRow B 9 1 (.slice ad K.length cap) K.length (stC K)) (hs : s ≤ K.length) : ∃ a1 c1 a2 c2, (∀ X : World, (Instr.sliceAt 141 (.slice ad K.length cap) none (some (.int .i64 (s : Int))) none).run Try.prog X = .ok (.slice a1 s c1) X) ∧ (∀ X : World, (Instr.sliceAt 141 (.slice ad K.length cap) (some (.int .i64 (s : Int))) none none).run Try.prog X = .ok (.slice a2 (K.length - s) c2) X) ∧
    (∀ w', Below w.heap.size w w' → ((a1 = none ∧ s = 0 ∧ c1 = 0 ∧ stC (K.take s) = []) ∨ ∃ a, a1 = some a ∧ (stC (K.take s)).length = s * 1 ∧ (∀ j u, (stC (K.take s))[j]? = some u → w'.cell? (a.add j) = some u))) ∧
    (∀ w', Below w.heap.size w w' → ((a2 = none ∧ K.length - s = 0 ∧ c2 = 0 ∧ stC (K.drop s) = []) ∨ ∃ a, a2 = some a ∧ (stC (K.drop s)).length = (K.length - s) * 1 ∧ (∀ j u, (stC (K.drop s))[j]? = some u → w'.cell? (a.add j) = some u))) := by
  obtain ⟨hlc, hcm⟩ := st_bnd h
  have hm : (cap : Int) ≤ 9223372036854775807 := by unfold maxLen at hcm; omega
  have i0 : (0 : Int) ≤ (s : Int) := by omega
  have i1 : (s : Int) ≤ (K.length : Int) := by omega
  have i2 : s ≤ cap := by omega
  have i3 : (s : Int) ≤ (cap : Int) := by omega
  have i4 : (K.length : Int) ≤ (cap : Int) := by omega
  rcases h.2 with ⟨hv, h0⟩ | ⟨g, cap', cur, hv, _⟩
  · have hK : K = [] := List.eq_nil_of_length_eq_zero h0
    subst hK
    cases hv
    have hs0 : s = 0 := by simpa using hs
    subst hs0
    exact ⟨none, 0, none, 0, fun X => by go_simp, fun X => by go_simp, fun _ _ => .inl ⟨rfl, rfl, rfl, rfl⟩, fun _ _ => .inl ⟨rfl, rfl, rfl, rfl⟩⟩
  · cases hv
    have hcl : ∀ w', Below w.heap.size w w' → ∀ j u, (stC K)[j]? = some u → w'.cell? ⟨g, j, none⟩ = some u := fun w' hb j u hu => by
      have hj : j < (stC K).length := (List.getElem?_eq_some_iff.1 hu).1
      rw [List.length_map] at hj
      exact cell_on hb ((h.cellAt j (by omega)).trans hu)
    have ht : ∀ w', Below w.heap.size w w' → ∀ j u, (stC (K.take s))[j]? = some u → w'.cell? ((⟨g, 0, none⟩ : Addr).add j) = some u := fun w' hb j u hu => by
      rw [add_at, Nat.zero_add]
      refine hcl w' hb j u ?_
      have hj : j < (stC (K.take s)).length := (List.getElem?_eq_some_iff.1 hu).1
      simp only [List.length_map, List.length_take] at hj
      rw [← hu]
      simp only [List.getElem?_map]
      rw [List.getElem?_take_of_lt (by omega)]
    have l1 : (stC (K.take s)).length = s * 1 := by simp; omega
    have l2 : (stC (K.drop s)).length = (K.length - s) * 1 := by simp
    by_cases hpc : cap = s
    · have hpl : s = K.length := by omega
      refine ⟨some ⟨g, 0, none⟩, cap, some ⟨g, 0, none⟩, 0, fun X => ?_, fun X => ?_, fun w' hb => .inr ⟨_, rfl, l1, ht w' hb⟩, fun w' hb => .inr ⟨_, rfl, l2, fun j u hu => ?_⟩⟩
      · go_simp
      · have z1 : K.length - s = 0 := by omega
        rw [z1, hpc, ← hpl]
        go_simp
      · have hj : j < (stC (K.drop s)).length := (List.getElem?_eq_some_iff.1 hu).1
        rw [l2] at hj
        omega
    · have z2 : ¬ cap = s := hpc
      refine ⟨some ⟨g, 0, none⟩, cap, some ((⟨g, 0, none⟩ : Addr).add s), cap - s, fun X => ?_, fun X => ?_, fun w' hb => .inr ⟨_, rfl, l1, ht w' hb⟩, fun w' hb => .inr ⟨_, rfl, l2, fun j u hu => ?_⟩⟩
      · go_simp
      · go_simp
      · rw [add_at, Nat.zero_add, add_at]
        refine hcl w' hb (s + j) u ?_
        rw [← hu]
        simp only [List.getElem?_map, List.getElem?_drop]
theorem st_one (K : List ByteArray) : ∀ u ∈ stC K, u.oneCell' = true := by
  intro u hu
  obtain ⟨q, _, rfl⟩ := List.mem_map.1 hu
  rfl
theorem keys_ins (h : V.ownsRow B 9 1 (.slice ad K.length cap) K.length (stC K)) (hs : s ≤ K.length) (hf : K.length < 800000) (k : ByteArray) : ∃ a1 c1 a2 c2 x1 y1 w1 x2 y2 w2 x3 y3 w3,
    (∀ X : World, (Instr.sliceAt 141 (.slice ad K.length cap) none (some (.int .i64 (s : Int))) none).run Try.prog X = .ok (.slice a1 s c1) X) ∧ (∀ X : World, (Instr.sliceAt 141 (.slice ad K.length cap) (some (.int .i64 (s : Int))) none none).run Try.prog X = .ok (.slice a2 (K.length - s) c2) X) ∧
    (Builtin.append_ #[141, 141] 141 #[.slice none 0 0, .slice a1 s c1]).run Try.prog V = .ok (.slice x1 s y1) w1 ∧
    (Builtin.append_ #[141, 141] 141 #[.slice x1 s y1, .slice (some ⟨w1.heap.size, 0, none⟩) 1 1]).run Try.prog (w1.alloc (.cells #[.string k] 9)) = .ok (.slice x2 (s + 1) y2) w2 ∧
    (Builtin.append_ #[141, 141] 141 #[.slice x2 (s + 1) y2, .slice a2 (K.length - s) c2]).run Try.prog w2 = .ok (.slice x3 (K.length + 1) y3) w3 ∧
    w3.ownsRow V.heap.size 9 1 (.slice x3 (K.length + 1) y3) (K.length + 1) (stC (inn K s k)) ∧ Below V.heap.size V w3 := by
  obtain ⟨a1, c1, a2, c2, e1, e2, s1, s2⟩ := st_cut h hs
  obtain ⟨x1, y1, w1, r1, o1, g1, _⟩ := run_st (m := s) (c := c1) (World.ownsRow_nil V V.heap.size 9 1) (Nat.le_refl _) (s1 V (Below.refl _ _)) (st_one _) (by omega)
  rw [Nat.zero_add] at r1 o1
  rw [List.nil_append] at o1
  have b1 : Below V.heap.size V w1 := (Below.refl V.heap.size V).grown g1 (Nat.le_refl _) (fun k hk => by cases hk)
  have bl : Below w1.heap.size w1 (w1.alloc (.cells #[.string k] 9)) := (Below.refl _ w1).alloc (Nat.le_refl _) _
  have b1' := b1.trans (bl.mono b1.size)
  obtain ⟨x2, y2, w2, r2, o2, g2, _⟩ := run_st (m := 1) (c := 1) (news := [.string k]) (own_below o1 bl) b1'.size (.inr ⟨⟨w1.heap.size, 0, none⟩, rfl, rfl, fun j u hu => by
    rw [add_at, Nat.zero_add, cell_blk (heap_alloc_new w1 _)]
    simpa using hu⟩) (st_one [k]) (by omega)
  have b2 : Below V.heap.size V w2 := b1'.grown g2 b1'.size (fun k hk => ((own_below o1 bl).lt k hk).1)
  obtain ⟨x3, y3, w3, r3, o3, g3, _⟩ := run_st (m := K.length - s) (c := c2) o2 b2.size (s2 w2 b2) (st_one _) (by omega)
  have b3 : Below V.heap.size V w3 := b2.grown g3 b2.size (fun k hk => (o2.lt k hk).1)
  have en : s + 1 + (K.length - s) = K.length + 1 := by omega
  rw [en] at r3 o3
  refine ⟨a1, c1, a2, c2, x1, y1, w1, x2, y2, w2, x3, y3, w3, e1, e2, r1, r2, r3, ?_, b3⟩
  have : stC (inn K s k) = stC (K.take s) ++ [.string k] ++ stC (K.drop s) := by unfold inn stC; simp
  rw [this]
  exact o3
end
section
variable {w : World} {A : Nat} {S : Nat → Prop} {D : List On} {lv : Value}
def KeysAns (w : World) (K : List ByteArray) (e : Ending) (w' : World) : Prop := ∃ ad cap, e = .returned (.slice ad K.length cap) ∧ w'.ownsRow w.heap.size 9 1 (.slice ad K.length cap) K.length (stC K) ∧ Below w.heap.size w w'
set_option maxHeartbeats 8000000 in
set_option maxRecDepth 100000 in
theorem keys_r (h : Rs w A S D lv) (hz : ∀ p ∈ D, p.1.size ≤ maxLen) (hf : D.length < 800000) : Calls Try.prog 69 #[.pointer (some ⟨A, 0, none⟩)] w fun e w' => KeysAns w (keysOf D) e w' := by
  obtain ⟨lad, lcap, rfl, z1, z2⟩ := h.shape
  have hml : (D.length : Int) ≤ 9223372036854775807 := by omega
  have HH := Lib.hid h
  have HZ := Lib.hid hz
  clear h hz z1 z2
  go_enter Try.func69, Try.ntmps69
  go_wp2
  go_loopw [3, 4] (fun ov iv wr => ∃ (i : Nat) (K : List ByteArray), i ≤ D.length ∧ iv = .int .i64 (i : Int) ∧ K = keysOf (D.take i) ∧ wr.ownsRow w.heap.size 9 1 ov K.length (stC K) ∧ Below w.heap.size w wr) (fun _ iv _ => D.length - (intOf iv).toNat)
  case atStart => exact ⟨0, [], Nat.zero_le _, rfl, rfl, World.ownsRow_nil _ _ _ _, Below.refl _ _⟩
  case round =>
    obtain ⟨i, K, hi, rfl, hK, hO, hb⟩ := hrel
    obtain ⟨V, rfl⟩ : ∃ V, V = wr := ⟨_, rfl⟩
    obtain ⟨ad, cap, rfl⟩ := own_shape hO
    obtain ⟨bl1, bl2⟩ := st_bnd hO
    have hv := HH.out.on hb
    have a0 : V.cell? ⟨A, 0, none⟩ = some (.slice lad D.length lcap) := cell_blk hv.ob 0
    have hKl : K.length ≤ i := by have := keysOf_len (D.take i); rw [← hK, List.length_take] at this; omega
    have hmk : (K.length : Int) ≤ 9223372036854775807 := by omega
    have HK := Lib.hid hK
    have HO := Lib.hid hO
    have HB := Lib.hid hb
    by_cases hlt : i < D.length
    · obtain ⟨g, cap', e, _, _, d0, _⟩ := hv.at' hlt
      cases e
      have k0 : (0 : Int) ≤ i := by omega
      have k1 : (i : Int) < D.length := by omega
      obtain ⟨k, hk⟩ : ∃ k, D[i].1 = k := ⟨_, rfl⟩
      rw [hk] at d0
      have HS : Hid (SortK K) := by rw [hK]; exact keysOf_sort _
      have HKZ : Hid (∀ q ∈ K, q.size ≤ maxLen) := fun q hq => by
        rw [hK] at hq
        obtain ⟨p, hp, e⟩ := keysOf_from hq
        rw [← e]
        exact HZ.out p (List.mem_of_mem_take hp)
      have HKS : Hid (k.size ≤ maxLen) := by rw [← hk]; exact HZ.out _ (List.getElem_mem hlt)
      have HNX : Hid (keysOf (D.take (i + 1)) = insK K k) := by show _ = _; rw [keysOf_take hlt, ← hK, hk]
      clear hK hO hb hv hk bl1 bl2
      go_wp2
      go_loopw [6] (fun sv wr => ∃ s : Nat, s ≤ K.length ∧ sv = .int .i64 (s : Int) ∧ (∀ j (h : j < K.length), j < s → cb K[j] k < 0) ∧ Below V.heap.size V wr) (fun sv _ => K.length - (intOf sv).toNat)
      case atStart => exact ⟨0, Nat.zero_le _, rfl, fun j _ h => by omega, Below.refl _ _⟩
      case round =>
        clear a0 d0
        obtain ⟨s, hs, rfl, hlo, hb⟩ := hrel
        obtain ⟨X, rfl⟩ : ∃ X, X = wr := ⟨_, rfl⟩
        have hOX := own_below HO.out hb
        have HBX := Lib.hid (HB.out.trans (hb.mono HB.out.size))
        have s0 : (0 : Int) ≤ s := by omega
        have HLO := Lib.hid hlo
        have HOX := Lib.hid hOX
        clear hlo
        by_cases hsl : s < K.length
        · obtain ⟨gk, rfl, c0⟩ := st_at hOX hsl
          have s1 : (s : Int) < K.length := by omega
          have hst := stands_any K[s] k X (HKZ.out _ (List.getElem_mem hsl)) HKS.out
          have HVX := Lib.hid hb
          clear hb hOX
          go_wp2_with fail
          refine hst.mono ?_
          rintro e X1 ⟨rfl, b1⟩
          have hO1 := own_below HOX.out b1
          have HB1 := Lib.hid (HBX.out.trans (b1.mono HBX.out.size))
          obtain ⟨g1, eg1, c1⟩ := st_at hO1 hsl
          cases eg1
          have HO1 := Lib.hid hO1
          clear hst
          by_cases hcb : cb K[s] k < 0
          · have HBV : Hid (Below V.heap.size V X1) := HVX.out.trans (b1.mono HVX.out.size)
            clear b1 hO1 c0 c1
            go_wp2
            go_roundw
            case rel => exact ⟨s + 1, hsl, by go_num, fun j hj hjs => by
              by_cases e : j = s
              · subst e; exact hcb
              · exact HLO.out j hj (by omega), HBV.out⟩
            case measure => simp [intOf]; omega
          · have HPK : Hid (pk K k = s) := pk_is hs HLO.out (fun _ => hcb)
            by_cases heq : K[s] = k
            · have es := same_eq K[s] k
              rw [decide_eq_true heq] at es
              have HIN : Hid (insK K k = K) := by
                show _ = _
                unfold insK
                rw [HPK.out, List.getElem?_eq_getElem hsl, heq, if_pos rfl]
              clear b1 hO1 heq
              go_wp2
              go_roundw
              case rel => exact ⟨i + 1, K, hlt, by go_num, by rw [HNX.out, HIN.out], HO1.out, HB1.out⟩
              case measure => simp [intOf]; omega
            · have es := same_eq K[s] k
              rw [decide_eq_false heq] at es
              have HIN : Hid (insK K k = inn K s k) := by
                show _ = _
                unfold insK
                rw [HPK.out, List.getElem?_eq_getElem hsl, if_neg (fun q => heq (by injection q))]
              clear b1 heq
              obtain ⟨t1, t2, t3, t4, x1, y1, w1, x2, y2, w2, x3, y3, w3, q1, q2, r1, r2, r3, o3, b3⟩ := keys_ins hO1 hs (by omega) k
              have HO3 := Lib.hid o3
              have HB3 := Lib.hid (HB1.out.trans (b3.mono HB1.out.size))
              have ell : (inn K s k).length = K.length + 1 := by unfold inn; simp; omega
              have HEL := Lib.hid ell
              clear o3 b3 ell hO1
              go_wp2_with (at_builtin; first | refine wpl_run2 _ _ rfl (by simp [Act.eval]) (by simp [Act.eval]) r1 ?_ | refine wpl_run2 _ _ rfl (by simp [Act.eval]) (by simp [Act.eval]) r2 ?_ | refine wpl_run2 _ _ rfl (by simp [Act.eval]) (by simp [Act.eval]) r3 ?_)
              go_roundw
              case rel => exact ⟨i + 1, inn K s k, hlt, by go_num, by rw [HNX.out, HIN.out], by rw [HEL.out]; exact own_mono HO3.out HB1.out.size, HB3.out⟩
              case measure => simp [intOf]; omega
        · have s1 : ¬ ((s : Int) < K.length) := by omega
          have HPK : Hid (pk K k = s) := pk_is hs HLO.out (fun h => absurd h hsl)
          have HIN : Hid (insK K k = inn K s k) := by
            show _ = _
            unfold insK
            rw [HPK.out, List.getElem?_eq_none (by omega), if_neg (fun q => by cases q)]
          clear hb
          obtain ⟨t1, t2, t3, t4, x1, y1, w1, x2, y2, w2, x3, y3, w3, q1, q2, r1, r2, r3, o3, b3⟩ := keys_ins hOX hs (by omega) k
          have HO3 := Lib.hid o3
          have HB3 := Lib.hid (HBX.out.trans (b3.mono HBX.out.size))
          have ell : (inn K s k).length = K.length + 1 := by unfold inn; simp; omega
          have HEL := Lib.hid ell
          clear o3 b3 ell hOX
          go_wp2_with (at_builtin; first | refine wpl_run2 _ _ rfl (by simp [Act.eval]) (by simp [Act.eval]) r1 ?_ | refine wpl_run2 _ _ rfl (by simp [Act.eval]) (by simp [Act.eval]) r2 ?_ | refine wpl_run2 _ _ rfl (by simp [Act.eval]) (by simp [Act.eval]) r3 ?_)
          go_roundw
          case rel => exact ⟨i + 1, inn K s k, hlt, by go_num, by rw [HNX.out, HIN.out], by rw [HEL.out]; exact own_mono HO3.out HBX.out.size, HB3.out⟩
          case measure => simp [intOf]; omega
    · have k1 : ¬ ((i : Int) < D.length) := by omega
      have e : D.take i = D := List.take_of_length_le (by omega)
      have hKD : K = keysOf D := by rw [hK, e]
      have HKD := Lib.hid hKD
      clear e hK hO hb hv HK hKD
      go_wp2
      refine bodyPost_ret (v := .slice ad K.length cap) (by simp [results, Try.results69, go_sem]) rfl ?_
      rw [← HKD.out]
      exact ⟨ad, cap, rfl, HO.out, HB.out⟩
end
end Go.Proofs.Ytcoaahlakkghhaa
/- The walk of the document's Rows. -/
namespace Go.Proofs.Ytcoaahlakkghhaa
open Go.RowKit
section
variable {ρ : Operand → Value} {X : World} {d : Option Tmp} {ty : TypeId} {ps : String} {af : Array Edge} {g : Option (Nat × Bool)}
theorem op_i28 {x y : Operand} {B n m i : Nat} (e : ρ x = .slice (some ⟨B, 0, none⟩) n m) (e2 : ρ y = .int .i64 (i : Int)) (h : i < n) : (execOp ρ ⟨d, .indexAddr 28 x y, ty, ps, af, g⟩).run Try.prog X = .ok (.value (.pointer (some ⟨B, i * 4, none⟩))) X := by
  have k0 : (0 : Int) ≤ (i : Int) := by omega
  have k1 : (i : Int) < (n : Int) := by omega
  simp only [execOp, e, e2]
  go_simp
theorem op_f144_1 {x : Operand} {B o : Nat} (e : ρ x = .pointer (some ⟨B, o, none⟩)) : (execOp ρ ⟨d, .fieldAddr 144 x 1, ty, ps, af, g⟩).run Try.prog X = .ok (.value (.pointer (some ⟨B, o + 1, none⟩))) X := by
  simp only [execOp, e]
  go_simp
end
theorem vsOf_take {D : List On} {j : Nat} (h : j < D.length) (k : ByteArray) : vsOf (D.take (j + 1)) k = vsOf (D.take j) k ++ (if D[j].1 = k then [D[j].2] else []) := by
  have e : D.take (j + 1) = D.take j ++ [(D[j].1, D[j].2)] := by rw [List.take_add_one, List.getElem?_eq_getElem h]; rfl
  rw [e, vsOf_snoc]
theorem vsOf_len (D : List On) (k : ByteArray) : (vsOf D k).length ≤ D.length := by
  unfold vsOf
  rw [List.length_map]
  exact List.length_filter_le _ _
theorem own_ge0 {B : Nat} {e : TypeId} {c n : Nat} {v : Value} {xs : List Value} {w : World} (h : w.ownsRow B e c v n xs) : ∀ k, v.ownBlock = some k → B ≤ k := fun k hk => (h.lt k hk).1
section
variable {w : World} {A : Nat} {S : Nat → Prop} {D : List On} {lv : Value}
set_option maxHeartbeats 8000000 in
set_option maxRecDepth 100000 in
theorem rows_r (h : Rs w A S D lv) (hz : ∀ p ∈ D, p.1.size ≤ maxLen) (hf : D.length < 800000) : Calls Try.prog 43 #[.pointer (some ⟨A, 0, none⟩)] w fun e w' => RowsAns w (rowsOf D) e w' := by
  obtain ⟨lad, lcap, rfl, z1, z2⟩ := h.shape
  have hkeys := keys_r h hz hf
  have hml : (D.length : Int) ≤ 9223372036854775807 := by omega
  obtain ⟨K, hK⟩ : ∃ K, keysOf D = K := ⟨_, rfl⟩
  rw [hK] at hkeys
  have hKl : K.length ≤ D.length := by rw [← hK]; exact keysOf_len D
  have hmk : (K.length : Int) ≤ 9223372036854775807 := by omega
  have HKK := Lib.hid hK
  have HH := Lib.hid h
  clear h hz z1 z2 hK
  go_enter Try.func43, Try.ntmps43
  go_wp2_with fail
  refine hkeys.mono ?_
  rintro e w1 ⟨kad, kcap, rfl, hO1, b1⟩
  have HO1 := Lib.hid hO1
  have HB1 := Lib.hid b1
  clear hkeys hO1 b1
  go_wp2
  go_loopw [4, 5] (fun ov iv wr => ∃ (i : Nat) (P : List (Rw × Value)), i ≤ K.length ∧ iv = .int .i64 (i : Int) ∧ P.map Prod.fst = (rowsOf D).take i ∧ Rm wr w.heap.size P ov ∧ wr.ownsRow w.heap.size 9 1 (.slice kad K.length kcap) K.length (stC K) ∧ Below w.heap.size w wr) (fun _ iv _ => K.length - (intOf iv).toNat)
  case atStart => exact ⟨0, [], Nat.zero_le _, rfl, rfl, Rm.nil _ _, HO1.out, HB1.out⟩
  case round =>
    clear HO1 HB1
    obtain ⟨i, P, hi, rfl, hPR, hRm, hO, hb⟩ := hrel
    obtain ⟨V, rfl⟩ : ∃ V, V = wr := ⟨_, rfl⟩
    have hRl : (rowsOf D).length = K.length := by unfold rowsOf; rw [List.length_map, HKK.out]
    have hPl : P.length = i := by have := congrArg List.length hPR; rw [List.length_map, List.length_take] at this; omega
    obtain ⟨oad, ocap, rfl⟩ := own_shape hRm.own
    have HPL := Lib.hid hPl
    clear hPl
    have HPR := Lib.hid hPR
    have HRM := Lib.hid hRm
    have HO := Lib.hid hO
    have HB := Lib.hid hb
    by_cases hlt : i < K.length
    · obtain ⟨gk, rfl, c0⟩ := st_at hO hlt
      have k0 : (0 : Int) ≤ i := by omega
      have k1 : (i : Int) < K.length := by omega
      obtain ⟨k, hk⟩ : ∃ k, K[i] = k := ⟨_, rfl⟩
      rw [hk] at c0
      have HKE := Lib.hid hk
      have HC0 := Lib.hid c0
      have HRI : Hid ((rowsOf D).take (i + 1) = (rowsOf D).take i ++ [⟨k, vsOf D k⟩]) := by
        show _ = _
        have e : (rowsOf D)[i]? = some ⟨k, vsOf D k⟩ := by
          unfold rowsOf
          rw [List.getElem?_map, HKK.out, List.getElem?_eq_getElem hlt, hk]
          rfl
        rw [List.take_add_one, e]
        rfl
      obtain ⟨V2, hV2⟩ : ∃ V2, V2 = V.alloc (.cells #[.string k, .slice none 0 0] 129) := ⟨_, rfl⟩
      obtain ⟨Y, hY⟩ : ∃ Y, V.heap.size = Y := ⟨_, rfl⟩
      have b2 : Below V.heap.size V V2 := by rw [hV2]; exact (Below.refl _ V).alloc (Nat.le_refl _) _
      have jY : V2.heap[Y]? = some (.cells #[.string k, .slice none 0 0] 129 (0, 0)) := by rw [hV2, ← hY]; exact heap_alloc_new V _
      have HV2 := Lib.hid hV2
      have HYY := Lib.hid hY
      have HB2 := Lib.hid b2
      have HJY := Lib.hid jY
      clear hb hRm hO hPR hk hV2 hY b2 jY hRl
      go_upto_region 7 with fail
      rw [← HV2.out, HYY.out]
      go_wp2
      go_loopw [7] (fun jv wr => ∃ (j : Nat) (l : List Ve) (av : Value), j ≤ D.length ∧ jv = .int .i64 (j : Int) ∧ l = vsOf (D.take j) k ∧ wr.heap[Y]? = some (.cells #[.string k, av] 129 (0, 0)) ∧ wr.ownsRow V2.heap.size 125 3 av l.length (veC l) ∧ Fr V2 wr (fun b => b = Y)) (fun jv _ => D.length - (intOf jv).toNat)
      case atStart => exact ⟨0, [], .slice none 0 0, Nat.zero_le _, rfl, rfl, HJY.out, World.ownsRow_nil _ _ _ _, Fr.refl _ _⟩
      case round =>
        clear HJY c0
        obtain ⟨j, l, av, hj, rfl, hl, jY, hA, hF⟩ := hrel
        obtain ⟨X, rfl⟩ : ∃ X, X = wr := ⟨_, rfl⟩
        have hbX : Below V.heap.size V X := by
          have q := HB2.out
          have q2 := HYY.out
          exact ⟨hF.os.trans q.os, hF.tape.trans q.tape, hF.output.trans q.output, Nat.le_trans q.size hF.size, fun b hb => (hF.block b (Nat.lt_of_lt_of_le hb q.size) (by omega)).trans (q.block b hb)⟩
        have hbw : Below w.heap.size w X := HB.out.trans (hbX.mono HB.out.size)
        have hv := HH.out.on hbw
        have a0 : X.cell? ⟨A, 0, none⟩ = some (.slice lad D.length lcap) := cell_blk hv.ob 0
        have c0 := cell_on hbX HC0.out
        obtain ⟨vad, vcap, rfl⟩ := own_shape hA
        have hll : l.length ≤ j := by rw [hl]; exact Nat.le_trans (vsOf_len _ _) (by rw [List.length_take]; omega)
        have HL := Lib.hid hl
        have HJX := Lib.hid jY
        have HAX := Lib.hid hA
        have HFX := Lib.hid hF
        have HBX := Lib.hid hbX
        have HBW := Lib.hid hbw
        by_cases hltj : j < D.length
        · obtain ⟨g, cap', e, _, _, d0, d1, d2, d3⟩ := hv.at' hltj
          cases e
          have j0 : (0 : Int) ≤ j := by omega
          have j1 : (j : Int) < D.length := by omega
          have HVT := Lib.hid (vsOf_take hltj k)
          by_cases heq : D[j].1 = k
          · have es := same_eq D[j].1 k
            rw [decide_eq_true heq] at es
            have HNL : Hid (vsOf (D.take (j + 1)) k = l ++ [D[j].2]) := by
              show _ = _
              rw [HVT.out, if_pos heq, ← HL.out]
            have HOB := Lib.hid hv.ob
            have HOW := Lib.hid hv.own
            clear hl jY hA hF hbX hbw hv heq HVT
            go_wp2
            go_quiet (fail)
            have bq := below_draw (Below.refl X.heap.size X) nq
            obtain ⟨U, hU⟩ : ∃ U, X.drewN nq = U := ⟨_, rfl⟩
            rw [hU] at bq ⊢
            have jYU := (bq.block Y (blk_lt HJX.out)).trans HJX.out
            have y1 : U.cell? ⟨Y, 1, none⟩ = some (.slice vad l.length vcap) := cell_blk jYU 1
            have a0 : U.cell? ⟨A, 0, none⟩ = some (.slice (some ⟨g, 0, none⟩) D.length lcap) := cell_on bq a0
            have d1 : U.cell? ⟨g, j * 4 + 1, none⟩ = some (.int .i64 D[j].2.ts) := cell_on bq d1
            have d2 : U.cell? ⟨g, j * 4 + 2, none⟩ = some (.string D[j].2.val) := cell_on bq d2
            have d3 : U.cell? ⟨g, j * 4 + 3, none⟩ = some (.bool D[j].2.dead) := cell_on bq d3
            have hAU := own_below HAX.out bq
            have hOBU := (bq.block A (blk_lt HOB.out)).trans HOB.out
            have hOWU := own_below HOW.out bq
            have nY : ¬ (Value.slice vad l.length vcap).ownBlock = some Y := fun e => by
              obtain ⟨cs, t⟩ := own_tag hAU Y e
              exact tag_ne t jYU (by decide) rfl
            have nA : ¬ (Value.slice vad l.length vcap).ownBlock = some A := fun e => by
              obtain ⟨cs, t⟩ := own_tag hAU A e
              exact tag_ne t hOBU (by decide) rfl
            have nG : ¬ (Value.slice vad l.length vcap).ownBlock = some g := fun e => by
              obtain ⟨cs, t⟩ := own_tag hAU g e
              obtain ⟨cs', t'⟩ := own_tag hOWU g rfl
              exact tag_ne t t' (by decide) rfl
            have hFU : Fr V2 U (fun b => b = Y) := HFX.out.below bq
            have HAU := Lib.hid hAU
            have HJU := Lib.hid jYU
            have HFU := Lib.hid hFU
            clear hU bq jYU hAU hOBU hOWU hFU d0 c0 HC0
            go_upto_region 11 with fail
            refine wp_region_once 11 (fun d X9 => Fr U X9 (fun b => (Value.slice vad l.length vcap).ownBlock = some b) ∧ (d = false → Below U.heap.size U X9)) (fun X9 X' => Below X9.heap.size X9 X') (fun X9 X' => Fr X9 X' (fun b => (Value.slice vad l.length vcap).ownBlock = some b)) [
              fun v9 _ => v9 = .pointer (some ⟨Y, 1, none⟩),
              fun v9 _ => v9 = (.slice vad l.length vcap),
              fun v9 _ => v9 = .pointer (some ⟨A, 0, none⟩),
              fun v9 _ => v9 = .pointer (some ⟨A, 0, none⟩),
              fun v9 _ => v9 = .pointer (some ⟨A, 0, none⟩),
              fun v9 _ => v9 = (.slice (some ⟨g, 0, none⟩) D.length lcap),
              fun v9 _ => v9 = .int .i64 (j : Int),
              fun v9 _ => v9 = .pointer (some ⟨g, j * 4, none⟩),
              fun v9 _ => v9 = .pointer (some ⟨g, j * 4 + 1, none⟩),
              fun v9 _ => v9 = .agg #[.int .i64 D[j].2.ts, .string D[j].2.val, .bool D[j].2.dead],
              fun v9 X9 => ∃ Z1, v9 = lv1 Z1 ∧ U.heap.size ≤ Z1 ∧ X9.heap[Z1]? = some (.cells #[.int .i64 D[j].2.ts, .string D[j].2.val, .bool D[j].2.dead] 125 (0, 0)),
              fun v9 X9 => ∃ ad9 cap9, v9 = .slice ad9 (l.length + 1) cap9 ∧ X9.ownsRow V2.heap.size 125 3 v9 (l.length + 1) (veC (l ++ [D[j].2])) ∧ Fr U X9 (fun b => (Value.slice vad l.length vcap).ownBlock = some b),
              fun v9 _ => v9 = .pointer (some ⟨Y, 1, none⟩)]
              (fun _ X8 => ∃ ad9 cap9 X9, X8 = X9.setCell ⟨Y, 1, none⟩ (.slice ad9 (l.length + 1) cap9) ∧ X9.ownsRow V2.heap.size 125 3 (.slice ad9 (l.length + 1) cap9) (l.length + 1) (veC (l ++ [D[j].2])) ∧ Fr U X9 (fun b => (Value.slice vad l.length vcap).ownBlock = some b)) rfl (by kernel_rfl) (by kernel_rfl) (by kernel_rfl) (by kernel_rfl) ?st ?stm ?g0 (by decide) ?os ?la ?en
            case st => exact ⟨fun _ _ _ _ h => h, fun _ _ _ _ h => h, fun _ _ _ _ h => h, fun _ _ _ _ h => h, fun _ _ _ _ h => h, fun _ _ _ _ h => h, fun _ _ _ _ h => h, fun _ _ _ _ h => h, fun _ _ _ _ h => h, fun _ _ _ _ h => h, fun _ _ _ hs ⟨Z1, e, z1, z2⟩ => ⟨Z1, e, z1, (hs.block _ (blk_lt z2)).trans z2⟩, fun _ _ _ hs ⟨x1, x2, e, o1, o3⟩ => ⟨x1, x2, e, own_below o1 hs, o3.below hs⟩, fun _ _ _ _ h => h, trivial⟩
            case stm => exact ⟨fun _ _ _ _ h => h, fun _ _ _ _ h => h, fun _ _ _ _ h => h, fun _ _ _ _ h => h, fun _ _ _ _ h => h, fun _ _ _ _ h => h, fun _ _ _ _ h => h, fun _ _ _ _ h => h, fun _ _ _ _ h => h, fun _ _ _ _ h => h, fun _ _ _ hs ⟨Z1, e, z1, z2⟩ => ⟨Z1, e, z1, (hs.block _ (blk_lt z2) (fun e => by have z9 := (HAU.out.lt _ e).2; omega)).trans z2⟩, fun _ _ _ _ h => h, fun _ _ _ _ h => h, trivial⟩
            case g0 => exact ⟨⟨rfl, rfl, rfl, Nat.le_refl _, fun _ _ _ => rfl⟩, fun _ => ⟨rfl, rfl, rfl, Nat.le_refl _, fun _ _ => rfl⟩⟩
            case os =>
              refine ⟨?_, ?_, ?_, ?_, ?_, ?_, ?_, ?_, ?_, ?_, ?_, ?_, ?_, trivial⟩
              · exact ⟨rfl, fun _ ρ X9 d hg ho hc hf hr => Runs.val _ (op_f129_1 (show ρ (.tmp 6) = .pointer (some ⟨Y, 0, none⟩) from ho 6 rfl)) ⟨hg, Below.refl _ _, rfl⟩, fun e => absurd e (by decide)⟩
              · exact ⟨rfl, fun _ ρ X9 d hg ho hc hf hr => Runs.val _ (op_load127 (show ρ (.tmp 43) = .pointer (some ⟨Y, 1, none⟩) from hr 0 43 rfl rfl) (cell_fr hg.1 nY y1)) ⟨hg, Below.refl _ _, rfl⟩, fun e => absurd e (by decide)⟩
              · exact ⟨rfl, fun _ ρ X9 d hg ho hc hf hr => Runs.val _ (op_move (show ρ (.tmp 0) = .pointer (some ⟨A, 0, none⟩) from ho 0 rfl)) ⟨hg, Below.refl _ _, rfl⟩, fun e => absurd e (by decide)⟩
              · exact ⟨rfl, fun _ ρ X9 d hg ho hc hf hr => Runs.val _ (op_nil (show ρ (.tmp 45) = .pointer (some ⟨A, 0, none⟩) from hr 2 45 rfl rfl)) ⟨hg, Below.refl _ _, rfl⟩, fun e => absurd e (by decide)⟩
              · exact ⟨rfl, fun _ ρ X9 d hg ho hc hf hr => Runs.val _ (op_f30_0 (show ρ (.tmp 46) = .pointer (some ⟨A, 0, none⟩) from hr 3 46 rfl rfl)) ⟨hg, Below.refl _ _, rfl⟩, fun e => absurd e (by decide)⟩
              · exact ⟨rfl, fun _ ρ X9 d hg ho hc hf hr => Runs.val _ (op_load28 (show ρ (.tmp 47) = .pointer (some ⟨A, 0, none⟩) from hr 4 47 rfl rfl) (cell_fr hg.1 nA a0)) ⟨hg, Below.refl _ _, rfl⟩, fun e => absurd e (by decide)⟩
              · exact ⟨rfl, fun _ ρ X9 d hg ho hc hf hr => Runs.val _ (op_move (show ρ (.tmp 7) = .int .i64 (j : Int) from ho 7 rfl)) ⟨hg, Below.refl _ _, rfl⟩, fun e => absurd e (by decide)⟩
              · exact ⟨rfl, fun _ ρ X9 d hg ho hc hf hr => Runs.val _ (op_i28 (show ρ (.tmp 48) = (.slice (some ⟨g, 0, none⟩) D.length lcap) from hr 5 48 rfl rfl) (show ρ (.tmp 49) = .int .i64 (j : Int) from hr 6 49 rfl rfl) hltj) ⟨hg, Below.refl _ _, rfl⟩, fun e => absurd e (by decide)⟩
              · exact ⟨rfl, fun _ ρ X9 d hg ho hc hf hr => Runs.val _ (op_f144_1 (show ρ (.tmp 50) = .pointer (some ⟨g, j * 4, none⟩) from hr 7 50 rfl rfl)) ⟨hg, Below.refl _ _, rfl⟩, fun e => absurd e (by decide)⟩
              · exact ⟨rfl, fun _ ρ X9 d hg ho hc hf hr => Runs.val _ (op_load125 (show ρ (.tmp 51) = .pointer (some ⟨g, j * 4 + 1, none⟩) from hr 8 51 rfl rfl) (cell_fr hg.1 nG d1) (cell_fr hg.1 nG d2) (cell_fr hg.1 nG d3)) ⟨hg, Below.refl _ _, rfl⟩, fun e => absurd e (by decide)⟩
              · refine ⟨rfl, fun _ ρ X9 d hg ho hc hf hr => ?_, fun e => absurd e (by decide)⟩
                have hb7 : Below X9.heap.size X9 (X9.alloc (.cells #[.int .i64 D[j].2.ts, .string D[j].2.val, .bool D[j].2.dead] 125)) := (Below.refl _ X9).alloc (Nat.le_refl _) _
                exact Runs.val _ (op_s127 (show ρ (.tmp 52) = .agg #[.int .i64 D[j].2.ts, .string D[j].2.val, .bool D[j].2.dead] from hr 9 52 rfl rfl)) ⟨⟨hg.1.below hb7, fun z => (hg.2 z).trans (hb7.mono (hg.2 z).size)⟩, hb7, X9.heap.size, rfl, hg.1.size, heap_alloc_new X9 _⟩
              · refine ⟨rfl, fun e => absurd rfl e, fun _ ρ X9 hg ho hc hf hr => ?_⟩
                obtain ⟨Z1, e, z1, z2⟩ : ∃ Z1, (ρ (.tmp 53)) = lv1 Z1 ∧ U.heap.size ≤ Z1 ∧ X9.heap[Z1]? = some (.cells #[.int .i64 D[j].2.ts, .string D[j].2.val, .bool D[j].2.dead] 125 (0, 0)) := hr 10 53 rfl rfl
                have hbX := hg.2 rfl
                obtain ⟨ad9, cap9, w9, hrun, o9, g9, t9⟩ := run_ve (m := 1) (c := 1) (news := veC [D[j].2]) (own_below HAU.out hbX) (Nat.le_trans HFU.out.size hbX.size) (.inr ⟨⟨Z1, 0, none⟩, rfl, rfl, fun j u hu => by
                  rw [add_at, Nat.zero_add, cell_blk z2]
                  simpa [veC] using hu⟩) (veC_one _) (by omega)
                have f9 : Fr X9 w9 (fun b => (Value.slice vad l.length vcap).ownBlock = some b) := Fr.grown (Fr.refl X9 _) g9 (fun j hj => .inl hj)
                exact Runs.val _ (op_append127 (show ρ (.tmp 44) = (.slice vad l.length vcap) from hr 1 44 rfl rfl) e hrun) ⟨⟨hg.1.trans f9, fun z => by cases z⟩, f9, ad9, cap9, rfl, by rw [veC_append]; exact o9, hg.1.trans f9⟩
              · exact ⟨rfl, fun _ ρ X9 d hg ho hc hf hr => Runs.val _ (op_f129_1 (show ρ (.tmp 6) = .pointer (some ⟨Y, 0, none⟩) from ho 6 rfl)) ⟨hg, Below.refl _ _, rfl⟩, fun e => absurd e (by decide)⟩
            case la =>
              refine ⟨rfl, fun ρ X9 hg ho hc hf hr => ?_⟩
              obtain ⟨ad9, cap9, e, o1, o3⟩ : ∃ ad9 cap9, (ρ (.tmp 54)) = .slice ad9 (l.length + 1) cap9 ∧ X9.ownsRow V2.heap.size 125 3 (ρ (.tmp 54)) (l.length + 1) (veC (l ++ [D[j].2])) ∧ Fr U X9 (fun b => (Value.slice vad l.length vcap).ownBlock = some b) := hr 11 54 (by decide) rfl
              rw [e] at o1
              have hY9 := (o3.block Y (blk_lt HJU.out) nY).trans HJU.out
              exact Runs.skips (op_store127 (show ρ (.tmp 55) = .pointer (some ⟨Y, 1, none⟩) from hr 12 55 (by decide) rfl) e (cell_blk hY9 1) (frozen_blk hY9 1)) ⟨ad9, cap9, X9, rfl, o1, o3⟩
            case en =>
              intro a X9 Xb v9 hF hs hd ho hv9 hr
              obtain ⟨x, hx, hxt⟩ := act_put hs hd ho
              change a = putAll _ x [43, 44, 45, 46, 47, 48, 49, 50, 51, 52, 53, 54, 55] at hx
              simp only [putAll, Act.put, List.setIfInBounds_toArray, List.set_cons_zero, List.set_cons_succ] at hx
              obtain ⟨ad9, cap9, X8, rfl, o1, o3⟩ := hF
              have jY8 : X8.heap[Y]? = some (.cells #[.string k, .slice vad l.length vcap] 129 (0, 0)) := (o3.block Y (blk_lt HJU.out) nY).trans HJU.out
              have HJ8 : Hid ((X8.setCell ⟨Y, 1, none⟩ (.slice ad9 (l.length + 1) cap9)).heap[Y]? = some (.cells #[.string k, .slice ad9 (l.length + 1) cap9] 129 (0, 0))) := set_blk jY8 _
              have HA8 : Hid ((X8.setCell ⟨Y, 1, none⟩ (.slice ad9 (l.length + 1) cap9)).ownsRow V2.heap.size 125 3 (.slice ad9 (l.length + 1) cap9) (l ++ [D[j].2]).length (veC (l ++ [D[j].2]))) := by
                rw [List.length_append]
                refine own_like o1 (fun b e => set_other _ (fun q => ?_))
                have q : b = Y := q
                subst q
                obtain ⟨cs, t⟩ := own_tag o1 b e
                exact tag_ne t jY8 (by decide) rfl
              have HF8 : Hid (Fr V2 (X8.setCell ⟨Y, 1, none⟩ (.slice ad9 (l.length + 1) cap9)) (fun b => b = Y)) := by
                refine Fr.set (HFU.out.step o3 (fun b e => .inr (own_ge0 HAU.out b e))) (.inl rfl) _
              clear hs hd ho hr hv9 hxt o1 o3 jY8
              subst hx
              generalize x 43 = z43, x 44 = z44, x 45 = z45, x 46 = z46, x 47 = z47, x 48 = z48, x 49 = z49, x 50 = z50, x 51 = z51, x 52 = z52, x 53 = z53, x 54 = z54, x 55 = z55
              go_wp2
              go_roundw
              case rel => exact ⟨j + 1, l ++ [D[j].2], _, hltj, by go_num, HNL.out.symm, HJ8.out, HA8.out, HF8.out⟩
              case measure => simp [intOf]; omega
          · have es := same_eq D[j].1 k
            rw [decide_eq_false heq] at es
            have HNL : Hid (vsOf (D.take (j + 1)) k = l) := by
              show _ = _
              rw [HVT.out, if_neg heq, ← HL.out, List.append_nil]
            clear hl jY hA hF hbX hbw hv heq HVT
            go_wp2
            go_quiet (fail)
            have bq := below_draw (Below.refl X.heap.size X) nq
            obtain ⟨U, hU⟩ : ∃ U, X.drewN nq = U := ⟨_, rfl⟩
            rw [hU] at bq ⊢
            have jYU := (bq.block Y (blk_lt HJX.out)).trans HJX.out
            have HJU := Lib.hid jYU
            have HAU := Lib.hid (own_below HAX.out bq)
            have HFU := Lib.hid (HFX.out.below bq)
            clear hU bq jYU a0 c0 d0 d1 d2 d3
            go_wp2
            go_roundw
            case rel => exact ⟨j + 1, l, _, hltj, by go_num, HNL.out.symm, HJU.out, HAU.out, HFU.out⟩
            case measure => simp [intOf]; omega
        · have j1 : ¬ ((j : Int) < D.length) := by omega
          have hle : l = vsOf D k := by rw [hl, List.take_of_length_le (by omega)]
          have y0 : X.cell? ⟨Y, 0, none⟩ = some (.string k) := cell_blk jY 0
          have y1 : X.cell? ⟨Y, 1, none⟩ = some (.slice vad l.length vcap) := cell_blk jY 1
          obtain ⟨X2, hX2⟩ : ∃ X2, X2 = X.alloc (.cells #[.string k, .slice vad l.length vcap] 129) := ⟨_, rfl⟩
          obtain ⟨Z, hZ⟩ : ∃ Z, X.heap.size = Z := ⟨_, rfl⟩
          have b3 : Below X.heap.size X X2 := by rw [hX2]; exact (Below.refl _ X).alloc (Nat.le_refl _) _
          have jZ : X2.heap[Z]? = some (.cells #[.string k, .slice vad l.length vcap] 129 (0, 0)) := by rw [hX2, ← hZ]; exact heap_alloc_new X _
          have hbX2 := hbX.trans (b3.mono hbX.size)
          have hbw2 := hbw.trans (b3.mono hbw.size)
          obtain ⟨ad9, cap9, w9, hrun, hR9, hf9⟩ := (HRM.out.on hbX2).snoc (r := ⟨k, l⟩) hbw2.size (own_mono (own_below hA b3) (by have q1 := HB2.out.size; have q2 := HB.out.size; omega)) jZ (by have := HPL.out; omega)
          have hb9 : Below w.heap.size w w9 := fr_below (T := fun b => (Value.slice oad P.length ocap).ownBlock = some b) (fun b e => own_ge0 HRM.out.own b e) hbw2 hf9
          have hO9 : w9.ownsRow w.heap.size 9 1 (.slice (some ⟨gk, 0, none⟩) K.length kcap) K.length (stC K) := by
            refine row_keep (own_below HO.out hbX2) hf9 (fun b e q => ?_)
            obtain ⟨c1, t1⟩ := own_tag (own_below HO.out hbX2) b e
            obtain ⟨c2, t2⟩ := own_tag (HRM.out.on hbX2).own b q
            exact tag_ne t1 t2 (by decide) rfl
          have hnx : (P ++ [((⟨k, l⟩ : Rw), Value.slice vad l.length vcap)]).map Prod.fst = (rowsOf D).take (i + 1) := by
            rw [HRI.out, List.map_append, HPR.out, hle]
            rfl
          have HNX := Lib.hid hnx
          have HR9 := Lib.hid hR9
          have HO9 := Lib.hid hO9
          have HB9 := Lib.hid hb9
          have HX2 := Lib.hid hX2
          have HZZ := Lib.hid hZ
          rw [← hZ] at hrun
          rw [hX2] at hrun
          clear hl jY hA hF hbX hbw hv hle hX2 hZ b3 jZ hbX2 hbw2 hR9 hf9 hb9 hO9 hnx c0 HL HX2 HZZ
          go_wp2_with (at_builtin; refine wpl_run2 _ _ rfl (by simp [Act.eval]) (by simp [Act.eval]) hrun ?_)
          go_roundw
          case rel => exact ⟨i + 1, _, hlt, by go_num, HNX.out, HR9.out, HO9.out, HB9.out⟩
          case measure => simp [intOf]; omega
    · have k1 : ¬ ((i : Int) < K.length) := by omega
      have hfin : P.map Prod.fst = rowsOf D := by rw [hPR, List.take_of_length_le (by omega)]
      have HFN := Lib.hid hfin
      clear hfin hPR hRm hO hb hRl
      go_wp2
      refine bodyPost_ret (v := .slice oad P.length ocap) (by simp [results, Try.results43, go_sem]) rfl ?_
      exact ⟨oad, ocap, P, rfl, HFN.out, HRM.out, HB.out⟩
end
end Go.Proofs.Ytcoaahlakkghhaa
