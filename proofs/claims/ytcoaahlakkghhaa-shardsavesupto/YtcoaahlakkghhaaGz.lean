/- The walk of the document's Span. -/
import Derived.Test.YtcoaahlakkghhaaGy
import Derived.Test.YtcoaahlakkghhaaGf
import Derived.Test.YtcoaahlakkghhaaGw
namespace Go.Proofs.Ytcoaahlakkghhaa
open Go.RowKit
section
variable {ρ : Operand → Value} {X : World} {d : Option Tmp} {ty : TypeId} {ps : String} {af : Array Edge} {g : Option (Nat × Bool)}
theorem op_i61 {x y : Operand} {B n m i : Nat} (e : ρ x = .slice (some ⟨B, 0, none⟩) n m) (e2 : ρ y = .int .i64 (i : Int)) (h : i < n) : (execOp ρ ⟨d, .indexAddr 61 x y, ty, ps, af, g⟩).run Try.prog X = .ok (.value (.pointer (some ⟨B, i * 2, none⟩))) X := by
  have k0 : (0 : Int) ≤ (i : Int) := by omega
  have k1 : (i : Int) < (n : Int) := by omega
  simp only [execOp, e, e2]
  go_simp
theorem op_i127 {x y : Operand} {B n m i : Nat} (e : ρ x = .slice (some ⟨B, 0, none⟩) n m) (e2 : ρ y = .int .i64 (i : Int)) (h : i < n) : (execOp ρ ⟨d, .indexAddr 127 x y, ty, ps, af, g⟩).run Try.prog X = .ok (.value (.pointer (some ⟨B, i * 3, none⟩))) X := by
  have k0 : (0 : Int) ≤ (i : Int) := by omega
  have k1 : (i : Int) < (n : Int) := by omega
  simp only [execOp, e, e2]
  go_simp
theorem op_load57 {x : Operand} {B i : Nat} {s t : ByteArray} (e : ρ x = .pointer (some ⟨B, i, none⟩)) (y0 : X.cell? ⟨B, i, none⟩ = some (.string s)) (y1 : X.cell? ⟨B, i + 1, none⟩ = some (.string t)) : (execOp ρ ⟨d, .load 57 x, ty, ps, af, g⟩).run Try.prog X = .ok (.value (.agg #[.string s, .string t])) X := by
  simp only [execOp, e]
  go_simp
end
theorem tops_take {l : List Ve} {k : Nat} (h : k < l.length) (t : Int) : tops (l.take (k + 1)) t = if l[k].ts ≤ t then some l[k] else tops (l.take k) t := by
  unfold tops
  rw [List.take_add_one, List.getElem?_eq_getElem h, List.filter_append]
  by_cases q : l[k].ts ≤ t
  · rw [if_pos q]
    simp [q]
  · rw [if_neg q]
    simp [q]
theorem hitO_dead {k : ByteArray} {u : Ve} (h : u.dead = true) : hitO k (some u) = none := by
  show (if u.dead = true then none else some _) = none
  rw [if_pos h]
theorem hitO_live {k : ByteArray} {u : Ve} (h : u.dead = false) : hitO k (some u) = some ⟨k, u.ts, u.val⟩ := by
  show (if u.dead = true then none else some _) = some _
  rw [h]
  rfl
/-- The last one till k that is not later than t. -/
def Bst (l : List Ve) (t : Int) (k : Nat) (b : Int) : Prop := (b = -1 ∧ tops (l.take k) t = none) ∨ ∃ (n : Nat) (h : n < l.length), b = (n : Int) ∧ n < k ∧ tops (l.take k) t = some l[n]
section
variable {w w' : World} {A B : Nat} {S : Nat → Prop} {D : List On} {lv v ov : Value} {P : List (Rw × Value)}
theorem Rm.at' (h : Rm w B P v) {i : Nat} (hi : i < P.length) : ∃ g cap, v = .slice (some ⟨g, 0, none⟩) P.length cap ∧ w.cell? ⟨g, i * 2, none⟩ = some (.string P[i].1.key) ∧ w.cell? ⟨g, i * 2 + 1, none⟩ = some P[i].2 := by
  have ho := h.own
  rcases h.own.2 with ⟨hv, h0⟩ | ⟨g, cap, cur, hv, hg, hc, h1, h2, hr⟩
  · omega
  · subst hv
    obtain ⟨q0, q1⟩ := rwC_get P i hi
    exact ⟨g, cap, rfl, (ho.cellAt _ (by omega)).trans q0, (ho.cellAt _ (by omega)).trans q1⟩
theorem Rm.past {n : Nat} {xs : List Value} {B' : Nat} (h : Rm w B P v) (ho : w.ownsRow B' 80 3 ov n xs) (hf : Fr w w' (fun k => ov.ownBlock = some k)) : Rm w' B P v := by
  refine ⟨row_keep h.own hf (fun j e q => ?_), fun p hp => row_keep (h.ls p hp) hf (fun j e q => ?_)⟩
  · obtain ⟨c1, t1⟩ := own_tag h.own j e
    obtain ⟨c2, t2⟩ := own_tag ho j q
    exact tag_ne t1 t2 (by decide) rfl
  · obtain ⟨c1, t1⟩ := own_tag (h.ls p hp) j e
    obtain ⟨c2, t2⟩ := own_tag ho j q
    exact tag_ne t1 t2 (by decide) rfl
abbrev hitIn (x y : ByteArray) (t : Int) (r : Rw) : Option Hi := if inSpan x y r.key then hit t r else none
theorem fm_take {R : List Rw} {i : Nat} (h : i < R.length) (f : Rw → Option Hi) : (R.take (i + 1)).filterMap f = (R.take i).filterMap f ++ (match f R[i] with | some x => [x] | none => []) := by
  rw [List.take_add_one, List.getElem?_eq_getElem h, List.filterMap_append]
  congr 1
  cases e : f R[i] <;> simp [e]
set_option maxHeartbeats 16000000 in
set_option maxRecDepth 100000 in
theorem span_r (h : Rs w A S D lv) (hz : ∀ p ∈ D, p.1.size ≤ maxLen) (hf : D.length < 800000) (x y : ByteArray) (hx : x.size ≤ maxLen) (hy : y.size ≤ maxLen) (t : Int) : Calls Try.prog 93 #[.pointer (some ⟨A, 0, none⟩), .agg #[.string x, .string y], .int .i64 t] w fun e w' => SpanAns w (span (rowsOf D) x y t) e w' := by
  obtain ⟨W, hW⟩ : ∃ W, W = w.alloc (.cells #[.string x, .string y] 57) := ⟨_, rfl⟩
  have hb : Below w.heap.size w W := by rw [hW]; exact (Below.refl _ w).alloc (Nat.le_refl _) _
  obtain ⟨Y, hY⟩ : ∃ Y, w.heap.size = Y := ⟨_, rfl⟩
  have jY : W.heap[Y]? = some (.cells #[.string x, .string y] 57 (0, 0)) := by rw [hW, ← hY]; exact heap_alloc_new w _
  have hrows := rows_r (h.on hb) hz hf
  obtain ⟨R, hR⟩ : ∃ R, rowsOf D = R := ⟨_, rfl⟩
  rw [hR] at hrows
  have HRZ : Hid (∀ r ∈ R, r.key.size ≤ maxLen) := fun r hr => by
    have : r.key ∈ (rowsOf D).map Rw.key := List.mem_map_of_mem (by rw [hR]; exact hr)
    rw [rowsOf_keys] at this
    obtain ⟨p, hp, e⟩ := keysOf_from this
    rw [← e]
    exact hz p hp
  have HRL : Hid (R.length < 800000) := by
    have : (rowsOf D).length = (keysOf D).length := by unfold rowsOf; rw [List.length_map]
    have := keysOf_len D
    rw [← hR]
    show _ < _
    omega
  have HRE := Lib.hid hR
  have HW := Lib.hid hW
  have HYY := Lib.hid hY
  have HB := Lib.hid hb
  have HJY := Lib.hid jY
  have HSX := Lib.hid hx
  have HSY := Lib.hid hy
  clear h hb jY hY hW hR hz hx hy
  go_enter Try.func93, Try.ntmps93
  go_upto_region 1 with fail
  rw [← HW.out, HYY.out]
  go_wp2_with fail
  refine hrows.mono ?_
  rintro e w1 ⟨rad, rcap, P, rfl, hPR, hRm, b1⟩
  have HPR := Lib.hid hPR
  have hPl : P.length = R.length := by rw [← hPR, List.length_map]
  have hmk : (P.length : Int) ≤ 9223372036854775807 := by have := HRL.out; omega
  have HPL := Lib.hid hPl
  have HRM := Lib.hid hRm
  have HB1 := Lib.hid (HB.out.trans (b1.mono HB.out.size))
  have HJ1 : Hid (w1.heap[Y]? = some (.cells #[.string x, .string y] 57 (0, 0))) := (b1.block Y (blk_lt HJY.out)).trans HJY.out
  have HBS : Hid (w.heap.size ≤ W.heap.size) := HB.out.size
  clear hrows hPR hRm b1 hPl HJY HB
  go_wp2
  go_loopw [8, 9] (fun ov iv wr => ∃ (i : Nat) (H : List Hi), i ≤ P.length ∧ iv = .int .i64 (i : Int) ∧ H = (R.take i).filterMap (hitIn x y t) ∧ wr.ownsRow w.heap.size 80 3 ov H.length (hiC H) ∧ Rm wr W.heap.size P (.slice rad P.length rcap) ∧ wr.heap[Y]? = some (.cells #[.string x, .string y] 57 (0, 0)) ∧ Below w.heap.size w wr) (fun _ iv _ => P.length - (intOf iv).toNat)
  case atStart => exact ⟨0, [], Nat.zero_le _, rfl, rfl, World.ownsRow_nil _ _ _ _, HRM.out, HJ1.out, HB1.out⟩
  case round =>
    clear HRM HJ1 HB1
    obtain ⟨i, H, hi, rfl, hH, hO, hRm, jY, hb⟩ := hrel
    obtain ⟨V, rfl⟩ : ∃ V, V = wr := ⟨_, rfl⟩
    obtain ⟨oad, ocap, rfl⟩ := own_shape hO
    have HH := Lib.hid hH
    have HO := Lib.hid hO
    have HRM := Lib.hid hRm
    have HJV := Lib.hid jY
    have HB := Lib.hid hb
    by_cases hlt : i < P.length
    · obtain ⟨gr, rcap', e, c0, c1⟩ := hRm.at' hlt
      cases e
      have hlR : i < R.length := by have := HPL.out; omega
      have hri : P[i].1 = R[i] := by
        have e := HPR.out
        have : (P.map Prod.fst)[i]? = some R[i] := by rw [e, List.getElem?_eq_getElem hlR]
        rw [List.getElem?_map, List.getElem?_eq_getElem hlt] at this
        simpa using this
      obtain ⟨r, hr⟩ : ∃ r, R[i] = r := ⟨_, rfl⟩
      obtain ⟨lw, hlw⟩ : ∃ lw, P[i].2 = lw := ⟨_, rfl⟩
      have hls := own_mono (hRm.ls _ (List.getElem_mem hlt)) (Nat.zero_le _)
      rw [hri, hr, hlw] at hls
      rw [hri, hr] at c0
      rw [hlw] at c1
      have HNX : Hid ((R.take (i + 1)).filterMap (hitIn x y t) = H ++ (match hitIn x y t r with | some x => [x] | none => [])) := by
        show _ = _
        rw [fm_take hlR, hr, ← hH]
      have hHl : H.length ≤ i := by rw [hH]; exact Nat.le_trans (List.length_filterMap_le _ _) (by rw [List.length_take]; omega)
      have HKS : Hid (r.key.size ≤ maxLen) := by rw [← hr]; exact HRZ.out _ (List.getElem_mem hlR)
      have y0 : V.cell? ⟨Y, 0, none⟩ = some (.string x) := cell_blk jY 0
      have y1 : V.cell? ⟨Y, 1, none⟩ = some (.string y) := cell_blk jY 1
      obtain ⟨lad, lcap, rfl⟩ := own_shape hls
      have HLS := Lib.hid hls
      have HC0 := Lib.hid c0
      have HC1 := Lib.hid c1
      have HHL : Hid (H.length < 800000) := by show _ < _; have := HRL.out; omega
      obtain ⟨f, hf⟩ : ∃ f, inSpan x y r.key = f := ⟨_, rfl⟩
      have HF := Lib.hid hf
      have i0 : (0 : Int) ≤ i := by omega
      have i1 : (i : Int) < P.length := by omega
      clear hH hO hRm jY hb hri hr hlw hls hf hHl HH
      go_wp2
      refine wp_region_gd (fun X9 => Below V.heap.size V X9) (fun _ _ => True) [
        fun v _ => v = (.slice (some ⟨gr, 0, none⟩) P.length rcap),
        fun v _ => v = .int .i64 (i : Int),
        fun v _ => v = .pointer (some ⟨gr, i * 2, none⟩),
        fun v _ => v = .pointer (some ⟨gr, i * 2, none⟩),
        fun v _ => v = .string r.key,
        fun v _ => v = .agg #[.string x, .string y],
        fun v _ => v = .bool f,
        fun v _ => v = .bool (!f)]
        (by kernel_rfl) (by kernel_rfl) (by kernel_rfl) ?st ?g0 ?os ?en
      case st => exact ⟨fun _ _ _ _ h => h, fun _ _ _ _ h => h, fun _ _ _ _ h => h, fun _ _ _ _ h => h, fun _ _ _ _ h => h, fun _ _ _ _ h => h, fun _ _ _ _ h => h, fun _ _ _ _ h => h, trivial⟩
      case g0 => exact ⟨rfl, rfl, rfl, Nat.le_refl _, fun _ _ => rfl⟩
      case os =>
        refine ⟨?_, ?_, ?_, ?_, ?_, ?_, ?_, ?_, trivial⟩
        · exact fun ρ X9 hg ho hc hf hr => .inl ⟨rfl, Runs.val _ (op_move (show ρ (.tmp 7) = (.slice (some ⟨gr, 0, none⟩) P.length rcap) from ho 7 rfl)) ⟨hg, trivial, rfl⟩⟩
        · exact fun ρ X9 hg ho hc hf hr => .inl ⟨rfl, Runs.val _ (op_move (show ρ (.tmp 9) = .int .i64 (i : Int) from ho 9 rfl)) ⟨hg, trivial, rfl⟩⟩
        · exact fun ρ X9 hg ho hc hf hr => .inl ⟨rfl, Runs.val _ (op_i61 (show ρ (.tmp 20) = (.slice (some ⟨gr, 0, none⟩) P.length rcap) from hr 0 20 rfl rfl) (show ρ (.tmp 21) = .int .i64 (i : Int) from hr 1 21 rfl rfl) hlt) ⟨hg, trivial, rfl⟩⟩
        · exact fun ρ X9 hg ho hc hf hr => .inl ⟨rfl, Runs.val _ (op_f129_0 (show ρ (.tmp 22) = .pointer (some ⟨gr, i * 2, none⟩) from hr 2 22 rfl rfl)) ⟨hg, trivial, rfl⟩⟩
        · exact fun ρ X9 hg ho hc hf hr => .inl ⟨rfl, Runs.val _ (op_load9 (show ρ (.tmp 23) = .pointer (some ⟨gr, i * 2, none⟩) from hr 3 23 rfl rfl) (cell_on hg c0)) ⟨hg, trivial, rfl⟩⟩
        · exact fun ρ X9 hg ho hc hf hr => .inl ⟨rfl, Runs.val _ (op_load57 (show ρ (.tmp 4) = .pointer (some ⟨Y, 0, none⟩) from ho 4 rfl) (cell_on hg y0) (cell_on hg y1)) ⟨hg, trivial, rfl⟩⟩
        · exact fun ρ X9 hg ho hc hf hr => .inl ⟨rfl, Runs.goes 48 _ (op_call2 hf call48 (show ρ (.tmp 24) = .string r.key from hr 4 24 rfl rfl) (show ρ (.tmp 25) = .agg #[.string x, .string y] from hr 5 25 rfl rfl)) ((within_any X9 r.key x y HKS.out HSX.out HSY.out).mono fun e w' ⟨he, hb⟩ => ⟨_, he, hg.trans (hb.mono hg.size), trivial, congrArg Value.bool HF.out⟩)⟩
        · exact fun ρ X9 hg ho hc hf hr => .inl ⟨rfl, Runs.val _ (op_not (show ρ (.tmp 26) = .bool f from hr 6 26 rfl rfl)) ⟨hg, trivial, rfl⟩⟩
      case en =>
        intro a9 U hg hs hd ho hr
        obtain ⟨x9, hx, hxt⟩ := act_put hs hd ho
        have x27 : x9 27 = .bool (!f) := (hxt 27).symm.trans (hr 7 27 rfl)
        change a9 = putAll _ x9 [20, 21, 22, 23, 24, 25, 26, 27] at hx
        simp only [putAll, Act.put, List.setIfInBounds_toArray, List.set_cons_zero, List.set_cons_succ, x27] at hx
        have HG := Lib.hid hg
        have HBU := Lib.hid (HB.out.trans (hg.mono HB.out.size))
        have HOU := Lib.hid (own_below HO.out hg)
        have HRU := Lib.hid (HRM.out.on hg)
        have HJU : Hid (U.heap[Y]? = some (.cells #[.string x, .string y] 57 (0, 0))) := (hg.block Y (blk_lt HJV.out)).trans HJV.out
        have HLU := Lib.hid (own_below HLS.out hg)
        have c0 := cell_on hg HC0.out
        have c1 := cell_on hg HC1.out
        clear hg hs hd ho hr hxt x27 y0 y1 HO HRM HJV HLS HB HG
        subst hx
        generalize x9 20 = z20, x9 21 = z21, x9 22 = z22, x9 23 = z23, x9 24 = z24, x9 25 = z25, x9 26 = z26
        cases f with
        | false =>
          have HE : Hid (H ++ (match hitIn x y t r with | some x => [x] | none => []) = H) := by
            show _ = _
            have : hitIn x y t r = none := by unfold hitIn; rw [HF.out]; rfl
            rw [this, List.append_nil]
          clear c0 c1
          go_wp2
          go_roundw
          case rel => exact ⟨i + 1, H, hlt, by go_num, (HNX.out.trans HE.out).symm, HOU.out, HRU.out, HJU.out, HBU.out⟩
          case measure => simp [intOf]; omega
        | true =>
          have HHI : Hid (hitIn x y t r = hit t r) := by
            show _ = _
            unfold hitIn
            rw [HF.out]
            rfl
          have hll : (r.list.length : Int) ≤ 9223372036854775807 := by
            rcases HLU.out.2 with ⟨hv, h0⟩ | ⟨_, _, _, hv, _, _, q1, q2, _⟩
            · omega
            · cases hv
              unfold maxLen at q2
              omega
          go_wp2
          go_loopw [10, 11] (fun bv kv wr => ∃ (k : Nat) (b : Int), k ≤ r.list.length ∧ kv = .int .i64 (k : Int) ∧ bv = .int .i64 b ∧ Bst r.list t k b ∧ wr = U) (fun _ kv _ => r.list.length - (intOf kv).toNat)
          case atStart => exact ⟨0, -1, Nat.zero_le _, rfl, rfl, .inl ⟨rfl, rfl⟩, rfl⟩
          case round =>
            obtain ⟨k, b, hk, rfl, rfl, hbst, rfl⟩ := hrel
            by_cases hlk : k < r.list.length
            · obtain ⟨gl, lcap', e, _, _, m0, _, _⟩ := ve_cells HLU.out hlk
              cases e
              have k0 : (0 : Int) ≤ k := by omega
              have k1 : (k : Int) < r.list.length := by omega
              have htt := tops_take hlk t
              by_cases hts : r.list[k].ts ≤ t
              · have HBN : Hid (Bst r.list t (k + 1) (k : Int)) := .inr ⟨k, hlk, rfl, by omega, by rw [htt, if_pos hts]⟩
                clear htt hbst
                go_wp2
                go_roundw
                case rel => exact ⟨k + 1, (k : Int), hlk, by go_num, rfl, HBN.out, by trivial⟩
                case measure => simp [intOf]; omega
              · have HBN : Hid (Bst r.list t (k + 1) b) := by
                  rcases hbst with ⟨e, q⟩ | ⟨n, hn, e, q1, q2⟩
                  · exact .inl ⟨e, by rw [htt, if_neg hts, q]⟩
                  · exact .inr ⟨n, hn, e, by omega, by rw [htt, if_neg hts, q2]⟩
                clear htt hbst
                go_wp2
                go_roundw
                case rel => exact ⟨k + 1, b, hlk, by go_num, rfl, HBN.out, by trivial⟩
                case measure => simp [intOf]; omega
            · have k1 : ¬ ((k : Int) < r.list.length) := by omega
              have hall : r.list.take k = r.list := List.take_of_length_le (by omega)
              have hit0 := hit_is t r
              rcases hbst with ⟨rfl, q⟩ | ⟨n, hn, rfl, q1, q2⟩
              · rw [hall] at q
                have HE : Hid (H ++ (match hitIn x y t r with | some x => [x] | none => []) = H) := by
                  show _ = _
                  rw [HHI.out, hit0, q]
                  exact List.append_nil _
                clear q hall hit0
                go_wp2
                go_roundw
                case rel => exact ⟨i + 1, H, hlt, by go_num, (HNX.out.trans HE.out).symm, HOU.out, HRU.out, HJU.out, HBU.out⟩
                case measure => simp [intOf]; omega
              · rw [hall] at q2
                obtain ⟨gl, lcap', e, _, _, m0, m1, m2⟩ := ve_cells HLU.out hn
                cases e
                have n0 : (0 : Int) ≤ (n : Int) := by omega
                have n1 : (n : Int) < r.list.length := by omega
                obtain ⟨u, hu⟩ : ∃ u, r.list[n] = u := ⟨_, rfl⟩
                rw [hu] at m0 m1 m2 q2
                obtain ⟨dd, hdd⟩ : ∃ dd, u.dead = dd := ⟨_, rfl⟩
                rw [hdd] at m2
                cases dd with
                | true =>
                  have HE : Hid (H ++ (match hitIn x y t r with | some x => [x] | none => []) = H) := by
                    show _ = _
                    rw [HHI.out, hit0, q2, hitO_dead hdd]
                    exact List.append_nil _
                  clear q2 hall hit0 hdd hu
                  go_wp2
                  go_roundw
                  case rel => exact ⟨i + 1, H, hlt, by go_num, (HNX.out.trans HE.out).symm, HOU.out, HRU.out, HJU.out, HBU.out⟩
                  case measure => simp [intOf]; omega
                | false =>
                  have HE : Hid (H ++ (match hitIn x y t r with | some x => [x] | none => []) = H ++ [⟨r.key, u.ts, u.val⟩]) := by
                    show _ = _
                    rw [HHI.out, hit0, q2, hitO_live hdd]
                  have nR : ¬ (Value.slice oad H.length ocap).ownBlock = some gr := fun e => by
                    obtain ⟨cs, t⟩ := own_tag HOU.out gr e
                    obtain ⟨cs', t'⟩ := own_tag HRU.out.own gr rfl
                    exact tag_ne t t' (by decide) rfl
                  have nL : ¬ (Value.slice oad H.length ocap).ownBlock = some gl := fun e => by
                    obtain ⟨cs, t⟩ := own_tag HOU.out gl e
                    obtain ⟨cs', t'⟩ := own_tag HLU.out gl rfl
                    exact tag_ne t t' (by decide) rfl
                  have nY : ¬ (Value.slice oad H.length ocap).ownBlock = some Y := fun e => by
                    obtain ⟨cs, t⟩ := own_tag HOU.out Y e
                    exact tag_ne t HJU.out (by decide) rfl
                  clear q2 hall hit0 hdd hu
                  go_upto_region 14 with fail
                  refine wp_region_once 26 (fun d X9 => Fr wr X9 (fun k => (Value.slice oad H.length ocap).ownBlock = some k) ∧ (d = false → Below wr.heap.size wr X9)) (fun X9 X' => Below X9.heap.size X9 X') (fun X9 X' => Fr X9 X' (fun k => (Value.slice oad H.length ocap).ownBlock = some k)) [
                    fun v _ => v = (.slice oad H.length ocap),
                    fun v _ => v = (.slice (some ⟨gr, 0, none⟩) P.length rcap),
                    fun v _ => v = .int .i64 (i : Int),
                    fun v _ => v = .pointer (some ⟨gr, i * 2, none⟩),
                    fun v _ => v = .pointer (some ⟨gr, i * 2, none⟩),
                    fun v _ => v = .string r.key,
                    fun v _ => v = (.slice (some ⟨gr, 0, none⟩) P.length rcap),
                    fun v _ => v = .int .i64 (i : Int),
                    fun v _ => v = .pointer (some ⟨gr, i * 2, none⟩),
                    fun v _ => v = .pointer (some ⟨gr, i * 2 + 1, none⟩),
                    fun v _ => v = (.slice (some ⟨gl, 0, none⟩) r.list.length lcap),
                    fun v _ => v = .int .i64 (n : Int),
                    fun v _ => v = .pointer (some ⟨gl, n * 3, none⟩),
                    fun v _ => v = .pointer (some ⟨gl, n * 3, none⟩),
                    fun v _ => v = .int .i64 u.ts,
                    fun v _ => v = (.slice (some ⟨gr, 0, none⟩) P.length rcap),
                    fun v _ => v = .int .i64 (i : Int),
                    fun v _ => v = .pointer (some ⟨gr, i * 2, none⟩),
                    fun v _ => v = .pointer (some ⟨gr, i * 2 + 1, none⟩),
                    fun v _ => v = (.slice (some ⟨gl, 0, none⟩) r.list.length lcap),
                    fun v _ => v = .int .i64 (n : Int),
                    fun v _ => v = .pointer (some ⟨gl, n * 3, none⟩),
                    fun v _ => v = .pointer (some ⟨gl, n * 3 + 1, none⟩),
                    fun v _ => v = .string u.val,
                    fun v _ => v = .agg #[.string r.key, .int .i64 u.ts, .string u.val],
                    fun v X9 => ∃ K, v = .slice (some ⟨K, 0, none⟩) 1 1 ∧ wr.heap.size ≤ K ∧ X9.heap[K]? = some (.cells #[.string r.key, .int .i64 u.ts, .string u.val] 80 (0, 0)),
                    fun v X9 => ∃ ad9 cap9, v = .slice ad9 (H.length + 1) cap9 ∧ X9.ownsRow w.heap.size 80 3 v (H ++ [(⟨r.key, u.ts, u.val⟩ : Hi)]).length (hiC (H ++ [(⟨r.key, u.ts, u.val⟩ : Hi)])) ∧ Fr wr X9 (fun k => (Value.slice oad H.length ocap).ownBlock = some k)]
                    (fun v X9 => ∃ ad9 cap9, v = .slice ad9 (H.length + 1) cap9 ∧ X9.ownsRow w.heap.size 80 3 v (H ++ [(⟨r.key, u.ts, u.val⟩ : Hi)]).length (hiC (H ++ [(⟨r.key, u.ts, u.val⟩ : Hi)])) ∧ Fr wr X9 (fun k => (Value.slice oad H.length ocap).ownBlock = some k)) rfl (by kernel_rfl) (by kernel_rfl) (by kernel_rfl) (by kernel_rfl) ?st ?stm ?g0 (by decide) ?os ?la ?en
                  case st => exact ⟨fun _ _ _ _ h => h, fun _ _ _ _ h => h, fun _ _ _ _ h => h, fun _ _ _ _ h => h, fun _ _ _ _ h => h, fun _ _ _ _ h => h, fun _ _ _ _ h => h, fun _ _ _ _ h => h, fun _ _ _ _ h => h, fun _ _ _ _ h => h, fun _ _ _ _ h => h, fun _ _ _ _ h => h, fun _ _ _ _ h => h, fun _ _ _ _ h => h, fun _ _ _ _ h => h, fun _ _ _ _ h => h, fun _ _ _ _ h => h, fun _ _ _ _ h => h, fun _ _ _ _ h => h, fun _ _ _ _ h => h, fun _ _ _ _ h => h, fun _ _ _ _ h => h, fun _ _ _ _ h => h, fun _ _ _ _ h => h, fun _ _ _ _ h => h, fun _ _ _ hs ⟨K, e, z1, z2⟩ => ⟨K, e, z1, (hs.block K (blk_lt z2)).trans z2⟩, fun _ _ _ hs ⟨x1, x2, e, z1, z2⟩ => ⟨x1, x2, e, own_below z1 hs, z2.below hs⟩, trivial⟩
                  case stm => exact ⟨fun _ _ _ _ h => h, fun _ _ _ _ h => h, fun _ _ _ _ h => h, fun _ _ _ _ h => h, fun _ _ _ _ h => h, fun _ _ _ _ h => h, fun _ _ _ _ h => h, fun _ _ _ _ h => h, fun _ _ _ _ h => h, fun _ _ _ _ h => h, fun _ _ _ _ h => h, fun _ _ _ _ h => h, fun _ _ _ _ h => h, fun _ _ _ _ h => h, fun _ _ _ _ h => h, fun _ _ _ _ h => h, fun _ _ _ _ h => h, fun _ _ _ _ h => h, fun _ _ _ _ h => h, fun _ _ _ _ h => h, fun _ _ _ _ h => h, fun _ _ _ _ h => h, fun _ _ _ _ h => h, fun _ _ _ _ h => h, fun _ _ _ _ h => h, fun _ _ _ hs ⟨K, e, z1, z2⟩ => ⟨K, e, z1, (hs.block K (blk_lt z2) (fun e => by have z3 := (HOU.out.lt K e).2; omega)).trans z2⟩, fun _ _ _ _ h => h, trivial⟩
                  case g0 => exact ⟨⟨rfl, rfl, rfl, Nat.le_refl _, fun _ _ _ => rfl⟩, fun _ => ⟨rfl, rfl, rfl, Nat.le_refl _, fun _ _ => rfl⟩⟩
                  case os =>
                    refine ⟨?_, ?_, ?_, ?_, ?_, ?_, ?_, ?_, ?_, ?_, ?_, ?_, ?_, ?_, ?_, ?_, ?_, ?_, ?_, ?_, ?_, ?_, ?_, ?_, ?_, ?_, ?_, trivial⟩
                    · exact ⟨rfl, fun _ ρ X9 d hg ho hc hf hr => Runs.val _ (op_move (show ρ (.tmp 8) = (.slice oad H.length ocap) from ho 8 rfl)) ⟨hg, Below.refl _ _, rfl⟩, fun e => absurd e (by decide)⟩
                    · exact ⟨rfl, fun _ ρ X9 d hg ho hc hf hr => Runs.val _ (op_move (show ρ (.tmp 7) = (.slice (some ⟨gr, 0, none⟩) P.length rcap) from ho 7 rfl)) ⟨hg, Below.refl _ _, rfl⟩, fun e => absurd e (by decide)⟩
                    · exact ⟨rfl, fun _ ρ X9 d hg ho hc hf hr => Runs.val _ (op_move (show ρ (.tmp 9) = .int .i64 (i : Int) from ho 9 rfl)) ⟨hg, Below.refl _ _, rfl⟩, fun e => absurd e (by decide)⟩
                    · exact ⟨rfl, fun _ ρ X9 d hg ho hc hf hr => Runs.val _ (op_i61 (show ρ (.tmp 65) = (.slice (some ⟨gr, 0, none⟩) P.length rcap) from hr 1 65 rfl rfl) (show ρ (.tmp 66) = .int .i64 (i : Int) from hr 2 66 rfl rfl) hlt) ⟨hg, Below.refl _ _, rfl⟩, fun e => absurd e (by decide)⟩
                    · exact ⟨rfl, fun _ ρ X9 d hg ho hc hf hr => Runs.val _ (op_f129_0 (show ρ (.tmp 67) = .pointer (some ⟨gr, i * 2, none⟩) from hr 3 67 rfl rfl)) ⟨hg, Below.refl _ _, rfl⟩, fun e => absurd e (by decide)⟩
                    · exact ⟨rfl, fun _ ρ X9 d hg ho hc hf hr => Runs.val _ (op_load9 (show ρ (.tmp 68) = .pointer (some ⟨gr, i * 2, none⟩) from hr 4 68 rfl rfl) (cell_fr hg.1 nR c0)) ⟨hg, Below.refl _ _, rfl⟩, fun e => absurd e (by decide)⟩
                    · exact ⟨rfl, fun _ ρ X9 d hg ho hc hf hr => Runs.val _ (op_move (show ρ (.tmp 7) = (.slice (some ⟨gr, 0, none⟩) P.length rcap) from ho 7 rfl)) ⟨hg, Below.refl _ _, rfl⟩, fun e => absurd e (by decide)⟩
                    · exact ⟨rfl, fun _ ρ X9 d hg ho hc hf hr => Runs.val _ (op_move (show ρ (.tmp 9) = .int .i64 (i : Int) from ho 9 rfl)) ⟨hg, Below.refl _ _, rfl⟩, fun e => absurd e (by decide)⟩
                    · exact ⟨rfl, fun _ ρ X9 d hg ho hc hf hr => Runs.val _ (op_i61 (show ρ (.tmp 70) = (.slice (some ⟨gr, 0, none⟩) P.length rcap) from hr 6 70 rfl rfl) (show ρ (.tmp 71) = .int .i64 (i : Int) from hr 7 71 rfl rfl) hlt) ⟨hg, Below.refl _ _, rfl⟩, fun e => absurd e (by decide)⟩
                    · exact ⟨rfl, fun _ ρ X9 d hg ho hc hf hr => Runs.val _ (op_f129_1 (show ρ (.tmp 72) = .pointer (some ⟨gr, i * 2, none⟩) from hr 8 72 rfl rfl)) ⟨hg, Below.refl _ _, rfl⟩, fun e => absurd e (by decide)⟩
                    · exact ⟨rfl, fun _ ρ X9 d hg ho hc hf hr => Runs.val _ (op_load127 (show ρ (.tmp 73) = .pointer (some ⟨gr, i * 2 + 1, none⟩) from hr 9 73 rfl rfl) (cell_fr hg.1 nR c1)) ⟨hg, Below.refl _ _, rfl⟩, fun e => absurd e (by decide)⟩
                    · exact ⟨rfl, fun _ ρ X9 d hg ho hc hf hr => Runs.val _ (op_move (show ρ (.tmp 10) = .int .i64 (n : Int) from ho 10 rfl)) ⟨hg, Below.refl _ _, rfl⟩, fun e => absurd e (by decide)⟩
                    · exact ⟨rfl, fun _ ρ X9 d hg ho hc hf hr => Runs.val _ (op_i127 (show ρ (.tmp 74) = (.slice (some ⟨gl, 0, none⟩) r.list.length lcap) from hr 10 74 rfl rfl) (show ρ (.tmp 75) = .int .i64 (n : Int) from hr 11 75 rfl rfl) hn) ⟨hg, Below.refl _ _, rfl⟩, fun e => absurd e (by decide)⟩
                    · exact ⟨rfl, fun _ ρ X9 d hg ho hc hf hr => Runs.val _ (op_f125_0 (show ρ (.tmp 76) = .pointer (some ⟨gl, n * 3, none⟩) from hr 12 76 rfl rfl)) ⟨hg, Below.refl _ _, rfl⟩, fun e => absurd e (by decide)⟩
                    · exact ⟨rfl, fun _ ρ X9 d hg ho hc hf hr => Runs.val _ (op_load3 (show ρ (.tmp 77) = .pointer (some ⟨gl, n * 3, none⟩) from hr 13 77 rfl rfl) (cell_fr hg.1 nL m0)) ⟨hg, Below.refl _ _, rfl⟩, fun e => absurd e (by decide)⟩
                    · exact ⟨rfl, fun _ ρ X9 d hg ho hc hf hr => Runs.val _ (op_move (show ρ (.tmp 7) = (.slice (some ⟨gr, 0, none⟩) P.length rcap) from ho 7 rfl)) ⟨hg, Below.refl _ _, rfl⟩, fun e => absurd e (by decide)⟩
                    · exact ⟨rfl, fun _ ρ X9 d hg ho hc hf hr => Runs.val _ (op_move (show ρ (.tmp 9) = .int .i64 (i : Int) from ho 9 rfl)) ⟨hg, Below.refl _ _, rfl⟩, fun e => absurd e (by decide)⟩
                    · exact ⟨rfl, fun _ ρ X9 d hg ho hc hf hr => Runs.val _ (op_i61 (show ρ (.tmp 79) = (.slice (some ⟨gr, 0, none⟩) P.length rcap) from hr 15 79 rfl rfl) (show ρ (.tmp 80) = .int .i64 (i : Int) from hr 16 80 rfl rfl) hlt) ⟨hg, Below.refl _ _, rfl⟩, fun e => absurd e (by decide)⟩
                    · exact ⟨rfl, fun _ ρ X9 d hg ho hc hf hr => Runs.val _ (op_f129_1 (show ρ (.tmp 81) = .pointer (some ⟨gr, i * 2, none⟩) from hr 17 81 rfl rfl)) ⟨hg, Below.refl _ _, rfl⟩, fun e => absurd e (by decide)⟩
                    · exact ⟨rfl, fun _ ρ X9 d hg ho hc hf hr => Runs.val _ (op_load127 (show ρ (.tmp 82) = .pointer (some ⟨gr, i * 2 + 1, none⟩) from hr 18 82 rfl rfl) (cell_fr hg.1 nR c1)) ⟨hg, Below.refl _ _, rfl⟩, fun e => absurd e (by decide)⟩
                    · exact ⟨rfl, fun _ ρ X9 d hg ho hc hf hr => Runs.val _ (op_move (show ρ (.tmp 10) = .int .i64 (n : Int) from ho 10 rfl)) ⟨hg, Below.refl _ _, rfl⟩, fun e => absurd e (by decide)⟩
                    · exact ⟨rfl, fun _ ρ X9 d hg ho hc hf hr => Runs.val _ (op_i127 (show ρ (.tmp 83) = (.slice (some ⟨gl, 0, none⟩) r.list.length lcap) from hr 19 83 rfl rfl) (show ρ (.tmp 84) = .int .i64 (n : Int) from hr 20 84 rfl rfl) hn) ⟨hg, Below.refl _ _, rfl⟩, fun e => absurd e (by decide)⟩
                    · exact ⟨rfl, fun _ ρ X9 d hg ho hc hf hr => Runs.val _ (op_f125_1 (show ρ (.tmp 85) = .pointer (some ⟨gl, n * 3, none⟩) from hr 21 85 rfl rfl)) ⟨hg, Below.refl _ _, rfl⟩, fun e => absurd e (by decide)⟩
                    · exact ⟨rfl, fun _ ρ X9 d hg ho hc hf hr => Runs.val _ (op_load9 (show ρ (.tmp 86) = .pointer (some ⟨gl, n * 3 + 1, none⟩) from hr 22 86 rfl rfl) (cell_fr hg.1 nL m1)) ⟨hg, Below.refl _ _, rfl⟩, fun e => absurd e (by decide)⟩
                    · exact ⟨rfl, fun _ ρ X9 d hg ho hc hf hr => Runs.val _ (op_b80 (show ρ (.tmp 69) = .string r.key from hr 5 69 rfl rfl) (show ρ (.tmp 78) = .int .i64 u.ts from hr 14 78 rfl rfl) (show ρ (.tmp 87) = .string u.val from hr 23 87 rfl rfl)) ⟨hg, Below.refl _ _, rfl⟩, fun e => absurd e (by decide)⟩
                    · refine ⟨rfl, fun _ ρ X9 d hg ho hc hf hr => ?_, fun e => absurd e (by decide)⟩
                      have hb7 : Below X9.heap.size X9 (X9.alloc (.cells #[.string r.key, .int .i64 u.ts, .string u.val] 80)) := (Below.refl _ X9).alloc (Nat.le_refl _) _
                      exact Runs.val _ (op_s77 (show ρ (.tmp 88) = .agg #[.string r.key, .int .i64 u.ts, .string u.val] from hr 24 88 rfl rfl)) ⟨⟨hg.1.below hb7, fun z => (hg.2 z).trans (hb7.mono (hg.2 z).size)⟩, hb7, X9.heap.size, rfl, hg.1.size, heap_alloc_new X9 _⟩
                    · refine ⟨rfl, fun e => absurd rfl e, fun _ ρ X9 hg ho hc hf hr => ?_⟩
                      obtain ⟨K, e, z1, z2⟩ : ∃ K, ρ (.tmp 89) = .slice (some ⟨K, 0, none⟩) 1 1 ∧ wr.heap.size ≤ K ∧ X9.heap[K]? = some (.cells #[.string r.key, .int .i64 u.ts, .string u.val] 80 (0, 0)) := hr 25 89 rfl rfl
                      have hbX := hg.2 rfl
                      obtain ⟨ad9, cap9, w9, hrun, hR9, hf9⟩ := hits_snoc (x := ⟨r.key, u.ts, u.val⟩) (own_below HOU.out hbX) (Nat.le_trans HBU.out.size hbX.size) z2 (by have := HHL.out; omega)
                      exact Runs.val _ (op_append77 (show ρ (.tmp 64) = (.slice oad H.length ocap) from hr 0 64 rfl rfl) e hrun) ⟨⟨hg.1.trans hf9, fun z => by cases z⟩, hf9, ad9, cap9, rfl, hR9, hg.1.trans hf9⟩
                  case la =>
                    refine ⟨rfl, fun ρ X9 hg ho hc hf hr => ?_⟩
                    obtain ⟨ad9, cap9, e, z1, z2⟩ : ∃ ad9 cap9, (ρ (.tmp 90)) = .slice ad9 (H.length + 1) cap9 ∧ X9.ownsRow w.heap.size 80 3 (ρ (.tmp 90)) (H ++ [(⟨r.key, u.ts, u.val⟩ : Hi)]).length (hiC (H ++ [(⟨r.key, u.ts, u.val⟩ : Hi)])) ∧ Fr wr X9 (fun k => (Value.slice oad H.length ocap).ownBlock = some k) := hr 26 90 (by decide) rfl
                    rw [e] at z1
                    exact Runs.val _ (op_assign e) ⟨ad9, cap9, rfl, z1, z2⟩
                  case en =>
                    intro a9 X9 Xb v hF hs hd ho hv hr
                    obtain ⟨x9, hx, hxt⟩ := act_put hs hd ho
                    have x8 : x9 8 = v := (hxt 8).symm.trans (hv 8 rfl)
                    change a9 = putAll _ x9 [64, 65, 66, 67, 68, 69, 70, 71, 72, 73, 74, 75, 76, 77, 78, 79, 80, 81, 82, 83, 84, 85, 86, 87, 88, 89, 90, 8] at hx
                    simp only [putAll, Act.put, List.setIfInBounds_toArray, List.set_cons_zero, List.set_cons_succ, x8] at hx
                    obtain ⟨ad9, cap9, rfl, z1, z2⟩ := hF
                    have HZ1 := Lib.hid z1
                    have HR9 := Lib.hid (HRU.out.past HOU.out z2)
                    have HJ9 : Hid (X9.heap[Y]? = some (.cells #[.string x, .string y] 57 (0, 0))) := (z2.block Y (blk_lt HJU.out) nY).trans HJU.out
                    have HB9 : Hid (Below w.heap.size w X9) := fr_below (T := fun k => (Value.slice oad H.length ocap).ownBlock = some k) (fun k e => own_ge0 HOU.out k e) HBU.out z2
                    clear z1 z2 hs hd ho hr hv hxt x8 c0 c1 m0 m1 m2
                    subst hx
                    generalize x9 64 = z64, x9 65 = z65, x9 66 = z66, x9 67 = z67, x9 68 = z68, x9 69 = z69, x9 70 = z70, x9 71 = z71, x9 72 = z72, x9 73 = z73, x9 74 = z74, x9 75 = z75, x9 76 = z76, x9 77 = z77, x9 78 = z78, x9 79 = z79, x9 80 = z80, x9 81 = z81, x9 82 = z82, x9 83 = z83, x9 84 = z84, x9 85 = z85, x9 86 = z86, x9 87 = z87, x9 88 = z88, x9 89 = z89, x9 90 = z90
                    go_wp2
                    go_roundw
                    case rel => exact ⟨i + 1, (H ++ [(⟨r.key, u.ts, u.val⟩ : Hi)]), hlt, by go_num, (HNX.out.trans HE.out).symm, HZ1.out, HR9.out, HJ9.out, HB9.out⟩
                    case measure => simp [intOf]; omega
    · have k1 : ¬ ((i : Int) < P.length) := by omega
      have hfin : H = span (rowsOf D) x y t := by rw [hH, HRE.out, List.take_of_length_le (by have := HPL.out; omega), span_fm]
      have HFN := Lib.hid hfin
      clear hfin hH hO hRm jY hb HH
      go_wp2
      refine bodyPost_ret (v := .slice oad H.length ocap) (by simp [results, Try.results93, go_sem]) rfl ?_
      rw [← HFN.out]
      exact ⟨oad, ocap, rfl, HO.out, HB.out⟩
end
end Go.Proofs.Ytcoaahlakkghhaa
/- A drawn region with two marked operations, one behind the other; two stores in one memory. -/
namespace Go.Proofs.Ytcoaahlakkghhaa
section
variable {P : Program} {ops : Array Oper} {Q : Exit → Act → World → Prop}
/-- It is carried out. -/
def Does (P : Program) (ops : Array Oper) (o : Oper) (ρ : Operand → Value) (w : World) (K : Value → World → Prop) : Prop :=
  (plainOp o ∧ Runs P o ρ w K) ∨ (∃ j t c, onlyIf o j c ∧ dstOf ops j = some t ∧ ρ (.tmp t) = .bool c ∧ Runs P o ρ w K)
/-- What is asked of an operation. -/
def OpG2 (P : Program) (ops : Array Oper) (a0 : Act) (m1 m2 : Nat) (G : Bool → Bool → World → Prop) (R : List (Value → World → Prop)) (i : Nat) (o : Oper) : Prop :=
  ∀ ρ w d e, (i = m1 → d = false ∧ e = false) → (i = m2 → d = true ∧ e = false) → G d e w → (∀ t, outer ops t = true → ρ (.tmp t) = a0.eval (.tmp t)) → (∀ x, ρ (.const x) = x) → (∀ f, ρ (.func f) = .func (.func f) #[] #[]) →
    (∀ j t, depOn o j = true → dstOf ops j = some t → R.getD j (fun _ _ => True) (ρ (.tmp t)) w) →
    Does P ops o ρ w fun v w' => G (if i = m1 then true else d) (if i = m2 then true else e) w' ∧ R.getD i (fun _ _ => True) v w'
theorem set_flag {l : Array Bool} {i m : Nat} (hi : i < l.size) : (l.setIfInBounds i true).getD m false = if i = m then true else l.getD m false := by
  by_cases e : i = m
  · subst e
    rw [if_pos rfl, Array.getD_eq_getD_getElem?, Array.getElem?_setIfInBounds_self_of_lt hi]
    rfl
  · rw [if_neg e, Array.getD_eq_getD_getElem?, Array.getElem?_setIfInBounds_ne e, Array.getD_eq_getD_getElem?]
theorem wp_region_g2 {id : Nat} {a0 : Act} {w0 : World} (m1 m2 : Nat) (G : Bool → Bool → World → Prop) (R : List (Value → World → Prop)) (hne : m1 ≠ m2) (h21 : ∀ o, ops[m2]? = some o → depOn o m1 = true) (hl1 : m1 < ops.size) (hl2 : m2 < ops.size)
    (hm : P.follows .mixedOrders = true) (hd : dstsOk ops a0.tmps.size = true) (haf : afterOk ops = true) (hst : Stable (fun _ _ => True) R) (hg : G false false w0.drew)
    (hops : AllOps (OpG2 P ops a0 m1 m2 G R) 0 ops.toList)
    (he : ∀ (a : Act) (w : World), G true true w → a.tmps.size = a0.tmps.size → a.defers = a0.defers → (∀ t, outer ops t = true → a.tmps.getD t undef = a0.tmps.getD t undef) →
      (∀ j t, dstOf ops j = some t → R.getD j (fun _ _ => True) (a.tmps.getD t undef) w) → Q .normal a w) :
    (Code.region id ops true).wp P Q a0 w0 := by
  refine wp_region_any hm (wpAny_kept (fun l a w => G (l.getD m1 false) (l.getD m2 false) w ∧ KeptIn ops a0 (fun _ => True) R l a w) ?_ ?_ _ _ _ _ (left_replicate _) ?_)
  · intro l a w i ⟨hG, hk⟩ hi
    obtain ⟨hl, o, ho, hall⟩ := mem_ready.1 hi
    have hok : OpG2 P ops a0 m1 m2 G R i o := by
      have := hops.get (k := i) (o := o) (by rw [Array.getElem?_toList]; exact ho)
      rwa [Nat.zero_add] at this
    have hun := unlisted hk.sz ho hl
    have hil : i < l.size := by rw [hk.sz]; exact (Array.getElem?_eq_some_iff.1 ho).1
    have hrun := hok a.eval w (l.getD m1 false) (l.getD m2 false) (fun e => by
      subst e
      refine ⟨hun, ?_⟩
      cases hc : l.getD m2 false with
      | false => rfl
      | true =>
        obtain ⟨o2, ho2⟩ : ∃ o2, ops[m2]? = some o2 := ⟨_, Array.getElem?_eq_getElem hl2⟩
        obtain ⟨e, he, heq, hb⟩ := depOn_some (h21 o2 ho2)
        have := hk.dn m2 o2 ho2 hc e he hb
        rw [heq, hun] at this
        cases this) (fun e => by
      subst e
      refine ⟨?_, hun⟩
      obtain ⟨e, he, heq, hb⟩ := depOn_some (h21 o ho)
      have := hall e he hb
      rwa [heq] at this) hG (fun t ht => by
      rw [eval_tmp, eval_tmp]
      exact hk.out t fun j oj hj _ q => outer_not ht hj q) (fun _ => rfl) (fun _ => rfl) (fun j t hj hdj => by
      obtain ⟨e, he, rfl, hb⟩ := depOn_some hj
      obtain ⟨oj, hoj, hdj⟩ := dstOf_some hdj
      rw [eval_tmp]
      exact hk.is _ oj t hoj (hall e he hb) hdj)
    have hK : ∀ v w', (G (if i = m1 then true else l.getD m1 false) (if i = m2 then true else l.getD m2 false) w' ∧ R.getD i (fun _ _ => True) v w') → G ((l.setIfInBounds i true).getD m1 false) ((l.setIfInBounds i true).getD m2 false) w' ∧ KeptIn ops a0 (fun _ => True) R (l.setIfInBounds i true) (a.put o.dst v) w' := fun v w' ⟨h1, h2⟩ => by
      rw [set_flag hil, set_flag hil]
      exact ⟨h1, hk.next hd hst ho hall trivial trivial h2⟩
    unfold wpOp
    simp only [ho]
    have go : (Runs P o a.eval w fun v w' => G (if i = m1 then true else l.getD m1 false) (if i = m2 then true else l.getD m2 false) w' ∧ R.getD i (fun _ _ => True) v w') → o.wp P a w (fun a' w' => G ((l.setIfInBounds i true).getD m1 false) ((l.setIfInBounds i true).getD m2 false) w' ∧ KeptIn ops a0 (fun _ => True) R (l.setIfInBounds i true) a' w') Q := fun hrun => by
      unfold Oper.wp
      rcases hrun with ⟨v, w', hv, h⟩ | ⟨w', hv, h⟩ | ⟨f, args, w1, hv, hc⟩
      · rw [hv]
        exact hK _ _ h
      · rw [hv]
        exact hK _ _ h
      · rw [hv]
        refine hc.mono ?_
        rintro e w' ⟨v, rfl, h⟩
        exact hK _ _ h
    rcases hrun with ⟨hgd, hrun⟩ | ⟨j, t, c, hgd, hdj, hv, hrun⟩
    · rw [if_pos (wanted_none hgd _)]
      exact .inl (go hrun)
    · rw [if_pos (by rw [hgd]; simp only [yield_is hdj hv, beq_self_eq_true])]
      exact .inl (go hrun)
  · intro l a w ⟨hG, hk⟩ hr
    have hall := all_listed haf l hk.sz hr
    rw [hall m1 hl1, hall m2 hl2] at hG
    refine he a w hG hk.size hk.defers (fun t ht => hk.out t fun j oj hj _ q => outer_not ht hj q) (fun j t hdj => ?_)
    obtain ⟨oj, hj, hdj⟩ := dstOf_some hdj
    exact hk.is j oj t hj (hall j (Array.getElem?_eq_some_iff.1 hj).1) hdj
  · have hz : ∀ m, (Array.replicate ops.size false).getD m false = false := fun m => by
      cases hc : (Array.replicate ops.size false).getD m false with
      | false => rfl
      | true => exact absurd hc (none_listed _ _)
    refine ⟨?_, ⟨trivial, fun j _ _ hl => absurd hl (none_listed _ j), by simp, rfl, rfl, fun _ _ => rfl, fun j o t hj hl _ => absurd hl (none_listed _ j)⟩⟩
    rw [hz, hz]
    exact hg
end
open Go.RowKit
/-- The program's store at A and the document's at E, in one memory, behind n puts. -/
structure Both (V0 X : World) (A E n : Nat) (S T : Nat → Prop) (R : List Rw) (D : List On) (lv : Value) : Prop where
  pj : Pj V0 X A n S R
  rs : Rs X E T D lv
  len : D.length ≤ n
  sz : ∀ p ∈ D, p.1.size ≤ maxLen
  off : ∀ j, S j → ¬ T j
  lo : ∀ j, T j → V0.heap.size ≤ j
section
variable {V0 X X' : World} {A E n : Nat} {S T U : Nat → Prop} {R : List Rw} {D : List On} {lv : Value} {k : ByteArray} {v : Ve} {e : Ending}
theorem Both.on (h : Both V0 X A E n S T R D lv) (hb : Below X.heap.size X X') : Both V0 X' A E n S T R D lv := ⟨h.pj.on hb, h.rs.on hb, h.len, h.sz, h.off, h.lo⟩
theorem Both.stays (h : Both V0 X A E n S T R D lv) (hf : Fr X X' U) (h1 : ∀ j, S j → ¬ U j) (h2 : ∀ j, T j → ¬ U j) (h3 : ∀ j, U j → V0.heap.size ≤ j) : Both V0 X' A E n S T R D lv :=
  ⟨⟨h.pj.sb.stays hf h1, h.pj.len, h.pj.each, h.pj.lo, fr_below h3 h.pj.bel hf⟩, h.rs.stays hf h2, h.len, h.sz, h.off, h.lo⟩
theorem Both.more (h : Both V0 X A E n S T R D lv) : Both V0 X A E (n + 1) S T R D lv :=
  ⟨⟨h.pj.sb, Nat.le_succ_of_le h.pj.len, fun r hr => Nat.le_succ_of_le (h.pj.each r hr), h.pj.lo, h.pj.bel⟩, h.rs, Nat.le_succ_of_le h.len, h.sz, h.off, h.lo⟩
/-- The program's Put is done, the document's is not. -/
theorem Both.put1 (h : Both V0 X A E n S T R D lv) (hp : PutAns X A S R k v e X') : ∃ S', Both V0 X' A E (n + 1) S' T (putR R k v) D lv := by
  obtain ⟨S', hj, hg, hf⟩ := h.pj.put hp
  refine ⟨S', hj, h.rs.stays hf (fun j q q' => h.off j q' q), Nat.le_succ_of_le h.len, h.sz, fun j q q' => ?_, h.lo⟩
  rcases hg j q with z | z
  · exact h.off j z q'
  · have := h.rs.lt j q'
    omega
/-- The document's Put is done too. -/
theorem Both.put2 (h : Both V0 X A E (n + 1) S T R D lv) (hl : D.length ≤ n) (hk : k.size ≤ maxLen) (hp : PutDAns X E T D k v e X') : ∃ T' lv', Both V0 X' A E (n + 1) S T' R (putD D k v) lv' := by
  obtain ⟨_, T', lv', hr, hg, hf⟩ := hp
  have hoff : ∀ j, S j → ¬ T j := h.off
  refine ⟨T', lv', ⟨h.pj.sb.stays hf hoff, h.pj.len, h.pj.each, h.pj.lo, fr_below h.lo h.pj.bel hf⟩, hr, ?_, ?_, fun j q q' => ?_, fun j q => ?_⟩
  · unfold putD
    split
    · omega
    · split
      · omega
      · rw [List.length_append]
        simp only [List.length_cons, List.length_nil]
        omega
  · unfold putD
    split
    · exact h.sz
    · split
      · exact h.sz
      · intro p hp
        rcases List.mem_append.1 hp with q | q
        · exact h.sz p q
        · rw [List.mem_singleton.1 q]
          exact hk
  · rcases hg j q' with z | z
    · exact h.off j q z
    · have := h.pj.sb.lt j q
      omega
  · rcases hg j q with z | z
    · exact h.lo j z
    · exact Nat.le_trans h.pj.bel.size z.1
end
end Go.Proofs.Ytcoaahlakkghhaa
