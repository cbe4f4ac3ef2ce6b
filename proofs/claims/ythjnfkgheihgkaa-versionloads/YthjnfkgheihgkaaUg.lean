/- The walk of VersionPlays. -/
import Derived.Test.YthjnfkgheihgkaaUf
import Derived.Deep.DeepCutAuto
namespace Go.Proofs.Ythjnfkgheihgkaa
open Go.RowKit
section
variable {ρ : Operand → Value} {X : World} {d : Option Tmp} {ty : TypeId} {ps : String} {af : Array Edge} {g : Option (Nat × Bool)}
theorem op_f35_0 {x : Operand} {B o : Nat} (e : ρ x = .pointer (some ⟨B, o, none⟩)) : (execOp ρ ⟨d, .fieldAddr 35 x 0, ty, ps, af, g⟩).run Try.prog X = .ok (.value (.pointer (some ⟨B, o, none⟩))) X := by
  simp only [execOp, e]
  go_simp
theorem op_f35_1 {x : Operand} {B o : Nat} (e : ρ x = .pointer (some ⟨B, o, none⟩)) : (execOp ρ ⟨d, .fieldAddr 35 x 1, ty, ps, af, g⟩).run Try.prog X = .ok (.value (.pointer (some ⟨B, o + 1, none⟩))) X := by
  simp only [execOp, e]
  go_simp
theorem op_f35_2 {x : Operand} {B o : Nat} (e : ρ x = .pointer (some ⟨B, o, none⟩)) : (execOp ρ ⟨d, .fieldAddr 35 x 2, ty, ps, af, g⟩).run Try.prog X = .ok (.value (.pointer (some ⟨B, o + 2, none⟩))) X := by
  simp only [execOp, e]
  go_simp
theorem op_f35_3 {x : Operand} {B o : Nat} (e : ρ x = .pointer (some ⟨B, o, none⟩)) : (execOp ρ ⟨d, .fieldAddr 35 x 3, ty, ps, af, g⟩).run Try.prog X = .ok (.value (.pointer (some ⟨B, o + 5, none⟩))) X := by
  simp only [execOp, e]
  go_simp
theorem op_f35_4 {x : Operand} {B o : Nat} (e : ρ x = .pointer (some ⟨B, o, none⟩)) : (execOp ρ ⟨d, .fieldAddr 35 x 4, ty, ps, af, g⟩).run Try.prog X = .ok (.value (.pointer (some ⟨B, o + 7, none⟩))) X := by
  simp only [execOp, e]
  go_simp
theorem op_neq3 {x y : Operand} {n : Int} (e : ρ x = .int .i64 n) (e2 : ρ y = .int .i64 n) : (execOp ρ ⟨d, .binOp .neq 3 x y 3, ty, ps, af, g⟩).run Try.prog X = .ok (.value (.bool false)) X := by
  simp only [execOp, e, e2]
  go_simp
theorem op_eql3 {x y : Operand} {n : Int} (e : ρ x = .int .i64 n) (e2 : ρ y = .int .i64 n) : (execOp ρ ⟨d, .binOp .eql 3 x y 3, ty, ps, af, g⟩).run Try.prog X = .ok (.value (.bool true)) X := by
  simp only [execOp, e, e2]
  go_simp
theorem call10 {v u x : Value} : Sem.run Try.prog (callFunc 10 #[v, u, x]) X = .ok (.enter 10 #[v, u, x]) X := by go_simp
theorem call11 {v u x : Value} : Sem.run Try.prog (callFunc 11 #[v, u, x]) X = .ok (.enter 11 #[v, u, x]) X := by go_simp
theorem call13 {v u : Value} : Sem.run Try.prog (callFunc 13 #[v, u]) X = .ok (.enter 13 #[v, u]) X := by go_simp
theorem call14 {v u x : Value} : Sem.run Try.prog (callFunc 14 #[v, u, x]) X = .ok (.enter 14 #[v, u, x]) X := by go_simp
theorem call15 {v u : Value} : Sem.run Try.prog (callFunc 15 #[v, u]) X = .ok (.enter 15 #[v, u]) X := by go_simp
theorem call16 {v u : Value} : Sem.run Try.prog (callFunc 16 #[v, u]) X = .ok (.enter 16 #[v, u]) X := by go_simp
end
abbrev ocZ (o : Oc) : Obj := .cells #[.int .i64 o.kind, .string o.key, .int .i64 o.v.ts, .string o.v.val, .bool o.v.dead, .string o.x, .string o.y, .int .i64 o.t] 35 (0, 0)
/-- Where the two Puts stand. -/
def G7 (V0 : World) (A E n Z : Nat) (S T : Nat → Prop) (D : List On) (lv : Value) (q : Oc) (d e : Bool) (X : World) : Prop :=
  X.heap[Z]? = some (ocZ q) ∧ (d = false → Both V0 X A E n S T (rowsOf D) D lv) ∧ (d = true → e = false → ∃ S', Both V0 X A E (n + 1) S' T (putR (rowsOf D) q.key q.v) D lv) ∧ (e = true → ∃ S' T' lv', Both V0 X A E (n + 1) S' T' (rowsOf (putD D q.key q.v)) (putD D q.key q.v) lv')
section
variable {V0 X X' : World} {A E n Z : Nat} {S T : Nat → Prop} {D : List On} {lv : Value} {q : Oc} {e : Ending}
theorem G7.one (h : G7 V0 A E n Z S T D lv q false false X) (hZ : ¬ S Z) (hp : PutAns X A S (rowsOf D) q.key q.v e X') : G7 V0 A E n Z S T D lv q true false X' := by
  have hb := h.2.1 rfl
  refine ⟨?_, fun z => (by cases z), fun _ _ => hb.put1 hp, fun z => (by cases z)⟩
  obtain ⟨_, S', _, _, hf⟩ := hp
  exact (hf.block Z (blk_lt h.1) hZ).trans h.1
theorem G7.two (h : G7 V0 A E n Z S T D lv q true false X) (hl : D.length ≤ n) (hk : q.key.size ≤ maxLen) (hZ : ¬ T Z) (hp : PutDAns X E T D q.key q.v e X') : G7 V0 A E n Z S T D lv q true true X' := by
  obtain ⟨S', hb⟩ := h.2.2.1 rfl rfl
  refine ⟨?_, fun z => (by cases z), fun _ z => (by cases z), fun _ => ?_⟩
  · obtain ⟨_, T', lv', _, _, hf⟩ := hp
    exact (hf.block Z (blk_lt h.1) hZ).trans h.1
  · obtain ⟨T', lv', hb'⟩ := hb.put2 hl hk hp
    refine ⟨S', T', lv', ?_⟩
    rw [putD_is]
    exact hb'
end
section
variable {w : World} {L : List Oc} {ad : Option Addr} {cap : Nat}
set_option maxHeartbeats 32000000 in
set_option maxRecDepth 100000 in
theorem plays_law (hL : Lo w L ad) (hm : cap ≤ maxLen) (hc : L.length ≤ cap) :
    Calls Try.prog 3 #[.slice ad L.length cap] w fun e w' => e = .returned (.bool true) ∧ Below w.heap.size w w' := by
  have hml : (L.length : Int) ≤ 9223372036854775807 := by unfold maxLen at hm; omega
  have HL := Lib.hid hL
  clear hL hm hc
  go_enter Try.func3, Try.ntmps3
  go_wp2_with fail
  refine (awake_any w).mono ?_
  rintro e w1 ⟨rfl, b1⟩
  have HB1 := Lib.hid b1
  by_cases h1 : (120 : Int) < L.length
  · go_wp2_with fail
    refine (awake_any w1).mono ?_
    rintro e w2 ⟨rfl, b2⟩
    go_wp2
    go_ret
    exact ⟨rfl, HB1.out.trans (b2.mono HB1.out.size)⟩
  clear b1
  go_wp2_with fail
  refine (Pj.new w1).mono ?_
  rintro e w2 ⟨rfl, h0⟩
  obtain ⟨A, hA⟩ : ∃ A, w1.heap.size = A := ⟨_, rfl⟩
  rw [hA] at h0 ⊢
  obtain ⟨W3, hW3⟩ : ∃ W3, W3 = w2.alloc (.cells #[.slice none 0 0] 29) := ⟨_, rfl⟩
  obtain ⟨E, hE⟩ : ∃ E, w2.heap.size = E := ⟨_, rfl⟩
  have b3 : Below w2.heap.size w2 W3 := by rw [hW3]; exact (Below.refl _ w2).alloc (Nat.le_refl _) _
  have jE : W3.heap[E]? = some (.cells #[.slice none 0 0] 29 (0, 0)) := by rw [hW3, ← hE]; exact heap_alloc_new w2 _
  have H0 : Hid (Both w1 W3 A E 0 (fun k => k = A) (fun k => k = E) (rowsOf []) [] (.slice none 0 0)) :=
    ⟨h0.on b3, ⟨jE, World.ownsRow_nil _ _ _ _, fun k => ⟨.inl, fun q => q.elim id (fun z => by cases z)⟩⟩, Nat.le_refl _, fun p hp => (by cases hp), fun j q q' => (by
      have q1 : j = A := q
      have q2 : j = E := q'
      have q3 := h0.sb.lt A rfl
      omega), fun j q => (by
      have q2 : j = E := q
      have q3 := h0.bel.size
      omega)⟩
  have HW3 := Lib.hid hW3
  have HE := Lib.hid hE
  clear h0 hA hW3 hE b3 jE
  go_upto_region 4 with fail
  rw [← HW3.out, HE.out]
  go_wp2
  go_loopw [24] (fun iv wr => ∃ (k : Nat) (S T : Nat → Prop) (D : List On) (lv : Value), k ≤ L.length ∧ iv = .int .i64 (k : Int) ∧ Both w1 wr A E k S T (rowsOf D) D lv) (fun iv _ => L.length - (intOf iv).toNat)
  case atStart => exact ⟨0, _, _, [], _, Nat.zero_le _, rfl, H0.out⟩
  case round =>
    clear H0 HW3
    obtain ⟨k, S, T, D, lv, hk, rfl, hP⟩ := hrel
    obtain ⟨V, rfl⟩ : ∃ V, V = wr := ⟨_, rfl⟩
    have bV : Below w.heap.size w V := HB1.out.trans (hP.pj.bel.mono HB1.out.size)
    by_cases hlt : k < L.length
    · obtain ⟨bk, ok, rfl, _, c0, c1, c2, c3, c4, c5, c6, c7⟩ := (HL.out.on bV).at' k hlt
      have k0 : (0 : Int) ≤ k := by omega
      have k1 : (k : Int) < L.length := by omega
      obtain ⟨q, hq⟩ : ∃ q, L[k] = q := ⟨_, rfl⟩
      have HSZ : Hid q.Sz := by rw [← hq]; exact HL.out.sz _ (List.getElem_mem hlt)
      rw [hq] at c0 c1 c2 c3 c4 c5 c6 c7
      obtain ⟨V2, hV2⟩ : ∃ V2, V2 = V.alloc (.cells #[.int .i64 q.kind, .string q.key, .int .i64 q.v.ts, .string q.v.val, .bool q.v.dead, .string q.x, .string q.y, .int .i64 q.t] 35) := ⟨_, rfl⟩
      obtain ⟨Z, hZ⟩ : ∃ Z, V.heap.size = Z := ⟨_, rfl⟩
      have b2 : Below V.heap.size V V2 := by rw [hV2]; exact (Below.refl _ V).alloc (Nat.le_refl _) _
      have jZ : V2.heap[Z]? = some (ocZ q) := by rw [hV2, ← hZ]; exact heap_alloc_new V _
      have hP2 := hP.on b2
      have hSZ : ¬ S Z := fun z => by have := hP.pj.sb.lt Z z; omega
      have hTZ : ¬ T Z := fun z => by have := hP.rs.lt Z z; omega
      have HP2 := Lib.hid hP2
      have HJZ := Lib.hid jZ
      have HV2 := Lib.hid hV2
      have HZ := Lib.hid hZ
      clear hP bV hV2 hZ b2 jZ hP2 hq
      go_upto_region 7 with fail
      rw [← HV2.out, HZ.out]
      go_cut [45] (fun v wx => v = .bool false ∧ wx.heap[Z]? = some (ocZ q) ∧ ∃ S T D lv, Both w1 wx A E (k + 1) S T (rowsOf D) D lv)
      case first =>
        by_cases hkd : q.kind = 1
        · have hG0 : G7 w1 A E k Z S T D lv q false false V2.drew := ⟨HJZ.out, fun _ => HP2.out.on ⟨rfl, rfl, rfl, Nat.le_refl _, fun _ _ => rfl⟩, fun z => (by cases z), fun z => (by cases z)⟩
          refine wp_region_g2 9 15 (G7 w1 A E k Z S T D lv q) [
            fun v _ => v = .pointer (some ⟨Z, 0, none⟩),
            fun v _ => v = .int .i64 1,
            fun v _ => v = .bool true,
            fun v _ => v = .bool true,
            fun v _ => v = .pointer (some ⟨A, 0, none⟩),
            fun v _ => v = .pointer (some ⟨Z, 1, none⟩),
            fun v _ => v = .string q.key,
            fun v _ => v = .pointer (some ⟨Z, 2, none⟩),
            fun v _ => v = .agg #[.int .i64 q.v.ts, .string q.v.val, .bool q.v.dead],
            fun v _ => v = .int .i64 (putDE D q.key q.v),
            fun v _ => v = .pointer (some ⟨E, 0, none⟩),
            fun v _ => v = .pointer (some ⟨Z, 1, none⟩),
            fun v _ => v = .string q.key,
            fun v _ => v = .pointer (some ⟨Z, 2, none⟩),
            fun v _ => v = .agg #[.int .i64 q.v.ts, .string q.v.val, .bool q.v.dead],
            fun v _ => v = .int .i64 (putDE D q.key q.v),
            fun v _ => v = .bool false,
            fun v _ => v = .bool false]
            (by decide) (fun o h => by cases h; rfl) (by decide) (by decide) (by kernel_rfl) (by kernel_rfl) (by kernel_rfl) ?st hG0 ?os ?en
          case st => exact ⟨fun _ _ _ _ h => h, fun _ _ _ _ h => h, fun _ _ _ _ h => h, fun _ _ _ _ h => h, fun _ _ _ _ h => h, fun _ _ _ _ h => h, fun _ _ _ _ h => h, fun _ _ _ _ h => h, fun _ _ _ _ h => h, fun _ _ _ _ h => h, fun _ _ _ _ h => h, fun _ _ _ _ h => h, fun _ _ _ _ h => h, fun _ _ _ _ h => h, fun _ _ _ _ h => h, fun _ _ _ _ h => h, fun _ _ _ _ h => h, fun _ _ _ _ h => h, trivial⟩
          case os =>
            refine ⟨?_, ?_, ?_, ?_, ?_, ?_, ?_, ?_, ?_, ?_, ?_, ?_, ?_, ?_, ?_, ?_, ?_, ?_, trivial⟩
            · exact fun ρ X9 d e hd1 hd2 hg ho hc hf hr => .inl ⟨rfl, Runs.val _ (op_f35_0 (show ρ (.tmp 6) = .pointer (some ⟨Z, 0, none⟩) from ho 6 rfl)) ⟨hg, rfl⟩⟩
            · exact fun ρ X9 d e hd1 hd2 hg ho hc hf hr => .inl ⟨rfl, Runs.val _ (op_load3 (show ρ (.tmp 28) = .pointer (some ⟨Z, 0, none⟩) from hr 0 28 rfl rfl) ((cell_blk hg.1 0).trans (by rw [← hkd]; rfl))) ⟨hg, rfl⟩⟩
            · exact fun ρ X9 d e hd1 hd2 hg ho hc hf hr => .inl ⟨rfl, Runs.val _ (op_eql3 (show ρ (.tmp 29) = .int .i64 1 from hr 1 29 rfl rfl) (hc _)) ⟨hg, rfl⟩⟩
            · exact fun ρ X9 d e hd1 hd2 hg ho hc hf hr => .inl ⟨rfl, Runs.val _ (op_move (show ρ (.tmp 30) = .bool true from hr 2 30 rfl rfl)) ⟨hg, rfl⟩⟩
            · exact fun ρ X9 d e hd1 hd2 hg ho hc hf hr => .inr ⟨3, 31, true, fun _ => rfl, rfl, hr 3 31 rfl rfl, Runs.val _ (op_move (show ρ (.tmp 3) = .pointer (some ⟨A, 0, none⟩) from ho 3 rfl)) ⟨hg, rfl⟩⟩
            · exact fun ρ X9 d e hd1 hd2 hg ho hc hf hr => .inr ⟨3, 31, true, fun _ => rfl, rfl, hr 3 31 rfl rfl, Runs.val _ (op_f35_1 (show ρ (.tmp 6) = .pointer (some ⟨Z, 0, none⟩) from ho 6 rfl)) ⟨hg, rfl⟩⟩
            · exact fun ρ X9 d e hd1 hd2 hg ho hc hf hr => .inr ⟨3, 31, true, fun _ => rfl, rfl, hr 3 31 rfl rfl, Runs.val _ (op_load9 (show ρ (.tmp 33) = .pointer (some ⟨Z, 1, none⟩) from hr 5 33 rfl rfl) (cell_blk hg.1 1)) ⟨hg, rfl⟩⟩
            · exact fun ρ X9 d e hd1 hd2 hg ho hc hf hr => .inr ⟨3, 31, true, fun _ => rfl, rfl, hr 3 31 rfl rfl, Runs.val _ (op_f35_2 (show ρ (.tmp 6) = .pointer (some ⟨Z, 0, none⟩) from ho 6 rfl)) ⟨hg, rfl⟩⟩
            · exact fun ρ X9 d e hd1 hd2 hg ho hc hf hr => .inr ⟨3, 31, true, fun _ => rfl, rfl, hr 3 31 rfl rfl, Runs.val _ (op_load31 (show ρ (.tmp 35) = .pointer (some ⟨Z, 2, none⟩) from hr 7 35 rfl rfl) (cell_blk hg.1 2) (cell_blk hg.1 3) (cell_blk hg.1 4)) ⟨hg, rfl⟩⟩
            · intro ρ X9 d e hd1 hd2 hg ho hc hf hr
              obtain ⟨rfl, rfl⟩ := hd1 rfl
              have hb := hg.2.1 rfl
              refine .inr ⟨3, 31, true, fun _ => rfl, rfl, hr 3 31 rfl rfl, Runs.goes 10 _ (op_call3 hf call10 (show ρ (.tmp 32) = .pointer (some ⟨A, 0, none⟩) from hr 4 32 rfl rfl) (show ρ (.tmp 34) = .string q.key from hr 6 34 rfl rfl) (show ρ (.tmp 36) = .agg #[.int .i64 q.v.ts, .string q.v.val, .bool q.v.dead] from hr 8 36 rfl rfl)) ((hb.pj.call (by omega) q.key q.v).mono fun e9 w' hans => ?_)⟩
              have he := hans.1
              rw [putDE_is] at he
              exact ⟨_, he, hg.one hSZ hans, rfl⟩
            · exact fun ρ X9 d e hd1 hd2 hg ho hc hf hr => .inr ⟨3, 31, true, fun _ => rfl, rfl, hr 3 31 rfl rfl, Runs.val _ (op_move (show ρ (.tmp 4) = .pointer (some ⟨E, 0, none⟩) from ho 4 rfl)) ⟨hg, rfl⟩⟩
            · exact fun ρ X9 d e hd1 hd2 hg ho hc hf hr => .inr ⟨3, 31, true, fun _ => rfl, rfl, hr 3 31 rfl rfl, Runs.val _ (op_f35_1 (show ρ (.tmp 6) = .pointer (some ⟨Z, 0, none⟩) from ho 6 rfl)) ⟨hg, rfl⟩⟩
            · exact fun ρ X9 d e hd1 hd2 hg ho hc hf hr => .inr ⟨3, 31, true, fun _ => rfl, rfl, hr 3 31 rfl rfl, Runs.val _ (op_load9 (show ρ (.tmp 39) = .pointer (some ⟨Z, 1, none⟩) from hr 11 39 rfl rfl) (cell_blk hg.1 1)) ⟨hg, rfl⟩⟩
            · exact fun ρ X9 d e hd1 hd2 hg ho hc hf hr => .inr ⟨3, 31, true, fun _ => rfl, rfl, hr 3 31 rfl rfl, Runs.val _ (op_f35_2 (show ρ (.tmp 6) = .pointer (some ⟨Z, 0, none⟩) from ho 6 rfl)) ⟨hg, rfl⟩⟩
            · exact fun ρ X9 d e hd1 hd2 hg ho hc hf hr => .inr ⟨3, 31, true, fun _ => rfl, rfl, hr 3 31 rfl rfl, Runs.val _ (op_load31 (show ρ (.tmp 41) = .pointer (some ⟨Z, 2, none⟩) from hr 13 41 rfl rfl) (cell_blk hg.1 2) (cell_blk hg.1 3) (cell_blk hg.1 4)) ⟨hg, rfl⟩⟩
            · intro ρ X9 d e hd1 hd2 hg ho hc hf hr
              obtain ⟨rfl, rfl⟩ := hd2 rfl
              obtain ⟨S', hb⟩ := hg.2.2.1 rfl rfl
              refine .inr ⟨3, 31, true, fun _ => rfl, rfl, hr 3 31 rfl rfl, Runs.goes 11 _ (op_call3 hf call11 (show ρ (.tmp 38) = .pointer (some ⟨E, 0, none⟩) from hr 10 38 rfl rfl) (show ρ (.tmp 40) = .string q.key from hr 12 40 rfl rfl) (show ρ (.tmp 42) = .agg #[.int .i64 q.v.ts, .string q.v.val, .bool q.v.dead] from hr 14 42 rfl rfl)) ((put_r hb.rs q.key q.v (by have := HP2.out.len; omega)).mono fun e9 w' hans => ?_)⟩
              exact ⟨_, hans.1, hg.two HP2.out.len HSZ.out.key hTZ hans, rfl⟩
            · exact fun ρ X9 d e hd1 hd2 hg ho hc hf hr => .inr ⟨3, 31, true, fun _ => rfl, rfl, hr 3 31 rfl rfl, Runs.val _ (op_neq3 (show ρ (.tmp 37) = .int .i64 (putDE D q.key q.v) from hr 9 37 rfl rfl) (show ρ (.tmp 43) = .int .i64 (putDE D q.key q.v) from hr 15 43 rfl rfl)) ⟨hg, rfl⟩⟩
            · exact fun ρ X9 d e hd1 hd2 hg ho hc hf hr => .inl ⟨rfl, Runs.val _ (op_pick (show ρ (.tmp 31) = .bool true from hr 3 31 rfl rfl) (show ρ (.tmp 44) = .bool false from hr 16 44 rfl rfl)) ⟨hg, rfl⟩⟩
          case en =>
            intro a9 X9 hg hs hd ho hr
            obtain ⟨x9, hx, hxt⟩ := act_put hs hd ho
            have x45 : x9 45 = .bool false := (hxt 45).symm.trans (hr 17 45 rfl)
            change a9 = putAll _ x9 [28, 29, 30, 31, 32, 33, 34, 35, 36, 37, 38, 39, 40, 41, 42, 43, 44, 45] at hx
            simp only [putAll, Act.put, List.setIfInBounds_toArray, List.set_cons_zero, List.set_cons_succ, x45] at hx
            have HG := Lib.hid hg
            clear hg hs hd ho hr hxt x45 hG0
            subst hx
            generalize x9 28 = z28, x9 29 = z29, x9 30 = z30, x9 31 = z31, x9 32 = z32, x9 33 = z33, x9 34 = z34, x9 35 = z35, x9 36 = z36, x9 37 = z37, x9 38 = z38, x9 39 = z39, x9 40 = z40, x9 41 = z41, x9 42 = z42, x9 43 = z43, x9 44 = z44
            go_wp2_with fail
            go_meet
            obtain ⟨S', T', lv', hb⟩ := HG.out.2.2.2 rfl
            exact ⟨rfl, HG.out.1, S', T', _, lv', hb⟩
        · have hd : decide (q.kind = 1) = false := decide_eq_false hkd
          have hd2 : (q.kind == 1) = false := by simp [hkd]
          have m0 : V2.cell? ⟨Z, 0, none⟩ = some (.int .i64 q.kind) := cell_blk HJZ.out 0
          go_quiet (fail)
          have HBq := Lib.hid (below_draw (Below.refl V2.heap.size V2) nq)
          go_wp2_with fail
          go_meet
          exact ⟨rfl, (HBq.out.block Z (blk_lt HJZ.out)).trans HJZ.out, S, T, D, lv, (HP2.out.on HBq.out).more⟩
      case rest =>
        obtain ⟨rfl, jZ, S1, T1, D1, lv1', hP⟩ := hcut
        clear HP2 HJZ HV2 hSZ hTZ
        obtain ⟨V3, rfl⟩ : ∃ V3, V3 = wc := ⟨_, rfl⟩
        have n5 : V3.cell? ⟨Z, 5, none⟩ = some (.string q.x) := cell_blk jZ 5
        have n6 : V3.cell? ⟨Z, 6, none⟩ = some (.string q.y) := cell_blk jZ 6
        have n7 : V3.cell? ⟨Z, 7, none⟩ = some (.int .i64 q.t) := cell_blk jZ 7
        have hsp := span_b hP.pj.sb q.x q.y q.t
        obtain ⟨H, hH⟩ : ∃ H, span (rowsOf D1) q.x q.y q.t = H := ⟨_, rfl⟩
        rw [hH] at hsp
        have HH := Lib.hid hH
        have HP3 := Lib.hid hP
        have HJ3 := Lib.hid jZ
        clear hH hP jZ
        go_wp2_with fail
        refine hsp.mono ?_
        rintro e w4 ⟨a4, p4, rfl, o4, b4⟩
        have HO4 := Lib.hid o4
        have HP4 := Lib.hid (HP3.out.on b4)
        have jZ4 : w4.heap[Z]? = some (ocZ q) := (b4.block Z (blk_lt HJ3.out)).trans HJ3.out
        have l1 : w4.cell? ⟨Z, 1, none⟩ = some (.string q.key) := cell_blk jZ4 1
        have l5 : w4.cell? ⟨Z, 5, none⟩ = some (.string q.x) := cell_blk jZ4 5
        have l6 : w4.cell? ⟨Z, 6, none⟩ = some (.string q.y) := cell_blk jZ4 6
        have l7 : w4.cell? ⟨Z, 7, none⟩ = some (.int .i64 q.t) := cell_blk jZ4 7
        have HA4 : Hid (∀ j, (Value.slice a4 H.length p4).ownBlock = some j → ¬ S1 j ∧ ¬ T1 j ∧ w1.heap.size ≤ j) := fun j z => by
          have z1 := own_ge0 o4 j z
          exact ⟨fun z2 => by have := HP3.out.pj.sb.lt j z2; omega, fun z2 => by have := HP3.out.rs.lt j z2; omega, Nat.le_trans HP3.out.pj.bel.size z1⟩
        clear hsp o4 b4 n5 n6 n7 jZ4
        go_upto_region 10 with fail
        refine wp_region_gd (fun X9 => Below w4.heap.size w4 X9) (fun X9 X' => Below X9.heap.size X9 X') [
          fun v _ => v = (.slice a4 H.length p4),
          fun v _ => v = .pointer (some ⟨E, 0, none⟩),
          fun v _ => v = .pointer (some ⟨Z, 5, none⟩),
          fun v _ => v = .agg #[.string q.x, .string q.y],
          fun v _ => v = .pointer (some ⟨Z, 7, none⟩),
          fun v _ => v = .int .i64 q.t,
          fun v X9 => ∃ ad9 cap9, v = .slice ad9 H.length cap9 ∧ X9.ownsRow w4.heap.size 44 3 v H.length (hiC H),
          fun v _ => v = .bool true,
          fun v _ => v = .bool false,
          fun v _ => v = .bool false,
          fun v _ => v = .pointer (some ⟨A, 0, none⟩),
          fun v _ => v = .pointer (some ⟨Z, 1, none⟩),
          fun v _ => v = .string q.key,
          fun v _ => v = .int .i64 (newD D1 q.key),
          fun v _ => v = .pointer (some ⟨E, 0, none⟩),
          fun v _ => v = .pointer (some ⟨Z, 1, none⟩),
          fun v _ => v = .string q.key,
          fun v _ => v = .int .i64 (newD D1 q.key),
          fun v _ => v = .bool false,
          fun v _ => v = .bool false]
          (by kernel_rfl) (by kernel_rfl) (by kernel_rfl) ?st ?g0 ?os ?en
        case st => exact ⟨fun _ _ _ _ h => h, fun _ _ _ _ h => h, fun _ _ _ _ h => h, fun _ _ _ _ h => h, fun _ _ _ _ h => h, fun _ _ _ _ h => h, fun _ _ _ hs ⟨x1, x2, e, z1⟩ => ⟨x1, x2, e, own_below z1 hs⟩, fun _ _ _ _ h => h, fun _ _ _ _ h => h, fun _ _ _ _ h => h, fun _ _ _ _ h => h, fun _ _ _ _ h => h, fun _ _ _ _ h => h, fun _ _ _ _ h => h, fun _ _ _ _ h => h, fun _ _ _ _ h => h, fun _ _ _ _ h => h, fun _ _ _ _ h => h, fun _ _ _ _ h => h, fun _ _ _ _ h => h, trivial⟩
        case g0 => exact ⟨rfl, rfl, rfl, Nat.le_refl _, fun _ _ => rfl⟩
        case os =>
          refine ⟨?_, ?_, ?_, ?_, ?_, ?_, ?_, ?_, ?_, ?_, ?_, ?_, ?_, ?_, ?_, ?_, ?_, ?_, ?_, ?_, trivial⟩
          · exact fun ρ X9 hg ho hc hf hr => .inl ⟨rfl, Runs.val _ (op_move (show ρ (.tmp 7) = (.slice a4 H.length p4) from ho 7 rfl)) ⟨hg, Below.refl _ _, rfl⟩⟩
          · exact fun ρ X9 hg ho hc hf hr => .inl ⟨rfl, Runs.val _ (op_move (show ρ (.tmp 4) = .pointer (some ⟨E, 0, none⟩) from ho 4 rfl)) ⟨hg, Below.refl _ _, rfl⟩⟩
          · exact fun ρ X9 hg ho hc hf hr => .inl ⟨rfl, Runs.val _ (op_f35_3 (show ρ (.tmp 6) = .pointer (some ⟨Z, 0, none⟩) from ho 6 rfl)) ⟨hg, Below.refl _ _, rfl⟩⟩
          · exact fun ρ X9 hg ho hc hf hr => .inl ⟨rfl, Runs.val _ (op_load33 (show ρ (.tmp 54) = .pointer (some ⟨Z, 5, none⟩) from hr 2 54 rfl rfl) (cell_on hg l5) (cell_on hg l6)) ⟨hg, Below.refl _ _, rfl⟩⟩
          · exact fun ρ X9 hg ho hc hf hr => .inl ⟨rfl, Runs.val _ (op_f35_4 (show ρ (.tmp 6) = .pointer (some ⟨Z, 0, none⟩) from ho 6 rfl)) ⟨hg, Below.refl _ _, rfl⟩⟩
          · exact fun ρ X9 hg ho hc hf hr => .inl ⟨rfl, Runs.val _ (op_load3 (show ρ (.tmp 56) = .pointer (some ⟨Z, 7, none⟩) from hr 4 56 rfl rfl) (cell_on hg l7)) ⟨hg, Below.refl _ _, rfl⟩⟩
          · intro ρ X9 hg ho hc hf hr
            refine .inl ⟨rfl, Runs.goes 14 _ (op_call3 hf call14 (show ρ (.tmp 53) = .pointer (some ⟨E, 0, none⟩) from hr 1 53 rfl rfl) (show ρ (.tmp 55) = .agg #[.string q.x, .string q.y] from hr 3 55 rfl rfl) (show ρ (.tmp 57) = .int .i64 q.t from hr 5 57 rfl rfl)) ((span_r (HP4.out.on hg).rs HP4.out.sz (by have := HP4.out.len; omega) q.x q.y HSZ.out.x HSZ.out.y q.t).mono fun e9 w' hans => ?_)⟩
            rw [HH.out] at hans
            obtain ⟨ad9, cap9, he, ho9, hb9⟩ := hans
            exact ⟨_, he, hg.trans (hb9.mono hg.size), hb9, ad9, cap9, rfl, own_mono ho9 hg.size⟩
          · intro ρ X9 hg ho hc hf hr
            obtain ⟨ad9, cap9, e9, ho9⟩ : ∃ ad9 cap9, (ρ (.tmp 58)) = .slice ad9 H.length cap9 ∧ X9.ownsRow w4.heap.size 44 3 (ρ (.tmp 58)) H.length (hiC H) := hr 6 58 rfl rfl
            rw [e9] at ho9
            exact .inl ⟨rfl, Runs.goes 13 _ (op_call2 hf call13 (show ρ (.tmp 52) = (.slice a4 H.length p4) from hr 0 52 rfl rfl) e9) ((same_hits (hi_own (own_below HO4.out hg)) (hi_own ho9)).mono fun e9 w' ⟨he, hb9⟩ => ⟨_, he, hg.trans (hb9.mono hg.size), hb9, rfl⟩)⟩
          · exact fun ρ X9 hg ho hc hf hr => .inl ⟨rfl, Runs.val _ (op_not (show ρ (.tmp 59) = .bool true from hr 7 59 rfl rfl)) ⟨hg, Below.refl _ _, rfl⟩⟩
          · exact fun ρ X9 hg ho hc hf hr => .inl ⟨rfl, Runs.val _ (op_move (show ρ (.tmp 60) = .bool false from hr 8 60 rfl rfl)) ⟨hg, Below.refl _ _, rfl⟩⟩
          · exact fun ρ X9 hg ho hc hf hr => .inr (.inl ⟨9, 61, false, fun _ => rfl, rfl, hr 9 61 rfl rfl, Runs.val _ (op_move (show ρ (.tmp 3) = .pointer (some ⟨A, 0, none⟩) from ho 3 rfl)) ⟨hg, Below.refl _ _, rfl⟩⟩)
          · exact fun ρ X9 hg ho hc hf hr => .inr (.inl ⟨9, 61, false, fun _ => rfl, rfl, hr 9 61 rfl rfl, Runs.val _ (op_f35_1 (show ρ (.tmp 6) = .pointer (some ⟨Z, 0, none⟩) from ho 6 rfl)) ⟨hg, Below.refl _ _, rfl⟩⟩)
          · exact fun ρ X9 hg ho hc hf hr => .inr (.inl ⟨9, 61, false, fun _ => rfl, rfl, hr 9 61 rfl rfl, Runs.val _ (op_load9 (show ρ (.tmp 63) = .pointer (some ⟨Z, 1, none⟩) from hr 11 63 rfl rfl) (cell_on hg l1)) ⟨hg, Below.refl _ _, rfl⟩⟩)
          · intro ρ X9 hg ho hc hf hr
            refine .inr (.inl ⟨9, 61, false, fun _ => rfl, rfl, hr 9 61 rfl rfl, Runs.goes 15 _ (op_call2 hf call15 (show ρ (.tmp 62) = .pointer (some ⟨A, 0, none⟩) from hr 10 62 rfl rfl) (show ρ (.tmp 64) = .string q.key from hr 12 64 rfl rfl)) ((newest_b (HP4.out.on hg).pj.sb q.key).mono fun e9 w' hans => ?_)⟩)
            obtain ⟨he, hb9⟩ := hans
            rw [newD_is] at he
            exact ⟨_, he, hg.trans (hb9.mono hg.size), hb9, rfl⟩
          · exact fun ρ X9 hg ho hc hf hr => .inr (.inl ⟨9, 61, false, fun _ => rfl, rfl, hr 9 61 rfl rfl, Runs.val _ (op_move (show ρ (.tmp 4) = .pointer (some ⟨E, 0, none⟩) from ho 4 rfl)) ⟨hg, Below.refl _ _, rfl⟩⟩)
          · exact fun ρ X9 hg ho hc hf hr => .inr (.inl ⟨9, 61, false, fun _ => rfl, rfl, hr 9 61 rfl rfl, Runs.val _ (op_f35_1 (show ρ (.tmp 6) = .pointer (some ⟨Z, 0, none⟩) from ho 6 rfl)) ⟨hg, Below.refl _ _, rfl⟩⟩)
          · exact fun ρ X9 hg ho hc hf hr => .inr (.inl ⟨9, 61, false, fun _ => rfl, rfl, hr 9 61 rfl rfl, Runs.val _ (op_load9 (show ρ (.tmp 67) = .pointer (some ⟨Z, 1, none⟩) from hr 15 67 rfl rfl) (cell_on hg l1)) ⟨hg, Below.refl _ _, rfl⟩⟩)
          · intro ρ X9 hg ho hc hf hr
            refine .inr (.inl ⟨9, 61, false, fun _ => rfl, rfl, hr 9 61 rfl rfl, Runs.goes 16 _ (op_call2 hf call16 (show ρ (.tmp 66) = .pointer (some ⟨E, 0, none⟩) from hr 14 66 rfl rfl) (show ρ (.tmp 68) = .string q.key from hr 16 68 rfl rfl)) ((newest_r (HP4.out.on hg).rs q.key).mono fun e9 w' hans => ?_)⟩)
            obtain ⟨he, hw9⟩ := hans
            subst hw9
            exact ⟨_, he, hg, Below.refl _ _, rfl⟩
          · exact fun ρ X9 hg ho hc hf hr => .inr (.inl ⟨9, 61, false, fun _ => rfl, rfl, hr 9 61 rfl rfl, Runs.val _ (op_neq3 (show ρ (.tmp 65) = .int .i64 (newD D1 q.key) from hr 13 65 rfl rfl) (show ρ (.tmp 69) = .int .i64 (newD D1 q.key) from hr 17 69 rfl rfl)) ⟨hg, Below.refl _ _, rfl⟩⟩)
          · exact fun ρ X9 hg ho hc hf hr => .inl ⟨rfl, Runs.val _ (op_pick (show ρ (.tmp 61) = .bool false from hr 9 61 rfl rfl) (show ρ (.tmp 70) = .bool false from hr 18 70 rfl rfl)) ⟨hg, Below.refl _ _, rfl⟩⟩
        case en =>
          intro a9 X5 hg hs hd ho hr
          obtain ⟨x9, hx, hxt⟩ := act_put hs hd ho
          have x71 : x9 71 = .bool false := (hxt 71).symm.trans (hr 19 71 rfl)
          change a9 = putAll _ x9 [52, 53, 54, 55, 56, 57, 58, 59, 60, 61, 62, 63, 64, 65, 66, 67, 68, 69, 70, 71] at hx
          simp only [putAll, Act.put, List.setIfInBounds_toArray, List.set_cons_zero, List.set_cons_succ, x71] at hx
          have HP5 := Lib.hid (HP4.out.on hg)
          have hO5 := own_below HO4.out hg
          have hC5 : ∀ j, (Value.slice a4 H.length p4).ownBlock = some j → ∃ cs, X5.heap[j]? = some (.cells cs 44 (0, 0)) ∧ H.length * 3 ≤ cs.size := fun j z => by
            rcases hO5.2 with ⟨hv, _⟩ | ⟨g, cap', cur, hv, _, hc, h1, h2, h3, h4⟩
            · rw [hv] at z; cases z
            · cases hv
              cases z
              exact ⟨cur, hc, by rw [h3]; omega⟩
          have hS5 : ∀ i, i < H.length → ∃ g, a4 = some ⟨g, 0, none⟩ := fun i hi => by
            rcases hO5.2 with ⟨hv, h0⟩ | ⟨g, cap', cur, hv, _⟩
            · omega
            · cases hv
              exact ⟨g, rfl⟩
          have hmh : (H.length : Int) ≤ 9223372036854775807 := by
            rcases hO5.2 with ⟨hv, h0⟩ | ⟨g, cap', cur, hv, _, hc, h1, h2, h3, h4⟩
            · omega
            · cases hv
              unfold maxLen at h2
              omega
          have HC5 := Lib.hid hC5
          have HS5 := Lib.hid hS5
          clear hg hs hd ho hr hxt x71 l1 l5 l6 l7 hO5 hC5 hS5 HP4 HO4 HP3 HJ3
          subst hx
          generalize x9 52 = z52, x9 53 = z53, x9 54 = z54, x9 55 = z55, x9 56 = z56, x9 57 = z57, x9 58 = z58, x9 59 = z59, x9 60 = z60, x9 61 = z61, x9 62 = z62, x9 63 = z63, x9 64 = z64, x9 65 = z65, x9 66 = z66, x9 67 = z67, x9 68 = z68, x9 69 = z69, x9 70 = z70
          go_wp2
          go_loopw [74] (fun iv wr => ∃ i : Nat, i ≤ H.length ∧ iv = .int .i64 (i : Int) ∧ Fr X5 wr (fun b => (Value.slice a4 H.length p4).ownBlock = some b) ∧ ∀ j, (Value.slice a4 H.length p4).ownBlock = some j → ∃ cs, wr.heap[j]? = some (.cells cs 44 (0, 0)) ∧ H.length * 3 ≤ cs.size) (fun iv _ => H.length - (intOf iv).toNat)
          case atStart => exact ⟨0, Nat.zero_le _, rfl, Fr.refl _ _, HC5.out⟩
          case round =>
            clear HC5
            obtain ⟨i, hi, rfl, hF, hC⟩ := hrel
            obtain ⟨Y1, rfl⟩ : ∃ Y1, Y1 = wr := ⟨_, rfl⟩
            by_cases hli : i < H.length
            · obtain ⟨g, rfl⟩ := HS5.out i hli
              obtain ⟨cs, jg, hcs⟩ := hC g rfl
              have hb2 : i * 3 + 2 < cs.size := by omega
              obtain ⟨u0, hu0⟩ : ∃ u0, cs[i * 3 + 2]? = some u0 := ⟨_, Array.getElem?_eq_getElem hb2⟩
              have y2 : Y1.cell? ⟨g, i * 3 + 2, none⟩ = some u0 := (cell_blk jg _).trans hu0
              have f2 : Y1.frozen? ⟨g, i * 3 + 2, none⟩ = false := frozen_blk jg _
              have i0 : (0 : Int) ≤ i := by omega
              have i1 : (i : Int) < H.length := by omega
              have HF2 : Hid (Fr X5 (Y1.setCell ⟨g, i * 3 + 2, none⟩ (.string ⟨#[115, 112, 111, 105, 108, 116]⟩)) (fun b => (Value.slice (some ⟨g, 0, none⟩) H.length p4).ownBlock = some b)) := Fr.set (a := ⟨g, i * 3 + 2, none⟩) hF (.inl rfl) _
              have HC2 : Hid (∀ j, (Value.slice (some ⟨g, 0, none⟩) H.length p4).ownBlock = some j → ∃ cs, (Y1.setCell ⟨g, i * 3 + 2, none⟩ (.string ⟨#[115, 112, 111, 105, 108, 116]⟩)).heap[j]? = some (.cells cs 44 (0, 0)) ∧ H.length * 3 ≤ cs.size) := fun j z => by
                cases z
                exact ⟨_, set_blk jg _, by rw [Array.size_setIfInBounds]; exact hcs⟩
              clear hF hC jg hcs hu0 hb2
              go_wp2
              go_roundw
              case rel => exact ⟨i + 1, hli, by go_num, HF2.out, HC2.out⟩
              case measure => simp [intOf]; omega
            · have i1 : ¬ ((i : Int) < H.length) := by omega
              have hP6 : Both w1 Y1 A E (k + 1) S1 T1 (rowsOf D1) D1 lv1' := HP5.out.stays hF (fun j z z2 => (HA4.out j z2).1 z) (fun j z z2 => (HA4.out j z2).2.1 z) (fun j z => (HA4.out j z).2.2)
              have hr1 := rows_b hP6.pj.sb
              have HP6 := Lib.hid hP6
              clear hF hC hP6 HP5
              go_wp2_with fail
              refine hr1.mono ?_
              rintro e w5 ⟨ra, rc, P, rfl, hPR, hRm, b5⟩
              have hd5 := Rm.rd hRm hPR
              have hP7 := HP6.out.on b5
              have hr2 := rows_r hP7.rs hP7.sz (by have := hP7.len; omega)
              have HD5 := Lib.hid hd5
              have HP7 := Lib.hid hP7
              have HPR := Lib.hid hPR
              have HRM := Lib.hid hRm
              have HBS : Hid (∀ j, Y1.heap.size ≤ j → ¬ S1 j ∧ ¬ T1 j ∧ w1.heap.size ≤ j) := fun j z => ⟨fun z2 => by have := HP6.out.pj.sb.lt j z2; omega, fun z2 => by have := HP6.out.rs.lt j z2; omega, Nat.le_trans HP6.out.pj.bel.size z⟩
              clear hr1 hPR hRm b5 hd5 hP7 HP6
              go_wp2_with fail
              refine hr2.mono ?_
              rintro e w6 ⟨ra', rc', P', rfl, hPR, hRm, b6⟩
              have hsame := same_rows (HD5.out.on b6) (Rm.rd hRm hPR)
              have HP8 := Lib.hid (HP7.out.on b6)
              have HRM2 := Lib.hid (HRM.out.on b6)
              clear hr2 hPR hRm b6 HD5 HP7 HRM
              go_wp2_with fail
              refine hsame.mono ?_
              rintro e w7 ⟨rfl, b7⟩
              have HP9 := Lib.hid (HP8.out.on b7)
              have hRM3 := HRM2.out.on b7
              have hPl : (P.length : Int) ≤ 9223372036854775807 := by
                rcases hRM3.own.2 with ⟨hv, h0⟩ | ⟨g, cap', cur, hv, _, hc, h1, h2, h3, h4⟩
                · omega
                · cases hv
                  unfold maxLen at h2
                  omega
              have HC7 : Hid (∀ p ∈ P, ∀ j, p.2.ownBlock = some j → ∃ cs, w7.heap[j]? = some (.cells cs 31 (0, 0)) ∧ p.1.list.length * 3 ≤ cs.size) := fun p hp j z => by
                rcases (hRM3.ls p hp).2 with ⟨hv, _⟩ | ⟨g, cap', cur, hv, _, hc, h1, h2, h3, h4⟩
                · rw [hv] at z; cases z
                · rw [hv] at z
                  cases z
                  exact ⟨cur, hc, by rw [h3]; omega⟩
              have HNE : Hid (∀ p ∈ P, 0 < p.1.list.length) := fun p hp => by
                have e := HPR.out
                have : p.1 ∈ rowsOf D1 := by rw [← e]; exact List.mem_map_of_mem hp
                have := (HP9.out.pj.sb.ok.rise p.1 this).ne
                exact List.length_pos_iff.2 this
              have HRM3 := Lib.hid hRM3
              clear hsame b7 HP8 HRM2 hRM3
              go_wp2
              go_loopw [91] (fun iv wr => ∃ i : Nat, i ≤ P.length ∧ iv = .int .i64 (i : Int) ∧ Fr w7 wr (fun b => ∃ p ∈ P, p.2.ownBlock = some b) ∧ ∀ p ∈ P, ∀ j, p.2.ownBlock = some j → ∃ cs, wr.heap[j]? = some (.cells cs 31 (0, 0)) ∧ p.1.list.length * 3 ≤ cs.size) (fun iv _ => P.length - (intOf iv).toNat)
              case atStart => exact ⟨0, Nat.zero_le _, rfl, Fr.refl _ _, HC7.out⟩
              case round =>
                clear HC7 hi hli i1
                obtain ⟨i, hi, rfl, hF, hC⟩ := hrel
                obtain ⟨Y2, rfl⟩ : ∃ Y2, Y2 = wr := ⟨_, rfl⟩
                by_cases hli : i < P.length
                · obtain ⟨gr, rc', e, _, c1⟩ := HRM3.out.at' hli
                  cases e
                  have hls := own_mono (HRM3.out.ls _ (List.getElem_mem hli)) (Nat.zero_le _)
                  have hne := HNE.out _ (List.getElem_mem hli)
                  obtain ⟨gl, lc, el, hc1, hc2, _⟩ := ve_cells hls hne
                  obtain ⟨cs, jg, hcs⟩ := hC P[i] (List.getElem_mem hli) gl (by rw [el]; rfl)
                  have hnr : ¬ ∃ p ∈ P, p.2.ownBlock = some gr := fun ⟨p, hp, z⟩ => by
                    obtain ⟨c1, t1⟩ := own_tag (HRM3.out.ls p hp) gr z
                    obtain ⟨c2, t2⟩ := own_tag HRM3.out.own gr rfl
                    exact tag_ne t1 t2 (by decide) rfl
                  have c1 := cell_fr hF hnr c1
                  obtain ⟨nl, hnl⟩ : ∃ nl, P[i].1.list.length = nl := ⟨_, rfl⟩
                  have HF2 : Hid (Fr w7 (Y2.setCell ⟨gl, 1, none⟩ (.string ⟨#[115, 112, 111, 105, 108, 116]⟩)) (fun b => ∃ p ∈ P, p.2.ownBlock = some b)) := Fr.set (a := ⟨gl, 1, none⟩) hF (.inl ⟨P[i], List.getElem_mem hli, by rw [el]; rfl⟩) _
                  have HC2 : Hid (∀ p ∈ P, ∀ j, p.2.ownBlock = some j → ∃ cs, (Y2.setCell ⟨gl, 1, none⟩ (.string ⟨#[115, 112, 111, 105, 108, 116]⟩)).heap[j]? = some (.cells cs 31 (0, 0)) ∧ p.1.list.length * 3 ≤ cs.size) := fun p hp j z => by
                    obtain ⟨cs', jg', hcs'⟩ := hC p hp j z
                    by_cases ej : j = gl
                    · subst ej
                      exact ⟨_, set_blk jg' _, by rw [Array.size_setIfInBounds]; exact hcs'⟩
                    · exact ⟨cs', (set_other _ ej).trans jg', hcs'⟩
                  rw [el] at c1
                  rw [hnl] at c1 hne hcs
                  have hb2 : 1 < cs.size := by omega
                  obtain ⟨u0, hu0⟩ : ∃ u0, cs[1]? = some u0 := ⟨_, Array.getElem?_eq_getElem hb2⟩
                  have y2 : Y2.cell? ⟨gl, 1, none⟩ = some u0 := (cell_blk jg _).trans hu0
                  have f2 : Y2.frozen? ⟨gl, 1, none⟩ = false := frozen_blk jg _
                  have i0 : (0 : Int) ≤ i := by omega
                  have i1 : (i : Int) < P.length := by omega
                  have j1 : (0 : Int) < (nl : Int) := by omega
                  clear hF hC jg hcs hu0 hb2 hls el hnl hc1 hc2 hnr
                  go_wp2
                  go_roundw
                  case rel => exact ⟨i + 1, hli, by go_num, HF2.out, HC2.out⟩
                  case measure => simp [intOf]; omega
                · have i1 : ¬ ((i : Int) < P.length) := by omega
                  have hU : ∀ j, (∃ p ∈ P, p.2.ownBlock = some j) → ¬ S1 j ∧ ¬ T1 j ∧ w1.heap.size ≤ j := fun j ⟨p, hp, z⟩ => HBS.out j (own_ge0 (HRM3.out.ls p hp) j z)
                  have HPN : Hid (Both w1 Y2 A E (k + 1) S1 T1 (rowsOf D1) D1 lv1') := HP9.out.stays hF (fun j z z2 => (hU j z2).1 z) (fun j z z2 => (hU j z2).2.1 z) (fun j z => (hU j z).2.2)
                  clear hF hC hU
                  go_wp2
                  go_roundw
                  case rel => exact ⟨k + 1, S1, T1, D1, lv1', hlt, by go_num, HPN.out⟩
                  case measure => simp [intOf]; omega
    · have k1 : ¬ ((k : Int) < L.length) := by omega
      have hr1 := rows_b hP.pj.sb
      have HBV := Lib.hid bV
      have HP := Lib.hid hP
      clear hP bV
      go_wp2_with fail
      refine hr1.mono ?_
      rintro e w5 ⟨ra, rc, P, rfl, hPR, hRm, b5⟩
      have hd5 := Rm.rd hRm hPR
      have hr2 := rows_r (HP.out.on b5).rs HP.out.sz (by have := HP.out.len; omega)
      have HB5 := Lib.hid (HBV.out.trans (b5.mono HBV.out.size))
      have HD5 := Lib.hid hd5
      clear hr1 hPR hRm b5 hd5
      go_wp2_with fail
      refine hr2.mono ?_
      rintro e w6 ⟨ra', rc', P', rfl, hPR, hRm, b6⟩
      have hsame := same_rows (HD5.out.on b6) (Rm.rd hRm hPR)
      have HB6 := Lib.hid (HB5.out.trans (b6.mono HB5.out.size))
      clear hr2 hPR hRm b6
      go_wp2_with fail
      refine hsame.mono ?_
      rintro e w7 ⟨rfl, b7⟩
      have HB7 := Lib.hid (HB6.out.trans (b7.mono HB6.out.size))
      clear hsame b7
      go_wp2
      go_ret
      exact ⟨rfl, HB7.out⟩
end
end Go.Proofs.Ythjnfkgheihgkaa
