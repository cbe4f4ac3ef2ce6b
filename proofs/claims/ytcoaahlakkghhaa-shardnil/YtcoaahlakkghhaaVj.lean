/- Rows in memory of their own; the walk of Rows. -/
import Derived.Test.YtcoaahlakkghhaaVi
import Derived.Test.YtcoaahlakkghhaaVY
namespace Go.Proofs.Ytcoaahlakkghhaa
open Go.RowKit

theorem cell_fr {V X : World} {T : Nat → Prop} {a : Addr} {u : Value} (h : Fr V X T) (ht : ¬ T a.block) (y : V.cell? a = some u) : X.cell? a = some u := by
  have hl : a.block < V.heap.size := by
    refine Classical.byContradiction fun q => ?_
    unfold World.cell? at y
    rw [Array.getElem?_eq_none (by omega)] at y
    simp at y
  unfold World.cell? at y ⊢
  rw [h.block _ hl ht]
  exact y
def rwC (P : List (Rw × Value)) : List Value := P.flatMap fun p => [.string p.1.key, p.2]
theorem rwC_append (a b : List (Rw × Value)) : rwC (a ++ b) = rwC a ++ rwC b := by simp [rwC]
theorem rwC_len (P : List (Rw × Value)) : (rwC P).length = P.length * 2 := by
  induction P with
  | nil => rfl
  | cons p P ih =>
    have e : rwC (p :: P) = rwC [p] ++ rwC P := by simp [rwC]
    rw [e, List.length_append, ih]
    simp [rwC]
    omega
theorem rwC_get (P : List (Rw × Value)) : ∀ (k : Nat) (h : k < P.length), (rwC P)[k * 2]? = some (.string P[k].1.key) ∧ (rwC P)[k * 2 + 1]? = some P[k].2 := by
  induction P with
  | nil => intro k h; simp at h
  | cons p P ih =>
    intro k h
    have e0 : rwC (p :: P) = .string p.1.key :: p.2 :: rwC P := by simp [rwC]
    rw [e0]
    cases k with
    | zero => simp
    | succ k =>
      have := ih k (by simpa using h)
      have e : (k + 1) * 2 = k * 2 + 2 := by omega
      rw [e]
      simpa using this
/-- Rows in memory of their own. -/
structure Rm (w : World) (B : Nat) (P : List (Rw × Value)) (v : Value) : Prop where
  own : w.ownsRow B 129 2 v P.length (rwC P)
  ls : ∀ p ∈ P, w.ownsRow B 125 3 p.2 p.1.list.length (veC p.1.list)
theorem Rm.nil (w : World) (B : Nat) : Rm w B [] (.slice none 0 0) := ⟨World.ownsRow_nil _ _ _ _, fun p hp => by cases hp⟩
section
variable {w w' W V : World} {A : Nat} {S T : Nat → Prop} {G : List Gw} {rv : Value} {R : List Rw} {B : Nat} {P : List (Rw × Value)} {v : Value}
theorem Rm.on (h : Rm w B P v) (hb : Below w.heap.size w w') : Rm w' B P v := ⟨own_below h.own hb, fun p hp => own_below (h.ls p hp) hb⟩
theorem own_tag {e : TypeId} {c n : Nat} {v : Value} {xs : List Value} (h : w.ownsRow B e c v n xs) : ∀ k, v.ownBlock = some k → ∃ cs, w.heap[k]? = some (.cells cs e (0, 0)) := by
  intro k hk
  rcases h.2 with ⟨hv, _⟩ | ⟨g, cap, cur, hv, _, hg, _⟩
  · rw [hv] at hk; cases hk
  · rw [hv] at hk
    simp only [Value.ownBlock, Option.some.injEq] at hk
    subst hk
    exact ⟨cur, hg⟩
/-- One row more: what the row needs lies at Y. -/
theorem Rm.snoc (h : Rm w B P v) (hB : B ≤ w.heap.size) {r : Rw} {lv : Value} {Y : Nat} (hl : w.ownsRow B 125 3 lv r.list.length (veC r.list)) (hY : w.heap[Y]? = some (.cells #[.string r.key, lv] 129 (0, 0))) (hf : P.length < 900000) :
    ∃ ad cap w', (Builtin.append_ #[61, 61] 61 #[v, .slice (some ⟨Y, 0, none⟩) 1 1]).run Try.prog w = .ok (.slice ad (P.length + 1) cap) w' ∧ Rm w' B (P ++ [(r, lv)]) (.slice ad (P.length + 1) cap) ∧ Fr w w' (fun k => v.ownBlock = some k) := by
  obtain ⟨lad, lcap, hlv⟩ := own_shape hl
  have hone : ∀ u ∈ rwC [(r, lv)], u.oneCell' = true := by
    intro u hu
    rw [hlv] at hu
    simp [rwC] at hu
    rcases hu with rfl | rfl <;> rfl
  obtain ⟨ad, cap, w', hrun, ho, hg, hat⟩ := run_rw (m := 1) (c := 1) (news := rwC [(r, lv)]) h.own hB (.inr ⟨⟨Y, 0, none⟩, rfl, rfl, fun j u hu => by
    rw [add_at, Nat.zero_add, cell_blk hY]
    simpa [rwC] using hu⟩) hone (by omega)
  have hfr : Fr w w' (fun k => v.ownBlock = some k) := Fr.grown (Fr.refl w _) hg (fun k hk => .inl hk)
  refine ⟨ad, cap, w', hrun, ⟨by rw [List.length_append, rwC_append]; exact ho, fun p hp => ?_⟩, hfr⟩
  have keep : ∀ q : Value, ∀ n xs, w.ownsRow B 125 3 q n xs → w'.ownsRow B 125 3 q n xs := by
    intro q n xs hq
    refine own_like hq (fun k hk => hg.block k (hq.lt k hk).2 (fun e => ?_))
    obtain ⟨c1, t1⟩ := own_tag hq k hk
    obtain ⟨c2, t2⟩ := own_tag h.own k e.symm
    exact tag_ne t1 t2 (by decide) rfl
  rcases List.mem_append.1 hp with hp | hp
  · exact keep _ _ _ (h.ls p hp)
  · rw [List.mem_singleton.1 hp]
    exact keep _ _ _ hl
def RJ (G : List Gw) (w wr : World) (lv iv : Value) : Prop := ∃ (j : Nat) (P : List (Rw × Value)), j ≤ G.length ∧ iv = .int .i64 (j : Int) ∧ P.map Prod.fst = (G.map Gw.r).take j ∧ Rm wr w.heap.size P lv ∧ Below w.heap.size w wr
def RowsAns (w : World) (R : List Rw) (e : Ending) (w' : World) : Prop := ∃ ad cap P, e = .returned (.slice ad P.length cap) ∧ P.map Prod.fst = R ∧ Rm w' w.heap.size P (.slice ad P.length cap) ∧ Below w.heap.size w w'
set_option maxHeartbeats 4000000 in
set_option maxRecDepth 100000 in
theorem rows_any (h : Sv w A S G rv) : Calls Try.prog 35 #[.pointer (some ⟨A, 0, none⟩)] w fun e w' => RowsAns w (G.map Gw.r) e w' := by
  obtain ⟨ad, cap, rfl, hc1, hc2, _⟩ := h.shape
  have a0 : w.cell? ⟨A, 0, none⟩ = some (.slice ad G.length cap) := cell_blk h.ob 0
  have hm : (cap : Int) ≤ 9223372036854775807 := by unfold maxLen at hc2; omega
  have hl0 : (G.length : Int) ≤ 9223372036854775807 := by omega
  have hfew := h.few
  have HH := Lib.hid h
  clear h
  go_enter Try.func35, Try.ntmps35
  go_wp2
  go_loopw [3, 13] (fun lv iv wr => RJ G w wr lv iv) (fun _ iv _ => G.length - (intOf iv).toNat)
  case atStart => exact ⟨0, [], Nat.zero_le _, rfl, rfl, Rm.nil _ _, Below.refl _ _⟩
  case round =>
    obtain ⟨j, P, hj, rfl, hPR, hRm, hbw⟩ := hrel
    obtain ⟨V, rfl⟩ : ∃ V, V = wr := ⟨_, rfl⟩
    have hPl : P.length = j := by have := congrArg List.length hPR; simp at this; omega
    obtain ⟨oad, ocap, rfl⟩ := own_shape hRm.own
    by_cases hlt : j < G.length
    · have j0 : (0 : Int) ≤ (j : Int) := by omega
      have j1 : (j : Int) < (G.length : Int) := by omega
      have hv := HH.out.on hbw
      obtain ⟨g, cap', e, _, _, hp0⟩ := hv.ptr hlt
      cases e
      have hp1 : V.cell? ⟨g, j, none⟩ = some (.pointer (some ⟨G[j].ptr, 0, none⟩)) := hp0
      clear hp0
      have hat := hv.at' _ (List.getElem_mem hlt)
      have hls := hv.ls _ (List.getElem_mem hlt)
      have hqS := HH.out.lt _ (HH.out.covp _ (List.getElem_mem hlt))
      have hlS := fun k hk => HH.out.lt _ (HH.out.covl _ (List.getElem_mem hlt) k hk)
      have hll := HH.out.less _ (List.getElem_mem hlt)
      have hnx : (P ++ [(G[j].r, G[j].lv)]).map Prod.fst = (G.map Gw.r).take (j + 1) := by
        rw [List.map_append, hPR, List.take_add_one, List.getElem?_map, List.getElem?_eq_getElem hlt]
        rfl
      obtain ⟨x, hx⟩ : ∃ x, G[j] = x := ⟨_, rfl⟩
      rw [hx] at hp1 hat hls hqS hlS hnx hll
      obtain ⟨r, q, lv⟩ := x
      simp only at hp1 hat hls hqS hlS hnx hll
      obtain ⟨lad, lcap, rfl⟩ := own_shape hls
      have hnx2 : ∀ u, (P ++ [(r, u)]).map Prod.fst = (G.map Gw.r).take (j + 1) := fun u => by rw [← hnx]; simp
      have r0 : V.cell? ⟨q, 0, none⟩ = some (.string r.key) := cell_blk hat 0
      have r1 : V.cell? ⟨q, 1, none⟩ = some (.slice lad r.list.length lcap) := cell_blk hat 1
      have hob : ∀ k, (Value.slice oad P.length ocap).ownBlock = some k → w.heap.size ≤ k ∧ k < V.heap.size := hRm.own.lt
      have hnq : ¬ (Value.slice oad P.length ocap).ownBlock = some q := fun e => by have := hob q e; omega
      have hwV := hbw.size
      have HLS := Lib.hid hls
      have HNX := Lib.hid hnx2
      have HRM := Lib.hid hRm
      have HBW := Lib.hid hbw
      have HOB := Lib.hid hob
      have HLB := Lib.hid hlS
      clear hnx hnx2 hx hat hls hv hRm hbw hPR hob hlS
      go_upto_region 7 with fail
      refine wp_region_once 12 (fun d X9 => Fr V X9 (fun k => (Value.slice oad P.length ocap).ownBlock = some k) ∧ (d = false → Below V.heap.size V X9)) (fun X9 X' => Below X9.heap.size X9 X') (fun X9 X' => Fr X9 X' (fun k => (Value.slice oad P.length ocap).ownBlock = some k)) [
        fun v _ => v = (.slice oad P.length ocap),
        fun v _ => v = .pointer (some ⟨q, 0, none⟩),
        fun v _ => v = .pointer (some ⟨q, 0, none⟩),
        fun v _ => v = .pointer (some ⟨q, 0, none⟩),
        fun v _ => v = .string r.key,
        fun v _ => v = .pointer (some ⟨q, 0, none⟩),
        fun v _ => v = .pointer (some ⟨q, 0, none⟩),
        fun v _ => v = .pointer (some ⟨q, 1, none⟩),
        fun v _ => v = .slice lad r.list.length lcap,
        fun v X9 => ∃ cad ccap, v = .slice cad r.list.length ccap ∧ X9.ownsRow V.heap.size 125 3 v r.list.length (veC r.list),
        fun v X9 => ∃ cad ccap, v = .agg #[.string r.key, .slice cad r.list.length ccap] ∧ X9.ownsRow V.heap.size 125 3 (.slice cad r.list.length ccap) r.list.length (veC r.list),
        fun v X9 => ∃ Y cad ccap, v = .slice (some ⟨Y, 0, none⟩) 1 1 ∧ V.heap.size ≤ Y ∧ X9.heap[Y]? = some (.cells #[.string r.key, .slice cad r.list.length ccap] 129 (0, 0)) ∧ X9.ownsRow V.heap.size 125 3 (.slice cad r.list.length ccap) r.list.length (veC r.list),
        fun v X9 => ∃ ad9 cap9 u9, v = .slice ad9 (P.length + 1) cap9 ∧ Rm X9 w.heap.size (P ++ [(r, u9)]) v ∧ Below w.heap.size w X9]
        (fun v X9 => ∃ ad9 cap9 u9, v = .slice ad9 (P.length + 1) cap9 ∧ Rm X9 w.heap.size (P ++ [(r, u9)]) v ∧ Below w.heap.size w X9) rfl (by kernel_rfl) (by kernel_rfl) (by kernel_rfl) (by kernel_rfl) ?st ?stm ?g0 (by decide) ?os ?la ?en
      case st => exact ⟨fun _ _ _ _ h => h, fun _ _ _ _ h => h, fun _ _ _ _ h => h, fun _ _ _ _ h => h, fun _ _ _ _ h => h, fun _ _ _ _ h => h, fun _ _ _ _ h => h, fun _ _ _ _ h => h, fun _ _ _ _ h => h, fun _ _ _ hs ⟨x, y, e, z⟩ => ⟨x, y, e, own_below z hs⟩, fun _ _ _ hs ⟨x, y, e, z⟩ => ⟨x, y, e, own_below z hs⟩, fun _ _ _ hs ⟨Y, x, y, e, z1, z2, z⟩ => ⟨Y, x, y, e, z1, (hs.block Y (blk_lt z2)).trans z2, own_below z hs⟩, fun _ _ _ hs ⟨x, y, u, e, z, z2⟩ => ⟨x, y, u, e, z.on hs, z2.trans (hs.mono z2.size)⟩, trivial⟩
      case stm => exact ⟨fun _ _ _ _ h => h, fun _ _ _ _ h => h, fun _ _ _ _ h => h, fun _ _ _ _ h => h, fun _ _ _ _ h => h, fun _ _ _ _ h => h, fun _ _ _ _ h => h, fun _ _ _ _ h => h, fun _ _ _ _ h => h, fun _ _ _ hs ⟨x, y, e, z⟩ => ⟨x, y, e, row_keep z hs (fun k hk e => by have z1 := (z.lt k hk).1; have z2 := HOB.out k e; omega)⟩, fun _ _ _ hs ⟨x, y, e, z⟩ => ⟨x, y, e, row_keep z hs (fun k hk e => by have z1 := (z.lt k hk).1; have z2 := HOB.out k e; omega)⟩, fun _ _ _ hs ⟨Y, x, y, e, z1, z2, z⟩ => ⟨Y, x, y, e, z1, (hs.block Y (blk_lt z2) (fun e => by have z3 := HOB.out Y e; omega)).trans z2, row_keep z hs (fun k hk e => by have z1 := (z.lt k hk).1; have z2 := HOB.out k e; omega)⟩, fun _ _ _ _ h => h, trivial⟩
      case g0 => exact ⟨⟨rfl, rfl, rfl, Nat.le_refl _, fun _ _ _ => rfl⟩, fun _ => ⟨rfl, rfl, rfl, Nat.le_refl _, fun _ _ => rfl⟩⟩
      case os =>
        refine ⟨?_, ?_, ?_, ?_, ?_, ?_, ?_, ?_, ?_, ?_, ?_, ?_, ?_, trivial⟩
        · exact ⟨rfl, fun _ ρ X9 d hg ho hc hf hr => Runs.val _ (op_move (show ρ (.tmp 3) = (.slice oad P.length ocap) from ho 3 rfl)) ⟨hg, Below.refl _ _, rfl⟩, fun e => absurd e (by decide)⟩
        · exact ⟨rfl, fun _ ρ X9 d hg ho hc hf hr => Runs.val _ (op_move (show ρ (.tmp 5) = .pointer (some ⟨q, 0, none⟩) from ho 5 rfl)) ⟨hg, Below.refl _ _, rfl⟩, fun e => absurd e (by decide)⟩
        · exact ⟨rfl, fun _ ρ X9 d hg ho hc hf hr => Runs.val _ (op_nil (show ρ (.tmp 18) = .pointer (some ⟨q, 0, none⟩) from hr 1 18 rfl rfl)) ⟨hg, Below.refl _ _, rfl⟩, fun e => absurd e (by decide)⟩
        · exact ⟨rfl, fun _ ρ X9 d hg ho hc hf hr => Runs.val _ (op_f129_0 (show ρ (.tmp 19) = .pointer (some ⟨q, 0, none⟩) from hr 2 19 rfl rfl)) ⟨hg, Below.refl _ _, rfl⟩, fun e => absurd e (by decide)⟩
        · exact ⟨rfl, fun _ ρ X9 d hg ho hc hf hr => Runs.val _ (op_load9 (show ρ (.tmp 20) = .pointer (some ⟨q, 0, none⟩) from hr 3 20 rfl rfl) (cell_fr hg.1 hnq r0)) ⟨hg, Below.refl _ _, rfl⟩, fun e => absurd e (by decide)⟩
        · exact ⟨rfl, fun _ ρ X9 d hg ho hc hf hr => Runs.val _ (op_move (show ρ (.tmp 5) = .pointer (some ⟨q, 0, none⟩) from ho 5 rfl)) ⟨hg, Below.refl _ _, rfl⟩, fun e => absurd e (by decide)⟩
        · exact ⟨rfl, fun _ ρ X9 d hg ho hc hf hr => Runs.val _ (op_nil (show ρ (.tmp 22) = .pointer (some ⟨q, 0, none⟩) from hr 5 22 rfl rfl)) ⟨hg, Below.refl _ _, rfl⟩, fun e => absurd e (by decide)⟩
        · exact ⟨rfl, fun _ ρ X9 d hg ho hc hf hr => Runs.val _ (op_f129_1 (show ρ (.tmp 23) = .pointer (some ⟨q, 0, none⟩) from hr 6 23 rfl rfl)) ⟨hg, Below.refl _ _, rfl⟩, fun e => absurd e (by decide)⟩
        · exact ⟨rfl, fun _ ρ X9 d hg ho hc hf hr => Runs.val _ (op_load127 (show ρ (.tmp 24) = .pointer (some ⟨q, 1, none⟩) from hr 7 24 rfl rfl) (cell_fr hg.1 hnq r1)) ⟨hg, Below.refl _ _, rfl⟩, fun e => absurd e (by decide)⟩
        · refine ⟨rfl, fun _ ρ X9 d hg ho hc hf hr => ?_, fun e => absurd e (by decide)⟩
          refine Runs.goes 61 #[.slice lad r.list.length lcap] (op_call1 hf call61 (show ρ (.tmp 25) = .slice lad r.list.length lcap from hr 8 25 rfl rfl)) ((clone_any (Vs.own (row_keep HLS.out hg.1 (fun k hk e => by have z1 := HLB.out k hk; have z2 := HOB.out k e; omega))) (by omega)).mono ?_)
          rintro e7 w7 ⟨cad, ccap, rfl, ho7, hb7⟩
          exact ⟨_, rfl, ⟨hg.1.below hb7, fun z => (hg.2 z).trans (hb7.mono (hg.2 z).size)⟩, hb7, cad, ccap, rfl, own_mono ho7 hg.1.size⟩
        · refine ⟨rfl, fun _ ρ X9 d hg ho hc hf hr => ?_, fun e => absurd e (by decide)⟩
          obtain ⟨cad, ccap, e, z⟩ : ∃ cad ccap, ρ (.tmp 26) = .slice cad r.list.length ccap ∧ X9.ownsRow V.heap.size 125 3 (ρ (.tmp 26)) r.list.length (veC r.list) := hr 9 26 rfl rfl
          rw [e] at z
          exact Runs.val _ (op_b129 (show ρ (.tmp 21) = .string r.key from hr 4 21 rfl rfl) e) ⟨hg, Below.refl _ _, cad, ccap, rfl, z⟩
        · refine ⟨rfl, fun _ ρ X9 d hg ho hc hf hr => ?_, fun e => absurd e (by decide)⟩
          obtain ⟨cad, ccap, e, z⟩ : ∃ cad ccap, ρ (.tmp 27) = .agg #[.string r.key, .slice cad r.list.length ccap] ∧ X9.ownsRow V.heap.size 125 3 (.slice cad r.list.length ccap) r.list.length (veC r.list) := hr 10 27 rfl rfl
          have hb7 : Below X9.heap.size X9 (X9.alloc (.cells #[.string r.key, .slice cad r.list.length ccap] 129)) := (Below.refl _ X9).alloc (Nat.le_refl _) _
          exact Runs.val _ (op_s61 e) ⟨⟨hg.1.below hb7, fun z => (hg.2 z).trans (hb7.mono (hg.2 z).size)⟩, hb7, X9.heap.size, cad, ccap, rfl, hg.1.size, heap_alloc_new X9 _, own_below z hb7⟩
        · refine ⟨rfl, fun e => absurd rfl e, fun _ ρ X9 hg ho hc hf hr => ?_⟩
          obtain ⟨Y, cad, ccap, e, z1, z2, z⟩ : ∃ Y cad ccap, ρ (.tmp 28) = .slice (some ⟨Y, 0, none⟩) 1 1 ∧ V.heap.size ≤ Y ∧ X9.heap[Y]? = some (.cells #[.string r.key, .slice cad r.list.length ccap] 129 (0, 0)) ∧ X9.ownsRow V.heap.size 125 3 (.slice cad r.list.length ccap) r.list.length (veC r.list) := hr 11 28 rfl rfl
          have hbX := hg.2 rfl
          obtain ⟨ad9, cap9, w9, hrun, hR9, hf9⟩ := (HRM.out.on hbX).snoc (r := r) (by have := hbX.size; omega) (own_mono z hwV) z2 (by omega)
          have hB9 : Below w.heap.size w w9 := (HBW.out.trans (hbX.mono HBW.out.size)).trans (hf9.toBelow (fun k hk e => by have z3 := HOB.out k e; omega) (by have := hbX.size; omega))
          exact Runs.val _ (op_append61 (show ρ (.tmp 17) = (.slice oad P.length ocap) from hr 0 17 rfl rfl) e hrun) ⟨⟨hg.1.trans hf9, fun z => by cases z⟩, hf9, ad9, cap9, _, rfl, hR9, hB9⟩
      case la =>
        refine ⟨rfl, fun ρ X9 hg ho hc hf hr => ?_⟩
        obtain ⟨ad9, cap9, u9, e, z1, z2⟩ : ∃ ad9 cap9 u9, ρ (.tmp 29) = .slice ad9 (P.length + 1) cap9 ∧ Rm X9 w.heap.size (P ++ [(r, u9)]) (ρ (.tmp 29)) ∧ Below w.heap.size w X9 := hr 12 29 (by decide) rfl
        rw [e] at z1
        exact Runs.val _ (op_assign e) ⟨ad9, cap9, u9, rfl, z1, z2⟩
      case en =>
        intro a X9 Xb v hF hs hd ho hv hr
        obtain ⟨x, hx, hxt⟩ := act_put hs hd ho
        have x3 : x 3 = v := (hxt 3).symm.trans (hv 3 rfl)
        change a = putAll _ x [17, 18, 19, 20, 21, 22, 23, 24, 25, 26, 27, 28, 29, 3] at hx
        simp only [putAll, Act.put, List.setIfInBounds_toArray, List.set_cons_zero, List.set_cons_succ, x3] at hx
        have HG := Lib.hid hF
        clear hF hs hd ho hr hv hxt x3
        subst hx
        obtain ⟨ad9, cap9, u9, rfl, hR9, hB9⟩ := HG.out
        have HR9 := Lib.hid hR9
        have HB9 := Lib.hid hB9
        clear hR9 hB9 HG
        go_wp2
        go_roundw
        case rel => exact ⟨j + 1, P ++ [(r, u9)], by omega, by go_num, HNX.out u9, HR9.out, HB9.out⟩
        case measure => simp [intOf]; omega
    · have j1 : ¬ (j : Int) < (G.length : Int) := by omega
      have ej : j = G.length := by omega
      have hR : P.map Prod.fst = G.map Gw.r := by rw [hPR, ej, List.take_of_length_le (by rw [List.length_map]; exact Nat.le_refl _)]
      have HA : Hid (RowsAns w (G.map Gw.r) (.returned (.slice oad P.length ocap)) V) := ⟨oad, ocap, P, rfl, hR, hRm, hbw⟩
      clear hR ej hRm hbw hPR hPl
      go_wp2
      go_ret
      exact HA.out
end
end Go.Proofs.Ytcoaahlakkghhaa
