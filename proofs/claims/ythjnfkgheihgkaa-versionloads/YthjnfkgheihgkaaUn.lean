/- The walk of VersionLoads. -/
import Derived.Test.YthjnfkgheihgkaaUl
import Derived.Test.YthjnfkgheihgkaaUm
import Derived.Test.YthjnfkgheihgkaaUg
import Derived.Deep.CutBlock
namespace Go.Proofs.Ythjnfkgheihgkaa
open Go.RowKit
section
variable {ρ : Operand → Value} {X : World} {d : Option Tmp} {ty : TypeId} {ps : String} {af : Array Edge} {g : Option (Nat × Bool)}
theorem op_eql36 {x y : Operand} {n : Int} (e : ρ x = .int .i64 n) (e2 : ρ y = .int .i64 n) : (execOp ρ ⟨d, .binOp .eql 36 x y 36, ty, ps, af, g⟩).run Try.prog X = .ok (.value (.bool true)) X := by
  simp only [execOp, e, e2]
  go_simp
theorem call17 {v : Value} : Sem.run Try.prog (callFunc 17 #[v]) X = .ok (.enter 17 #[v]) X := by go_simp
theorem call18 {v u : Value} : Sem.run Try.prog (callFunc 18 #[v, u]) X = .ok (.enter 18 #[v, u]) X := by go_simp
theorem call19 {v : Value} : Sem.run Try.prog (callFunc 19 #[v]) X = .ok (.enter 19 #[v]) X := by go_simp
end
theorem Rm.keep {X X' : World} {B : Nat} {P : List (Rw × Value)} {v : Value} (h : Rm X B P v) (hf : Fr X X' (fun j => j < B)) : Rm X' B P v :=
  ⟨row_keep h.own hf (fun j hj q => by have := (h.own.lt j hj).1; have q' : j < B := q; omega), fun p hp => row_keep (h.ls p hp) hf (fun j hj q => by have := ((h.ls p hp).lt j hj).1; have q' : j < B := q; omega)⟩
/-- Where the two stores stand. -/
def G14 (V0 : World) (A E Z B : Nat) (S T : Nat → Prop) (L : List Rw) (D : List On) (lv : Value) (q : Oc) (fl : Nat → Bool) (X : World) : Prop :=
  X.heap[Z]? = some (ocZ q) ∧ (fl 14 = false → Both V0 X A E 1000 S T L D lv) ∧ (fl 14 = true → fl 20 = false → ∃ S', Both V0 X A E 1001 S' T (putR L q.key q.v) D lv) ∧ (fl 20 = true → ∃ S' T' lv', Both V0 X A E 1001 S' T' (putR L q.key q.v) (putD D q.key q.v) lv') ∧ B ≤ X.heap.size
theorem G14.on {V0 X X' : World} {A E Z B : Nat} {S T : Nat → Prop} {L : List Rw} {D : List On} {lv : Value} {q : Oc} {fl : Nat → Bool} (h : G14 V0 A E Z B S T L D lv q fl X) (hb : Below X.heap.size X X') : G14 V0 A E Z B S T L D lv q fl X' := by
  refine ⟨(hb.block Z (blk_lt h.1)).trans h.1, fun z => (h.2.1 z).on hb, fun z z' => ?_, fun z => ?_, Nat.le_trans h.2.2.2.2 hb.size⟩
  · obtain ⟨S', k⟩ := h.2.2.1 z z'
    exact ⟨S', k.on hb⟩
  · obtain ⟨S', T', lv', k⟩ := h.2.2.2.1 z
    exact ⟨S', T', lv', k.on hb⟩
theorem G14.bel {V0 X : World} {A E Z B : Nat} {S T : Nat → Prop} {L : List Rw} {D : List On} {lv : Value} {q : Oc} {fl : Nat → Bool} (h : G14 V0 A E Z B S T L D lv q fl X) : Below V0.heap.size V0 X := by
  cases h1 : fl 14 with
  | false => exact (h.2.1 h1).pj.bel
  | true =>
    cases h2 : fl 20 with
    | false =>
      obtain ⟨S', k⟩ := h.2.2.1 h1 h2
      exact k.pj.bel
    | true =>
      obtain ⟨S', T', lv', k⟩ := h.2.2.2.1 h2
      exact k.pj.bel
theorem mem_flat {L : List Rw} {r : Rw} (h : r ∈ L) : r.list.length ≤ (flatOf L).length := by
  obtain ⟨i, hi, e⟩ := List.getElem_of_mem h
  have := flat_len hi
  rw [e] at this
  omega
theorem flat_sz {L : List Rw} (h : ∀ r ∈ L, r.key.size ≤ maxLen) : ∀ p ∈ flatOf L, p.1.size ≤ maxLen := by
  intro p hp
  unfold flatOf at hp
  obtain ⟨r, hr, hq⟩ := List.mem_flatMap.1 hp
  obtain ⟨v, _, rfl⟩ := List.mem_map.1 hq
  exact h r hr
theorem flat_take (L : List Rw) {i : Nat} (h : i < L.length) : (flatOf (L.take (i + 1))).length = (flatOf (L.take i)).length + L[i].list.length := by
  rw [flat_next h, List.length_append, List.length_map]
section
variable {w : World} {L : List Rw} {v : Value}
set_option maxHeartbeats 32000000 in
set_option maxRecDepth 100000 in
theorem loads_law (hL : Rd w L v) (hks : ∀ r ∈ L, r.key.size ≤ maxLen) (hlb : L.length ≤ 1000000000000000) (hlbs : ∀ r ∈ L, r.list.length ≤ 1000000000000000) (q : Oc) (hq : q.Sz) :
    Calls Try.prog 4 #[v, ocV q] w fun e w' => e = .returned (.bool true) ∧ Below w.heap.size w w' := by
  obtain ⟨W, hW⟩ : ∃ W, W = w.alloc (.cells #[.int .i64 q.kind, .string q.key, .int .i64 q.v.ts, .string q.v.val, .bool q.v.dead, .string q.x, .string q.y, .int .i64 q.t] 35) := ⟨_, rfl⟩
  have hb : Below w.heap.size w W := by rw [hW]; exact (Below.refl _ w).alloc (Nat.le_refl _) _
  obtain ⟨Z, hZ⟩ : ∃ Z, w.heap.size = Z := ⟨_, rfl⟩
  have jZ : W.heap[Z]? = some (ocZ q) := by rw [hW, ← hZ]; exact heap_alloc_new w _
  have hL0 := hL
  obtain ⟨ad, cap, rfl, _, z1, z2, hX⟩ := hL
  have HL := Lib.hid hL0
  have hmx : (L.length : Int) ≤ 1000000000000000 := by omega
  have HX := Lib.hid hX
  have HW := Lib.hid hW
  have HZ := Lib.hid hZ
  have HB := Lib.hid hb
  have HJ := Lib.hid jZ
  clear hX z1 z2 hW hZ hb jZ hL0
  go_enter Try.func4, Try.ntmps4
  go_upto_region 1 with fail
  rw [← HW.out, HZ.out]
  go_upto_block 0 with fail
  go_cut [5] (fun nv wx => ∃ m : Int, nv = .int .i64 m ∧ (m ≤ 1000 → (L.length : Int) + ((flatOf L).length : Int) ≤ 1000) ∧ Below W.heap.size W wx)
  case first =>
    go_wp2_with fail
    go_loopw [5, 16] (fun nv iv wr => ∃ (k : Nat), k ≤ L.length ∧ nv = .int .i64 ((L.length + (flatOf (L.take k)).length : Nat) : Int) ∧ iv = .int .i64 (k : Int) ∧ (k = 0 ∨ L.length + (flatOf (L.take k)).length ≤ 1000) ∧ Below W.heap.size W wr) (fun _ iv _ => L.length - (intOf iv).toNat)
    case atStart => exact ⟨0, Nat.zero_le _, rfl, rfl, .inl rfl, Below.refl _ _⟩
    case round =>
      obtain ⟨k, hk, rfl, rfl, hsm, hbw⟩ := hrel
      obtain ⟨V, rfl⟩ : ∃ V, V = wr := ⟨_, rfl⟩
      have HBW := Lib.hid hbw
      by_cases hlt : k < L.length
      · obtain ⟨b, o, lv, rfl, _, c0, c1, hv⟩ := HX.out k hlt
        have hbb := HB.out.trans (hbw.mono HB.out.size)
        have c0 := cell_on hbb c0
        have c1 := cell_on hbb c1
        obtain ⟨la, lc, rfl, _, x1, x2, _⟩ := hv
        have k0 : (0 : Int) ≤ k := by omega
        have k1 : (k : Int) < L.length := by omega
        have hft := flat_take L hlt
        have hl2 : L[k].list.length ≤ 1000000000000000 := hlbs _ (List.getElem_mem hlt)
        have hsm2 : L.length + (flatOf (L.take k)).length ≤ 1000000000001000 := by
          rcases hsm with e | e
          · subst e
            have : (flatOf (L.take 0)).length = 0 := rfl
            omega
          · omega
        obtain ⟨n0, hn0⟩ : ∃ n0, L.length + (flatOf (L.take k)).length = n0 := ⟨_, rfl⟩
        obtain ⟨kk, hkk⟩ : ∃ kk, L[k].key = kk := ⟨_, rfl⟩
        obtain ⟨n1, hn1⟩ : ∃ n1, L[k].list.length = n1 := ⟨_, rfl⟩
        rw [hkk] at c0
        rw [hn1] at c1 hft hl2
        rw [hn0] at hsm2
        have HNX : Hid (L.length + (flatOf (L.take (k + 1))).length = n0 + n1) := by show _ = _; omega
        have n1b : (n1 : Int) ≤ 1000000000000000 := by omega
        have n0b : (n0 : Int) ≤ 1000000000001000 := by omega
        have hsum : (n0 : Int) + (n1 : Int) ≤ 9223372036854775807 := by omega
        have hbA : ∀ o, Below W.heap.size W (V.alloc o) := fun o => hbw.alloc hbw.size o
        have HBA := Lib.hid hbA
        rw [hn0]
        clear hbw hbb hft hsm hsm2 hkk hn1 hn0 hl2 x1 x2 hbA
        by_cases hbig : (1000 : Int) < (n0 : Int) + (n1 : Int)
        · go_wp2
          go_meet
          exact ⟨(n0 : Int) + (n1 : Int), by go_num, fun z => by omega, HBA.out _⟩
        · go_wp2
          go_roundw
          case rel => exact ⟨k + 1, hlt, by rw [HNX.out]; go_num, by go_num, .inr (by rw [HNX.out]; omega), HBA.out _⟩
          case measure => simp [intOf]; omega
      · have k1 : ¬ (k : Int) < L.length := by omega
        have e : L.take k = L := List.take_of_length_le (by omega)
        have HA : Hid (∃ m : Int, Value.int .i64 ((L.length + (flatOf (L.take k)).length : Nat) : Int) = .int .i64 m ∧ (m ≤ 1000 → (L.length : Int) + ((flatOf L).length : Int) ≤ 1000) ∧ Below W.heap.size W V) := ⟨_, rfl, fun z => (by rw [e] at z; omega), hbw⟩
        obtain ⟨n0, hn0⟩ : ∃ n0, L.length + (flatOf (L.take k)).length = n0 := ⟨_, rfl⟩
        rw [hn0] at HA ⊢
        clear hbw e hsm hn0
        go_wp2
        go_meet
        exact HA.out
  case rest =>
    obtain ⟨m, rfl, hm, hbc⟩ := hcut
    obtain ⟨W1, rfl⟩ : ∃ W1, W1 = wc := ⟨_, rfl⟩
    have HM := Lib.hid hm
    have HB1 := Lib.hid (HB.out.trans (hbc.mono HB.out.size))
    have HJ1 : Hid (W1.heap[Z]? = some (ocZ q)) := (hbc.block Z (blk_lt HJ.out)).trans HJ.out
    have haw := awake_any W1
    clear hm hbc HX
    go_wp2_with fail
    refine haw.mono ?_
    rintro e w2 ⟨rfl, b2⟩
    have HB2 := Lib.hid (HB1.out.trans (b2.mono HB1.out.size))
    have HJ2 : Hid (w2.heap[Z]? = some (ocZ q)) := (b2.block Z (blk_lt HJ1.out)).trans HJ1.out
    clear b2 haw
    by_cases hbig : (1000 : Int) < m
    · have haw := awake_any w2
      go_wp2_with fail
      refine haw.mono ?_
      rintro e w3 ⟨rfl, b3⟩
      go_wp2
      go_ret
      exact ⟨rfl, HB2.out.trans (b3.mono HB2.out.size)⟩
    have hsz := HM.out (by omega)
    have hz1 : L.length ≤ 1000 := by omega
    have hz2 : (flatOf L).length ≤ 1000 := by omega
    have hz3 : ∀ r ∈ L, r.list.length ≤ 1000 := fun r hr => Nat.le_trans (mem_flat hr) hz2
    have hld := load_any (HL.out.on HB2.out) hz1 hz3
    go_wp2_with fail
    refine hld.mono ?_
    rintro e w3 ⟨b3, hans⟩
    have HB3 := Lib.hid (HB2.out.trans (b3.mono HB2.out.size))
    have HJ3 : Hid (w3.heap[Z]? = some (ocZ q)) := (b3.block Z (blk_lt HJ2.out)).trans HJ2.out
    have hlr := load_r (HL.out.on HB3.out) hz2 hks
    have HB23 := Lib.hid b3
    clear hld b3
    rcases hans with ⟨hok, A, S, rfl, hsb, hlo⟩ | ⟨hno, rfl⟩
    · have HSB := Lib.hid hsb
      have HLO := Lib.hid hlo
      clear hsb hlo
      go_wp2_with fail
      refine hlr.mono ?_
      rintro e w4 ⟨b4, hans⟩
      clear hlr
      rcases hans with ⟨_, E, T, lv, rfl, hrs, hlo2⟩ | ⟨hno, rfl⟩
      · have hrow := rowsOf_flat hok
        have hsb4 := HSB.out.on b4
        have HBO : Hid (Both w2 w4 A E 1000 S T L (flatOf L) lv) :=
          ⟨⟨hsb4, hz1, hz3, HLO.out, HB23.out.trans (b4.mono HB23.out.size)⟩, hrs, hz2, flat_sz hks, fun j z1 z2 => (by
            have z3 := HSB.out.lt j z1
            have z4 := hlo2 j z2
            omega), fun j z => (by
            have z4 := hlo2 j z
            have z5 := HB23.out.size
            omega)⟩
        have hSl : ∀ j, S j → j < w4.heap.size := hsb4.lt
        have hTl : ∀ j, T j → j < w4.heap.size := hrs.lt
        have hSZ : ¬ S Z := fun z => by
          have z1 := HLO.out Z z
          have z2 := blk_lt HJ2.out
          omega
        have hTZ : ¬ T Z := fun z => by
          have z1 := hlo2 Z z
          have z2 := blk_lt HJ3.out
          omega
        have HJ4 : Hid (w4.heap[Z]? = some (ocZ q)) := (b4.block Z (blk_lt HJ3.out)).trans HJ3.out
        have HPE : Hid (putE L q.key q.v = putDE (flatOf L) q.key q.v) := by
          have := putDE_is (flatOf L) q.key q.v
          rw [hrow] at this
          exact this
        have HPR : Hid (rowsOf (putD (flatOf L) q.key q.v) = putR L q.key q.v) := by
          have := putD_is (flatOf L) q.key q.v
          rw [hrow] at this
          exact this
        obtain ⟨D, hD⟩ : ∃ D, flatOf L = D := ⟨_, rfl⟩
        rw [hD] at HBO HPE HPR
        have hz2' : D.length ≤ 1000 := by rw [← hD]; exact hz2
        have HSL := Lib.hid hSl
        have HTL := Lib.hid hTl
        clear hrow hsb4 hrs hlo2 hD hsz hSl hTl b4 hok
        go_upto_region 14 with fail
        refine wp_region_fl (G14 w2 A E Z w4.heap.size S T L D lv q) (fun X9 X' => Fr X9 X' (fun j => j < w4.heap.size)) [
          fun v9 _ => v9 = .int .i64 0,
          fun v9 _ => v9 = .bool true,
          fun v9 _ => v9 = .bool true,
          fun v9 _ => v9 = .pointer (some ⟨A, 0, none⟩),
          fun v9 X9 => ∃ P9 : List (Rw × Value), P9.map Prod.fst = L ∧ Rm X9 w4.heap.size P9 v9,
          fun v9 _ => v9 = (.slice ad L.length cap),
          fun v9 _ => v9 = .bool true,
          fun v9 _ => v9 = .bool true,
          fun v9 _ => v9 = .bool true,
          fun v9 _ => v9 = .pointer (some ⟨A, 0, none⟩),
          fun v9 _ => v9 = .pointer (some ⟨Z, 1, none⟩),
          fun v9 _ => v9 = .string q.key,
          fun v9 _ => v9 = .pointer (some ⟨Z, 2, none⟩),
          fun v9 _ => v9 = .agg #[.int .i64 q.v.ts, .string q.v.val, .bool q.v.dead],
          fun v9 _ => v9 = .int .i64 (putDE D q.key q.v),
          fun v9 _ => v9 = .pointer (some ⟨E, 0, none⟩),
          fun v9 _ => v9 = .pointer (some ⟨Z, 1, none⟩),
          fun v9 _ => v9 = .string q.key,
          fun v9 _ => v9 = .pointer (some ⟨Z, 2, none⟩),
          fun v9 _ => v9 = .agg #[.int .i64 q.v.ts, .string q.v.val, .bool q.v.dead],
          fun v9 _ => v9 = .int .i64 (putDE D q.key q.v),
          fun v9 _ => v9 = .bool true,
          fun v9 _ => v9 = .bool true,
          fun v9 _ => v9 = .bool true,
          fun v9 _ => v9 = .pointer (some ⟨A, 0, none⟩),
          fun v9 X9 => ∃ P9 : List (Rw × Value), P9.map Prod.fst = putR L q.key q.v ∧ Rm X9 w4.heap.size P9 v9,
          fun v9 _ => v9 = .pointer (some ⟨E, 0, none⟩),
          fun v9 X9 => ∃ P9 : List (Rw × Value), P9.map Prod.fst = putR L q.key q.v ∧ Rm X9 w4.heap.size P9 v9,
          fun v9 _ => v9 = .bool true,
          fun v9 _ => v9 = .bool true,
          fun v9 _ => v9 = .bool true]
          (by kernel_rfl) (by kernel_rfl) (by kernel_rfl) ?st ?g0 ?os ?en
        case st => exact ⟨fun _ _ _ _ h => h, fun _ _ _ _ h => h, fun _ _ _ _ h => h, fun _ _ _ _ h => h, fun _ _ _ hs ⟨P, e, z⟩ => ⟨P, e, z.keep hs⟩, fun _ _ _ _ h => h, fun _ _ _ _ h => h, fun _ _ _ _ h => h, fun _ _ _ _ h => h, fun _ _ _ _ h => h, fun _ _ _ _ h => h, fun _ _ _ _ h => h, fun _ _ _ _ h => h, fun _ _ _ _ h => h, fun _ _ _ _ h => h, fun _ _ _ _ h => h, fun _ _ _ _ h => h, fun _ _ _ _ h => h, fun _ _ _ _ h => h, fun _ _ _ _ h => h, fun _ _ _ _ h => h, fun _ _ _ _ h => h, fun _ _ _ _ h => h, fun _ _ _ _ h => h, fun _ _ _ _ h => h, fun _ _ _ hs ⟨P, e, z⟩ => ⟨P, e, z.keep hs⟩, fun _ _ _ _ h => h, fun _ _ _ hs ⟨P, e, z⟩ => ⟨P, e, z.keep hs⟩, fun _ _ _ _ h => h, fun _ _ _ _ h => h, fun _ _ _ _ h => h, trivial⟩
        case g0 => exact ⟨HJ4.out, fun _ => HBO.out.on ⟨rfl, rfl, rfl, Nat.le_refl _, fun _ _ => rfl⟩, fun z => (by cases z), fun z => (by cases z), Nat.le_refl _⟩
        case os =>
          refine ⟨?_, ?_, ?_, ?_, ?_, ?_, ?_, ?_, ?_, ?_, ?_, ?_, ?_, ?_, ?_, ?_, ?_, ?_, ?_, ?_, ?_, ?_, ?_, ?_, ?_, ?_, ?_, ?_, ?_, ?_, ?_, trivial⟩
          · exact fun ρ X9 fl hg hn hl hp ho hc hf hr => .inl ⟨rfl, Runs.val _ (op_move (show ρ (.tmp 9) = .int .i64 0 from ho 9 rfl)) ⟨hg, Fr.refl _ _, rfl⟩⟩
          · exact fun ρ X9 fl hg hn hl hp ho hc hf hr => .inl ⟨rfl, Runs.val _ (op_eql36 (show ρ (.tmp 53) = .int .i64 0 from hr 0 53 rfl rfl) (hc _)) ⟨hg, Fr.refl _ _, rfl⟩⟩
          · exact fun ρ X9 fl hg hn hl hp ho hc hf hr => .inl ⟨rfl, Runs.val _ (op_move (show ρ (.tmp 54) = .bool true from hr 1 54 rfl rfl)) ⟨hg, Fr.refl _ _, rfl⟩⟩
          · exact fun ρ X9 fl hg hn hl hp ho hc hf hr => .inr (.inl ⟨2, 55, true, fun _ => rfl, rfl, hr 2 55 rfl rfl, Runs.val _ (op_move (show ρ (.tmp 8) = .pointer (some ⟨A, 0, none⟩) from ho 8 rfl)) ⟨hg, Fr.refl _ _, rfl⟩⟩)
          · refine fun ρ X9 fl hg hn hl hp ho hc hf hr => .inr (.inl ⟨2, 55, true, fun _ => rfl, rfl, hr 2 55 rfl rfl, ?_⟩)
            have hfl : fl 14 = false := by
              cases h : fl 14 with
              | false => rfl
              | true => exact absurd (hl 6 _ 4 rfl rfl (hl 8 _ 6 rfl rfl (hl 14 _ 8 rfl rfl h))) (by rw [hn]; decide)
            refine Runs.goes 17 #[.pointer (some ⟨A, 0, none⟩)] (op_call1 hf call17 (show ρ (.tmp 56) = .pointer (some ⟨A, 0, none⟩) from hr 3 56 rfl rfl)) ((rows_b (hg.2.1 hfl).pj.sb).mono ?_)
            rintro e7 w7 ⟨ad7, cap7, P7, rfl, h7, r7, b7⟩
            exact ⟨_, rfl, hg.on b7, (Fr.ofBelow _ b7), P7, h7, ⟨own_mono r7.own hg.2.2.2.2, fun p hp => own_mono (r7.ls p hp) hg.2.2.2.2⟩⟩
          · exact fun ρ X9 fl hg hn hl hp ho hc hf hr => .inr (.inl ⟨2, 55, true, fun _ => rfl, rfl, hr 2 55 rfl rfl, Runs.val _ (op_move (show ρ (.tmp 0) = (.slice ad L.length cap) from ho 0 rfl)) ⟨hg, Fr.refl _ _, rfl⟩⟩)
          · refine fun ρ X9 fl hg hn hl hp ho hc hf hr => .inr (.inl ⟨2, 55, true, fun _ => rfl, rfl, hr 2 55 rfl rfl, ?_⟩)
            obtain ⟨P9, e9, r9⟩ : ∃ P9 : List (Rw × Value), P9.map Prod.fst = L ∧ Rm X9 w4.heap.size P9 (ρ (.tmp 57)) := hr 4 57 rfl rfl
            refine Runs.goes 18 #[ρ (.tmp 57), (.slice ad L.length cap)] (op_call2 hf call18 rfl (show ρ (.tmp 58) = (.slice ad L.length cap) from hr 5 58 rfl rfl)) ((same_rows (r9.rd e9) (HL.out.on (HB2.out.trans (hg.bel.mono HB2.out.size)))).mono ?_)
            rintro e7 w7 ⟨rfl, b7⟩
            exact ⟨_, rfl, hg.on b7, (Fr.ofBelow _ b7), rfl⟩
          · exact fun ρ X9 fl hg hn hl hp ho hc hf hr => .inl ⟨rfl, Runs.val _ (op_pick (show ρ (.tmp 55) = .bool true from hr 2 55 rfl rfl) (show ρ (.tmp 59) = .bool true from hr 6 59 rfl rfl)) ⟨hg, Fr.refl _ _, rfl⟩⟩
          · exact fun ρ X9 fl hg hn hl hp ho hc hf hr => .inl ⟨rfl, Runs.val _ (op_move (show ρ (.tmp 60) = .bool true from hr 7 60 rfl rfl)) ⟨hg, Fr.refl _ _, rfl⟩⟩
          · exact fun ρ X9 fl hg hn hl hp ho hc hf hr => .inr (.inl ⟨8, 61, true, fun _ => rfl, rfl, hr 8 61 rfl rfl, Runs.val _ (op_move (show ρ (.tmp 8) = .pointer (some ⟨A, 0, none⟩) from ho 8 rfl)) ⟨hg, Fr.refl _ _, rfl⟩⟩)
          · exact fun ρ X9 fl hg hn hl hp ho hc hf hr => .inr (.inl ⟨8, 61, true, fun _ => rfl, rfl, hr 8 61 rfl rfl, Runs.val _ (op_f35_1 (show ρ (.tmp 3) = .pointer (some ⟨Z, 0, none⟩) from ho 3 rfl)) ⟨hg, Fr.refl _ _, rfl⟩⟩)
          · exact fun ρ X9 fl hg hn hl hp ho hc hf hr => .inr (.inl ⟨8, 61, true, fun _ => rfl, rfl, hr 8 61 rfl rfl, Runs.val _ (op_load9 (show ρ (.tmp 63) = .pointer (some ⟨Z, 1, none⟩) from hr 10 63 rfl rfl) (cell_blk hg.1 1)) ⟨hg, Fr.refl _ _, rfl⟩⟩)
          · exact fun ρ X9 fl hg hn hl hp ho hc hf hr => .inr (.inl ⟨8, 61, true, fun _ => rfl, rfl, hr 8 61 rfl rfl, Runs.val _ (op_f35_2 (show ρ (.tmp 3) = .pointer (some ⟨Z, 0, none⟩) from ho 3 rfl)) ⟨hg, Fr.refl _ _, rfl⟩⟩)
          · exact fun ρ X9 fl hg hn hl hp ho hc hf hr => .inr (.inl ⟨8, 61, true, fun _ => rfl, rfl, hr 8 61 rfl rfl, Runs.val _ (op_load31 (show ρ (.tmp 65) = .pointer (some ⟨Z, 2, none⟩) from hr 12 65 rfl rfl) (cell_blk hg.1 2) (cell_blk hg.1 3) (cell_blk hg.1 4)) ⟨hg, Fr.refl _ _, rfl⟩⟩)
          · refine fun ρ X9 fl hg hn hl hp ho hc hf hr => .inr (.inl ⟨8, 61, true, fun _ => rfl, rfl, hr 8 61 rfl rfl, ?_⟩)
            have hB := hg.2.1 hn
            refine Runs.goes 10 #[.pointer (some ⟨A, 0, none⟩), .string q.key, veV q.v] (op_call3 hf call10 (show ρ (.tmp 62) = .pointer (some ⟨A, 0, none⟩) from hr 9 62 rfl rfl) (show ρ (.tmp 64) = .string q.key from hr 11 64 rfl rfl) (show ρ (.tmp 66) = .agg #[.int .i64 q.v.ts, .string q.v.val, .bool q.v.dead] from hr 13 66 rfl rfl)) ((hB.pj.call (by omega) q.key q.v).mono ?_)
            rintro e7 w7 h7
            obtain ⟨S7, k7⟩ := hB.put1 h7
            obtain ⟨rfl, _, _, _, f7⟩ := h7
            refine ⟨_, rfl, ⟨(f7.block Z (blk_lt hg.1) hSZ).trans hg.1, fun z => absurd (show true = false from z) (by decide), fun _ _ => ⟨S7, k7⟩, fun z => ?_, Nat.le_trans hg.2.2.2.2 f7.size⟩, f7.mono (fun j hj => HSL.out j hj), (show Value.int .i64 (putE L q.key q.v) = Value.int .i64 (putDE D q.key q.v) from by rw [HPE.out])⟩
            have z' : fl 20 = true := z
            exact absurd (hl 20 _ 14 rfl rfl z') (by rw [hn]; decide)
          · exact fun ρ X9 fl hg hn hl hp ho hc hf hr => .inr (.inl ⟨8, 61, true, fun _ => rfl, rfl, hr 8 61 rfl rfl, Runs.val _ (op_move (show ρ (.tmp 10) = .pointer (some ⟨E, 0, none⟩) from ho 10 rfl)) ⟨hg, Fr.refl _ _, rfl⟩⟩)
          · exact fun ρ X9 fl hg hn hl hp ho hc hf hr => .inr (.inl ⟨8, 61, true, fun _ => rfl, rfl, hr 8 61 rfl rfl, Runs.val _ (op_f35_1 (show ρ (.tmp 3) = .pointer (some ⟨Z, 0, none⟩) from ho 3 rfl)) ⟨hg, Fr.refl _ _, rfl⟩⟩)
          · exact fun ρ X9 fl hg hn hl hp ho hc hf hr => .inr (.inl ⟨8, 61, true, fun _ => rfl, rfl, hr 8 61 rfl rfl, Runs.val _ (op_load9 (show ρ (.tmp 69) = .pointer (some ⟨Z, 1, none⟩) from hr 16 69 rfl rfl) (cell_blk hg.1 1)) ⟨hg, Fr.refl _ _, rfl⟩⟩)
          · exact fun ρ X9 fl hg hn hl hp ho hc hf hr => .inr (.inl ⟨8, 61, true, fun _ => rfl, rfl, hr 8 61 rfl rfl, Runs.val _ (op_f35_2 (show ρ (.tmp 3) = .pointer (some ⟨Z, 0, none⟩) from ho 3 rfl)) ⟨hg, Fr.refl _ _, rfl⟩⟩)
          · exact fun ρ X9 fl hg hn hl hp ho hc hf hr => .inr (.inl ⟨8, 61, true, fun _ => rfl, rfl, hr 8 61 rfl rfl, Runs.val _ (op_load31 (show ρ (.tmp 71) = .pointer (some ⟨Z, 2, none⟩) from hr 18 71 rfl rfl) (cell_blk hg.1 2) (cell_blk hg.1 3) (cell_blk hg.1 4)) ⟨hg, Fr.refl _ _, rfl⟩⟩)
          · refine fun ρ X9 fl hg hn hl hp ho hc hf hr => .inr (.inl ⟨8, 61, true, fun _ => rfl, rfl, hr 8 61 rfl rfl, ?_⟩)
            obtain ⟨S7, hB⟩ := hg.2.2.1 (hp 14 rfl) hn
            refine Runs.goes 11 #[.pointer (some ⟨E, 0, none⟩), .string q.key, veV q.v] (op_call3 hf call11 (show ρ (.tmp 68) = .pointer (some ⟨E, 0, none⟩) from hr 15 68 rfl rfl) (show ρ (.tmp 70) = .string q.key from hr 17 70 rfl rfl) (show ρ (.tmp 72) = .agg #[.int .i64 q.v.ts, .string q.v.val, .bool q.v.dead] from hr 19 72 rfl rfl)) ((put_r hB.rs q.key q.v (by omega)).mono ?_)
            rintro e7 w7 h7
            obtain ⟨T7, lv7, k7⟩ := hB.put2 hz2' hq.key h7
            obtain ⟨rfl, _, _, _, _, f7⟩ := h7
            refine ⟨_, rfl, ⟨(f7.block Z (blk_lt hg.1) hTZ).trans hg.1, fun z => ?_, fun _ z => absurd (show true = false from z) (by decide), fun _ => ⟨S7, T7, lv7, k7⟩, Nat.le_trans hg.2.2.2.2 f7.size⟩, f7.mono (fun j hj => HTL.out j hj), rfl⟩
            have z' : fl 14 = false := z
            exact absurd (hp 14 rfl) (by rw [z']; decide)
          · exact fun ρ X9 fl hg hn hl hp ho hc hf hr => .inr (.inl ⟨8, 61, true, fun _ => rfl, rfl, hr 8 61 rfl rfl, Runs.val _ (op_eql3 (show ρ (.tmp 67) = .int .i64 (putDE D q.key q.v) from hr 14 67 rfl rfl) (show ρ (.tmp 73) = .int .i64 (putDE D q.key q.v) from hr 20 73 rfl rfl)) ⟨hg, Fr.refl _ _, rfl⟩⟩)
          · exact fun ρ X9 fl hg hn hl hp ho hc hf hr => .inl ⟨rfl, Runs.val _ (op_pick (show ρ (.tmp 61) = .bool true from hr 8 61 rfl rfl) (show ρ (.tmp 74) = .bool true from hr 21 74 rfl rfl)) ⟨hg, Fr.refl _ _, rfl⟩⟩
          · exact fun ρ X9 fl hg hn hl hp ho hc hf hr => .inl ⟨rfl, Runs.val _ (op_move (show ρ (.tmp 75) = .bool true from hr 22 75 rfl rfl)) ⟨hg, Fr.refl _ _, rfl⟩⟩
          · exact fun ρ X9 fl hg hn hl hp ho hc hf hr => .inr (.inl ⟨23, 76, true, fun _ => rfl, rfl, hr 23 76 rfl rfl, Runs.val _ (op_move (show ρ (.tmp 8) = .pointer (some ⟨A, 0, none⟩) from ho 8 rfl)) ⟨hg, Fr.refl _ _, rfl⟩⟩)
          · refine fun ρ X9 fl hg hn hl hp ho hc hf hr => .inr (.inl ⟨23, 76, true, fun _ => rfl, rfl, hr 23 76 rfl rfl, ?_⟩)
            obtain ⟨S7, T7, lv7, hB⟩ := hg.2.2.2.1 (hl 23 _ 20 rfl rfl (hp 23 rfl))
            refine Runs.goes 17 #[.pointer (some ⟨A, 0, none⟩)] (op_call1 hf call17 (show ρ (.tmp 77) = .pointer (some ⟨A, 0, none⟩) from hr 24 77 rfl rfl)) ((rows_b hB.pj.sb).mono ?_)
            rintro e7 w7 ⟨ad7, cap7, P7, rfl, h7, r7, b7⟩
            exact ⟨_, rfl, hg.on b7, (Fr.ofBelow _ b7), P7, h7, ⟨own_mono r7.own hg.2.2.2.2, fun p hp => own_mono (r7.ls p hp) hg.2.2.2.2⟩⟩
          · exact fun ρ X9 fl hg hn hl hp ho hc hf hr => .inr (.inl ⟨23, 76, true, fun _ => rfl, rfl, hr 23 76 rfl rfl, Runs.val _ (op_move (show ρ (.tmp 10) = .pointer (some ⟨E, 0, none⟩) from ho 10 rfl)) ⟨hg, Fr.refl _ _, rfl⟩⟩)
          · refine fun ρ X9 fl hg hn hl hp ho hc hf hr => .inr (.inl ⟨23, 76, true, fun _ => rfl, rfl, hr 23 76 rfl rfl, ?_⟩)
            obtain ⟨S7, T7, lv7, hB⟩ := hg.2.2.2.1 (hl 23 _ 20 rfl rfl (hp 23 rfl))
            refine Runs.goes 19 #[.pointer (some ⟨E, 0, none⟩)] (op_call1 hf call19 (show ρ (.tmp 79) = .pointer (some ⟨E, 0, none⟩) from hr 26 79 rfl rfl)) ((rows_r hB.rs hB.sz (by have := hB.len; omega)).mono ?_)
            rintro e7 w7 ⟨ad7, cap7, P7, rfl, h7, r7, b7⟩
            exact ⟨_, rfl, hg.on b7, (Fr.ofBelow _ b7), P7, h7.trans HPR.out, ⟨own_mono r7.own hg.2.2.2.2, fun p hp => own_mono (r7.ls p hp) hg.2.2.2.2⟩⟩
          · refine fun ρ X9 fl hg hn hl hp ho hc hf hr => .inr (.inl ⟨23, 76, true, fun _ => rfl, rfl, hr 23 76 rfl rfl, ?_⟩)
            obtain ⟨P8, e8, r8⟩ : ∃ P9 : List (Rw × Value), P9.map Prod.fst = putR L q.key q.v ∧ Rm X9 w4.heap.size P9 (ρ (.tmp 78)) := hr 25 78 rfl rfl
            obtain ⟨P9, e9, r9⟩ : ∃ P9 : List (Rw × Value), P9.map Prod.fst = putR L q.key q.v ∧ Rm X9 w4.heap.size P9 (ρ (.tmp 80)) := hr 27 80 rfl rfl
            refine Runs.goes 18 #[ρ (.tmp 78), ρ (.tmp 80)] (op_call2 hf call18 rfl rfl) ((same_rows (r8.rd e8) (r9.rd e9)).mono ?_)
            rintro e7 w7 ⟨rfl, b7⟩
            exact ⟨_, rfl, hg.on b7, (Fr.ofBelow _ b7), rfl⟩
          · exact fun ρ X9 fl hg hn hl hp ho hc hf hr => .inl ⟨rfl, Runs.val _ (op_pick (show ρ (.tmp 76) = .bool true from hr 23 76 rfl rfl) (show ρ (.tmp 81) = .bool true from hr 28 81 rfl rfl)) ⟨hg, Fr.refl _ _, rfl⟩⟩
          · exact fun ρ X9 fl hg hn hl hp ho hc hf hr => .inl ⟨rfl, Runs.val _ (op_assign (show ρ (.tmp 82) = .bool true from hr 29 82 rfl rfl)) ⟨hg, Fr.refl _ _, rfl⟩⟩
        case en =>
          intro a X9 fl hfl hG hs hd ho hr
          obtain ⟨x, hx, hxt⟩ := act_put hs hd ho
          have x4 : x 4 = .bool true := (hxt 4).symm.trans (hr 30 4 rfl)
          change a = putAll _ x [53, 54, 55, 56, 57, 58, 59, 60, 61, 62, 63, 64, 65, 66, 67, 68, 69, 70, 71, 72, 73, 74, 75, 76, 77, 78, 79, 80, 81, 82, 4] at hx
          simp only [putAll, Act.put, List.setIfInBounds_toArray, List.set_cons_zero, List.set_cons_succ, x4] at hx
          have HBX := Lib.hid (HB2.out.trans (hG.bel.mono HB2.out.size))
          clear hG hs hd ho hr hxt x4
          subst hx
          go_wp2
          go_ret
          exact ⟨rfl, HBX.out⟩
      · exact absurd hok hno
    · go_wp2_with fail
      refine hlr.mono ?_
      rintro e w4 ⟨b4, hans⟩
      clear hlr
      rcases hans with ⟨hok, _⟩ | ⟨_, rfl⟩
      · exact absurd hok hno
      · have HB4 := Lib.hid (HB3.out.trans (b4.mono HB3.out.size))
        clear b4 hno
        go_wp2
        go_ret
        exact ⟨rfl, HB4.out⟩
end
end Go.Proofs.Ythjnfkgheihgkaa
