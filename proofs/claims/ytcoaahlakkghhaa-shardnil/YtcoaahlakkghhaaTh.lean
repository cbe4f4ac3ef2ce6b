/- The walk of awake. -/
import Derived.Test.YtcoaahlakkghhaaTg
namespace Go.Proofs.Ytcoaahlakkghhaa
open Go.RowKit
abbrev cmA (k : Int) (t : Td) (wv : Value) (mn til ts : Int) : Array Value := #[.int .i64 k, .int .i64 0, .int .i64 0, .int .i64 0, .int .i64 t.1, .int .i64 t.2.1, .int .i64 t.2.2, .int .i64 0, .slice none 0 0, wv, .int .i64 mn, .int .i64 til, .int .i64 ts, .int .i64 0, .int .i64 0, .int .i64 0, .string ⟨#[]⟩, .string ⟨#[]⟩, .string ⟨#[]⟩, .string ⟨#[]⟩, .bool false, .int .i64 0, .int .i64 0, .int .i64 0, .string ⟨#[]⟩, .slice none 0 0, .int .i64 0, .int .i64 0, .string ⟨#[]⟩, .int .i64 0]
theorem cmA_cc {X : World} {k : Int} {t : Td} {L : List Wr} {wa : Option Addr} {wc : Nat} {mn til ts : Int} (h : Lr wrE 3 X L (.slice wa L.length wc)) : Cc X ⟨k, t, 0, [], L, mn, til, ts⟩ (cmA k t (.slice wa L.length wc) mn til ts) none 0 wa wc where
  sz := rfl
  one := by simp [Value.oneCell']
  k := rfl
  t0 := rfl
  t1 := rfl
  t2 := rfl
  hm := rfl
  rs := rfl
  ws := rfl
  mn := rfl
  til := rfl
  ts := rfl
  rl := ⟨none, 0, rfl, fun _ => rfl, Nat.le_refl _, Nat.zero_le _, fun i hi => absurd hi (by simp)⟩
  wl := h
theorem wr_nil (X : World) : Lr wrE 3 X [] (.slice none 0 0) := ⟨none, 0, rfl, fun _ => rfl, Nat.le_refl _, Nat.zero_le _, fun i hi => absurd hi (by simp)⟩
theorem wr_aw {X : World} {B : Nat} (h : X.heap[B]? = some (.cells #[.string aK, .string xK, .bool false] 55 (0, 0))) : Lr wrE 3 X awL (.slice (some ⟨B, 0, none⟩) 1 1) :=
  ⟨some ⟨B, 0, none⟩, 1, rfl, (fun e => by cases e), Nat.le_refl _, (by unfold maxLen; omega), fun i hi => by
    have h0 : i = 0 := by have : i < 1 := hi; omega
    subst h0
    exact ⟨B, 0, [.string aK, .string xK, .bool false], rfl, blk_lt h, rfl, rfl, fun j u hu => by
      rw [show 0 + 0 * 3 + j = j from by omega, cell_blk h j]
      simpa using hu⟩⟩
/-- A shard in memory made since w, and blocks beside it. -/
structure Aw (w V : World) (A : Nat) (S : Nat → Prop) (s : Sh) (Bs : List (Nat × Obj)) : Prop where
  hy : Sy V A S s
  lo : Below w.heap.size w V
  fr : ∀ k, S k → w.heap.size ≤ k
  kp : ∀ p ∈ Bs, V.heap[p.1]? = some p.2 ∧ ¬ S p.1
section
variable {w V V' : World} {A : Nat} {S : Nat → Prop} {s s' : Sh} {Bs : List (Nat × Obj)}
theorem Aw.next (h : Aw w V A S s Bs) (st : Step V A S s' V') : ∃ S', Aw w V' A S' s' Bs := by
  obtain ⟨S', hy', hg, hf⟩ := st
  refine ⟨S', hy', fr_below h.fr h.lo hf, fun k q => gro_fresh h.fr h.lo.size k (hg k q), fun p hp => ?_⟩
  obtain ⟨h1, h2⟩ := h.kp p hp
  have hl : p.1 < V.heap.size := by
    rw [Array.getElem?_eq_some_iff] at h1
    exact h1.1
  refine ⟨(hf.block p.1 hl h2).trans h1, fun q => ?_⟩
  rcases hg p.1 q with z | z
  · exact h2 z
  · omega
theorem Aw.on (h : Aw w V A S s Bs) (hb : Below V.heap.size V V') : Aw w V' A S s Bs :=
  ⟨h.hy.on hb, h.lo.trans (hb.mono h.lo.size), h.fr, fun p hp => by
    obtain ⟨h1, h2⟩ := h.kp p hp
    have hl : p.1 < V.heap.size := by
      rw [Array.getElem?_eq_some_iff] at h1
      exact h1.1
    exact ⟨(hb.block p.1 hl).trans h1, h2⟩⟩
theorem Aw.add (h : Aw w V A S s Bs) (cs : Array Value) (t : TypeId) : Aw w (V.alloc (.cells cs t)) A S s ((V.heap.size, .cells cs t) :: Bs) := by
  have h' := h.on ((Below.refl _ V).alloc (Nat.le_refl _) (.cells cs t))
  refine ⟨h'.hy, h'.lo, h'.fr, fun p hp => ?_⟩
  rcases List.mem_cons.1 hp with rfl | hp
  · refine ⟨heap_alloc_new V _, fun q => ?_⟩
    have := h.hy.lt _ q
    simp at this
  · exact h'.kp p hp
theorem aw_do (h : Aw w V A S s Bs) {c : Cm} {cs : Array Value} {wa : Option Addr} {wc : Nat} {r : Sh × Rz} (hc : ∀ X, Fr V X S → Cc X c cs none 0 wa wc) (ht : TdOk c.txn) (hk : I64 c.kind) (hr : Room s c 1 1) (he : s.act 5 c = r) : Calls Try.prog 13 #[.pointer (some ⟨A, 0, none⟩), .int .i64 5, .agg cs] V fun e w' => e = .returned (rzV r.2) ∧ ∃ S', Aw w w' A S' r.1 Bs := by
  refine (do_any h.hy hc ht hk hr 5).mono ?_
  rw [he]
  rintro e w' ⟨rfl, st⟩
  exact ⟨rfl, h.next st⟩
end
theorem room_nil {c : Cm} (h1 : c.reads.length ≤ 1) (h2 : c.writes.length ≤ 1) : Room Sh.nil c 1 1 := ⟨by decide, by decide, by decide, by omega, by omega, (fun l hl => by cases hl), by decide, fun r hr => (by cases hr), by decide⟩
theorem room_1 {c : Cm} (h1 : c.reads.length ≤ 1) (h2 : c.writes.length ≤ 1) : Room as1 c 1 1 := ⟨by decide, by decide, by decide, by omega, by omega, (fun l hl => by rw [List.mem_singleton.1 hl]; decide), by decide, fun r hr => (by cases hr), by decide⟩
theorem room_3 {c : Cm} (h1 : c.reads.length ≤ 1) (h2 : c.writes.length ≤ 1) : Room as3 c 1 1 := ⟨by decide, by decide, by decide, by omega, by omega, (fun l hl => by rw [List.mem_singleton.1 hl]; decide), by decide, fun r hr => (by cases hr), by decide⟩
theorem room_4 {c : Cm} (h1 : c.reads.length ≤ 1) (h2 : c.writes.length ≤ 1) : Room as4 c 1 1 := ⟨by decide, by decide, by decide, by omega, by omega, fun l hl => (by cases hl), by decide, (fun r hr => by rw [List.mem_singleton.1 hr]; decide), by decide⟩
theorem td_1 : TdOk (0, 0, 1) := by unfold TdOk I64; simp
theorem td_2 : TdOk (0, 0, 2) := by unfold TdOk I64; simp
set_option maxHeartbeats 4000000 in
set_option maxRecDepth 100000 in
theorem awake_any (w : World) : Calls Try.prog 9 #[] w fun e w' => e = .returned (.bool true) ∧ Below w.heap.size w w' := by
  have hn := newS_any w
  go_enter Try.func9, Try.ntmps9
  go_wp2_with fail
  refine hn.mono ?_
  rintro e w1 ⟨A, S, rfl, hy, hS, b1⟩
  clear hn
  obtain ⟨P, hP⟩ : ∃ P, w1.heap.size = P := ⟨_, rfl⟩
  obtain ⟨T, hT⟩ : ∃ T : Obj, T = .cells #[.int .i64 0, .int .i64 0, .int .i64 1] 37 := ⟨_, rfl⟩
  obtain ⟨U, hU⟩ : ∃ U : Obj, U = .cells #[.int .i64 0, .int .i64 0, .int .i64 2] 37 := ⟨_, rfl⟩
  obtain ⟨O, hO⟩ : ∃ O : Obj, O = .cells #[.string ⟨#[97]⟩, .string ⟨#[120]⟩, .bool false] 55 := ⟨_, rfl⟩
  obtain ⟨W, hW⟩ : ∃ W, W = ((w1.alloc (.cells #[.int .i64 0, .int .i64 0, .int .i64 1] 37)).alloc (.cells #[.int .i64 0, .int .i64 0, .int .i64 2] 37)).alloc (.cells #[.string ⟨#[97]⟩, .string ⟨#[120]⟩, .bool false] 55) := ⟨_, rfl⟩
  have aw : Aw w W A S Sh.nil [(P + 1 + 1, O), (P + 1, U), (P, T)] := by
    have q : Aw w w1 A S Sh.nil [] := ⟨hy, b1, fun k hk => (hS k hk).1, fun p hp => by cases hp⟩
    have q3 := ((q.add #[.int .i64 0, .int .i64 0, .int .i64 1] 37).add #[.int .i64 0, .int .i64 0, .int .i64 2] 37).add #[.string ⟨#[97]⟩, .string ⟨#[120]⟩, .bool false] 55
    simp only [World.size_alloc] at q3
    rw [← hW, hP] at q3
    rw [hT, hU, hO]
    exact q3
  have HT := Lib.hid hT
  have HU := Lib.hid hU
  have HO := Lib.hid hO
  have HW := Lib.hid hW
  have HP := Lib.hid hP
  clear hy hS b1 hP hT hU hO hW
  have jt := (aw.kp _ (.tail _ (.tail _ (.head _)))).1
  simp only [HT.out] at jt
  have ct0 : W.cell? ⟨P, 0, none⟩ = some (.int .i64 0) := cell_blk jt 0
  have ct1 : W.cell? ⟨P, 1, none⟩ = some (.int .i64 0) := cell_blk jt 1
  have ct2 : W.cell? ⟨P, 2, none⟩ = some (.int .i64 1) := cell_blk jt 2
  have nw := (aw.kp _ (.head _)).2
  have jw := (aw.kp _ (.head _)).1
  simp only [HO.out] at jw
  have hdo : Hid (Calls Try.prog 13 #[.pointer (some ⟨A, 0, none⟩), .int .i64 5, .agg #[.int .i64 1, .int .i64 0, .int .i64 0, .int .i64 0, .int .i64 0, .int .i64 0, .int .i64 1, .int .i64 0, .slice none 0 0, .slice (some ⟨P + 1 + 1, 0, none⟩) 1 1, .int .i64 0, .int .i64 0, .int .i64 0, .int .i64 0, .int .i64 0, .int .i64 0, .string ⟨#[]⟩, .string ⟨#[]⟩, .string ⟨#[]⟩, .string ⟨#[]⟩, .bool false, .int .i64 0, .int .i64 0, .int .i64 0, .string ⟨#[]⟩, .slice none 0 0, .int .i64 0, .int .i64 0, .string ⟨#[]⟩, .int .i64 0]] W fun e w' => e = .returned (.agg #[.int .i64 0, .int .i64 0, .int .i64 0, .int .i64 0, .int .i64 0, .int .i64 0, .int .i64 0, .int .i64 0, .bool true]) ∧ ∃ S', Aw w w' A S' as1 [(P + 1 + 1, O), (P + 1, U), (P, T)]) := aw_do (c := aw1) aw (fun X hX => cmA_cc (L := awL) (wr_aw ((hX.block _ (blk_lt jw) nw).trans jw))) td_1 (by unfold I64; decide) (room_nil (by decide) (by decide)) awa1
  have hdo := hdo.out
  go_upto_region 4 with fail
  rw [← HW.out, HP.out]
  go_wp2_with fail
  refine hdo.mono ?_
  rintro e v1 ⟨rfl, S1, aw'⟩
  have aw := aw'.add #[.int .i64 0, .int .i64 0, .int .i64 0, .int .i64 0, .int .i64 0, .int .i64 0, .int .i64 0, .int .i64 0, .bool true] 52
  obtain ⟨R1, hR1⟩ : ∃ R, v1.heap.size = R := ⟨_, rfl⟩
  obtain ⟨O1, hO1⟩ : ∃ O : Obj, O = .cells #[.int .i64 0, .int .i64 0, .int .i64 0, .int .i64 0, .int .i64 0, .int .i64 0, .int .i64 0, .int .i64 0, .bool true] 52 := ⟨_, rfl⟩
  obtain ⟨u1, hu1⟩ : ∃ u, u = v1.alloc (.cells #[.int .i64 0, .int .i64 0, .int .i64 0, .int .i64 0, .int .i64 0, .int .i64 0, .int .i64 0, .int .i64 0, .bool true] 52) := ⟨_, rfl⟩
  rw [← hu1, hR1, ← hO1] at aw
  have HR1 := Lib.hid hR1
  have HO1 := Lib.hid hO1
  have HU1 := Lib.hid hu1
  clear hdo aw' jt jw nw hR1 hO1 hu1 ct0 ct1 ct2
  go_upto_region 5 with fail
  rw [← HU1.out, HR1.out]
  have jt := (aw.kp _ (.tail _ (.tail _ (.head _)))).1
  simp only [HU.out] at jt
  have ct0 : u1.cell? ⟨P + 1, 0, none⟩ = some (.int .i64 0) := cell_blk jt 0
  have ct1 : u1.cell? ⟨P + 1, 1, none⟩ = some (.int .i64 0) := cell_blk jt 1
  have ct2 : u1.cell? ⟨P + 1, 2, none⟩ = some (.int .i64 2) := cell_blk jt 2
  have nw := (aw.kp _ (.tail _ (.head _))).2
  have jw := (aw.kp _ (.tail _ (.head _))).1
  simp only [HO.out] at jw
  have hdo : Hid (Calls Try.prog 13 #[.pointer (some ⟨A, 0, none⟩), .int .i64 5, .agg #[.int .i64 1, .int .i64 0, .int .i64 0, .int .i64 0, .int .i64 0, .int .i64 0, .int .i64 2, .int .i64 0, .slice none 0 0, .slice (some ⟨P + 1 + 1, 0, none⟩) 1 1, .int .i64 0, .int .i64 0, .int .i64 0, .int .i64 0, .int .i64 0, .int .i64 0, .string ⟨#[]⟩, .string ⟨#[]⟩, .string ⟨#[]⟩, .string ⟨#[]⟩, .bool false, .int .i64 0, .int .i64 0, .int .i64 0, .string ⟨#[]⟩, .slice none 0 0, .int .i64 0, .int .i64 0, .string ⟨#[]⟩, .int .i64 0]] u1 fun e w' => e = .returned (.agg #[.int .i64 131, .int .i64 0, .int .i64 0, .int .i64 0, .int .i64 1, .int .i64 0, .int .i64 0, .int .i64 0, .bool false]) ∧ ∃ S', Aw w w' A S' as1 [(R1, O1), (P + 1 + 1, O), (P + 1, U), (P, T)]) := aw_do (c := aw2) aw (fun X hX => cmA_cc (L := awL) (wr_aw ((hX.block _ (blk_lt jw) nw).trans jw))) td_2 (by unfold I64; decide) (room_1 (by decide) (by decide)) awa2
  have hdo := hdo.out
  go_wp2_with fail
  refine hdo.mono ?_
  rintro e v2 ⟨rfl, S2, aw'⟩
  have aw := aw'.add #[.int .i64 131, .int .i64 0, .int .i64 0, .int .i64 0, .int .i64 1, .int .i64 0, .int .i64 0, .int .i64 0, .bool false] 52
  obtain ⟨R2, hR2⟩ : ∃ R, v2.heap.size = R := ⟨_, rfl⟩
  obtain ⟨O2, hO2⟩ : ∃ O : Obj, O = .cells #[.int .i64 131, .int .i64 0, .int .i64 0, .int .i64 0, .int .i64 1, .int .i64 0, .int .i64 0, .int .i64 0, .bool false] 52 := ⟨_, rfl⟩
  obtain ⟨u2, hu2⟩ : ∃ u, u = v2.alloc (.cells #[.int .i64 131, .int .i64 0, .int .i64 0, .int .i64 0, .int .i64 1, .int .i64 0, .int .i64 0, .int .i64 0, .bool false] 52) := ⟨_, rfl⟩
  rw [← hu2, hR2, ← hO2] at aw
  have HR2 := Lib.hid hR2
  have HO2 := Lib.hid hO2
  have HU2 := Lib.hid hu2
  clear hdo aw' jt jw nw hR2 hO2 hu2 ct0 ct1 ct2
  go_upto_region 6 with fail
  rw [← HU2.out, HR2.out]
  have jt := (aw.kp _ (.tail _ (.tail _ (.tail _ (.tail _ (.head _)))))).1
  simp only [HT.out] at jt
  have ct0 : u2.cell? ⟨P, 0, none⟩ = some (.int .i64 0) := cell_blk jt 0
  have ct1 : u2.cell? ⟨P, 1, none⟩ = some (.int .i64 0) := cell_blk jt 1
  have ct2 : u2.cell? ⟨P, 2, none⟩ = some (.int .i64 1) := cell_blk jt 2
  have hdo : Hid (Calls Try.prog 13 #[.pointer (some ⟨A, 0, none⟩), .int .i64 5, .agg #[.int .i64 2, .int .i64 0, .int .i64 0, .int .i64 0, .int .i64 0, .int .i64 0, .int .i64 1, .int .i64 0, .slice none 0 0, .slice none 0 0, .int .i64 1, .int .i64 9, .int .i64 0, .int .i64 0, .int .i64 0, .int .i64 0, .string ⟨#[]⟩, .string ⟨#[]⟩, .string ⟨#[]⟩, .string ⟨#[]⟩, .bool false, .int .i64 0, .int .i64 0, .int .i64 0, .string ⟨#[]⟩, .slice none 0 0, .int .i64 0, .int .i64 0, .string ⟨#[]⟩, .int .i64 0]] u2 fun e w' => e = .returned (.agg #[.int .i64 0, .int .i64 5, .int .i64 0, .int .i64 0, .int .i64 0, .int .i64 0, .int .i64 0, .int .i64 0, .bool true]) ∧ ∃ S', Aw w w' A S' as3 [(R2, O2), (R1, O1), (P + 1 + 1, O), (P + 1, U), (P, T)]) := aw_do (c := aw3) aw (fun X _ => cmA_cc (L := []) (wr_nil X)) td_1 (by unfold I64; decide) (room_1 (by decide) (by decide)) awa3
  have hdo := hdo.out
  go_wp2_with fail
  refine hdo.mono ?_
  rintro e v3 ⟨rfl, S3, aw'⟩
  have aw := aw'.add #[.int .i64 0, .int .i64 5, .int .i64 0, .int .i64 0, .int .i64 0, .int .i64 0, .int .i64 0, .int .i64 0, .bool true] 52
  obtain ⟨R3, hR3⟩ : ∃ R, v3.heap.size = R := ⟨_, rfl⟩
  obtain ⟨O3, hO3⟩ : ∃ O : Obj, O = .cells #[.int .i64 0, .int .i64 5, .int .i64 0, .int .i64 0, .int .i64 0, .int .i64 0, .int .i64 0, .int .i64 0, .bool true] 52 := ⟨_, rfl⟩
  obtain ⟨u3, hu3⟩ : ∃ u, u = v3.alloc (.cells #[.int .i64 0, .int .i64 5, .int .i64 0, .int .i64 0, .int .i64 0, .int .i64 0, .int .i64 0, .int .i64 0, .bool true] 52) := ⟨_, rfl⟩
  rw [← hu3, hR3, ← hO3] at aw
  have HR3 := Lib.hid hR3
  have HO3 := Lib.hid hO3
  have HU3 := Lib.hid hu3
  clear hdo aw' jt hR3 hO3 hu3 ct0 ct1 ct2
  go_upto_region 7 with fail
  rw [← HU3.out, HR3.out]
  have jt := (aw.kp _ (.tail _ (.tail _ (.tail _ (.tail _ (.tail _ (.head _))))))).1
  simp only [HT.out] at jt
  have ct0 : u3.cell? ⟨P, 0, none⟩ = some (.int .i64 0) := cell_blk jt 0
  have ct1 : u3.cell? ⟨P, 1, none⟩ = some (.int .i64 0) := cell_blk jt 1
  have ct2 : u3.cell? ⟨P, 2, none⟩ = some (.int .i64 1) := cell_blk jt 2
  have hdo : Hid (Calls Try.prog 13 #[.pointer (some ⟨A, 0, none⟩), .int .i64 5, .agg #[.int .i64 4, .int .i64 0, .int .i64 0, .int .i64 0, .int .i64 0, .int .i64 0, .int .i64 1, .int .i64 0, .slice none 0 0, .slice none 0 0, .int .i64 0, .int .i64 0, .int .i64 5, .int .i64 0, .int .i64 0, .int .i64 0, .string ⟨#[]⟩, .string ⟨#[]⟩, .string ⟨#[]⟩, .string ⟨#[]⟩, .bool false, .int .i64 0, .int .i64 0, .int .i64 0, .string ⟨#[]⟩, .slice none 0 0, .int .i64 0, .int .i64 0, .string ⟨#[]⟩, .int .i64 0]] u3 fun e w' => e = .returned (.agg #[.int .i64 0, .int .i64 0, .int .i64 0, .int .i64 0, .int .i64 0, .int .i64 0, .int .i64 0, .int .i64 0, .bool true]) ∧ ∃ S', Aw w w' A S' as4 [(R3, O3), (R2, O2), (R1, O1), (P + 1 + 1, O), (P + 1, U), (P, T)]) := aw_do (c := aw4) aw (fun X _ => cmA_cc (L := []) (wr_nil X)) td_1 (by unfold I64; decide) (room_3 (by decide) (by decide)) awa4
  have hdo := hdo.out
  go_wp2_with fail
  refine hdo.mono ?_
  rintro e v4 ⟨rfl, S4, aw'⟩
  have aw := aw'.add #[.int .i64 0, .int .i64 0, .int .i64 0, .int .i64 0, .int .i64 0, .int .i64 0, .int .i64 0, .int .i64 0, .bool true] 52
  obtain ⟨R4, hR4⟩ : ∃ R, v4.heap.size = R := ⟨_, rfl⟩
  obtain ⟨O4, hO4⟩ : ∃ O : Obj, O = .cells #[.int .i64 0, .int .i64 0, .int .i64 0, .int .i64 0, .int .i64 0, .int .i64 0, .int .i64 0, .int .i64 0, .bool true] 52 := ⟨_, rfl⟩
  obtain ⟨u4, hu4⟩ : ∃ u, u = v4.alloc (.cells #[.int .i64 0, .int .i64 0, .int .i64 0, .int .i64 0, .int .i64 0, .int .i64 0, .int .i64 0, .int .i64 0, .bool true] 52) := ⟨_, rfl⟩
  rw [← hu4, hR4, ← hO4] at aw
  have HR4 := Lib.hid hR4
  have HO4 := Lib.hid hO4
  have HU4 := Lib.hid hu4
  clear hdo aw' jt hR4 hO4 hu4 ct0 ct1 ct2
  go_upto_region 8 with fail
  rw [← HU4.out, HR4.out]
  have hsp : Hid (Calls Try.prog 24 #[.pointer (some ⟨A, 0, none⟩), .agg #[.string ⟨#[97]⟩, .string ⟨#[98]⟩]] u4 fun e w' => ∃ ad cap, e = .returned (.slice ad 1 cap) ∧ w'.ownsRow u4.heap.size 80 3 (.slice ad 1 cap) 1 (hiC [⟨aK, 5, xK⟩]) ∧ Below u4.heap.size u4 w') := by
    obtain ⟨S1, S2, P', M, N, G, lv, rv, ov, hx, _⟩ := aw.hy
    have q := spanS_any hx ⟨aK, bK⟩
    unfold SpanAns at q
    refine q.mono ?_
    have e1 : span as4.rows aK bK ever = [⟨aK, 5, xK⟩] := awas
    rintro e w' ⟨ad, cap, z0, z1, z2⟩
    rw [e1] at z0 z1
    exact ⟨ad, cap, z0, z1, z2⟩
  have hsp := hsp.out
  go_wp2_with fail
  refine hsp.mono ?_
  rintro e v5 ⟨lad, lcap, rfl, hrow, hbs⟩
  obtain ⟨g, cur, rfl, jg, hg1, hg2⟩ : ∃ g cur, lad = some ⟨g, 0, none⟩ ∧ v5.heap[g]? = some (.cells cur 80 (0, 0)) ∧ u4.heap.size ≤ g ∧ cur[1]? = some (.int .i64 5) := by
    rcases hrow.2 with ⟨_, h0⟩ | ⟨g, cap', cur, hv, hb, hblk, h1, h2, h3, h4⟩
    · cases h0
    · cases hv
      refine ⟨g, cur, rfl, hblk, hb, ?_⟩
      have q : (cur.toList.take (1 * 3))[1]? = (hiC [⟨aK, 5, xK⟩])[1]? := by rw [h4]
      rw [List.getElem?_take_of_lt (by omega)] at q
      simpa [hiC] using q
  have hng : ¬ S4 g := fun q => by
    have q' := aw.hy.lt g q
    omega
  obtain ⟨OG, hOG⟩ : ∃ O : Obj, O = .cells cur 80 := ⟨_, rfl⟩
  have aw := aw.on hbs
  have aw : Aw w v5 A S4 as4 [(g, OG), (R4, O4), (R3, O3), (R2, O2), (R1, O1), (P + 1 + 1, O), (P + 1, U), (P, T)] := ⟨aw.hy, aw.lo, aw.fr, fun p hp => by
    rcases List.mem_cons.1 hp with rfl | hp
    · exact ⟨by rw [hOG]; exact jg, hng⟩
    · exact aw.kp p hp⟩
  have HOG := Lib.hid hOG
  have HG2 := Lib.hid hg2
  clear hsp hbs hrow jg hg1 hg2 hng hOG
  have jt := (aw.kp _ (.tail _ (.tail _ (.tail _ (.tail _ (.tail _ (.tail _ (.tail _ (.head _))))))))).1
  simp only [HT.out] at jt
  have ct0 : v5.cell? ⟨P, 0, none⟩ = some (.int .i64 0) := cell_blk jt 0
  have ct1 : v5.cell? ⟨P, 1, none⟩ = some (.int .i64 0) := cell_blk jt 1
  have ct2 : v5.cell? ⟨P, 2, none⟩ = some (.int .i64 1) := cell_blk jt 2
  have hdo : Hid (Calls Try.prog 13 #[.pointer (some ⟨A, 0, none⟩), .int .i64 5, .agg #[.int .i64 1, .int .i64 0, .int .i64 0, .int .i64 0, .int .i64 0, .int .i64 0, .int .i64 1, .int .i64 0, .slice none 0 0, .slice none 0 0, .int .i64 0, .int .i64 0, .int .i64 0, .int .i64 0, .int .i64 0, .int .i64 0, .string ⟨#[]⟩, .string ⟨#[]⟩, .string ⟨#[]⟩, .string ⟨#[]⟩, .bool false, .int .i64 0, .int .i64 0, .int .i64 0, .string ⟨#[]⟩, .slice none 0 0, .int .i64 0, .int .i64 0, .string ⟨#[]⟩, .int .i64 0]] v5 fun e w' => e = .returned (.agg #[.int .i64 132, .int .i64 0, .int .i64 0, .int .i64 0, .int .i64 0, .int .i64 0, .int .i64 0, .int .i64 0, .bool false]) ∧ ∃ S', Aw w w' A S' as4 [(g, OG), (R4, O4), (R3, O3), (R2, O2), (R1, O1), (P + 1 + 1, O), (P + 1, U), (P, T)]) := aw_do (c := aw5) aw (fun X _ => cmA_cc (L := []) (wr_nil X)) td_1 (by unfold I64; decide) (room_4 (by decide) (by decide)) awa5
  have hdo := hdo.out
  go_wp2_with fail
  refine hdo.mono ?_
  rintro e v6 ⟨rfl, S6, aw'⟩
  have aw := aw'.add #[.int .i64 132, .int .i64 0, .int .i64 0, .int .i64 0, .int .i64 0, .int .i64 0, .int .i64 0, .int .i64 0, .bool false] 52
  obtain ⟨R6, hR6⟩ : ∃ R, v6.heap.size = R := ⟨_, rfl⟩
  obtain ⟨O6, hO6⟩ : ∃ O : Obj, O = .cells #[.int .i64 132, .int .i64 0, .int .i64 0, .int .i64 0, .int .i64 0, .int .i64 0, .int .i64 0, .int .i64 0, .bool false] 52 := ⟨_, rfl⟩
  obtain ⟨u6, hu6⟩ : ∃ u, u = v6.alloc (.cells #[.int .i64 132, .int .i64 0, .int .i64 0, .int .i64 0, .int .i64 0, .int .i64 0, .int .i64 0, .int .i64 0, .bool false] 52) := ⟨_, rfl⟩
  rw [← hu6, hR6, ← hO6] at aw
  have HR6 := Lib.hid hR6
  have HO6 := Lib.hid hO6
  have HU6 := Lib.hid hu6
  clear hdo aw' jt hR6 hO6 hu6 ct0 ct1 ct2
  go_upto_region 10 with fail
  rw [← HU6.out, HR6.out]
  have jR6 := (aw.kp _ (.head _)).1
  simp only [HO6.out] at jR6
  have cR6_0 : u6.cell? ⟨R6, 0, none⟩ = some (.int .i64 132) := cell_blk jR6 0
  have jR4 := (aw.kp _ (.tail _ (.tail _ (.head _)))).1
  simp only [HO4.out] at jR4
  have cR4_0 : u6.cell? ⟨R4, 0, none⟩ = some (.int .i64 0) := cell_blk jR4 0
  have cR4_1 : u6.cell? ⟨R4, 1, none⟩ = some (.int .i64 0) := cell_blk jR4 1
  have cR4_2 : u6.cell? ⟨R4, 2, none⟩ = some (.int .i64 0) := cell_blk jR4 2
  have cR4_3 : u6.cell? ⟨R4, 3, none⟩ = some (.int .i64 0) := cell_blk jR4 3
  have cR4_4 : u6.cell? ⟨R4, 4, none⟩ = some (.int .i64 0) := cell_blk jR4 4
  have cR4_5 : u6.cell? ⟨R4, 5, none⟩ = some (.int .i64 0) := cell_blk jR4 5
  have cR4_6 : u6.cell? ⟨R4, 6, none⟩ = some (.int .i64 0) := cell_blk jR4 6
  have cR4_7 : u6.cell? ⟨R4, 7, none⟩ = some (.int .i64 0) := cell_blk jR4 7
  have cR4_8 : u6.cell? ⟨R4, 8, none⟩ = some (.bool true) := cell_blk jR4 8
  have jR3 := (aw.kp _ (.tail _ (.tail _ (.tail _ (.head _))))).1
  simp only [HO3.out] at jR3
  have cR3_0 : u6.cell? ⟨R3, 0, none⟩ = some (.int .i64 0) := cell_blk jR3 0
  have cR3_1 : u6.cell? ⟨R3, 1, none⟩ = some (.int .i64 5) := cell_blk jR3 1
  have cR3_2 : u6.cell? ⟨R3, 2, none⟩ = some (.int .i64 0) := cell_blk jR3 2
  have cR3_3 : u6.cell? ⟨R3, 3, none⟩ = some (.int .i64 0) := cell_blk jR3 3
  have cR3_4 : u6.cell? ⟨R3, 4, none⟩ = some (.int .i64 0) := cell_blk jR3 4
  have cR3_5 : u6.cell? ⟨R3, 5, none⟩ = some (.int .i64 0) := cell_blk jR3 5
  have cR3_6 : u6.cell? ⟨R3, 6, none⟩ = some (.int .i64 0) := cell_blk jR3 6
  have cR3_7 : u6.cell? ⟨R3, 7, none⟩ = some (.int .i64 0) := cell_blk jR3 7
  have cR3_8 : u6.cell? ⟨R3, 8, none⟩ = some (.bool true) := cell_blk jR3 8
  have jR2 := (aw.kp _ (.tail _ (.tail _ (.tail _ (.tail _ (.head _)))))).1
  simp only [HO2.out] at jR2
  have cR2_0 : u6.cell? ⟨R2, 0, none⟩ = some (.int .i64 131) := cell_blk jR2 0
  have cR2_1 : u6.cell? ⟨R2, 1, none⟩ = some (.int .i64 0) := cell_blk jR2 1
  have cR2_2 : u6.cell? ⟨R2, 2, none⟩ = some (.int .i64 0) := cell_blk jR2 2
  have cR2_3 : u6.cell? ⟨R2, 3, none⟩ = some (.int .i64 0) := cell_blk jR2 3
  have cR2_4 : u6.cell? ⟨R2, 4, none⟩ = some (.int .i64 1) := cell_blk jR2 4
  have cR2_5 : u6.cell? ⟨R2, 5, none⟩ = some (.int .i64 0) := cell_blk jR2 5
  have cR2_6 : u6.cell? ⟨R2, 6, none⟩ = some (.int .i64 0) := cell_blk jR2 6
  have cR2_7 : u6.cell? ⟨R2, 7, none⟩ = some (.int .i64 0) := cell_blk jR2 7
  have cR2_8 : u6.cell? ⟨R2, 8, none⟩ = some (.bool false) := cell_blk jR2 8
  have jR1 := (aw.kp _ (.tail _ (.tail _ (.tail _ (.tail _ (.tail _ (.head _))))))).1
  simp only [HO1.out] at jR1
  have cR1_0 : u6.cell? ⟨R1, 0, none⟩ = some (.int .i64 0) := cell_blk jR1 0
  have cR1_1 : u6.cell? ⟨R1, 1, none⟩ = some (.int .i64 0) := cell_blk jR1 1
  have cR1_2 : u6.cell? ⟨R1, 2, none⟩ = some (.int .i64 0) := cell_blk jR1 2
  have cR1_3 : u6.cell? ⟨R1, 3, none⟩ = some (.int .i64 0) := cell_blk jR1 3
  have cR1_4 : u6.cell? ⟨R1, 4, none⟩ = some (.int .i64 0) := cell_blk jR1 4
  have cR1_5 : u6.cell? ⟨R1, 5, none⟩ = some (.int .i64 0) := cell_blk jR1 5
  have cR1_6 : u6.cell? ⟨R1, 6, none⟩ = some (.int .i64 0) := cell_blk jR1 6
  have cR1_7 : u6.cell? ⟨R1, 7, none⟩ = some (.int .i64 0) := cell_blk jR1 7
  have cR1_8 : u6.cell? ⟨R1, 8, none⟩ = some (.bool true) := cell_blk jR1 8
  have jt := (aw.kp _ (.tail _ (.tail _ (.tail _ (.tail _ (.tail _ (.tail _ (.tail _ (.tail _ (.head _)))))))))).1
  simp only [HT.out] at jt
  have ct0 : u6.cell? ⟨P, 0, none⟩ = some (.int .i64 0) := cell_blk jt 0
  have ct1 : u6.cell? ⟨P, 1, none⟩ = some (.int .i64 0) := cell_blk jt 1
  have ct2 : u6.cell? ⟨P, 2, none⟩ = some (.int .i64 1) := cell_blk jt 2
  have jg := (aw.kp _ (.tail _ (.head _))).1
  simp only [HOG.out] at jg
  have cg : u6.cell? ⟨g, 1, none⟩ = some (.int .i64 5) := (cell_blk jg 1).trans HG2.out
  have q0 : ∀ w, (binOp BinOp.eql 52 (.agg #[.int .i64 0, .int .i64 0, .int .i64 0, .int .i64 0, .int .i64 0, .int .i64 0, .int .i64 0, .int .i64 0, .bool true]) (.agg #[.int .i64 0, .int .i64 0, .int .i64 0, .int .i64 0, .int .i64 0, .int .i64 0, .int .i64 0, .int .i64 0, .bool true])).run Try.prog w = .ok (.bool true) w := fun _ => by kernel_rfl
  have q1 : ∀ w, (binOp BinOp.eql 52 (.agg #[.int .i64 131, .int .i64 0, .int .i64 0, .int .i64 0, .int .i64 1, .int .i64 0, .int .i64 0, .int .i64 0, .bool false]) (.agg #[.int .i64 131, .int .i64 0, .int .i64 0, .int .i64 0, .int .i64 1, .int .i64 0, .int .i64 0, .int .i64 0, .bool false])).run Try.prog w = .ok (.bool true) w := fun _ => by kernel_rfl
  have q2 : ∀ w, (binOp BinOp.eql 52 (.agg #[.int .i64 0, .int .i64 5, .int .i64 0, .int .i64 0, .int .i64 0, .int .i64 0, .int .i64 0, .int .i64 0, .bool true]) (.agg #[.int .i64 0, .int .i64 5, .int .i64 0, .int .i64 0, .int .i64 0, .int .i64 0, .int .i64 0, .int .i64 0, .bool true])).run Try.prog w = .ok (.bool true) w := fun _ => by kernel_rfl
  have HA := Lib.hid aw.lo
  clear aw jR6 jR4 jR3 jR2 jR1 jt jg
  go_wp2
  go_ret
  exact ⟨rfl, HA.out⟩
end Go.Proofs.Ytcoaahlakkghhaa
