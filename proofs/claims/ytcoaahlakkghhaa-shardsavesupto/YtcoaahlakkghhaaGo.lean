/- What awake does, plainly. -/
import Derived.Test.YtcoaahlakkghhaaGn
namespace Go.Proofs.Ytcoaahlakkghhaa
open Go.RowKit
def aK : ByteArray := ⟨#[97]⟩
def bK : ByteArray := ⟨#[98]⟩
def xK : ByteArray := ⟨#[120]⟩
def awL : List Wr := [⟨aK, xK, false⟩]
def aw1 : Cm := ⟨1, (0, 0, 1), 0, [], awL, 0, 0, 0⟩
def aw2 : Cm := ⟨1, (0, 0, 2), 0, [], awL, 0, 0, 0⟩
def aw3 : Cm := ⟨2, (0, 0, 1), 0, [], [], 1, 9, 0⟩
def aw4 : Cm := ⟨4, (0, 0, 1), 0, [], [], 0, 0, 5⟩
def aw5 : Cm := ⟨1, (0, 0, 1), 0, [], [], 0, 0, 0⟩
def as1 : Sh := ⟨[], [⟨(0, 0, 1), 0, 0, [], awL⟩], [], [], 0⟩
def as3 : Sh := ⟨[], [⟨(0, 0, 1), 0, 0, [], awL⟩], [((0, 0, 1), 5)], [], 0⟩
def as4 : Sh := ⟨[⟨aK, [⟨5, xK, false⟩]⟩], [], [((0, 0, 1), 5)], [(0, 0, 1)], 5⟩
theorem awa1 : Sh.nil.act 5 aw1 = (as1, ⟨0, 0, td0, 0, true⟩) := by rfl
theorem awa2 : as1.act 5 aw2 = (as1, ⟨131, 0, (0, 0, 1), 0, false⟩) := by rfl
theorem awa3 : as1.act 5 aw3 = (as3, ⟨0, 5, td0, 0, true⟩) := by rfl
theorem awa4 : as3.act 5 aw4 = (as4, ⟨0, 0, td0, 0, true⟩) := by rfl
theorem awa5 : as4.act 5 aw5 = (as4, ⟨132, 0, td0, 0, false⟩) := by rfl
theorem awas : span as4.rows aK bK 9223372036854775807 = [⟨aK, 5, xK⟩] := by rfl
end Go.Proofs.Ytcoaahlakkghhaa
/- The walk of awake. -/
namespace Go.Proofs.Ytcoaahlakkghhaa
open Go.RowKit
abbrev cmA (k : Int) (t : Td) (wv : Value) (mn til ts : Int) : Array Value := #[.int .i64 k, .int .i64 0, .int .i64 0, .int .i64 0, .int .i64 t.1, .int .i64 t.2.1, .int .i64 t.2.2, .int .i64 0, .slice none 0 0, wv, .int .i64 mn, .int .i64 til, .int .i64 ts, .int .i64 0, .int .i64 0, .int .i64 0, .string ⟨#[]⟩, .string ⟨#[]⟩, .string ⟨#[]⟩, .string ⟨#[]⟩, .bool false, .int .i64 0, .int .i64 0, .int .i64 0, .string ⟨#[]⟩, .slice none 0 0, .int .i64 0, .int .i64 0, .string ⟨#[]⟩, .int .i64 0]
theorem cmA_cc {X : World} {k : Int} {t : Td} {L : List Wr} {wa : Option Addr} {wc : Nat} {mn til ts : Int} (h : Lr wrE 3 X L (.slice wa L.length wc)) : Cc X ⟨k, t, 0, [], L, mn, til, ts⟩ (cmA k t (.slice wa L.length wc) mn til ts) none 0 wa wc where
  sz := rfl
  one := by simp [Value.oneCell']
  k := rfl
  t0 := rfl
  t1 := rfl
  t2 := rfl
  hm := rfl
  rs := rfl
  ws := rfl
  mn := rfl
  til := rfl
  ts := rfl
  rl := ⟨none, 0, rfl, fun _ => rfl, Nat.le_refl _, Nat.zero_le _, fun i hi => absurd hi (by simp)⟩
  wl := h
theorem wr_nil (X : World) : Lr wrE 3 X [] (.slice none 0 0) := ⟨none, 0, rfl, fun _ => rfl, Nat.le_refl _, Nat.zero_le _, fun i hi => absurd hi (by simp)⟩
theorem wr_aw {X : World} {B : Nat} (h : X.heap[B]? = some (.cells #[.string aK, .string xK, .bool false] 55 (0, 0))) : Lr wrE 3 X awL (.slice (some ⟨B, 0, none⟩) 1 1) :=
  ⟨some ⟨B, 0, none⟩, 1, rfl, (fun e => by cases e), Nat.le_refl _, (by unfold maxLen; omega), fun i hi => by
    have h0 : i = 0 := by have : i < 1 := hi; omega
    subst h0
    exact ⟨B, 0, [.string aK, .string xK, .bool false], rfl, blk_lt h, rfl, rfl, fun j u hu => by
      rw [show 0 + 0 * 3 + j = j from by omega, cell_blk h j]
      simpa using hu⟩⟩
/-- A shard in memory made since w, and blocks beside it. -/
structure Aw (w V : World) (A : Nat) (S : Nat → Prop) (s : Sh) (Bs : List (Nat × Obj)) : Prop where
  hy : Sy V A S s
  lo : Below w.heap.size w V
  fr : ∀ k, S k → w.heap.size ≤ k
  kp : ∀ p ∈ Bs, V.heap[p.1]? = some p.2 ∧ ¬ S p.1
section
variable {w V V' : World} {A : Nat} {S : Nat → Prop} {s s' : Sh} {Bs : List (Nat × Obj)}
theorem Aw.next (h : Aw w V A S s Bs) (st : Step V A S s' V') : ∃ S', Aw w V' A S' s' Bs := by
  obtain ⟨S', hy', hg, hf⟩ := st
  refine ⟨S', hy', fr_below h.fr h.lo hf, fun k q => gro_fresh h.fr h.lo.size k (hg k q), fun p hp => ?_⟩
  obtain ⟨h1, h2⟩ := h.kp p hp
  have hl : p.1 < V.heap.size := by
    rw [Array.getElem?_eq_some_iff] at h1
    exact h1.1
  refine ⟨(hf.block p.1 hl h2).trans h1, fun q => ?_⟩
  rcases hg p.1 q with z | z
  · exact h2 z
  · omega
theorem Aw.on (h : Aw w V A S s Bs) (hb : Below V.heap.size V V') : Aw w V' A S s Bs :=
  ⟨h.hy.on hb, h.lo.trans (hb.mono h.lo.size), h.fr, fun p hp => by
    obtain ⟨h1, h2⟩ := h.kp p hp
    have hl : p.1 < V.heap.size := by
      rw [Array.getElem?_eq_some_iff] at h1
      exact h1.1
    exact ⟨(hb.block p.1 hl).trans h1, h2⟩⟩
theorem Aw.add (h : Aw w V A S s Bs) (cs : Array Value) (t : TypeId) : Aw w (V.alloc (.cells cs t)) A S s ((V.heap.size, .cells cs t) :: Bs) := by
  have h' := h.on ((Below.refl _ V).alloc (Nat.le_refl _) (.cells cs t))
  refine ⟨h'.hy, h'.lo, h'.fr, fun p hp => ?_⟩
  rcases List.mem_cons.1 hp with rfl | hp
  · refine ⟨heap_alloc_new V _, fun q => ?_⟩
    have := h.hy.lt _ q
    simp at this
  · exact h'.kp p hp
theorem aw_do (h : Aw w V A S s Bs) {c : Cm} {cs : Array Value} {wa : Option Addr} {wc : Nat} {r : Sh × Rz} (hc : ∀ X, Fr V X S → Cc X c cs none 0 wa wc) (ht : TdOk c.txn) (hk : I64 c.kind) (hr : Room s c 1 1) (he : s.act 5 c = r) : Calls Try.prog 13 #[.pointer (some ⟨A, 0, none⟩), .int .i64 5, .agg cs] V fun e w' => e = .returned (rzV r.2) ∧ ∃ S', Aw w w' A S' r.1 Bs := by
  refine (do_any h.hy hc ht hk hr 5).mono ?_
  rw [he]
  rintro e w' ⟨rfl, st⟩
  exact ⟨rfl, h.next st⟩
end
theorem room_nil {c : Cm} (h1 : c.reads.length ≤ 1) (h2 : c.writes.length ≤ 1) : Room Sh.nil c 1 1 := ⟨by decide, by decide, by decide, by omega, by omega, (fun l hl => by cases hl), by decide, fun r hr => (by cases hr), by decide⟩
theorem room_1 {c : Cm} (h1 : c.reads.length ≤ 1) (h2 : c.writes.length ≤ 1) : Room as1 c 1 1 := ⟨by decide, by decide, by decide, by omega, by omega, (fun l hl => by rw [List.mem_singleton.1 hl]; decide), by decide, fun r hr => (by cases hr), by decide⟩
theorem room_3 {c : Cm} (h1 : c.reads.length ≤ 1) (h2 : c.writes.length ≤ 1) : Room as3 c 1 1 := ⟨by decide, by decide, by decide, by omega, by omega, (fun l hl => by rw [List.mem_singleton.1 hl]; decide), by decide, fun r hr => (by cases hr), by decide⟩
theorem room_4 {c : Cm} (h1 : c.reads.length ≤ 1) (h2 : c.writes.length ≤ 1) : Room as4 c 1 1 := ⟨by decide, by decide, by decide, by omega, by omega, fun l hl => (by cases hl), by decide, (fun r hr => by rw [List.mem_singleton.1 hr]; decide), by decide⟩
theorem td_1 : TdOk (0, 0, 1) := by unfold TdOk I64; simp
theorem td_2 : TdOk (0, 0, 2) := by unfold TdOk I64; simp
set_option maxHeartbeats 4000000 in
set_option maxRecDepth 100000 in
theorem awake_any (w : World) : Calls Try.prog 9 #[] w fun e w' => e = .returned (.bool true) ∧ Below w.heap.size w w' := by
  have hn := newS_any w
  go_enter Try.func9, Try.ntmps9
  go_wp2_with fail
  refine hn.mono ?_
  rintro e w1 ⟨A, S, rfl, hy, hS, b1⟩
  clear hn
  obtain ⟨P, hP⟩ : ∃ P, w1.heap.size = P := ⟨_, rfl⟩
  obtain ⟨T, hT⟩ : ∃ T : Obj, T = .cells #[.int .i64 0, .int .i64 0, .int .i64 1] 37 := ⟨_, rfl⟩
  obtain ⟨U, hU⟩ : ∃ U : Obj, U = .cells #[.int .i64 0, .int .i64 0, .int .i64 2] 37 := ⟨_, rfl⟩
  obtain ⟨O, hO⟩ : ∃ O : Obj, O = .cells #[.string ⟨#[97]⟩, .string ⟨#[120]⟩, .bool false] 55 := ⟨_, rfl⟩
  obtain ⟨W, hW⟩ : ∃ W, W = ((w1.alloc (.cells #[.int .i64 0, .int .i64 0, .int .i64 1] 37)).alloc (.cells #[.int .i64 0, .int .i64 0, .int .i64 2] 37)).alloc (.cells #[.string ⟨#[97]⟩, .string ⟨#[120]⟩, .bool false] 55) := ⟨_, rfl⟩
  have aw : Aw w W A S Sh.nil [(P + 1 + 1, O), (P + 1, U), (P, T)] := by
    have q : Aw w w1 A S Sh.nil [] := ⟨hy, b1, fun k hk => (hS k hk).1, fun p hp => by cases hp⟩
    have q3 := ((q.add #[.int .i64 0, .int .i64 0, .int .i64 1] 37).add #[.int .i64 0, .int .i64 0, .int .i64 2] 37).add #[.string ⟨#[97]⟩, .string ⟨#[120]⟩, .bool false] 55
    simp only [World.size_alloc] at q3
    rw [← hW, hP] at q3
    rw [hT, hU, hO]
    exact q3
  have HT := Lib.hid hT
  have HU := Lib.hid hU
  have HO := Lib.hid hO
  have HW := Lib.hid hW
  have HP := Lib.hid hP
  clear hy hS b1 hP hT hU hO hW
  have jt := (aw.kp _ (.tail _ (.tail _ (.head _)))).1
  simp only [HT.out] at jt
  have ct0 : W.cell? ⟨P, 0, none⟩ = some (.int .i64 0) := cell_blk jt 0
  have ct1 : W.cell? ⟨P, 1, none⟩ = some (.int .i64 0) := cell_blk jt 1
  have ct2 : W.cell? ⟨P, 2, none⟩ = some (.int .i64 1) := cell_blk jt 2
  have nw := (aw.kp _ (.head _)).2
  have jw := (aw.kp _ (.head _)).1
  simp only [HO.out] at jw
  have hdo : Hid (Calls Try.prog 13 #[.pointer (some ⟨A, 0, none⟩), .int .i64 5, .agg #[.int .i64 1, .int .i64 0, .int .i64 0, .int .i64 0, .int .i64 0, .int .i64 0, .int .i64 1, .int .i64 0, .slice none 0 0, .slice (some ⟨P + 1 + 1, 0, none⟩) 1 1, .int .i64 0, .int .i64 0, .int .i64 0, .int .i64 0, .int .i64 0, .int .i64 0, .string ⟨#[]⟩, .string ⟨#[]⟩, .string ⟨#[]⟩, .string ⟨#[]⟩, .bool false, .int .i64 0, .int .i64 0, .int .i64 0, .string ⟨#[]⟩, .slice none 0 0, .int .i64 0, .int .i64 0, .string ⟨#[]⟩, .int .i64 0]] W fun e w' => e = .returned (.agg #[.int .i64 0, .int .i64 0, .int .i64 0, .int .i64 0, .int .i64 0, .int .i64 0, .int .i64 0, .int .i64 0, .bool true]) ∧ ∃ S', Aw w w' A S' as1 [(P + 1 + 1, O), (P + 1, U), (P, T)]) := aw_do (c := aw1) aw (fun X hX => cmA_cc (L := awL) (wr_aw ((hX.block _ (blk_lt jw) nw).trans jw))) td_1 (by unfold I64; decide) (room_nil (by decide) (by decide)) awa1
  have hdo := hdo.out
  go_upto_region 4 with fail
  rw [← HW.out, HP.out]
  go_wp2_with fail
  refine hdo.mono ?_
  rintro e v1 ⟨rfl, S1, aw'⟩
  have aw := aw'.add #[.int .i64 0, .int .i64 0, .int .i64 0, .int .i64 0, .int .i64 0, .int .i64 0, .int .i64 0, .int .i64 0, .bool true] 52
  obtain ⟨R1, hR1⟩ : ∃ R, v1.heap.size = R := ⟨_, rfl⟩
  obtain ⟨O1, hO1⟩ : ∃ O : Obj, O = .cells #[.int .i64 0, .int .i64 0, .int .i64 0, .int .i64 0, .int .i64 0, .int .i64 0, .int .i64 0, .int .i64 0, .bool true] 52 := ⟨_, rfl⟩
  obtain ⟨u1, hu1⟩ : ∃ u, u = v1.alloc (.cells #[.int .i64 0, .int .i64 0, .int .i64 0, .int .i64 0, .int .i64 0, .int .i64 0, .int .i64 0, .int .i64 0, .bool true] 52) := ⟨_, rfl⟩
  rw [← hu1, hR1, ← hO1] at aw
  have HR1 := Lib.hid hR1
  have HO1 := Lib.hid hO1
  have HU1 := Lib.hid hu1
  clear hdo aw' jt jw nw hR1 hO1 hu1 ct0 ct1 ct2
  go_upto_region 5 with fail
  rw [← HU1.out, HR1.out]
  have jt := (aw.kp _ (.tail _ (.tail _ (.head _)))).1
  simp only [HU.out] at jt
  have ct0 : u1.cell? ⟨P + 1, 0, none⟩ = some (.int .i64 0) := cell_blk jt 0
  have ct1 : u1.cell? ⟨P + 1, 1, none⟩ = some (.int .i64 0) := cell_blk jt 1
  have ct2 : u1.cell? ⟨P + 1, 2, none⟩ = some (.int .i64 2) := cell_blk jt 2
  have nw := (aw.kp _ (.tail _ (.head _))).2
  have jw := (aw.kp _ (.tail _ (.head _))).1
  simp only [HO.out] at jw
  have hdo : Hid (Calls Try.prog 13 #[.pointer (some ⟨A, 0, none⟩), .int .i64 5, .agg #[.int .i64 1, .int .i64 0, .int .i64 0, .int .i64 0, .int .i64 0, .int .i64 0, .int .i64 2, .int .i64 0, .slice none 0 0, .slice (some ⟨P + 1 + 1, 0, none⟩) 1 1, .int .i64 0, .int .i64 0, .int .i64 0, .int .i64 0, .int .i64 0, .int .i64 0, .string ⟨#[]⟩, .string ⟨#[]⟩, .string ⟨#[]⟩, .string ⟨#[]⟩, .bool false, .int .i64 0, .int .i64 0, .int .i64 0, .string ⟨#[]⟩, .slice none 0 0, .int .i64 0, .int .i64 0, .string ⟨#[]⟩, .int .i64 0]] u1 fun e w' => e = .returned (.agg #[.int .i64 131, .int .i64 0, .int .i64 0, .int .i64 0, .int .i64 1, .int .i64 0, .int .i64 0, .int .i64 0, .bool false]) ∧ ∃ S', Aw w w' A S' as1 [(R1, O1), (P + 1 + 1, O), (P + 1, U), (P, T)]) := aw_do (c := aw2) aw (fun X hX => cmA_cc (L := awL) (wr_aw ((hX.block _ (blk_lt jw) nw).trans jw))) td_2 (by unfold I64; decide) (room_1 (by decide) (by decide)) awa2
  have hdo := hdo.out
  go_wp2_with fail
  refine hdo.mono ?_
  rintro e v2 ⟨rfl, S2, aw'⟩
  have aw := aw'.add #[.int .i64 131, .int .i64 0, .int .i64 0, .int .i64 0, .int .i64 1, .int .i64 0, .int .i64 0, .int .i64 0, .bool false] 52
  obtain ⟨R2, hR2⟩ : ∃ R, v2.heap.size = R := ⟨_, rfl⟩
  obtain ⟨O2, hO2⟩ : ∃ O : Obj, O = .cells #[.int .i64 131, .int .i64 0, .int .i64 0, .int .i64 0, .int .i64 1, .int .i64 0, .int .i64 0, .int .i64 0, .bool false] 52 := ⟨_, rfl⟩
  obtain ⟨u2, hu2⟩ : ∃ u, u = v2.alloc (.cells #[.int .i64 131, .int .i64 0, .int .i64 0, .int .i64 0, .int .i64 1, .int .i64 0, .int .i64 0, .int .i64 0, .bool false] 52) := ⟨_, rfl⟩
  rw [← hu2, hR2, ← hO2] at aw
  have HR2 := Lib.hid hR2
  have HO2 := Lib.hid hO2
  have HU2 := Lib.hid hu2
  clear hdo aw' jt jw nw hR2 hO2 hu2 ct0 ct1 ct2
  go_upto_region 6 with fail
  rw [← HU2.out, HR2.out]
  have jt := (aw.kp _ (.tail _ (.tail _ (.tail _ (.tail _ (.head _)))))).1
  simp only [HT.out] at jt
  have ct0 : u2.cell? ⟨P, 0, none⟩ = some (.int .i64 0) := cell_blk jt 0
  have ct1 : u2.cell? ⟨P, 1, none⟩ = some (.int .i64 0) := cell_blk jt 1
  have ct2 : u2.cell? ⟨P, 2, none⟩ = some (.int .i64 1) := cell_blk jt 2
  have hdo : Hid (Calls Try.prog 13 #[.pointer (some ⟨A, 0, none⟩), .int .i64 5, .agg #[.int .i64 2, .int .i64 0, .int .i64 0, .int .i64 0, .int .i64 0, .int .i64 0, .int .i64 1, .int .i64 0, .slice none 0 0, .slice none 0 0, .int .i64 1, .int .i64 9, .int .i64 0, .int .i64 0, .int .i64 0, .int .i64 0, .string ⟨#[]⟩, .string ⟨#[]⟩, .string ⟨#[]⟩, .string ⟨#[]⟩, .bool false, .int .i64 0, .int .i64 0, .int .i64 0, .string ⟨#[]⟩, .slice none 0 0, .int .i64 0, .int .i64 0, .string ⟨#[]⟩, .int .i64 0]] u2 fun e w' => e = .returned (.agg #[.int .i64 0, .int .i64 5, .int .i64 0, .int .i64 0, .int .i64 0, .int .i64 0, .int .i64 0, .int .i64 0, .bool true]) ∧ ∃ S', Aw w w' A S' as3 [(R2, O2), (R1, O1), (P + 1 + 1, O), (P + 1, U), (P, T)]) := aw_do (c := aw3) aw (fun X _ => cmA_cc (L := []) (wr_nil X)) td_1 (by unfold I64; decide) (room_1 (by decide) (by decide)) awa3
  have hdo := hdo.out
  go_wp2_with fail
  refine hdo.mono ?_
  rintro e v3 ⟨rfl, S3, aw'⟩
  have aw := aw'.add #[.int .i64 0, .int .i64 5, .int .i64 0, .int .i64 0, .int .i64 0, .int .i64 0, .int .i64 0, .int .i64 0, .bool true] 52
  obtain ⟨R3, hR3⟩ : ∃ R, v3.heap.size = R := ⟨_, rfl⟩
  obtain ⟨O3, hO3⟩ : ∃ O : Obj, O = .cells #[.int .i64 0, .int .i64 5, .int .i64 0, .int .i64 0, .int .i64 0, .int .i64 0, .int .i64 0, .int .i64 0, .bool true] 52 := ⟨_, rfl⟩
  obtain ⟨u3, hu3⟩ : ∃ u, u = v3.alloc (.cells #[.int .i64 0, .int .i64 5, .int .i64 0, .int .i64 0, .int .i64 0, .int .i64 0, .int .i64 0, .int .i64 0, .bool true] 52) := ⟨_, rfl⟩
  rw [← hu3, hR3, ← hO3] at aw
  have HR3 := Lib.hid hR3
  have HO3 := Lib.hid hO3
  have HU3 := Lib.hid hu3
  clear hdo aw' jt hR3 hO3 hu3 ct0 ct1 ct2
  go_upto_region 7 with fail
  rw [← HU3.out, HR3.out]
  have jt := (aw.kp _ (.tail _ (.tail _ (.tail _ (.tail _ (.tail _ (.head _))))))).1
  simp only [HT.out] at jt
  have ct0 : u3.cell? ⟨P, 0, none⟩ = some (.int .i64 0) := cell_blk jt 0
  have ct1 : u3.cell? ⟨P, 1, none⟩ = some (.int .i64 0) := cell_blk jt 1
  have ct2 : u3.cell? ⟨P, 2, none⟩ = some (.int .i64 1) := cell_blk jt 2
  have hdo : Hid (Calls Try.prog 13 #[.pointer (some ⟨A, 0, none⟩), .int .i64 5, .agg #[.int .i64 4, .int .i64 0, .int .i64 0, .int .i64 0, .int .i64 0, .int .i64 0, .int .i64 1, .int .i64 0, .slice none 0 0, .slice none 0 0, .int .i64 0, .int .i64 0, .int .i64 5, .int .i64 0, .int .i64 0, .int .i64 0, .string ⟨#[]⟩, .string ⟨#[]⟩, .string ⟨#[]⟩, .string ⟨#[]⟩, .bool false, .int .i64 0, .int .i64 0, .int .i64 0, .string ⟨#[]⟩, .slice none 0 0, .int .i64 0, .int .i64 0, .string ⟨#[]⟩, .int .i64 0]] u3 fun e w' => e = .returned (.agg #[.int .i64 0, .int .i64 0, .int .i64 0, .int .i64 0, .int .i64 0, .int .i64 0, .int .i64 0, .int .i64 0, .bool true]) ∧ ∃ S', Aw w w' A S' as4 [(R3, O3), (R2, O2), (R1, O1), (P + 1 + 1, O), (P + 1, U), (P, T)]) := aw_do (c := aw4) aw (fun X _ => cmA_cc (L := []) (wr_nil X)) td_1 (by unfold I64; decide) (room_3 (by decide) (by decide)) awa4
  have hdo := hdo.out
  go_wp2_with fail
  refine hdo.mono ?_
  rintro e v4 ⟨rfl, S4, aw'⟩
  have aw := aw'.add #[.int .i64 0, .int .i64 0, .int .i64 0, .int .i64 0, .int .i64 0, .int .i64 0, .int .i64 0, .int .i64 0, .bool true] 52
  obtain ⟨R4, hR4⟩ : ∃ R, v4.heap.size = R := ⟨_, rfl⟩
  obtain ⟨O4, hO4⟩ : ∃ O : Obj, O = .cells #[.int .i64 0, .int .i64 0, .int .i64 0, .int .i64 0, .int .i64 0, .int .i64 0, .int .i64 0, .int .i64 0, .bool true] 52 := ⟨_, rfl⟩
  obtain ⟨u4, hu4⟩ : ∃ u, u = v4.alloc (.cells #[.int .i64 0, .int .i64 0, .int .i64 0, .int .i64 0, .int .i64 0, .int .i64 0, .int .i64 0, .int .i64 0, .bool true] 52) := ⟨_, rfl⟩
  rw [← hu4, hR4, ← hO4] at aw
  have HR4 := Lib.hid hR4
  have HO4 := Lib.hid hO4
  have HU4 := Lib.hid hu4
  clear hdo aw' jt hR4 hO4 hu4 ct0 ct1 ct2
  go_upto_region 8 with fail
  rw [← HU4.out, HR4.out]
  have hsp : Hid (Calls Try.prog 24 #[.pointer (some ⟨A, 0, none⟩), .agg #[.string ⟨#[97]⟩, .string ⟨#[98]⟩]] u4 fun e w' => ∃ ad cap, e = .returned (.slice ad 1 cap) ∧ w'.ownsRow u4.heap.size 80 3 (.slice ad 1 cap) 1 (hiC [⟨aK, 5, xK⟩]) ∧ Below u4.heap.size u4 w') := by
    obtain ⟨S1, S2, P', M, N, G, lv, rv, ov, hx, _⟩ := aw.hy
    have q := spanS_any hx ⟨aK, bK⟩
    unfold SpanAns at q
    refine q.mono ?_
    have e1 : span as4.rows aK bK ever = [⟨aK, 5, xK⟩] := awas
    rintro e w' ⟨ad, cap, z0, z1, z2⟩
    rw [e1] at z0 z1
    exact ⟨ad, cap, z0, z1, z2⟩
  have hsp := hsp.out
  go_wp2_with fail
  refine hsp.mono ?_
  rintro e v5 ⟨lad, lcap, rfl, hrow, hbs⟩
  obtain ⟨g, cur, rfl, jg, hg1, hg2⟩ : ∃ g cur, lad = some ⟨g, 0, none⟩ ∧ v5.heap[g]? = some (.cells cur 80 (0, 0)) ∧ u4.heap.size ≤ g ∧ cur[1]? = some (.int .i64 5) := by
    rcases hrow.2 with ⟨_, h0⟩ | ⟨g, cap', cur, hv, hb, hblk, h1, h2, h3, h4⟩
    · cases h0
    · cases hv
      refine ⟨g, cur, rfl, hblk, hb, ?_⟩
      have q : (cur.toList.take (1 * 3))[1]? = (hiC [⟨aK, 5, xK⟩])[1]? := by rw [h4]
      rw [List.getElem?_take_of_lt (by omega)] at q
      simpa [hiC] using q
  have hng : ¬ S4 g := fun q => by
    have q' := aw.hy.lt g q
    omega
  obtain ⟨OG, hOG⟩ : ∃ O : Obj, O = .cells cur 80 := ⟨_, rfl⟩
  have aw := aw.on hbs
  have aw : Aw w v5 A S4 as4 [(g, OG), (R4, O4), (R3, O3), (R2, O2), (R1, O1), (P + 1 + 1, O), (P + 1, U), (P, T)] := ⟨aw.hy, aw.lo, aw.fr, fun p hp => by
    rcases List.mem_cons.1 hp with rfl | hp
    · exact ⟨by rw [hOG]; exact jg, hng⟩
    · exact aw.kp p hp⟩
  have HOG := Lib.hid hOG
  have HG2 := Lib.hid hg2
  clear hsp hbs hrow jg hg1 hg2 hng hOG
  have jt := (aw.kp _ (.tail _ (.tail _ (.tail _ (.tail _ (.tail _ (.tail _ (.tail _ (.head _))))))))).1
  simp only [HT.out] at jt
  have ct0 : v5.cell? ⟨P, 0, none⟩ = some (.int .i64 0) := cell_blk jt 0
  have ct1 : v5.cell? ⟨P, 1, none⟩ = some (.int .i64 0) := cell_blk jt 1
  have ct2 : v5.cell? ⟨P, 2, none⟩ = some (.int .i64 1) := cell_blk jt 2
  have hdo : Hid (Calls Try.prog 13 #[.pointer (some ⟨A, 0, none⟩), .int .i64 5, .agg #[.int .i64 1, .int .i64 0, .int .i64 0, .int .i64 0, .int .i64 0, .int .i64 0, .int .i64 1, .int .i64 0, .slice none 0 0, .slice none 0 0, .int .i64 0, .int .i64 0, .int .i64 0, .int .i64 0, .int .i64 0, .int .i64 0, .string ⟨#[]⟩, .string ⟨#[]⟩, .string ⟨#[]⟩, .string ⟨#[]⟩, .bool false, .int .i64 0, .int .i64 0, .int .i64 0, .string ⟨#[]⟩, .slice none 0 0, .int .i64 0, .int .i64 0, .string ⟨#[]⟩, .int .i64 0]] v5 fun e w' => e = .returned (.agg #[.int .i64 132, .int .i64 0, .int .i64 0, .int .i64 0, .int .i64 0, .int .i64 0, .int .i64 0, .int .i64 0, .bool false]) ∧ ∃ S', Aw w w' A S' as4 [(g, OG), (R4, O4), (R3, O3), (R2, O2), (R1, O1), (P + 1 + 1, O), (P + 1, U), (P, T)]) := aw_do (c := aw5) aw (fun X _ => cmA_cc (L := []) (wr_nil X)) td_1 (by unfold I64; decide) (room_4 (by decide) (by decide)) awa5
  have hdo := hdo.out
  go_wp2_with fail
  refine hdo.mono ?_
  rintro e v6 ⟨rfl, S6, aw'⟩
  have aw := aw'.add #[.int .i64 132, .int .i64 0, .int .i64 0, .int .i64 0, .int .i64 0, .int .i64 0, .int .i64 0, .int .i64 0, .bool false] 52
  obtain ⟨R6, hR6⟩ : ∃ R, v6.heap.size = R := ⟨_, rfl⟩
  obtain ⟨O6, hO6⟩ : ∃ O : Obj, O = .cells #[.int .i64 132, .int .i64 0, .int .i64 0, .int .i64 0, .int .i64 0, .int .i64 0, .int .i64 0, .int .i64 0, .bool false] 52 := ⟨_, rfl⟩
  obtain ⟨u6, hu6⟩ : ∃ u, u = v6.alloc (.cells #[.int .i64 132, .int .i64 0, .int .i64 0, .int .i64 0, .int .i64 0, .int .i64 0, .int .i64 0, .int .i64 0, .bool false] 52) := ⟨_, rfl⟩
  rw [← hu6, hR6, ← hO6] at aw
  have HR6 := Lib.hid hR6
  have HO6 := Lib.hid hO6
  have HU6 := Lib.hid hu6
  clear hdo aw' jt hR6 hO6 hu6 ct0 ct1 ct2
  go_upto_region 10 with fail
  rw [← HU6.out, HR6.out]
  have jR6 := (aw.kp _ (.head _)).1
  simp only [HO6.out] at jR6
  have cR6_0 : u6.cell? ⟨R6, 0, none⟩ = some (.int .i64 132) := cell_blk jR6 0
  have jR4 := (aw.kp _ (.tail _ (.tail _ (.head _)))).1
  simp only [HO4.out] at jR4
  have cR4_0 : u6.cell? ⟨R4, 0, none⟩ = some (.int .i64 0) := cell_blk jR4 0
  have cR4_1 : u6.cell? ⟨R4, 1, none⟩ = some (.int .i64 0) := cell_blk jR4 1
  have cR4_2 : u6.cell? ⟨R4, 2, none⟩ = some (.int .i64 0) := cell_blk jR4 2
  have cR4_3 : u6.cell? ⟨R4, 3, none⟩ = some (.int .i64 0) := cell_blk jR4 3
  have cR4_4 : u6.cell? ⟨R4, 4, none⟩ = some (.int .i64 0) := cell_blk jR4 4
  have cR4_5 : u6.cell? ⟨R4, 5, none⟩ = some (.int .i64 0) := cell_blk jR4 5
  have cR4_6 : u6.cell? ⟨R4, 6, none⟩ = some (.int .i64 0) := cell_blk jR4 6
  have cR4_7 : u6.cell? ⟨R4, 7, none⟩ = some (.int .i64 0) := cell_blk jR4 7
  have cR4_8 : u6.cell? ⟨R4, 8, none⟩ = some (.bool true) := cell_blk jR4 8
  have jR3 := (aw.kp _ (.tail _ (.tail _ (.tail _ (.head _))))).1
  simp only [HO3.out] at jR3
  have cR3_0 : u6.cell? ⟨R3, 0, none⟩ = some (.int .i64 0) := cell_blk jR3 0
  have cR3_1 : u6.cell? ⟨R3, 1, none⟩ = some (.int .i64 5) := cell_blk jR3 1
  have cR3_2 : u6.cell? ⟨R3, 2, none⟩ = some (.int .i64 0) := cell_blk jR3 2
  have cR3_3 : u6.cell? ⟨R3, 3, none⟩ = some (.int .i64 0) := cell_blk jR3 3
  have cR3_4 : u6.cell? ⟨R3, 4, none⟩ = some (.int .i64 0) := cell_blk jR3 4
  have cR3_5 : u6.cell? ⟨R3, 5, none⟩ = some (.int .i64 0) := cell_blk jR3 5
  have cR3_6 : u6.cell? ⟨R3, 6, none⟩ = some (.int .i64 0) := cell_blk jR3 6
  have cR3_7 : u6.cell? ⟨R3, 7, none⟩ = some (.int .i64 0) := cell_blk jR3 7
  have cR3_8 : u6.cell? ⟨R3, 8, none⟩ = some (.bool true) := cell_blk jR3 8
  have jR2 := (aw.kp _ (.tail _ (.tail _ (.tail _ (.tail _ (.head _)))))).1
  simp only [HO2.out] at jR2
  have cR2_0 : u6.cell? ⟨R2, 0, none⟩ = some (.int .i64 131) := cell_blk jR2 0
  have cR2_1 : u6.cell? ⟨R2, 1, none⟩ = some (.int .i64 0) := cell_blk jR2 1
  have cR2_2 : u6.cell? ⟨R2, 2, none⟩ = some (.int .i64 0) := cell_blk jR2 2
  have cR2_3 : u6.cell? ⟨R2, 3, none⟩ = some (.int .i64 0) := cell_blk jR2 3
  have cR2_4 : u6.cell? ⟨R2, 4, none⟩ = some (.int .i64 1) := cell_blk jR2 4
  have cR2_5 : u6.cell? ⟨R2, 5, none⟩ = some (.int .i64 0) := cell_blk jR2 5
  have cR2_6 : u6.cell? ⟨R2, 6, none⟩ = some (.int .i64 0) := cell_blk jR2 6
  have cR2_7 : u6.cell? ⟨R2, 7, none⟩ = some (.int .i64 0) := cell_blk jR2 7
  have cR2_8 : u6.cell? ⟨R2, 8, none⟩ = some (.bool false) := cell_blk jR2 8
  have jR1 := (aw.kp _ (.tail _ (.tail _ (.tail _ (.tail _ (.tail _ (.head _))))))).1
  simp only [HO1.out] at jR1
  have cR1_0 : u6.cell? ⟨R1, 0, none⟩ = some (.int .i64 0) := cell_blk jR1 0
  have cR1_1 : u6.cell? ⟨R1, 1, none⟩ = some (.int .i64 0) := cell_blk jR1 1
  have cR1_2 : u6.cell? ⟨R1, 2, none⟩ = some (.int .i64 0) := cell_blk jR1 2
  have cR1_3 : u6.cell? ⟨R1, 3, none⟩ = some (.int .i64 0) := cell_blk jR1 3
  have cR1_4 : u6.cell? ⟨R1, 4, none⟩ = some (.int .i64 0) := cell_blk jR1 4
  have cR1_5 : u6.cell? ⟨R1, 5, none⟩ = some (.int .i64 0) := cell_blk jR1 5
  have cR1_6 : u6.cell? ⟨R1, 6, none⟩ = some (.int .i64 0) := cell_blk jR1 6
  have cR1_7 : u6.cell? ⟨R1, 7, none⟩ = some (.int .i64 0) := cell_blk jR1 7
  have cR1_8 : u6.cell? ⟨R1, 8, none⟩ = some (.bool true) := cell_blk jR1 8
  have jt := (aw.kp _ (.tail _ (.tail _ (.tail _ (.tail _ (.tail _ (.tail _ (.tail _ (.tail _ (.head _)))))))))).1
  simp only [HT.out] at jt
  have ct0 : u6.cell? ⟨P, 0, none⟩ = some (.int .i64 0) := cell_blk jt 0
  have ct1 : u6.cell? ⟨P, 1, none⟩ = some (.int .i64 0) := cell_blk jt 1
  have ct2 : u6.cell? ⟨P, 2, none⟩ = some (.int .i64 1) := cell_blk jt 2
  have jg := (aw.kp _ (.tail _ (.head _))).1
  simp only [HOG.out] at jg
  have cg : u6.cell? ⟨g, 1, none⟩ = some (.int .i64 5) := (cell_blk jg 1).trans HG2.out
  have q0 : ∀ w, (binOp BinOp.eql 52 (.agg #[.int .i64 0, .int .i64 0, .int .i64 0, .int .i64 0, .int .i64 0, .int .i64 0, .int .i64 0, .int .i64 0, .bool true]) (.agg #[.int .i64 0, .int .i64 0, .int .i64 0, .int .i64 0, .int .i64 0, .int .i64 0, .int .i64 0, .int .i64 0, .bool true])).run Try.prog w = .ok (.bool true) w := fun _ => by kernel_rfl
  have q1 : ∀ w, (binOp BinOp.eql 52 (.agg #[.int .i64 131, .int .i64 0, .int .i64 0, .int .i64 0, .int .i64 1, .int .i64 0, .int .i64 0, .int .i64 0, .bool false]) (.agg #[.int .i64 131, .int .i64 0, .int .i64 0, .int .i64 0, .int .i64 1, .int .i64 0, .int .i64 0, .int .i64 0, .bool false])).run Try.prog w = .ok (.bool true) w := fun _ => by kernel_rfl
  have q2 : ∀ w, (binOp BinOp.eql 52 (.agg #[.int .i64 0, .int .i64 5, .int .i64 0, .int .i64 0, .int .i64 0, .int .i64 0, .int .i64 0, .int .i64 0, .bool true]) (.agg #[.int .i64 0, .int .i64 5, .int .i64 0, .int .i64 0, .int .i64 0, .int .i64 0, .int .i64 0, .int .i64 0, .bool true])).run Try.prog w = .ok (.bool true) w := fun _ => by kernel_rfl
  have HA := Lib.hid aw.lo
  clear aw jR6 jR4 jR3 jR2 jR1 jt jg
  go_wp2
  go_ret
  exact ⟨rfl, HA.out⟩
end Go.Proofs.Ytcoaahlakkghhaa
/- A shard that is none: what is told of it; the document's text of a state without anything. -/
namespace Go.Proofs.Ytcoaahlakkghhaa
open Go.RowKit
theorem infoByte : (Try.prog.info? 5).map (fun i => (i.zero, i.size, i.bytes)) = some (some (.int .u8 0), 1, 1) := by kernel_rfl
section
variable {ρ : Operand → Value} {X : World} {d : Option Tmp} {ty : TypeId} {ps : String} {af : Array Edge} {g : Option (Nat × Bool)}
theorem op_add9' {x y : Operand} {s t u : ByteArray} (e : ρ x = .string s) (e2 : ρ y = .string t) (h : (binOp BinOp.add 9 (.string s) (.string t)).run Try.prog X = .ok (.string u) X) : (execOp ρ ⟨d, .binOp .add 9 x y 9, ty, ps, af, g⟩).run Try.prog X = .ok (.value (.string u)) X := by
  simp only [execOp, e, e2]
  simp [eqGuard, h]
theorem op_f63_0 {x : Operand} {B o : Nat} (e : ρ x = .pointer (some ⟨B, o, none⟩)) : (execOp ρ ⟨d, .fieldAddr 63 x 0, ty, ps, af, g⟩).run Try.prog X = .ok (.value (.pointer (some ⟨B, o, none⟩))) X := by
  simp only [execOp, e]
  go_simp
theorem op_f63_1 {x : Operand} {B o : Nat} (e : ρ x = .pointer (some ⟨B, o, none⟩)) : (execOp ρ ⟨d, .fieldAddr 63 x 1, ty, ps, af, g⟩).run Try.prog X = .ok (.value (.pointer (some ⟨B, o + 1, none⟩))) X := by
  simp only [execOp, e]
  go_simp
theorem op_f63_2 {x : Operand} {B o : Nat} (e : ρ x = .pointer (some ⟨B, o, none⟩)) : (execOp ρ ⟨d, .fieldAddr 63 x 2, ty, ps, af, g⟩).run Try.prog X = .ok (.value (.pointer (some ⟨B, o + 2, none⟩))) X := by
  simp only [execOp, e]
  go_simp
theorem op_f63_3 {x : Operand} {B o : Nat} (e : ρ x = .pointer (some ⟨B, o, none⟩)) : (execOp ρ ⟨d, .fieldAddr 63 x 3, ty, ps, af, g⟩).run Try.prog X = .ok (.value (.pointer (some ⟨B, o + 3, none⟩))) X := by
  simp only [execOp, e]
  go_simp
theorem op_f63_4 {x : Operand} {B o : Nat} (e : ρ x = .pointer (some ⟨B, o, none⟩)) : (execOp ρ ⟨d, .fieldAddr 63 x 4, ty, ps, af, g⟩).run Try.prog X = .ok (.value (.pointer (some ⟨B, o + 4, none⟩))) X := by
  simp only [execOp, e]
  go_simp
theorem op_load31' {x : Operand} {B i : Nat} {a : Option Addr} {n m : Nat} (e : ρ x = .pointer (some ⟨B, i, none⟩)) (y : X.cell? ⟨B, i, none⟩ = some (.slice a n m)) : (execOp ρ ⟨d, .load 31 x, ty, ps, af, g⟩).run Try.prog X = .ok (.value (.slice a n m)) X := by
  simp only [execOp, e]
  go_simp
theorem op_lenR {x : Operand} {a : Option Addr} {n m : Nat} (e : ρ x = .slice a n m) : (execOp ρ ⟨d, .call { callee := .builtin .len, args := #[x], argTypes := #[32] }, 3, ps, af, g⟩).run Try.prog X = .ok (.value (.int .i64 (n : Int))) X := by
  simp only [execOp]
  simp [resolve, invoke, builtin, e]
  go_simp
theorem call39 {v : Value} : Sem.run Try.prog (callFunc 39 #[v]) X = .ok (.enter 39 #[v]) X := by go_simp
theorem call40 {v : Value} : Sem.run Try.prog (callFunc 40 #[v]) X = .ok (.enter 40 #[v]) X := by go_simp
theorem call41 {v : Value} : Sem.run Try.prog (callFunc 41 #[v]) X = .ok (.enter 41 #[v]) X := by go_simp
end
set_option maxHeartbeats 2000000 in
set_option maxRecDepth 100000 in
theorem num0 (w : World) : Calls Try.prog 41 #[.int .i64 0] w fun e w' => e = .returned (.string ⟨#[0]⟩) ∧ Below w.heap.size w w' := by
  obtain ⟨i0, hi, hz0, hz1, hz2⟩ := info_parts infoByte
  have hb : Below w.heap.size w (w.alloc (.cells #[.int .u8 0] 5)) := Below.alloc (Below.refl _ _) (Nat.le_refl _) _
  have hrow : (w.alloc (.cells #[.int .u8 0] 5)).ownsRow w.heap.size 5 1 (.slice none 0 0) 0 [] := World.ownsRow_nil _ _ _ _
  obtain ⟨v', w', hr, ho', hg, _, _⟩ := run_append_own_at (P := Try.prog) (w := w.alloc (.cells #[.int .u8 0] 5)) w.heap.size 139 139 5 i0 _ 1 1 Try.underlying139 hi hz0 hz1 hz2 rfl (by decide) _ _ _ hrow ⟨w.heap.size, 0, none⟩ 1 1 [.int .u8 0] rfl (fun j u hu => by
    rw [add_at, Nat.zero_add, cell_blk (heap_alloc_new w _) j]
    simpa using hu) (by intro u hu; simp at hu; subst hu; rfl) (by unfold maxLen; omega) (by omega) hb.size
  have hb2 := hb.grown hg hb.size (fun k hk => by cases hk)
  have hcv : (convert 139 9 v').run Try.prog w' = .ok (.string ⟨#[0]⟩) w' := by
    rcases ho'.2 with ⟨rfl, h0⟩ | ⟨g, cap, cur, rfl, _⟩
    · cases h0
    · exact run_convert_bytes_back (P := Try.prog) w' 139 9 5 ⟨g, 0, none⟩ cap [0] Try.underlying139 Try.underlying5 Try.underlying9 (fun j hj => ho'.cells (g := g) rfl j _ (by
        have h0 : j = 0 := by have : j < 1 := hj; omega
        subst h0
        rfl))
  obtain ⟨ad', cap', rfl⟩ := own_shape ho'
  have HB := Lib.hid hb2
  clear hb hrow ho' hg hb2 hz0 hz1 hz2 hi
  go_enter Try.func41, Try.ntmps41
  go_wp2
  go_loopw [3, 4] (fun zv ov wr => zv = .int .u64 0 ∧ ov = .slice none 0 0 ∧ wr = w) (fun _ _ _ => 0)
  case atStart => exact ⟨rfl, rfl, rfl⟩
  case round =>
    obtain ⟨rfl, rfl, rfl⟩ := hrel
    go_wp2_with (at_builtin; refine wpl_run2 _ _ rfl (by simp [Act.eval]) (by simp [Act.eval]) hr ?_)
    go_ret
    exact ⟨rfl, HB.out⟩
set_option maxHeartbeats 2000000 in
set_option maxRecDepth 100000 in
theorem rows0 (w : World) : Calls Try.prog 39 #[.slice none 0 0] w fun e w' => e = .returned (.string ⟨#[0]⟩) ∧ Below w.heap.size w w' := by
  have hn := num0 w
  go_enter Try.func39, Try.ntmps39
  go_wp2_with fail
  refine hn.mono ?_
  rintro e w1 ⟨rfl, b1⟩
  have HB := Lib.hid b1
  clear hn b1
  go_wp2
  go_loopw [3, 4] (fun sv iv wr => sv = .string ⟨#[0]⟩ ∧ iv = .int .i64 0 ∧ wr = w1) (fun _ _ _ => 0)
  case atStart => exact ⟨rfl, rfl, rfl⟩
  case round =>
    obtain ⟨rfl, rfl, rfl⟩ := hrel
    go_wp2
    go_ret
    exact ⟨rfl, HB.out⟩
set_option maxHeartbeats 2000000 in
set_option maxRecDepth 100000 in
theorem locks0 (w : World) : Calls Try.prog 40 #[.slice none 0 0] w fun e w' => e = .returned (.string ⟨#[0]⟩) ∧ Below w.heap.size w w' := by
  have hn := num0 w
  go_enter Try.func40, Try.ntmps40
  go_wp2_with fail
  refine hn.mono ?_
  rintro e w1 ⟨rfl, b1⟩
  have HB := Lib.hid b1
  clear hn b1
  go_wp2
  go_loopw [3, 4] (fun sv iv wr => sv = .string ⟨#[0]⟩ ∧ iv = .int .i64 0 ∧ wr = w1) (fun _ _ _ => 0)
  case atStart => exact ⟨rfl, rfl, rfl⟩
  case round =>
    obtain ⟨rfl, rfl, rfl⟩ := hrel
    go_wp2
    go_ret
    exact ⟨rfl, HB.out⟩
theorem locksN (w : World) : Calls Try.prog 21 #[.pointer none] w fun e w' => e = .returned (.slice none 0 0) ∧ Below w.heap.size w w' := by
  go_enter Try.func21, Try.ntmps21
  go_wp2
  go_ret
  exact ⟨rfl, Below.refl _ _⟩
theorem size63 : (Try.prog.info? 63).map (·.size) = some 5 := by kernel_rfl
theorem saveN (w : World) : Calls Try.prog 15 #[.pointer none] w fun e w' => e = .returned (.agg #[.slice none 0 0, .slice none 0 0, .slice none 0 0, .slice none 0 0, .int .i64 0]) ∧ Below w.heap.size w w' := by
  obtain ⟨W, hW⟩ : ∃ W, W = w.alloc (.cells #[.slice none 0 0, .slice none 0 0, .slice none 0 0, .slice none 0 0, .int .i64 0] 63) := ⟨_, rfl⟩
  have hb : Below w.heap.size w W := by rw [hW]; exact (Below.refl _ w).alloc (Nat.le_refl _) _
  obtain ⟨Y, hY⟩ : ∃ Y, w.heap.size = Y := ⟨_, rfl⟩
  have jY : W.heap[Y]? = some (.cells #[.slice none 0 0, .slice none 0 0, .slice none 0 0, .slice none 0 0, .int .i64 0] 63 (0, 0)) := by rw [hW, ← hY]; exact heap_alloc_new w _
  obtain ⟨X, hXe, jX, fX⟩ := sets_row jY #[.slice none 0 0, .slice none 0 0, .slice none 0 0, .slice none 0 0, .int .i64 0] rfl
  have hst : (Instr.storeAt 63 (.pointer (some ⟨Y, 0, none⟩)) (.agg #[.slice none 0 0, .slice none 0 0, .slice none 0 0, .slice none 0 0, .int .i64 0])).run Try.prog W = .ok () X := by
    rw [hXe]
    exact store_row jY rfl size63 (by simp [Value.oneCell'])
  have HB : Hid (Below w.heap.size w X) := Lib.hid ⟨fX.os.trans hb.os, fX.tape.trans hb.tape, fX.output.trans hb.output, Nat.le_trans hb.size fX.size, fun k hk => (fX.block k (Nat.lt_of_lt_of_le hk hb.size) (fun e => by have e' : k = Y := e; omega)).trans (hb.block k hk)⟩
  have HJ := Lib.hid jX
  have HW := Lib.hid hW
  have HY := Lib.hid hY
  clear hW hY hb jY hXe jX fX
  go_enter Try.func15, Try.ntmps15
  go_upto_region 1 with fail
  rw [← HW.out, HY.out]
  go_wp2_with (refine wpl_store _ _ rfl (by simp [Act.eval]) (by simp [Act.eval]) hst ?_)
  refine bodyPost_ret (results_one Try.results15 rfl (load_var HJ.out Try.underlying63 rfl size63)) rfl ?_
  exact ⟨rfl, HB.out⟩
set_option maxHeartbeats 2000000 in
set_option maxRecDepth 100000 in
theorem range0 (w : World) : Calls Try.prog 16 #[.agg #[.slice none 0 0, .slice none 0 0, .slice none 0 0, .slice none 0 0, .int .i64 0]] w fun e w' => e = .returned (.string ⟨#[0, 0, 0, 0, 0]⟩) ∧ Below w.heap.size w w' := by
  obtain ⟨W, hW⟩ : ∃ W, W = w.alloc (.cells #[.slice none 0 0, .slice none 0 0, .slice none 0 0, .slice none 0 0, .int .i64 0] 63) := ⟨_, rfl⟩
  have hb : Below w.heap.size w W := by rw [hW]; exact (Below.refl _ w).alloc (Nat.le_refl _) _
  obtain ⟨Y, hY⟩ : ∃ Y, w.heap.size = Y := ⟨_, rfl⟩
  have jY : W.heap[Y]? = some (.cells #[.slice none 0 0, .slice none 0 0, .slice none 0 0, .slice none 0 0, .int .i64 0] 63 (0, 0)) := by rw [hW, ← hY]; exact heap_alloc_new w _
  have b0 : W.cell? ⟨Y, 0, none⟩ = some (.slice none 0 0) := cell_blk jY 0
  have b1 : W.cell? ⟨Y, 1, none⟩ = some (.slice none 0 0) := cell_blk jY 1
  have b2 : W.cell? ⟨Y, 2, none⟩ = some (.slice none 0 0) := cell_blk jY 2
  have HJ := Lib.hid jY
  have HB := Lib.hid hb
  have HW := Lib.hid hW
  have HY := Lib.hid hY
  have q1 : ∀ X, (binOp BinOp.add 9 (.string ⟨#[0]⟩) (.string ⟨#[0]⟩)).run Try.prog X = .ok (.string ⟨#[0, 0]⟩) X := fun _ => by kernel_rfl
  have q2 : ∀ X, (binOp BinOp.add 9 (.string ⟨#[0, 0]⟩) (.string ⟨#[0]⟩)).run Try.prog X = .ok (.string ⟨#[0, 0, 0]⟩) X := fun _ => by kernel_rfl
  have q3 : ∀ X, (binOp BinOp.add 9 (.string ⟨#[0, 0, 0]⟩) (.string ⟨#[0]⟩)).run Try.prog X = .ok (.string ⟨#[0, 0, 0, 0]⟩) X := fun _ => by kernel_rfl
  have q4 : ∀ X, (binOp BinOp.add 9 (.string ⟨#[0, 0, 0, 0]⟩) (.string ⟨#[0]⟩)).run Try.prog X = .ok (.string ⟨#[0, 0, 0, 0, 0]⟩) X := fun _ => by kernel_rfl
  clear hW hY hb jY
  go_enter Try.func16, Try.ntmps16
  go_upto_region 1 with fail
  rw [← HW.out, HY.out]
  refine wp_region_fb (fun _ X9 => Below W.heap.size W X9) (fun X9 X' => Below X9.heap.size X9 X') [
    fun v9 _ => v9 = .pointer (some ⟨Y, 0, none⟩),
    fun v9 _ => v9 = .slice none 0 0,
    fun v9 _ => v9 = .string ⟨#[0]⟩,
    fun v9 _ => v9 = .pointer (some ⟨Y, 1, none⟩),
    fun v9 _ => v9 = .slice none 0 0,
    fun v9 _ => v9 = .string ⟨#[0]⟩,
    fun v9 _ => v9 = .string ⟨#[0, 0]⟩,
    fun v9 _ => v9 = .pointer (some ⟨Y, 2, none⟩),
    fun v9 _ => v9 = .slice none 0 0,
    fun v9 _ => v9 = .int .i64 0,
    fun v9 _ => v9 = .string ⟨#[0]⟩,
    fun v9 _ => v9 = .string ⟨#[0, 0, 0]⟩,
    fun v9 _ => v9 = .string ⟨#[0, 0, 0]⟩]
    (by kernel_rfl) (by kernel_rfl) (by kernel_rfl) ?st ?g0 ?os ?en
  case st => exact ⟨fun _ _ _ _ h => h, fun _ _ _ _ h => h, fun _ _ _ _ h => h, fun _ _ _ _ h => h, fun _ _ _ _ h => h, fun _ _ _ _ h => h, fun _ _ _ _ h => h, fun _ _ _ _ h => h, fun _ _ _ _ h => h, fun _ _ _ _ h => h, fun _ _ _ _ h => h, fun _ _ _ _ h => h, fun _ _ _ _ h => h, trivial⟩
  case g0 => exact ⟨rfl, rfl, rfl, Nat.le_refl _, fun _ _ => rfl⟩
  case os =>
    refine ⟨?_, ?_, ?_, ?_, ?_, ?_, ?_, ?_, ?_, ?_, ?_, ?_, ?_, trivial⟩
    · exact fun ρ X9 fl hg hn hl hp ho hc hf hr => .inl ⟨rfl, Runs.val _ (op_f63_0 (show ρ (.tmp 1) = .pointer (some ⟨Y, 0, none⟩) from ho 1 rfl)) ⟨hg, Below.refl _ _, rfl⟩⟩
    · exact fun ρ X9 fl hg hn hl hp ho hc hf hr => .inl ⟨rfl, Runs.val _ (op_load61 (show ρ (.tmp 6) = .pointer (some ⟨Y, 0, none⟩) from hr 0 6 rfl rfl) (cell_on hg b0)) ⟨hg, Below.refl _ _, rfl⟩⟩
    · refine fun ρ X9 fl hg hn hl hp ho hc hf hr => .inl ⟨rfl, ?_⟩
      refine Runs.goes 39 #[.slice none 0 0] (op_call1 hf call39 (show ρ (.tmp 7) = .slice none 0 0 from hr 1 7 rfl rfl)) ((rows0 X9).mono ?_)
      rintro e7 w7 ⟨rfl, b7⟩
      exact ⟨_, rfl, hg.trans (b7.mono hg.size), b7, rfl⟩
    · exact fun ρ X9 fl hg hn hl hp ho hc hf hr => .inl ⟨rfl, Runs.val _ (op_f63_1 (show ρ (.tmp 1) = .pointer (some ⟨Y, 0, none⟩) from ho 1 rfl)) ⟨hg, Below.refl _ _, rfl⟩⟩
    · exact fun ρ X9 fl hg hn hl hp ho hc hf hr => .inl ⟨rfl, Runs.val _ (op_load31' (show ρ (.tmp 9) = .pointer (some ⟨Y, 1, none⟩) from hr 3 9 rfl rfl) (cell_on hg b1)) ⟨hg, Below.refl _ _, rfl⟩⟩
    · refine fun ρ X9 fl hg hn hl hp ho hc hf hr => .inl ⟨rfl, ?_⟩
      refine Runs.goes 40 #[.slice none 0 0] (op_call1 hf call40 (show ρ (.tmp 10) = .slice none 0 0 from hr 4 10 rfl rfl)) ((locks0 X9).mono ?_)
      rintro e7 w7 ⟨rfl, b7⟩
      exact ⟨_, rfl, hg.trans (b7.mono hg.size), b7, rfl⟩
    · exact fun ρ X9 fl hg hn hl hp ho hc hf hr => .inl ⟨rfl, Runs.val _ (op_add9' (show ρ (.tmp 8) = .string ⟨#[0]⟩ from hr 2 8 rfl rfl) (show ρ (.tmp 11) = .string ⟨#[0]⟩ from hr 5 11 rfl rfl) (q1 X9)) ⟨hg, Below.refl _ _, rfl⟩⟩
    · exact fun ρ X9 fl hg hn hl hp ho hc hf hr => .inl ⟨rfl, Runs.val _ (op_f63_2 (show ρ (.tmp 1) = .pointer (some ⟨Y, 0, none⟩) from ho 1 rfl)) ⟨hg, Below.refl _ _, rfl⟩⟩
    · exact fun ρ X9 fl hg hn hl hp ho hc hf hr => .inl ⟨rfl, Runs.val _ (op_load32 (show ρ (.tmp 13) = .pointer (some ⟨Y, 2, none⟩) from hr 7 13 rfl rfl) (cell_on hg b2)) ⟨hg, Below.refl _ _, rfl⟩⟩
    · exact fun ρ X9 fl hg hn hl hp ho hc hf hr => .inl ⟨rfl, Runs.val _ (op_lenR (show ρ (.tmp 14) = .slice none 0 0 from hr 8 14 rfl rfl)) ⟨hg, Below.refl _ _, rfl⟩⟩
    · refine fun ρ X9 fl hg hn hl hp ho hc hf hr => .inl ⟨rfl, ?_⟩
      refine Runs.goes 41 #[.int .i64 0] (op_call1 hf call41 (show ρ (.tmp 15) = .int .i64 0 from hr 9 15 rfl rfl)) ((num0 X9).mono ?_)
      rintro e7 w7 ⟨rfl, b7⟩
      exact ⟨_, rfl, hg.trans (b7.mono hg.size), b7, rfl⟩
    · exact fun ρ X9 fl hg hn hl hp ho hc hf hr => .inl ⟨rfl, Runs.val _ (op_add9' (show ρ (.tmp 12) = .string ⟨#[0, 0]⟩ from hr 6 12 rfl rfl) (show ρ (.tmp 16) = .string ⟨#[0]⟩ from hr 10 16 rfl rfl) (q2 X9)) ⟨hg, Below.refl _ _, rfl⟩⟩
    · exact fun ρ X9 fl hg hn hl hp ho hc hf hr => .inl ⟨rfl, Runs.val _ (op_assign (show ρ (.tmp 17) = .string ⟨#[0, 0, 0]⟩ from hr 11 17 rfl rfl)) ⟨hg, Below.refl _ _, rfl⟩⟩
  case en =>
    intro a X9 fl hfl hG hs hd ho hr
    obtain ⟨x, hx, hxt⟩ := act_put hs hd ho
    have x3 : x 3 = .string ⟨#[0, 0, 0]⟩ := (hxt 3).symm.trans (hr 12 3 rfl)
    change a = putAll _ x [6, 7, 8, 9, 10, 11, 12, 13, 14, 15, 16, 17, 3] at hx
    simp only [putAll, Act.put, List.setIfInBounds_toArray, List.set_cons_zero, List.set_cons_succ, x3] at hx
    have jX := (hG.block Y (blk_lt HJ.out)).trans HJ.out
    have c2 : X9.cell? ⟨Y, 2, none⟩ = some (.slice none 0 0) := cell_blk jX 2
    have HBX := Lib.hid (HB.out.trans (hG.mono HB.out.size))
    have HJX := Lib.hid jX
    have hn := num0 X9
    clear hG hs hd ho hr hxt x3 b0 b1 b2 q1 q2 jX
    subst hx
    go_wp2
    go_loopw [3, 4] (fun sv iv wr => sv = .string ⟨#[0, 0, 0]⟩ ∧ iv = .int .i64 0 ∧ X9 = wr) (fun _ _ _ => 0)
    case atStart => exact ⟨rfl, rfl, rfl⟩
    case round =>
      obtain ⟨rfl, rfl, rfl⟩ := hrel
      have c3 : X9.cell? ⟨Y, 3, none⟩ = some (.slice none 0 0) := cell_blk HJX.out 3
      go_wp2_with fail
      refine hn.mono ?_
      rintro e w1 ⟨rfl, b1⟩
      have jX := (b1.block Y (blk_lt HJX.out)).trans HJX.out
      have d3 : w1.cell? ⟨Y, 3, none⟩ = some (.slice none 0 0) := cell_blk jX 3
      have HB1 := Lib.hid (HBX.out.trans (b1.mono HBX.out.size))
      have HJ1 := Lib.hid jX
      have hn1 := num0 w1
      clear b1 hn c2 c3 jX
      go_wp2
      go_loopw [3, 5] (fun sv iv wr => sv = .string ⟨#[0, 0, 0, 0]⟩ ∧ iv = .int .i64 0 ∧ w1 = wr) (fun _ _ _ => 0)
      case atStart => exact ⟨rfl, rfl, rfl⟩
      case round =>
        obtain ⟨rfl, rfl, rfl⟩ := hrel
        have d4 : w1.cell? ⟨Y, 4, none⟩ = some (.int .i64 0) := cell_blk HJ1.out 4
        go_wp2_with fail
        refine hn1.mono ?_
        rintro e w2 ⟨rfl, b2⟩
        have HB2 := Lib.hid (HB1.out.trans (b2.mono HB1.out.size))
        clear b2 hn1 d3 d4
        go_wp2
        go_ret
        exact ⟨rfl, HB2.out⟩
end Go.Proofs.Ytcoaahlakkghhaa
/- The law ShardNil. -/
namespace Go.Proofs.Ytcoaahlakkghhaa
open Go.RowKit
section
variable {ρ : Operand → Value} {X : World} {d : Option Tmp} {ty : TypeId} {ps : String} {af : Array Edge} {g : Option (Nat × Bool)}
theorem op_f49_0 {x : Operand} {B o : Nat} (e : ρ x = .pointer (some ⟨B, o, none⟩)) : (execOp ρ ⟨d, .fieldAddr 49 x 0, ty, ps, af, g⟩).run Try.prog X = .ok (.value (.pointer (some ⟨B, o, none⟩))) X := by
  simp only [execOp, e]
  go_simp
theorem op_f49_1 {x : Operand} {B o : Nat} (e : ρ x = .pointer (some ⟨B, o, none⟩)) : (execOp ρ ⟨d, .fieldAddr 49 x 1, ty, ps, af, g⟩).run Try.prog X = .ok (.value (.pointer (some ⟨B, o + 1, none⟩))) X := by
  simp only [execOp, e]
  go_simp
theorem op_loadI {x : Operand} {B i : Nat} {n : Int} (e : ρ x = .pointer (some ⟨B, i, none⟩)) (y : X.cell? ⟨B, i, none⟩ = some (.int .i64 n)) : (execOp ρ ⟨d, .load 3 x, ty, ps, af, g⟩).run Try.prog X = .ok (.value (.int .i64 n)) X := by
  simp only [execOp, e]
  go_simp
theorem op_b52' {y : Operand} (e : ρ y = .int .i64 2) : (execOp ρ ⟨d, .build 52 #[(0, y)], ty, ps, af, g⟩).run Try.prog X = .ok (.value (.agg #[.int .i64 2, .int .i64 0, .int .i64 0, .int .i64 0, .int .i64 0, .int .i64 0, .int .i64 0, .int .i64 0, .bool false])) X := by
  simp only [execOp]
  simp [e]
  go_simp
theorem op_b57' {y : Operand} (e : ρ y = .string ⟨#[120]⟩) : (execOp ρ ⟨d, .build 57 #[(1, y)], ty, ps, af, g⟩).run Try.prog X = .ok (.value (.agg #[.string ⟨#[]⟩, .string ⟨#[120]⟩])) X := by
  simp only [execOp]
  simp [e]
  go_simp
theorem op_b63' : (execOp ρ ⟨d, .build 63 #[], ty, ps, af, g⟩).run Try.prog X = .ok (.value (.agg #[.slice none 0 0, .slice none 0 0, .slice none 0 0, .slice none 0 0, .int .i64 0])) X := by
  simp only [execOp]
  go_simp
theorem op_eq52 {x y : Operand} (e : ρ x = .agg #[.int .i64 2, .int .i64 0, .int .i64 0, .int .i64 0, .int .i64 0, .int .i64 0, .int .i64 0, .int .i64 0, .bool false]) (e2 : ρ y = .agg #[.int .i64 2, .int .i64 0, .int .i64 0, .int .i64 0, .int .i64 0, .int .i64 0, .int .i64 0, .int .i64 0, .bool false]) : (execOp ρ ⟨d, .binOp .eql 52 x y 52, ty, ps, af, g⟩).run Try.prog X = .ok (.value (.bool true)) X := by
  simp only [execOp, e, e2]
  go_simp
theorem op_eq3 {x y : Operand} (e : ρ x = .int .i64 0) (e2 : ρ y = .int .i64 0) : (execOp ρ ⟨d, .binOp .eql 3 x y 3, ty, ps, af, g⟩).run Try.prog X = .ok (.value (.bool true)) X := by
  simp only [execOp, e, e2]
  go_simp
theorem op_eq9 {x y : Operand} {k : ByteArray} (e : ρ x = .string k) (e2 : ρ y = .string k) : (execOp ρ ⟨d, .binOp .eql 9 x y 9, ty, ps, af, g⟩).run Try.prog X = .ok (.value (.bool true)) X := by
  simp only [execOp, e, e2]
  go_simp
theorem op_lenA {T : TypeId} {x : Operand} {dsc : TypeId} (hT : Try.prog.underlying T = some (.slice dsc)) (e : ρ x = .slice none 0 0) : (execOp ρ ⟨d, .call { callee := .builtin .len, args := #[x], argTypes := #[T] }, 3, ps, af, g⟩).run Try.prog X = .ok (.value (.int .i64 0)) X := by
  simp only [execOp]
  simp [resolve, invoke, builtin, e]
  go_simp
theorem call9 : Sem.run Try.prog (callFunc 9 #[]) X = .ok (.enter 9 #[]) X := by go_simp
theorem call12 {v : Value} : Sem.run Try.prog (callFunc 12 #[v]) X = .ok (.enter 12 #[v]) X := by go_simp
theorem call13 {v u x : Value} : Sem.run Try.prog (callFunc 13 #[v, u, x]) X = .ok (.enter 13 #[v, u, x]) X := by go_simp
theorem call15 {v : Value} : Sem.run Try.prog (callFunc 15 #[v]) X = .ok (.enter 15 #[v]) X := by go_simp
theorem call16 {v : Value} : Sem.run Try.prog (callFunc 16 #[v]) X = .ok (.enter 16 #[v]) X := by go_simp
theorem call21 {v : Value} : Sem.run Try.prog (callFunc 21 #[v]) X = .ok (.enter 21 #[v]) X := by go_simp
theorem op_call0' {f : FuncId} {at' : Array TypeId} (hf : ∀ f, ρ (.func f) = .func (.func f) #[] #[]) (hc : Sem.run Try.prog (callFunc f #[]) X = .ok (.enter f #[]) X) : (execOp ρ ⟨d, .call { callee := .value (.func f), args := #[], argTypes := at' }, ty, ps, af, g⟩).run Try.prog X = .ok (.enter f #[]) X := by
  simp only [execOp]
  simp [resolve, hf, Deferred.ofValue, invoke, hc]
end
section
variable {w : World} {c : Cm} {cs os : Array Value} {ra wa : Option Addr} {rc wc : Nat}
set_option maxHeartbeats 4000000 in
set_option maxRecDepth 100000 in
theorem nil_law {a : Int} (hc : Cc w c cs ra rc wa wc) (h0 : os[0]? = some (.int .i64 a)) (hos : ∀ j, os[j + 1]? = cs[j]?) (hz1 : c.reads.length * 56 ≤ 140737488355328) (hz2 : c.writes.length * 40 ≤ 140737488355328) (hz3 : ∀ r ∈ c.reads, r.seen.length * 24 ≤ 140737488355328) : Calls Try.prog 8 #[.agg os] w fun e w' => e = .returned (.bool true) ∧ Below w.heap.size w w' := by
  obtain ⟨W, hW⟩ : ∃ W, W = w.alloc (.cells os 49) := ⟨_, rfl⟩
  have hb : Below w.heap.size w W := by rw [hW]; exact (Below.refl _ w).alloc (Nat.le_refl _) _
  obtain ⟨Y, hY⟩ : ∃ Y, w.heap.size = Y := ⟨_, rfl⟩
  have jY : W.heap[Y]? = some (.cells os 49 (0, 0)) := by rw [hW, ← hY]; exact heap_alloc_new w _
  have e5 : W.cell? ⟨Y, 5, none⟩ = some (.int .i64 c.txn.1) := (cell_blk jY 5).trans ((hos 4).trans hc.t0)
  have e6 : W.cell? ⟨Y, 6, none⟩ = some (.int .i64 c.txn.2.1) := (cell_blk jY 6).trans ((hos 5).trans hc.t1)
  have e7 : W.cell? ⟨Y, 7, none⟩ = some (.int .i64 c.txn.2.2) := (cell_blk jY 7).trans ((hos 6).trans hc.t2)
  have hrec := record_nil W c.txn
  have HLD : Hid (∀ X, Below W.heap.size W X → (Instr.loadAt 47 (.pointer (some ⟨Y, 1, none⟩))).run Try.prog X = .ok (.agg cs) X) := fun X hX => by
    have jX := (hX.block Y (blk_lt jY)).trans jY
    have q := run_loadAt_mid (P := Try.prog) X Y 1 47 cs.toList _ (fun j v hv => by
      rw [Nat.add_comm 1 j, cell_blk jX (j + 1), hos j, ← hv]
      simp) Try.underlying47 rfl (by rw [Array.length_toList, hc.sz]; exact size47)
    simpa using q
  have HCX : Hid (∀ X, Below W.heap.size W X → Calls Try.prog 12 #[.agg cs] X fun e w' => ∃ cs', e = .returned (.agg cs') ∧ Below X.heap.size X w') := fun X hX => by
    refine (own_any ((hc.on hb).on hX) hz1 hz2 hz3).mono ?_
    rintro e w' ⟨cs', _, _, _, _, _, rfl, _, q⟩
    exact ⟨cs', rfl, q⟩
  have HJ := Lib.hid jY
  have a0 : W.cell? ⟨Y, 0, none⟩ = some (.int .i64 a) := (cell_blk jY 0).trans h0
  have HA0 := Lib.hid a0
  have HB := Lib.hid hb
  have HW := Lib.hid hW
  have HY := Lib.hid hY
  clear hW hY hb jY hc hos h0 hz1 hz2 hz3 a0
  go_enter Try.func8, Try.ntmps8
  go_upto_region 1 with fail
  rw [← HW.out, HY.out]
  go_wp2_with fail
  refine hrec.mono ?_
  rintro e w1 ⟨rfl, b1⟩
  have HW1 := Lib.hid b1
  have a0 := cell_on b1 HA0.out
  clear hrec b1 e5 e6 e7
  go_upto_region 3 with fail
  refine wp_region_fb (fun _ X9 => Below w1.heap.size w1 X9) (fun X9 X' => Below X9.heap.size X9 X') [
    fun v9 _ => v9 = .bool true,
    fun v9 _ => v9 = .bool true,
    fun v9 _ => v9 = .pointer none,
    fun v9 _ => v9 = .pointer (some ⟨Y, 0, none⟩),
    fun v9 _ => v9 = .int .i64 a,
    fun v9 _ => v9 = .pointer (some ⟨Y, 1, none⟩),
    fun v9 _ => v9 = .agg cs,
    fun v9 _ => ∃ cs9, v9 = .agg cs9,
    fun v9 _ => v9 = .agg #[.int .i64 2, .int .i64 0, .int .i64 0, .int .i64 0, .int .i64 0, .int .i64 0, .int .i64 0, .int .i64 0, .bool false],
    fun v9 _ => v9 = .agg #[.int .i64 2, .int .i64 0, .int .i64 0, .int .i64 0, .int .i64 0, .int .i64 0, .int .i64 0, .int .i64 0, .bool false],
    fun v9 _ => v9 = .bool true,
    fun v9 _ => v9 = .bool true,
    fun v9 _ => v9 = .bool true,
    fun v9 _ => v9 = .pointer none,
    fun v9 _ => v9 = .agg #[.string ⟨#[]⟩, .string ⟨#[120]⟩],
    fun v9 _ => v9 = .slice none 0 0,
    fun v9 _ => v9 = .int .i64 0,
    fun v9 _ => v9 = .bool true,
    fun v9 _ => v9 = .bool true,
    fun v9 _ => v9 = .bool true,
    fun v9 _ => v9 = .pointer none,
    fun v9 _ => v9 = .slice none 0 0,
    fun v9 _ => v9 = .int .i64 0,
    fun v9 _ => v9 = .bool true,
    fun v9 _ => v9 = .bool true,
    fun v9 _ => v9 = .bool true,
    fun v9 _ => v9 = .int .i64 0,
    fun v9 _ => v9 = .bool true,
    fun v9 _ => v9 = .bool true,
    fun v9 _ => v9 = .bool true,
    fun v9 _ => v9 = .bool false,
    fun v9 _ => v9 = .bool true,
    fun v9 _ => v9 = .bool true,
    fun v9 _ => v9 = .bool true,
    fun v9 _ => v9 = .pointer none,
    fun v9 _ => v9 = .agg #[.slice none 0 0, .slice none 0 0, .slice none 0 0, .slice none 0 0, .int .i64 0],
    fun v9 _ => v9 = .string ⟨#[0, 0, 0, 0, 0]⟩,
    fun v9 _ => v9 = .agg #[.slice none 0 0, .slice none 0 0, .slice none 0 0, .slice none 0 0, .int .i64 0],
    fun v9 _ => v9 = .string ⟨#[0, 0, 0, 0, 0]⟩,
    fun v9 _ => v9 = .bool true,
    fun v9 _ => v9 = .bool true,
    fun v9 _ => v9 = .bool true]
    (by kernel_rfl) (by kernel_rfl) (by kernel_rfl) ?st ?g0 ?os ?en
  case st => exact ⟨fun _ _ _ _ h => h, fun _ _ _ _ h => h, fun _ _ _ _ h => h, fun _ _ _ _ h => h, fun _ _ _ _ h => h, fun _ _ _ _ h => h, fun _ _ _ _ h => h, fun _ _ _ _ h => h, fun _ _ _ _ h => h, fun _ _ _ _ h => h, fun _ _ _ _ h => h, fun _ _ _ _ h => h, fun _ _ _ _ h => h, fun _ _ _ _ h => h, fun _ _ _ _ h => h, fun _ _ _ _ h => h, fun _ _ _ _ h => h, fun _ _ _ _ h => h, fun _ _ _ _ h => h, fun _ _ _ _ h => h, fun _ _ _ _ h => h, fun _ _ _ _ h => h, fun _ _ _ _ h => h, fun _ _ _ _ h => h, fun _ _ _ _ h => h, fun _ _ _ _ h => h, fun _ _ _ _ h => h, fun _ _ _ _ h => h, fun _ _ _ _ h => h, fun _ _ _ _ h => h, fun _ _ _ _ h => h, fun _ _ _ _ h => h, fun _ _ _ _ h => h, fun _ _ _ _ h => h, fun _ _ _ _ h => h, fun _ _ _ _ h => h, fun _ _ _ _ h => h, fun _ _ _ _ h => h, fun _ _ _ _ h => h, fun _ _ _ _ h => h, fun _ _ _ _ h => h, fun _ _ _ _ h => h, trivial⟩
  case g0 => exact ⟨rfl, rfl, rfl, Nat.le_refl _, fun _ _ => rfl⟩
  case os =>
    refine ⟨?_, ?_, ?_, ?_, ?_, ?_, ?_, ?_, ?_, ?_, ?_, ?_, ?_, ?_, ?_, ?_, ?_, ?_, ?_, ?_, ?_, ?_, ?_, ?_, ?_, ?_, ?_, ?_, ?_, ?_, ?_, ?_, ?_, ?_, ?_, ?_, ?_, ?_, ?_, ?_, ?_, ?_, trivial⟩
    · refine fun ρ X9 fl hg hn hl hp ho hc hf hr => .inl ⟨rfl, ?_⟩
      refine Runs.goes 9 #[] (op_call0' hf call9) ((awake_any X9).mono ?_)
      rintro e7 w7 ⟨rfl, b7⟩
      exact ⟨_, rfl, hg.trans (b7.mono hg.size), b7, rfl⟩
    · exact fun ρ X9 fl hg hn hl hp ho hc hf hr => .inl ⟨rfl, Runs.val _ (op_move (show ρ (.tmp 14) = .bool true from hr 0 14 rfl rfl)) ⟨hg, Below.refl _ _, rfl⟩⟩
    · exact fun ρ X9 fl hg hn hl hp ho hc hf hr => .inr (.inl ⟨1, 15, true, fun _ => rfl, rfl, hr 1 15 rfl rfl, Runs.val _ (op_move (show ρ (.tmp 3) = .pointer none from ho 3 rfl)) ⟨hg, Below.refl _ _, rfl⟩⟩)
    · exact fun ρ X9 fl hg hn hl hp ho hc hf hr => .inr (.inl ⟨1, 15, true, fun _ => rfl, rfl, hr 1 15 rfl rfl, Runs.val _ (op_f49_0 (show ρ (.tmp 1) = .pointer (some ⟨Y, 0, none⟩) from ho 1 rfl)) ⟨hg, Below.refl _ _, rfl⟩⟩)
    · exact fun ρ X9 fl hg hn hl hp ho hc hf hr => .inr (.inl ⟨1, 15, true, fun _ => rfl, rfl, hr 1 15 rfl rfl, Runs.val _ (op_loadI (show ρ (.tmp 17) = .pointer (some ⟨Y, 0, none⟩) from hr 3 17 rfl rfl) (cell_on hg a0)) ⟨hg, Below.refl _ _, rfl⟩⟩)
    · exact fun ρ X9 fl hg hn hl hp ho hc hf hr => .inr (.inl ⟨1, 15, true, fun _ => rfl, rfl, hr 1 15 rfl rfl, Runs.val _ (op_f49_1 (show ρ (.tmp 1) = .pointer (some ⟨Y, 0, none⟩) from ho 1 rfl)) ⟨hg, Below.refl _ _, rfl⟩⟩)
    · exact fun ρ X9 fl hg hn hl hp ho hc hf hr => .inr (.inl ⟨1, 15, true, fun _ => rfl, rfl, hr 1 15 rfl rfl, Runs.val _ (op_loadAt (show ρ (.tmp 19) = .pointer (some ⟨Y, 1, none⟩) from hr 5 19 rfl rfl) (HLD.out X9 (HW1.out.trans (hg.mono HW1.out.size)))) ⟨hg, Below.refl _ _, rfl⟩⟩)
    · refine fun ρ X9 fl hg hn hl hp ho hc hf hr => .inr (.inl ⟨1, 15, true, fun _ => rfl, rfl, hr 1 15 rfl rfl, ?_⟩)
      refine Runs.goes 12 #[.agg cs] (op_call1 hf call12 (show ρ (.tmp 20) = .agg cs from hr 6 20 rfl rfl)) ((HCX.out X9 (HW1.out.trans (hg.mono HW1.out.size))).mono ?_)
      rintro e7 w7 ⟨cs7, rfl, b7⟩
      exact ⟨_, rfl, hg.trans (b7.mono hg.size), b7, cs7, rfl⟩
    · refine fun ρ X9 fl hg hn hl hp ho hc hf hr => .inr (.inl ⟨1, 15, true, fun _ => rfl, rfl, hr 1 15 rfl rfl, ?_⟩)
      obtain ⟨cs9, e9⟩ : ∃ cs9, ρ (.tmp 21) = .agg cs9 := hr 7 21 rfl rfl
      refine Runs.goes 13 #[.pointer none, .int .i64 a, .agg cs9] (op_call3 hf call13 (show ρ (.tmp 16) = .pointer none from hr 2 16 rfl rfl) (show ρ (.tmp 18) = .int .i64 a from hr 4 18 rfl rfl) e9) ((do_nil (w := X9) cs9 a).mono ?_)
      rintro e7 w7 ⟨rfl, b7⟩
      exact ⟨_, rfl, hg.trans (b7.mono hg.size), b7, rfl⟩
    · exact fun ρ X9 fl hg hn hl hp ho hc hf hr => .inr (.inl ⟨1, 15, true, fun _ => rfl, rfl, hr 1 15 rfl rfl, Runs.val _ (op_b52' (hc _)) ⟨hg, Below.refl _ _, rfl⟩⟩)
    · exact fun ρ X9 fl hg hn hl hp ho hc hf hr => .inr (.inl ⟨1, 15, true, fun _ => rfl, rfl, hr 1 15 rfl rfl, Runs.val _ (op_eq52 (show ρ (.tmp 22) = .agg #[.int .i64 2, .int .i64 0, .int .i64 0, .int .i64 0, .int .i64 0, .int .i64 0, .int .i64 0, .int .i64 0, .bool false] from hr 8 22 rfl rfl) (show ρ (.tmp 23) = .agg #[.int .i64 2, .int .i64 0, .int .i64 0, .int .i64 0, .int .i64 0, .int .i64 0, .int .i64 0, .int .i64 0, .bool false] from hr 9 23 rfl rfl)) ⟨hg, Below.refl _ _, rfl⟩⟩)
    · exact fun ρ X9 fl hg hn hl hp ho hc hf hr => .inl ⟨rfl, Runs.val _ (op_pick (show ρ (.tmp 15) = .bool true from hr 1 15 rfl rfl) (show ρ (.tmp 24) = .bool true from hr 10 24 rfl rfl)) ⟨hg, Below.refl _ _, rfl⟩⟩
    · exact fun ρ X9 fl hg hn hl hp ho hc hf hr => .inl ⟨rfl, Runs.val _ (op_move (show ρ (.tmp 25) = .bool true from hr 11 25 rfl rfl)) ⟨hg, Below.refl _ _, rfl⟩⟩
    · exact fun ρ X9 fl hg hn hl hp ho hc hf hr => .inr (.inl ⟨12, 26, true, fun _ => rfl, rfl, hr 12 26 rfl rfl, Runs.val _ (op_move (show ρ (.tmp 3) = .pointer none from ho 3 rfl)) ⟨hg, Below.refl _ _, rfl⟩⟩)
    · exact fun ρ X9 fl hg hn hl hp ho hc hf hr => .inr (.inl ⟨12, 26, true, fun _ => rfl, rfl, hr 12 26 rfl rfl, Runs.val _ (op_b57' (hc _)) ⟨hg, Below.refl _ _, rfl⟩⟩)
    · refine fun ρ X9 fl hg hn hl hp ho hc hf hr => .inr (.inl ⟨12, 26, true, fun _ => rfl, rfl, hr 12 26 rfl rfl, ?_⟩)
      refine Runs.goes 24 #[.pointer none, .agg #[.string ⟨#[]⟩, .string ⟨#[120]⟩]] (op_call2 hf call24 (show ρ (.tmp 27) = .pointer none from hr 13 27 rfl rfl) (show ρ (.tmp 28) = .agg #[.string ⟨#[]⟩, .string ⟨#[120]⟩] from hr 14 28 rfl rfl)) ((spanS_nil X9 ⟨⟨#[]⟩, ⟨#[120]⟩⟩).mono ?_)
      rintro e7 w7 ⟨rfl, b7⟩
      exact ⟨_, rfl, hg.trans (b7.mono hg.size), b7, rfl⟩
    · exact fun ρ X9 fl hg hn hl hp ho hc hf hr => .inr (.inl ⟨12, 26, true, fun _ => rfl, rfl, hr 12 26 rfl rfl, Runs.val _ (op_lenA Try.underlying77 (show ρ (.tmp 29) = .slice none 0 0 from hr 15 29 rfl rfl)) ⟨hg, Below.refl _ _, rfl⟩⟩)
    · exact fun ρ X9 fl hg hn hl hp ho hc hf hr => .inr (.inl ⟨12, 26, true, fun _ => rfl, rfl, hr 12 26 rfl rfl, Runs.val _ (op_eq3 (show ρ (.tmp 30) = .int .i64 0 from hr 16 30 rfl rfl) (hc _)) ⟨hg, Below.refl _ _, rfl⟩⟩)
    · exact fun ρ X9 fl hg hn hl hp ho hc hf hr => .inl ⟨rfl, Runs.val _ (op_pick (show ρ (.tmp 26) = .bool true from hr 12 26 rfl rfl) (show ρ (.tmp 31) = .bool true from hr 17 31 rfl rfl)) ⟨hg, Below.refl _ _, rfl⟩⟩
    · exact fun ρ X9 fl hg hn hl hp ho hc hf hr => .inl ⟨rfl, Runs.val _ (op_move (show ρ (.tmp 32) = .bool true from hr 18 32 rfl rfl)) ⟨hg, Below.refl _ _, rfl⟩⟩
    · exact fun ρ X9 fl hg hn hl hp ho hc hf hr => .inr (.inl ⟨19, 33, true, fun _ => rfl, rfl, hr 19 33 rfl rfl, Runs.val _ (op_move (show ρ (.tmp 3) = .pointer none from ho 3 rfl)) ⟨hg, Below.refl _ _, rfl⟩⟩)
    · refine fun ρ X9 fl hg hn hl hp ho hc hf hr => .inr (.inl ⟨19, 33, true, fun _ => rfl, rfl, hr 19 33 rfl rfl, ?_⟩)
      refine Runs.goes 21 #[.pointer none] (op_call1 hf call21 (show ρ (.tmp 34) = .pointer none from hr 20 34 rfl rfl)) ((locksN X9).mono ?_)
      rintro e7 w7 ⟨rfl, b7⟩
      exact ⟨_, rfl, hg.trans (b7.mono hg.size), b7, rfl⟩
    · exact fun ρ X9 fl hg hn hl hp ho hc hf hr => .inr (.inl ⟨19, 33, true, fun _ => rfl, rfl, hr 19 33 rfl rfl, Runs.val _ (op_lenA Try.underlying31 (show ρ (.tmp 35) = .slice none 0 0 from hr 21 35 rfl rfl)) ⟨hg, Below.refl _ _, rfl⟩⟩)
    · exact fun ρ X9 fl hg hn hl hp ho hc hf hr => .inr (.inl ⟨19, 33, true, fun _ => rfl, rfl, hr 19 33 rfl rfl, Runs.val _ (op_eq3 (show ρ (.tmp 36) = .int .i64 0 from hr 22 36 rfl rfl) (hc _)) ⟨hg, Below.refl _ _, rfl⟩⟩)
    · exact fun ρ X9 fl hg hn hl hp ho hc hf hr => .inl ⟨rfl, Runs.val _ (op_pick (show ρ (.tmp 33) = .bool true from hr 19 33 rfl rfl) (show ρ (.tmp 37) = .bool true from hr 23 37 rfl rfl)) ⟨hg, Below.refl _ _, rfl⟩⟩
    · exact fun ρ X9 fl hg hn hl hp ho hc hf hr => .inl ⟨rfl, Runs.val _ (op_move (show ρ (.tmp 38) = .bool true from hr 24 38 rfl rfl)) ⟨hg, Below.refl _ _, rfl⟩⟩
    · exact fun ρ X9 fl hg hn hl hp ho hc hf hr => .inr (.inl ⟨25, 39, true, fun _ => rfl, rfl, hr 25 39 rfl rfl, Runs.val _ (op_move (show ρ (.tmp 4) = .int .i64 0 from ho 4 rfl)) ⟨hg, Below.refl _ _, rfl⟩⟩)
    · exact fun ρ X9 fl hg hn hl hp ho hc hf hr => .inr (.inl ⟨25, 39, true, fun _ => rfl, rfl, hr 25 39 rfl rfl, Runs.val _ (op_eq3 (show ρ (.tmp 40) = .int .i64 0 from hr 26 40 rfl rfl) (hc _)) ⟨hg, Below.refl _ _, rfl⟩⟩)
    · exact fun ρ X9 fl hg hn hl hp ho hc hf hr => .inl ⟨rfl, Runs.val _ (op_pick (show ρ (.tmp 39) = .bool true from hr 25 39 rfl rfl) (show ρ (.tmp 41) = .bool true from hr 27 41 rfl rfl)) ⟨hg, Below.refl _ _, rfl⟩⟩
    · exact fun ρ X9 fl hg hn hl hp ho hc hf hr => .inl ⟨rfl, Runs.val _ (op_move (show ρ (.tmp 42) = .bool true from hr 28 42 rfl rfl)) ⟨hg, Below.refl _ _, rfl⟩⟩
    · exact fun ρ X9 fl hg hn hl hp ho hc hf hr => .inr (.inl ⟨29, 43, true, fun _ => rfl, rfl, hr 29 43 rfl rfl, Runs.val _ (op_move (show ρ (.tmp 5) = .bool false from ho 5 rfl)) ⟨hg, Below.refl _ _, rfl⟩⟩)
    · exact fun ρ X9 fl hg hn hl hp ho hc hf hr => .inr (.inl ⟨29, 43, true, fun _ => rfl, rfl, hr 29 43 rfl rfl, Runs.val _ (op_not (show ρ (.tmp 44) = .bool false from hr 30 44 rfl rfl) ) ⟨hg, Below.refl _ _, rfl⟩⟩)
    · exact fun ρ X9 fl hg hn hl hp ho hc hf hr => .inl ⟨rfl, Runs.val _ (op_pick (show ρ (.tmp 43) = .bool true from hr 29 43 rfl rfl) (show ρ (.tmp 45) = .bool true from hr 31 45 rfl rfl)) ⟨hg, Below.refl _ _, rfl⟩⟩
    · exact fun ρ X9 fl hg hn hl hp ho hc hf hr => .inl ⟨rfl, Runs.val _ (op_move (show ρ (.tmp 46) = .bool true from hr 32 46 rfl rfl)) ⟨hg, Below.refl _ _, rfl⟩⟩
    · exact fun ρ X9 fl hg hn hl hp ho hc hf hr => .inr (.inl ⟨33, 47, true, fun _ => rfl, rfl, hr 33 47 rfl rfl, Runs.val _ (op_move (show ρ (.tmp 3) = .pointer none from ho 3 rfl)) ⟨hg, Below.refl _ _, rfl⟩⟩)
    · refine fun ρ X9 fl hg hn hl hp ho hc hf hr => .inr (.inl ⟨33, 47, true, fun _ => rfl, rfl, hr 33 47 rfl rfl, ?_⟩)
      refine Runs.goes 15 #[.pointer none] (op_call1 hf call15 (show ρ (.tmp 48) = .pointer none from hr 34 48 rfl rfl)) ((saveN X9).mono ?_)
      rintro e7 w7 ⟨rfl, b7⟩
      exact ⟨_, rfl, hg.trans (b7.mono hg.size), b7, rfl⟩
    · refine fun ρ X9 fl hg hn hl hp ho hc hf hr => .inr (.inl ⟨33, 47, true, fun _ => rfl, rfl, hr 33 47 rfl rfl, ?_⟩)
      refine Runs.goes 16 #[.agg #[.slice none 0 0, .slice none 0 0, .slice none 0 0, .slice none 0 0, .int .i64 0]] (op_call1 hf call16 (show ρ (.tmp 49) = .agg #[.slice none 0 0, .slice none 0 0, .slice none 0 0, .slice none 0 0, .int .i64 0] from hr 35 49 rfl rfl)) ((range0 X9).mono ?_)
      rintro e7 w7 ⟨rfl, b7⟩
      exact ⟨_, rfl, hg.trans (b7.mono hg.size), b7, rfl⟩
    · exact fun ρ X9 fl hg hn hl hp ho hc hf hr => .inr (.inl ⟨33, 47, true, fun _ => rfl, rfl, hr 33 47 rfl rfl, Runs.val _ (op_b63') ⟨hg, Below.refl _ _, rfl⟩⟩)
    · refine fun ρ X9 fl hg hn hl hp ho hc hf hr => .inr (.inl ⟨33, 47, true, fun _ => rfl, rfl, hr 33 47 rfl rfl, ?_⟩)
      refine Runs.goes 16 #[.agg #[.slice none 0 0, .slice none 0 0, .slice none 0 0, .slice none 0 0, .int .i64 0]] (op_call1 hf call16 (show ρ (.tmp 51) = .agg #[.slice none 0 0, .slice none 0 0, .slice none 0 0, .slice none 0 0, .int .i64 0] from hr 37 51 rfl rfl)) ((range0 X9).mono ?_)
      rintro e7 w7 ⟨rfl, b7⟩
      exact ⟨_, rfl, hg.trans (b7.mono hg.size), b7, rfl⟩
    · exact fun ρ X9 fl hg hn hl hp ho hc hf hr => .inr (.inl ⟨33, 47, true, fun _ => rfl, rfl, hr 33 47 rfl rfl, Runs.val _ (op_eq9 (show ρ (.tmp 50) = .string ⟨#[0, 0, 0, 0, 0]⟩ from hr 36 50 rfl rfl) (show ρ (.tmp 52) = .string ⟨#[0, 0, 0, 0, 0]⟩ from hr 38 52 rfl rfl)) ⟨hg, Below.refl _ _, rfl⟩⟩)
    · exact fun ρ X9 fl hg hn hl hp ho hc hf hr => .inl ⟨rfl, Runs.val _ (op_pick (show ρ (.tmp 47) = .bool true from hr 33 47 rfl rfl) (show ρ (.tmp 53) = .bool true from hr 39 53 rfl rfl)) ⟨hg, Below.refl _ _, rfl⟩⟩
    · exact fun ρ X9 fl hg hn hl hp ho hc hf hr => .inl ⟨rfl, Runs.val _ (op_assign (show ρ (.tmp 54) = .bool true from hr 40 54 rfl rfl)) ⟨hg, Below.refl _ _, rfl⟩⟩
  case en =>
    intro a9 X9 fl hfl hG hs hd ho hr
    obtain ⟨x, hx, hxt⟩ := act_put hs hd ho
    have x2 : x 2 = .bool true := (hxt 2).symm.trans (hr 41 2 rfl)
    change a9 = putAll _ x [14, 15, 16, 17, 18, 19, 20, 21, 22, 23, 24, 25, 26, 27, 28, 29, 30, 31, 32, 33, 34, 35, 36, 37, 38, 39, 40, 41, 42, 43, 44, 45, 46, 47, 48, 49, 50, 51, 52, 53, 54, 2] at hx
    simp only [putAll, Act.put, List.setIfInBounds_toArray, List.set_cons_zero, List.set_cons_succ, x2] at hx
    have b8 := HW1.out.trans (hG.mono HW1.out.size)
    have HBX := Lib.hid (HB.out.trans (b8.mono HB.out.size))
    clear hG hs hd ho hr hxt x2 b8
    subst hx
    go_wp2
    go_ret
    exact ⟨rfl, HBX.out⟩
end
end Go.Proofs.Ytcoaahlakkghhaa
