/- What a deal is told. -/
import Derived.Test.YtfokgalgdlajlaaCl
namespace Go.Proofs.Ytfokgalgdlajlaa
open Go.RowKit
/-- What a shard answers. -/
structure Rz where
  er : Int
  ts : Int
  a : Int
  b : Int
  c : Int
  d : Int
  e : Int
  f : Int
  nw : Bool
abbrev rzA (r : Rz) : Array Value := #[.int .i64 r.er, .int .i64 r.ts, .int .i64 r.a, .int .i64 r.b, .int .i64 r.c, .int .i64 r.d, .int .i64 r.e, .int .i64 r.f, .bool r.nw]
def Dl.less (d : Dl) (sh : Int) : Dl := { d with wait := keepL (fun g => decide (g.sh = sh)) d.wait }
def Dl.after (d : Dl) (sh p : Int) : Dl := if (d.less sh).wait.length = 0 then (d.less sh).enter p else d.less sh
def Dl.prepared (d : Dl) (sh : Int) (r : Rz) : Dl := if r.er = 0 then ({ d with high := if d.high < r.ts then r.ts else d.high } : Dl).after sh 2 else d.fin 0 r.er
def Dl.committed (d : Dl) (r : Rz) : Dl := if r.er = 0 then d.fin r.ts 0 else d.fin 0 r.er
def Dl.aborted (d : Dl) (r : Rz) : Dl := if r.er = 0 then d.fin 0 132 else if r.er = 132 then d.fin r.ts 0 else d
def Dl.takes (d : Dl) (sh kd : Int) (r : Rz) : Dl := if kd = 1 then d.prepared sh r else if kd = 2 then d.committed r else if kd = 3 then d.aborted r else if kd = 4 then d.after sh 4 else d
def Dl.told (d : Dl) (sh kd : Int) (r : Rz) : Dl := if r.ts < 0 then d else if 1125899906842624 < r.ts then d else if d.asks.any (fun a => decide (a.sh = sh) && decide (a.kd = kd)) then d.takes sh kd r else d
/-- What a call that changes a deal leaves. -/
def DlAns (w : World) (A : Nat) (d : Dl) (pa : Option Addr) (pc : Nat) (e : Ending) (w' : World) : Prop := e = .returned (.tuple #[]) ∧ (∃ wa wc, Dx w' A d pa pc wa wc) ∧ Fr w w' (fun k => k = A)
theorem DlAns.up {w W : World} {A : Nat} {d : Dl} {pa : Option Addr} {pc : Nat} {e : Ending} {w' : World} (h : DlAns W A d pa pc e w') (hb : Fr w W (fun k => k = A)) : DlAns w A d pa pc e w' := ⟨h.1, h.2.1, hb.trans h.2.2⟩
theorem own_reads {w : World} {A B : Nat} {L : List Gp} {v : Value} (h : w.ownsRow B 84 3 v L.length (L.flatMap gpL)) (hA : A < B) : Reads (fun k => k = A) w fun V => Lr (fun _ x cs => cs = gpL x) 3 V L v := fun V h1 h2 => by
  refine Lr.own (B := B) gpL_len (T := 84) ⟨h.1, ?_⟩
  rcases h.2 with q | ⟨g, cap, cur, e, h0, hg, q⟩
  · exact .inl q
  · exact .inr ⟨g, cap, cur, e, h0, (h2 g (blk_lt hg) (fun q => by have q' : g = A := q; omega)).trans hg, q⟩
section
variable {w : World} {A : Nat} {d : Dl} {pa wa : Option Addr} {pc wc : Nat}
set_option maxHeartbeats 4000000 in
set_option maxRecDepth 100000 in
theorem answered_any (h : Dx w A d pa pc wa wc) (hz : d.wait.length ≤ 900000) (sh : Int) : Calls Try.prog 56 #[.pointer (some ⟨A, 0, none⟩), .int .i64 sh] w fun e w' => e = .returned (.bool (decide ((d.less sh).wait.length = 0))) ∧ (∃ wa wc, Dx w' A (d.less sh) pa pc wa wc) ∧ Fr w w' (fun k => k = A) := by
  obtain ⟨W, hW⟩ : ∃ W, W = w.alloc (.cells #[.int .i64 sh] 3) := ⟨_, rfl⟩
  obtain ⟨Y, hY⟩ : ∃ Y, w.heap.size = Y := ⟨_, rfl⟩
  have hb : Below w.heap.size w W := by rw [hW]; exact bnew w _
  have jY : W.heap[Y]? = some (.cells #[.int .i64 sh] 3 (0, 0)) := by rw [hW, ← hY]; exact heap_alloc_new w _
  have hD := h.on hb
  have hc := cloneP_any hD.ws.now hz
  have l10 : W.cell? ⟨A, 10, none⟩ = some (.slice wa d.wait.length wc) := hD.cell 10
  have HD := Lib.hid hD
  have HC := Lib.hid hc
  have HB := Lib.hid hb
  have HJ := Lib.hid jY
  have HW := Lib.hid hW
  have HY := Lib.hid hY
  have HA : Hid (A < w.heap.size) := Lib.hid h.lt
  clear h hz hW hY hb jY hD hc
  go_enter Try.func56, Try.ntmps56
  go_upto_region 1 with fail
  rw [← HW.out, HY.out]
  go_wp2_with fail
  refine HC.out.mono ?_
  rintro e v1 ⟨ca, cc, rfl, o1, b1⟩
  have hdel := delL_all (f := 77) (cs := #[.pointer (some ⟨Y, 0, none⟩)]) (p := fun g => decide (g.sh = sh)) (own_mono o1 (Nat.zero_le _)) (fun X a => by go_simp) (fun X hX l _ => ans1_any l (by
    have hYv := blk_lt HJ.out
    refine cell_like (hX.block Y (Nat.lt_of_lt_of_le hYv b1.size) (fun q => ?_)) 0 |>.trans (cell_on b1 (cell_blk HJ.out 0))
    have := (o1.lt Y q).1
    omega))
  have HDL := Lib.hid hdel
  have HO := Lib.hid o1
  have HB1 := Lib.hid b1
  clear o1 b1 hdel l10
  go_wp2_with fail
  refine HDL.out.mono ?_
  rintro e v2 ⟨na, nc, rfl, o2, eo, f2⟩
  have b2 : Below W.heap.size W v2 := HB1.out.trans (f2.toBelow (fun k hk q => by
    have := (HO.out.lt k q).1
    omega) HB1.out.size)
  have hD2 := HD.out.on b2
  have hmx : ((keepL (fun g => decide (g.sh = sh)) d.wait).length : Int) ≤ 9223372036854775807 := by
    obtain ⟨_, _, q, q1, q2⟩ := Lr.shape hD2.ws.now
    have q3 : (keepL (fun g => decide (g.sh = sh)) d.wait).length ≤ d.wait.length := List.length_filter_le ..
    cases q
    unfold maxLen at q1
    omega
  have hown : v2.ownsRow W.heap.size 84 3 (.slice na (keepL (fun g => decide (g.sh = sh)) d.wait).length nc) (keepL (fun g => decide (g.sh = sh)) d.wait).length ((keepL (fun g => decide (g.sh = sh)) d.wait).flatMap gpL) := by
    refine ⟨o2.1, ?_⟩
    rcases o2.2 with q | ⟨g, cap, cur, q, _, hg, q3⟩
    · exact .inl q
    · refine .inr ⟨g, cap, cur, q, ?_, hg, q3⟩
      have q4 := eo
      rw [q] at q4
      exact (HO.out.lt g q4.symm).1
  obtain ⟨v3, hv3⟩ : ∃ v3, v3 = v2.setCell ⟨A, 10, none⟩ (.slice na (d.less sh).wait.length nc) := ⟨_, rfl⟩
  have c10 : v2.cell? ⟨A, 10, none⟩ = some (.slice wa d.wait.length wc) := hD2.cell 10
  have z10 : v2.frozen? ⟨A, 10, none⟩ = false := frozen_blk hD2.blk _
  have hst : (Instr.storeAt 79 (.pointer (some ⟨A, 10, none⟩)) (.slice na (keepL (fun g => decide (g.sh = sh)) d.wait).length nc)).run Try.prog v2 = .ok () v3 := by rw [hv3]; go_simp; rfl
  have k3 : v3.heap[A]? = some (.cells (dlA (d.less sh) pa pc na nc) 82 (0, 0)) := by rw [hv3]; exact set_blk hD2.blk _
  have f3 : Fr v2 v3 (fun k => k = A) := by rw [hv3]; exact (Fr.refl v2 (fun k => k = A)).set (a := ⟨A, 10, none⟩) (.inl rfl) _
  have hD3 : Dx v3 A (d.less sh) pa pc na nc := hD2.put k3 f3 rfl (own_reads hown (Nat.lt_of_lt_of_le HA.out HB.out.size))
  have l3 : v3.cell? ⟨A, 10, none⟩ = some (.slice na (keepL (fun g => decide (g.sh = sh)) d.wait).length nc) := hD3.cell 10
  have HS := Lib.hid hst
  have HE := Lib.hid (And.intro hD3 ((Fr.ofBelow _ (bgo HB.out b2)).trans f3))
  have hN : (d.less sh).wait.length = (keepL (fun g => decide (g.sh = sh)) d.wait).length := rfl
  have HN := Lib.hid hN
  clear hN hv3 c10 z10 hst k3 f3 hD3 hown o2 eo f2 b2 hD2
  generalize (keepL (fun g => decide (g.sh = sh)) d.wait).length = n at HN HS l3 hmx
  have q0 : ((n : Int) = 0) ↔ n = 0 := by omega
  by_cases hn : n = 0
  · have hn' := q0.2 hn
    subst hn
    go_wp2_with (refine wpl_store _ _ rfl (by first | rfl | simp [Act.eval]) (by first | rfl | simp [Act.eval]) HS.out ?_)
    refine bodyPost_ret (v := .bool true) (by simp [results, Try.results56, go_sem]) rfl ?_
    exact ⟨by rw [HN.out]; rfl, ⟨_, _, HE.out.1⟩, HE.out.2⟩
  · have hn' : ¬ (n : Int) = 0 := fun q => hn (q0.1 q)
    go_wp2_with (refine wpl_store _ _ rfl (by first | rfl | simp [Act.eval]) (by first | rfl | simp [Act.eval]) HS.out ?_)
    refine bodyPost_ret (v := .bool false) (by simp [results, Try.results56, go_sem, hn]) rfl ?_
    exact ⟨by rw [HN.out, decide_eq_false hn], ⟨_, _, HE.out.1⟩, HE.out.2⟩
end
end Go.Proofs.Ytfokgalgdlajlaa
