/- The walk of the statements' done: Append, Sync and Swap. -/
import Derived.Test.YtphpadgmhanabaaRh
namespace Go.Proofs.Ytphpadgmhanabaa
open Go.RowKit Go.Maps

/-- What done answers and leaves. -/
def Done (w0 : World) (N M : Nat) (e : Ending) (w' : World) : Prop := ∃ A B, e = .returned (.tuple #[.pointer (some ⟨A, 0, none⟩), .pointer (some ⟨B, 0, none⟩), .bool true]) ∧ Two w0 w' A B (N + 1) (M + 65536)
theorem Two.drew {w0 w : World} {A B N M : Nat} (h : Two w0 w A B N M) : Two w0 w.drew A B N M := h.on ⟨rfl, rfl, rfl, Nat.le_refl _, fun _ _ => rfl⟩
section
variable {w0 w : World} {A B N M : Nat} {kv : Value} {n d : ByteArray} {m : Int}
abbrev opO (k : Int) (n d : ByteArray) (m : Int) (kv : Value) : Obj := .cells #[.int .i64 k, .string n, .string d, .int .i64 m, kv] 33 (0, 0)
abbrev opV (k : Int) (n d : ByteArray) (m : Int) (kv : Value) : Value := .agg #[.int .i64 k, .string n, .string d, .int .i64 m, kv]
theorem box_out {S T : Nat → Prop} {F : List Fl} {left rl : Int} {down : Bool} (h : Tw w0 w A B S T N M F left rl down) (o : Obj) : Tw w0 (w.alloc o).drew A B S T N M F left rl down ∧ ¬ S w.heap.size ∧ ¬ T w.heap.size ∧ w.heap.size < (w.alloc o).drew.heap.size := by
  refine ⟨(h.on ((Below.refl _ w).alloc (Nat.le_refl _) o)).on ⟨rfl, rfl, rfl, Nat.le_refl _, fun _ _ => rfl⟩, fun q => ?_, fun q => ?_, ?_⟩
  · have := h.dr.ltS _ q
    omega
  · have := h.rd.ltT _ q
    omega
  · show w.heap.size < (w.alloc o).heap.size
    simp

set_option maxHeartbeats 4000000 in
set_option maxRecDepth 100000 in
theorem done_append (h : Two w0 w A B N M) {kad : Option Addr} {kl kc : Nat} (hn : n.size ≤ maxLen) (hd : d.size ≤ 65536) (hM : M ≤ 100000000) (hN : N < 900000) :
    Calls Try.prog 11 #[.pointer (some ⟨A, 0, none⟩), .pointer (some ⟨B, 0, none⟩), opV 1 n d m (.slice kad kl kc)] w fun e w' => Done w0 N M e w' := by
  obtain ⟨S, T, F, left, rl, down, ht⟩ := h
  obtain ⟨hx, hS, hT, hlt⟩ := box_out ht (opO 1 n d m (.slice kad kl kc))
  obtain ⟨c, hb⟩ := both_append hx hS hT hlt hn hd hM hN
  have hbk : (w.alloc (opO 1 n d m (.slice kad kl kc))).drew.heap[w.heap.size]? = some (opO 1 n d m (.slice kad kl kc)) := heap_alloc_new w _
  rw [hbk] at hb
  have hcc : (c == c) = true := by simp
  clear hx ht
  go_enter Try.func11, Try.ntmps11
  go_wp2
  go_region_held3 (fun X => X.cell? ⟨w.heap.size, 1, none⟩ = some (.string n) ∧ X.cell? ⟨w.heap.size, 2, none⟩ = some (.string d)) (first | go_keep | exact ⟨by rw [cell_blk hb1]; rfl, by rw [cell_blk hb1]; rfl⟩ | exact ⟨by rw [cell_blk hb2]; rfl, by rw [cell_blk hb2]; rfl⟩) (first
    | ((go_at_call 13; refine hb.mono ?_; rintro e w1 ⟨rfl, hb1, hcall⟩))
    | ((go_at_call 21; refine hcall.mono ?_; rintro e w2 ⟨rfl, hb2, h2⟩)))
  all_goals
    go_wp2
    go_ret3
    exact ⟨A, B, rfl, h2⟩

set_option maxHeartbeats 4000000 in
set_option maxRecDepth 100000 in
theorem done_sync (h : Two w0 w A B N M) {kad : Option Addr} {kl kc : Nat} (hn : n.size ≤ maxLen) (hN : N < 900000) :
    Calls Try.prog 11 #[.pointer (some ⟨A, 0, none⟩), .pointer (some ⟨B, 0, none⟩), opV 2 n d m (.slice kad kl kc)] w fun e w' => Done w0 N M e w' := by
  obtain ⟨S, T, F, left, rl, down, ht⟩ := h
  obtain ⟨hx, hS, hT, hlt⟩ := box_out ht (opO 2 n d m (.slice kad kl kc))
  obtain ⟨c, hb⟩ := both_sync hx hS hT hlt hn hN
  have hbk : (w.alloc (opO 2 n d m (.slice kad kl kc))).drew.heap[w.heap.size]? = some (opO 2 n d m (.slice kad kl kc)) := heap_alloc_new w _
  rw [hbk] at hb
  have hcc : (c == c) = true := by simp
  clear hx ht
  go_enter Try.func11, Try.ntmps11
  go_wp2
  go_region_held3 (fun X => X.cell? ⟨w.heap.size, 1, none⟩ = some (.string n)) (first | go_keep | (rw [cell_blk hb1]; rfl) | (rw [cell_blk hb2]; rfl)) (first
    | ((go_at_call 14; refine hb.mono ?_; rintro e w1 ⟨rfl, hb1, hcall⟩))
    | ((go_at_call 22; refine hcall.mono ?_; rintro e w2 ⟨rfl, hb2, h2⟩)))
  all_goals
    go_wp2
    go_ret3
    exact ⟨A, B, rfl, h2⟩

set_option maxHeartbeats 4000000 in
set_option maxRecDepth 100000 in
theorem done_swap (h : Two w0 w A B N M) {kad : Option Addr} {kl kc : Nat} (hn : n.size ≤ maxLen) (hd : d.size ≤ 65536) (hN : N < 900000) :
    Calls Try.prog 11 #[.pointer (some ⟨A, 0, none⟩), .pointer (some ⟨B, 0, none⟩), opV 3 n d m (.slice kad kl kc)] w fun e w' => Done w0 N M e w' := by
  obtain ⟨S, T, F, left, rl, down, ht⟩ := h
  obtain ⟨hx, hS, hT, hlt⟩ := box_out ht (opO 3 n d m (.slice kad kl kc))
  obtain ⟨c, hb⟩ := both_swap hx hS hT hlt hn hd hN
  have hbk : (w.alloc (opO 3 n d m (.slice kad kl kc))).drew.heap[w.heap.size]? = some (opO 3 n d m (.slice kad kl kc)) := heap_alloc_new w _
  rw [hbk] at hb
  have hcc : (c == c) = true := by simp
  clear hx ht
  go_enter Try.func11, Try.ntmps11
  go_wp2
  go_region_held3 (fun X => X.cell? ⟨w.heap.size, 1, none⟩ = some (.string n) ∧ X.cell? ⟨w.heap.size, 2, none⟩ = some (.string d)) (first | go_keep | exact ⟨by rw [cell_blk hb1]; rfl, by rw [cell_blk hb1]; rfl⟩ | exact ⟨by rw [cell_blk hb2]; rfl, by rw [cell_blk hb2]; rfl⟩) (first
    | ((go_at_call 18; refine hb.mono ?_; rintro e w1 ⟨rfl, hb1, hcall⟩))
    | ((go_at_call 23; refine hcall.mono ?_; rintro e w2 ⟨rfl, hb2, h2⟩)))
  all_goals
    go_wp2
    go_ret3
    exact ⟨A, B, rfl, h2⟩
end
end Go.Proofs.Ytphpadgmhanabaa
