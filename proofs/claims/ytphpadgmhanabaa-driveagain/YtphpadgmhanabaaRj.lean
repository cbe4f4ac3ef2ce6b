/- The walk of the statements' done: Arm, Crash and Read. -/
import Derived.Test.YtphpadgmhanabaaRi
import Derived.Test.YtphpadgmhanabaaLd
namespace Go.Proofs.Ytphpadgmhanabaa
open Go.RowKit Go.Maps

section
variable {w0 w : World} {A B N M : Nat} {S T : Nat → Prop} {F : List Fl} {left rl : Int} {down : Bool} {n d : ByteArray} {m : Int} {kv : Value} {keep : List Int}
theorem both_read (h : Tw w0 w A B S T N M F left rl down) (hn : n.size ≤ maxLen) : ∃ (s : ByteArray) (c : Int), Calls Try.prog 17 #[.pointer (some ⟨A, 0, none⟩), .string n] w (fun e w' => e = .returned (.tuple #[.string s, .int .i64 c]) ∧ w' = w) ∧ Calls Try.prog 26 #[.pointer (some ⟨B, 0, none⟩), .string n] w (fun e w' => e = .returned (.tuple #[.string s, .int .i64 c]) ∧ Below w.heap.size w w') := by
  obtain ⟨mv, loc, hd⟩ := h.dr
  obtain ⟨v, hr⟩ := h.rd
  cases down with
  | true => exact ⟨_, _, read_down hd n, rread_off hr n⟩
  | false => exact ⟨_, _, read_up hd hn, rread_on hr hn⟩
theorem both_arm (h : Tw w0 w A B S T N M F left rl down) {bx : Nat} (hS : ¬ S bx) (hT : ¬ T bx) (hbx : bx < w.heap.size) (hm : -9223372036854775808 ≤ m ∧ m ≤ 9223372036854775807) (hN : N < 900000) :
    Calls Try.prog 15 #[.pointer (some ⟨A, 0, none⟩), .int .i64 m] w fun e w1 => e = .returned (.tuple #[]) ∧ w1.heap[bx]? = w.heap[bx]? ∧ Calls Try.prog 24 #[.pointer (some ⟨B, 0, none⟩), .int .i64 m] w1 fun e w2 => e = .returned (.tuple #[]) ∧ w2.heap[bx]? = w.heap[bx]? ∧ Two w0 w2 A B (N + 1) (M + 65536) := by
  have hr0 := h.rd
  obtain ⟨mv, loc, hd⟩ := h.dr
  refine (arm_any hd hm).mono ?_
  rintro e w1 ⟨rfl, hd1, hf1, _⟩
  have h1 := hf1.block bx hbx hS
  obtain ⟨v, hr1⟩ := hr0.stays hf1 (fun b hb q => h.dis b q hb)
  refine ⟨rfl, h1, (rarm_any hr1 hm).mono ?_⟩
  rintro e w2 ⟨rfl, hr2, hf2, _⟩
  refine ⟨rfl, (hf2.block bx (Nat.lt_of_lt_of_le hbx hf1.size) hT).trans h1, S, T, F, _, _, down, ⟨Dr.more ⟨_, _, hd1.stays hf2 (fun b hb q => h.dis b hb q)⟩ (Nat.le_succ N) (by omega), ⟨v, hr2⟩, h.dis, h.fs, h.ft, fr_below h.ft (fr_below h.fs h.old hf1) hf2, fun q => ?_, more_big h.big⟩⟩
  subst q
  rfl
theorem crash_big (hs : ∀ f ∈ F, f.safe ≤ f.data.size) (hb : ∀ f ∈ F, f.data.size ≤ M) (keep : List Int) : ∀ f ∈ crashF F keep, f.data.size ≤ M + 65536 := by
  intro f hf
  obtain ⟨i, hi, e⟩ := List.getElem_of_mem hf
  have hi' : i < F.length := by rwa [crash_len] at hi
  rw [crash_at F keep i hi'] at e
  rw [← e]
  have h1 := kept_le (hs F[i] (List.getElem_mem hi')) (keep.getD i 0)
  have h2 := hb F[i] (List.getElem_mem hi')
  show (F[i].data.extract 0 _).size ≤ _
  rw [ext_sz _ _ h1]
  omega
theorem both_crash (h : Tw w0 w A B S T N M F left rl down) {bx : Nat} (hS : ¬ S bx) (hT : ¬ T bx) (hbx : bx < w.heap.size) {cv : Value} (hc : Ints w cv keep) (hk : Ints w0 kv keep) (hN : N < 900000) :
    Calls Try.prog 16 #[.pointer (some ⟨A, 0, none⟩), cv] w fun e w1 => ∃ A', e = .returned (.pointer (some ⟨A', 0, none⟩)) ∧ w1.heap[bx]? = w.heap[bx]? ∧ Calls Try.prog 25 #[.pointer (some ⟨B, 0, none⟩), kv] w1 fun e w2 => ∃ B', e = .returned (.pointer (some ⟨B', 0, none⟩)) ∧ w2.heap[bx]? = w.heap[bx]? ∧ Two w0 w2 A' B' (N + 1) (M + 65536) ∧
      Calls Try.prog 20 #[.pointer (some ⟨A, 0, none⟩)] w2 fun e w' => e = .returned (.bool true) ∧ w' = w2 := by
  have hr0 := h.rd
  have hlen := h.dr.lenF
  obtain ⟨mv, loc, hd⟩ := h.dr
  have hTlt := hr0.ltT
  refine (crash_any hd hc).mono ?_
  rintro e w1 ⟨rfl, ⟨T1, hd1, hT1⟩, hold, hf1⟩
  have hfS : Fr w w1 S := hf1.mono (fun k q => by rw [q]; exact hd.covA)
  have h1 := hfS.block bx hbx hS
  obtain ⟨v, hr1⟩ := hr0.stays hfS (fun b hb q => h.dis b q hb)
  have hb1 := fr_below h.fs h.old hfS
  refine ⟨_, rfl, h1, (rcrash_any hr1 (hk.on hb1)).mono ?_⟩
  rintro e w2 ⟨rfl, ⟨T2, hr2, hT2⟩, _, hf2⟩
  have hfT : Fr w1 w2 T := hf2.mono (fun k q => by rw [q]; exact hr1.covB)
  have hs0 := h.old.size
  have hs1 := hf1.size
  have ho2 := hold.stays hfT (fun b hb q => h.dis b hb q)
  refine ⟨_, rfl, (hfT.block bx (Nat.lt_of_lt_of_le hbx hs1) hT).trans h1, ⟨T1, T2, _, 0, 0, false, ⟨(hd1.stays hfT (fun b hb q => ?_)).more (by omega) (by omega), hr2, fun b hb q => ?_, fun b hb => ?_, fun b hb => ?_, fr_below h.ft hb1 hfT, fun _ => rfl, crash_big hd.safe h.big keep⟩⟩, down_any ho2⟩
  · have a := hT1 b hb
    have c := hTlt b q
    omega
  · have a := hd1.ltS b hb
    have c := hT2 b q
    omega
  · have := hT1 b hb
    omega
  · have := hT2 b hb
    omega
theorem down_q {w : World} {A N : Nat} {S : Nat → Prop} {F : List Fl} {left : Int} {down : Bool} (h : Dr w A S N F left down) (n : Nat) : Calls Try.prog 20 #[.pointer (some ⟨A, 0, none⟩)] (w.drewN n) fun e w'' => e = .returned (.bool down) ∧ ∃ m, w'' = w.drewN m := by
  obtain ⟨mv, loc, h⟩ := h
  have h' : Dv (w.drewN n) A S N F left down mv loc := h.stays (T := fun _ => False) ((Fr.refl w _).drewN n) (fun _ _ q => q)
  exact (down_any h').mono (fun _ _ q => ⟨q.1, n, q.2⟩)

set_option maxHeartbeats 4000000 in
set_option maxRecDepth 100000 in
theorem done_arm (h : Two w0 w A B N M) {kad : Option Addr} {kl kc : Nat} (hn : n.size ≤ maxLen) (hm : -9223372036854775808 ≤ m ∧ m ≤ 9223372036854775807) (hN : N < 900000) :
    Calls Try.prog 11 #[.pointer (some ⟨A, 0, none⟩), .pointer (some ⟨B, 0, none⟩), opV 4 n d m (.slice kad kl kc)] w fun e w' => Done w0 N M e w' := by
  obtain ⟨S, T, F, left, rl, down, ht⟩ := h
  obtain ⟨_, hS, hT, hlt⟩ := box_out ht (opO 4 n d m (.slice kad kl kc))
  have hx := ht.on ((Below.refl _ w).alloc (Nat.le_refl _) (opO 4 n d m (.slice kad kl kc)))
  have hb := both_arm hx hS hT (by simp) hm hN
  have hbk : (w.alloc (opO 4 n d m (.slice kad kl kc))).heap[w.heap.size]? = some (opO 4 n d m (.slice kad kl kc)) := heap_alloc_new w _
  rw [hbk] at hb
  clear hx ht
  go_enter Try.func11, Try.ntmps11
  go_wp2_with fail
  refine hb.mono ?_
  rintro e w1 ⟨rfl, hb1, hcall⟩
  have x3 : w1.cell? ⟨w.heap.size, 3, none⟩ = some (.int .i64 m) := by rw [cell_blk hb1]; rfl
  go_wp2_with fail
  refine hcall.mono ?_
  rintro e w2 ⟨rfl, hb2, h2⟩
  obtain ⟨S9, T9, F9, l9, r9, dn9, ht9⟩ := h2
  have hb9 := hb2
  have n9 : w2.cell? ⟨w.heap.size, 1, none⟩ = some (.string n) := by rw [cell_blk hb9]; rfl
  obtain ⟨s9, c9, hp9, hq9⟩ := both_read ht9 hn
  go_wp2_with fail
  refine hp9.mono ?_
  rintro e W1 ⟨rfl, rfl⟩
  go_wp2_with fail
  refine hq9.mono ?_
  rintro e W2 ⟨rfl, hbb⟩
  have ht8 := ht9.on hbb
  have hdn := fun k => down_q ht8.dr k
  have hoff : W2.cell? ⟨B, 1, none⟩ = some (.bool dn9) := by
    obtain ⟨v9, hr9⟩ := ht8.rd
    exact hr9.c1
  have e1 := str_self s9
  have e2 : (c9 == c9) = true := by simp
  have e3 : (dn9 == dn9) = true := by simp
  clear hp9 hq9 hb9 n9 ht9
  go_wp2
  go_quiet ((go_at_call 20; exact hdn _))
  go_wp2
  go_ret3
  exact ⟨A, B, rfl, S9, T9, F9, l9, r9, dn9, ht8.on ⟨rfl, rfl, rfl, Nat.le_refl _, fun _ _ => rfl⟩⟩

set_option maxHeartbeats 4000000 in
set_option maxRecDepth 100000 in
theorem done_read (h : Two w0 w A B N M) {k : Int} {kad : Option Addr} {kl kc : Nat} (k1 : k ≠ 1) (k2 : k ≠ 2) (k3 : k ≠ 3) (k4 : k ≠ 4) (k5 : k ≠ 5) (hn : n.size ≤ maxLen) (hN : N < 900000) :
    Calls Try.prog 11 #[.pointer (some ⟨A, 0, none⟩), .pointer (some ⟨B, 0, none⟩), opV k n d m (.slice kad kl kc)] w fun e w' => Done w0 N M e w' := by
  have h2 : Two w0 (w.alloc (opO k n d m (.slice kad kl kc))) A B (N + 1) (M + 65536) := by
    obtain ⟨S, T, F, left, rl, down, ht⟩ := h
    have hx := ht.on ((Below.refl _ w).alloc (Nat.le_refl _) (opO k n d m (.slice kad kl kc)))
    exact ⟨S, T, F, left, rl, down, hx.dr.more (Nat.le_succ N) (by omega), hx.rd, hx.dis, hx.fs, hx.ft, hx.old, hx.lr, more_big hx.big⟩
  have hbk : (w.alloc (opO k n d m (.slice kad kl kc))).heap[w.heap.size]? = some (opO k n d m (.slice kad kl kc)) := heap_alloc_new w _
  go_enter Try.func11, Try.ntmps11
  obtain ⟨S9, T9, F9, l9, r9, dn9, ht9⟩ := h2
  have hb9 := hbk
  have n9 : (w.alloc (opO k n d m (.slice kad kl kc))).cell? ⟨w.heap.size, 1, none⟩ = some (.string n) := by rw [cell_blk hb9]; rfl
  obtain ⟨s9, c9, hp9, hq9⟩ := both_read ht9 hn
  go_wp2_with fail
  refine hp9.mono ?_
  rintro e W1 ⟨rfl, rfl⟩
  go_wp2_with fail
  refine hq9.mono ?_
  rintro e W2 ⟨rfl, hbb⟩
  have ht8 := ht9.on hbb
  have hdn := fun k => down_q ht8.dr k
  have hoff : W2.cell? ⟨B, 1, none⟩ = some (.bool dn9) := by
    obtain ⟨v9, hr9⟩ := ht8.rd
    exact hr9.c1
  have e1 := str_self s9
  have e2 : (c9 == c9) = true := by simp
  have e3 : (dn9 == dn9) = true := by simp
  clear hp9 hq9 hb9 n9 ht9
  go_wp2
  go_quiet ((go_at_call 20; exact hdn _))
  go_wp2
  go_ret3
  exact ⟨A, B, rfl, S9, T9, F9, l9, r9, dn9, ht8.on ⟨rfl, rfl, rfl, Nat.le_refl _, fun _ _ => rfl⟩⟩

set_option maxHeartbeats 4000000 in
set_option maxRecDepth 100000 in
theorem done_crash (h : Two w0 w A B N M) {kad : Option Addr} {kl kc : Nat} (hn : n.size ≤ maxLen) (hk : Ints w0 (.slice kad kl kc) keep) (hz : keep.length * 8 ≤ 140737488355328) (hN : N < 900000) :
    Calls Try.prog 11 #[.pointer (some ⟨A, 0, none⟩), .pointer (some ⟨B, 0, none⟩), opV 5 n d m (.slice kad kl kc)] w fun e w' => Done w0 N M e w' := by
  obtain ⟨S, T, F, left, rl, down, ht⟩ := h
  obtain ⟨hx, hS, hT, hlt⟩ := box_out ht (opO 5 n d m (.slice kad kl kc))
  have hbk : (w.alloc (opO 5 n d m (.slice kad kl kc))).drew.heap[w.heap.size]? = some (opO 5 n d m (.slice kad kl kc)) := heap_alloc_new w _
  obtain ⟨X, hX⟩ : ∃ X, X = w.alloc (opO 5 n d m (.slice kad kl kc)) := ⟨_, rfl⟩
  rw [← hX] at hx hlt hbk
  obtain ⟨cv, w7, hrun, hI7, hb7⟩ := copy_run (hk.on hx.old) hz
  have hx7 := hx.on hb7
  have hbk7 : w7.heap[w.heap.size]? = some (opO 5 n d m (.slice kad kl kc)) := (hb7.block _ hlt).trans hbk
  have hb := both_crash hx7 hS hT (Nat.lt_of_lt_of_le hlt hb7.size) hI7 hk hN
  rw [hbk7] at hb
  have y4 : X.cell? ⟨w.heap.size, 4, none⟩ = some (.slice kad kl kc) := by
    have : X.heap[w.heap.size]? = some (opO 5 n d m (.slice kad kl kc)) := hbk
    rw [cell_blk this]; rfl
  have y7 : w7.cell? ⟨w.heap.size, 4, none⟩ = some (.slice kad kl kc) := by rw [cell_blk hbk7]; rfl
  have hpn := ptr_no
  have hne : w.heap.size ≠ X.heap.size := by have : w.heap.size < X.heap.size := hlt; omega
  have HX := Lib.hid hX
  clear hx ht hx7 hX
  go_enter Try.func11, Try.ntmps11
  go_wp2
  rw [← HX.out]
  go_region_held3 (fun Z => Z.cell? ⟨w.heap.size, 4, none⟩ = some (.slice kad kl kc)) (first | go_keep | exact y7 | (rw [cell_blk hb1]; rfl) | (rw [cell_blk hb2]; rfl)) (first
    | ((refine step_run (.tmp 77) (.tmp 79) rfl rfl hrun ?_))
    | ((go_at_call 16; refine hb.mono ?_; rintro e w1 ⟨A', rfl, hb1, hcall⟩))
    | ((go_at_call 25; refine hcall.mono ?_; rintro e w2 ⟨B', rfl, hb2, h2, hdd⟩)))
  all_goals
    go_wp2_with fail
    refine hdd.mono ?_
    rintro e w3 ⟨rfl, rfl⟩
    obtain ⟨S9, T9, F9, l9, r9, dn9, ht9⟩ := h2
    have hb9 := hb2
    have n9 : w3.cell? ⟨w.heap.size, 1, none⟩ = some (.string n) := by rw [cell_blk hb9]; rfl
    obtain ⟨s9, c9, hp9, hq9⟩ := both_read ht9 hn
    go_wp2_with fail
    refine hp9.mono ?_
    rintro e W1 ⟨rfl, rfl⟩
    go_wp2_with fail
    refine hq9.mono ?_
    rintro e W2 ⟨rfl, hbb⟩
    have ht8 := ht9.on hbb
    have hdn := fun k => down_q ht8.dr k
    have hoff : W2.cell? ⟨B', 1, none⟩ = some (.bool dn9) := by
      obtain ⟨v9, hr9⟩ := ht8.rd
      exact hr9.c1
    have e1 := str_self s9
    have e2 : (c9 == c9) = true := by simp
    have e3 : (dn9 == dn9) = true := by simp
    clear hp9 hq9 hb9 n9 ht9
    go_wp2
    go_quiet ((go_at_call 20; exact hdn _))
    go_wp2
    go_ret3
    exact ⟨A', B', rfl, S9, T9, F9, l9, r9, dn9, ht8.on ⟨rfl, rfl, rfl, Nat.le_refl _, fun _ _ => rfl⟩⟩
end
end Go.Proofs.Ytphpadgmhanabaa
