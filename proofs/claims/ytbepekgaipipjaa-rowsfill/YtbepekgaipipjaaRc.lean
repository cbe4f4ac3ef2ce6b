/- Keys of rows and entries: number, key, Row, Entry; the document's Num, Row, Entry. -/
import Derived.Test.YtbepekgaipipjaaBo
import Derived.Test.YtbepekgaipipjaaUs
import Derived.Test.YtbepekgaipipjaaWm
import Derived.RegionTactic
namespace Go.Proofs.Ytbepekgaipipjaa
open Go.RowKit

theorem li_new (w : World) (L : List V) : Li L (some ⟨w.heap.size, 0, none⟩) (w.alloc (.cells (flat L).toArray 23)) := by
  refine ⟨fun i hi => ⟨w.heap.size, 0, rfl, by simp, ?_⟩⟩
  obtain ⟨f0, f1, f2⟩ := flat_get L i hi
  have hj := heap_alloc_new w (.cells (flat L).toArray 23)
  refine ⟨?_, ?_, ?_⟩
  · rw [cell_blk hj, Nat.zero_add]; simpa using f0
  · rw [cell_blk hj, Nat.zero_add]; simpa using f1
  · rw [cell_blk hj, Nat.zero_add]; simpa using f2
theorem fits_of {L : List V} (h : ∀ v ∈ L, Fit v.n) : Fits L := ⟨h⟩
theorem fit_small {n : Int} (h0 : 0 ≤ n) (h1 : n ≤ 4) : Fit n := ⟨by omega, by omega⟩
theorem fits3 {a b : Int} {k : V} (ha : Fit a) (hb : Fit b) (hk : Fit k.n) : Fits [nv a, nv b, k] := ⟨fun v hv => by
  simp at hv
  rcases hv with rfl | rfl | rfl
  · exact ha
  · exact hb
  · exact hk⟩
theorem fits4 {a b : Int} {v k : V} (ha : Fit a) (hb : Fit b) (hv : Fit v.n) (hk : Fit k.n) : Fits [nv a, nv b, v, k] := ⟨fun x hx => by
  simp at hx
  rcases hx with rfl | rfl | rfl | rfl
  · exact ha
  · exact hb
  · exact hv
  · exact hk⟩
theorem fits2 {a : Int} {k : V} (ha : Fit a) (hk : Fit k.n) : Fits [nv a, k] := ⟨fun v hv => by
  simp at hv
  rcases hv with rfl | rfl
  · exact ha
  · exact hk⟩
theorem fits22 {a b : Int} (ha : Fit a) (hb : Fit b) : Fits [nv a, nv b] := fits2 ha hb
theorem encS_len {L : List V} (hf : Fits L) : (encS L).length ≤ 1100 := by
  unfold encS
  split
  · simp
  · split
    · rename_i h8 hr
      have := encL_len L (fun v hv => right_of (List.all_eq_true.1 hr v hv) (hf.at' v hv))
      omega
    · simp

set_option maxHeartbeats 1000000 in
theorem number_any (n : Int) (w : World) : Calls Try.prog 39 #[.int .i64 n] w fun e w' => e = .returned (vlV (nv n)) ∧ Below w.heap.size w w' := by
  go_enter Try.func39, Try.ntmps39
  go_wp2
  exact bodyPost_ret (v := .agg #[.int .i64 1, .int .i64 n, .string ⟨#[]⟩]) (by simp [results, Try.results39, go_sem]) rfl ⟨rfl, (Below.refl _ _).alloc (Nat.le_refl _) _⟩
set_option maxHeartbeats 1000000 in
theorem num_any (n : Int) (w : World) : Calls Try.prog 17 #[.int .i64 n] w fun e w' => e = .returned (vlV (nv n)) ∧ Below w.heap.size w w' := by
  go_enter Try.func17, Try.ntmps17
  go_wp2
  exact bodyPost_ret (v := .agg #[.int .i64 1, .int .i64 n, .string ⟨#[]⟩]) (by simp [results, Try.results17, go_sem]) rfl ⟨rfl, (Below.refl _ _).alloc (Nat.le_refl _) _⟩
theorem encE_cases (L : List V) : encE L = 0 ∨ (encE L ≠ 0 ∧ encS L = []) := by
  unfold encE encS
  split
  · exact .inr ⟨by decide, rfl⟩
  · split
    · exact .inl rfl
    · exact .inr ⟨by decide, rfl⟩
set_option maxHeartbeats 1000000 in
set_option maxRecDepth 100000 in
theorem key_any (L : List V) (ad : Option Addr) (cap : Nat) (w : World) (hL : Li L ad w) (hf : Fits L) :
    Calls Try.prog 38 #[.slice ad L.length cap] w fun e w' => e = .returned (.string (bs (encS L))) ∧ Below w.heap.size w w' := by
  have henc := encode_any L ad cap w hL hf
  have hc := encE_cases L
  obtain ⟨E, hE⟩ : ∃ E, encE L = E := ⟨_, rfl⟩
  have hS : (⟨(encS L).toArray⟩ : ByteArray) = bs (encS L) := rfl
  obtain ⟨S, hSS⟩ : ∃ S, bs (encS L) = S := ⟨_, rfl⟩
  rw [hE, hS, hSS] at henc
  rw [hE] at hc
  have HC : Hid (E = 0 ∨ (E ≠ 0 ∧ S = ⟨#[]⟩)) := by
    rcases hc with h | ⟨h, h2⟩
    · exact .inl h
    · exact .inr ⟨h, by rw [← hSS, h2]; rfl⟩
  rw [hSS]
  clear hc hE hS hSS
  obtain ⟨n, hn⟩ : ∃ n, L.length = n := ⟨_, rfl⟩
  rw [hn] at henc ⊢
  clear hn hL
  rcases HC.out with rfl | ⟨h, rfl⟩
  · go_enter Try.func38, Try.ntmps38
    go_wp2_with (go_at_call 51; refine henc.mono ?_; rintro e w1 ⟨rfl, hb1⟩; refine Hid.out ?_)
    refine Lib.hid ?_
    go_wp2
    go_ret
    exact ⟨rfl, hb1⟩
  · have hne : (E == 0) = false := by rw [beq_eq_false_iff_ne]; exact h
    go_enter Try.func38, Try.ntmps38
    go_wp2_with (go_at_call 51; refine henc.mono ?_; rintro e w1 ⟨rfl, hb1⟩; refine Hid.out ?_)
    refine Lib.hid ?_
    go_wp2
    go_ret
    exact ⟨rfl, hb1⟩
set_option maxHeartbeats 1000000 in
set_option maxRecDepth 100000 in
theorem refEnc_any (L : List V) (ad : Option Addr) (cap : Nat) (w : World) (hL : Li L ad w) (hf : Fits L) :
    Calls Try.prog 40 #[.slice ad L.length cap] w fun e w' => e = .returned (.tuple #[.string (bs (encS L)), .int .i64 (encE L)]) ∧ Below w.heap.size w w' := refEncode_any L ad cap w hL hf
set_option maxHeartbeats 4000000 in
set_option maxRecDepth 100000 in
theorem row_any {id : Int} {k : V} (hid : Fit id) (hk : Fit k.n) (w : World) : Calls Try.prog 11 #[.int .i64 id, vlV k] w fun e w' => e = .returned (.string (bs (encS [nv 0, nv id, k]))) ∧ Below w.heap.size w w' := by
  obtain ⟨W, hW⟩ : ∃ W, W = w.alloc (.cells #[.int .i64 k.k, .int .i64 k.n, .string k.s] 23) := ⟨_, rfl⟩
  have hbW : Below w.heap.size w W := by rw [hW]; exact (Below.refl _ w).alloc (Nat.le_refl _) _
  obtain ⟨Y0, hY0⟩ : ∃ Y, w.heap.size = Y := ⟨_, rfl⟩
  have c00 : W.cell? ⟨Y0, 0, none⟩ = some (.int .i64 k.k) := by rw [hW, ← hY0]; simp
  have c01 : W.cell? ⟨Y0, 1, none⟩ = some (.int .i64 k.n) := by rw [hW, ← hY0]; simp
  have c02 : W.cell? ⟨Y0, 2, none⟩ = some (.string k.s) := by rw [hW, ← hY0]; simp
  have hfit : Fits [nv 0, nv id, k] := fits3 (fit_small (by decide) (by decide)) hid hk
  have HW := Lib.hid hW
  have HB := Lib.hid hbW
  have HY0 := Lib.hid hY0
  clear hW hbW hY0
  go_enter Try.func11, Try.ntmps11
  go_upto_region 1 with fail
  rw [← HW.out, HY0.out]
  refine wp_region_fb (fun _ X9 => Below W.heap.size W X9) (fun X9 X8 => Below X9.heap.size X9 X8) [
    fun v9 _ => v9 = vlV (nv 0),
    fun v9 _ => v9 = .int .i64 id,
    fun v9 _ => v9 = vlV (nv id),
    fun v9 _ => v9 = vlV k,
    fun v9 X9 => ∃ F9, v9 = .slice (some ⟨F9, 0, none⟩) 3 3 ∧ Li [nv 0, nv id, k] (some ⟨F9, 0, none⟩) X9,
    fun v9 _ => v9 = .string (bs (encS [nv 0, nv id, k])),
    fun v9 _ => v9 = .string (bs (encS [nv 0, nv id, k]))]
    (by kernel_rfl) (by kernel_rfl) (by kernel_rfl) ?st ?g0 ?os ?en
  case st => exact ⟨fun _ _ _ _ h => h, fun _ _ _ _ h => h, fun _ _ _ _ h => h, fun _ _ _ _ h => h, (fun _ _ _ hb h => by obtain ⟨F9, e9, h9⟩ := h; exact ⟨F9, e9, h9.on hb⟩), fun _ _ _ _ h => h, fun _ _ _ _ h => h, trivial⟩
  case g0 => exact ⟨rfl, rfl, rfl, Nat.le_refl _, fun _ _ => rfl⟩
  case os =>
    refine ⟨?_, ?_, ?_, ?_, ?_, ?_, ?_, trivial⟩
    · intro ρ X9 fl hg hn hl hp ho hc hf hr
      refine .inl ⟨rfl, ?_⟩
      refine Runs.goes 39 #[.int .i64 0] (op_call1 hf (by go_simp) (hc _)) ((number_any _ X9).mono ?_)
      rintro e7 w7 ⟨rfl, b7⟩
      exact ⟨_, rfl, bgo hg b7, b7, rfl⟩
    · exact fun ρ X9 fl hg hn hl hp ho hc hf hr => .inl ⟨rfl, Runs.val _ (op_move (show ρ (.tmp 0) = .int .i64 id from ho 0 rfl)) ⟨hg, Below.refl _ _, rfl⟩⟩
    · intro ρ X9 fl hg hn hl hp ho hc hf hr
      refine .inl ⟨rfl, ?_⟩
      refine Runs.goes 39 #[.int .i64 id] (op_call1 hf (by go_simp) (show ρ (.tmp 6) = .int .i64 id from hr 1 6 rfl rfl)) ((number_any _ X9).mono ?_)
      rintro e7 w7 ⟨rfl, b7⟩
      exact ⟨_, rfl, bgo hg b7, b7, rfl⟩
    · exact fun ρ X9 fl hg hn hl hp ho hc hf hr => .inl ⟨rfl, Runs.val _ (op_load23 (show ρ (.tmp 3) = .pointer (some ⟨Y0, 0, none⟩) from ho 3 rfl) (cell_on hg c00) (cell_on hg c01) (cell_on hg c02)) ⟨hg, Below.refl _ _, rfl⟩⟩
    · intro ρ X9 fl hg hn hl hp ho hc hf hr
      refine .inl ⟨rfl, ?_⟩
      exact Runs.val _ (op_s32_3 (show ρ (.tmp 5) = vlV (nv 0) from hr 0 5 rfl rfl) (show ρ (.tmp 7) = vlV (nv id) from hr 2 7 rfl rfl) (show ρ (.tmp 8) = vlV k from hr 3 8 rfl rfl)) ⟨bgo hg (bnew _ _), bnew _ _, _, rfl, li_new _ _⟩
    · intro ρ X9 fl hg hn hl hp ho hc hf hr
      obtain ⟨F9, e9, h9⟩ : ∃ F9, ρ (.tmp 9) = .slice (some ⟨F9, 0, none⟩) 3 3 ∧ Li [nv 0, nv id, k] (some ⟨F9, 0, none⟩) X9 := hr 4 9 rfl rfl
      refine .inl ⟨rfl, ?_⟩
      refine Runs.goes 38 #[.slice (some ⟨F9, 0, none⟩) 3 3] (op_call1 hf (by go_simp) e9) ((key_any [nv 0, nv id, k] _ 3 X9 h9 hfit).mono ?_)
      rintro e7 w7 ⟨rfl, b7⟩
      exact ⟨_, rfl, bgo hg b7, b7, rfl⟩
    · exact fun ρ X9 fl hg hn hl hp ho hc hf hr => .inl ⟨rfl, Runs.val _ (op_assign (show ρ (.tmp 10) = .string (bs (encS [nv 0, nv id, k])) from hr 5 10 rfl rfl)) ⟨hg, Below.refl _ _, rfl⟩⟩
  case en =>
    intro a9 w6 fl hfl b6 hs9 hd9 ho9 hr9
    obtain ⟨x9, hx, hxt⟩ := act_put hs9 hd9 ho9
    have x4 : x9 4 = .string (bs (encS [nv 0, nv id, k])) := (hxt 4).symm.trans (hr9 6 4 rfl)
    change a9 = putAll _ x9 [5, 6, 7, 8, 9, 10, 4] at hx
    simp only [putAll, Act.put, List.setIfInBounds_toArray, List.set_cons_zero, List.set_cons_succ, x4] at hx
    subst hx
    clear hs9 hd9 ho9 hr9 hfl x4
    generalize x9 5 = z5, x9 6 = z6, x9 7 = z7, x9 8 = z8, x9 9 = z9, x9 10 = z10
    go_wp2
    go_ret
    exact ⟨rfl, HB.out.trans (b6.mono HB.out.size)⟩
set_option maxHeartbeats 4000000 in
set_option maxRecDepth 100000 in
theorem refRow_any {id : Int} {k : V} (hid : Fit id) (hk : Fit k.n) (w : World) : Calls Try.prog 12 #[.int .i64 id, vlV k] w fun e w' => e = .returned (.string (bs (encS [nv 0, nv id, k]))) ∧ Below w.heap.size w w' := by
  obtain ⟨W, hW⟩ : ∃ W, W = w.alloc (.cells #[.int .i64 k.k, .int .i64 k.n, .string k.s] 23) := ⟨_, rfl⟩
  have hbW : Below w.heap.size w W := by rw [hW]; exact (Below.refl _ w).alloc (Nat.le_refl _) _
  obtain ⟨Y0, hY0⟩ : ∃ Y, w.heap.size = Y := ⟨_, rfl⟩
  have c00 : W.cell? ⟨Y0, 0, none⟩ = some (.int .i64 k.k) := by rw [hW, ← hY0]; simp
  have c01 : W.cell? ⟨Y0, 1, none⟩ = some (.int .i64 k.n) := by rw [hW, ← hY0]; simp
  have c02 : W.cell? ⟨Y0, 2, none⟩ = some (.string k.s) := by rw [hW, ← hY0]; simp
  have hfit : Fits [nv 0, nv id, k] := fits3 (fit_small (by decide) (by decide)) hid hk
  have HW := Lib.hid hW
  have HB := Lib.hid hbW
  have HY0 := Lib.hid hY0
  clear hW hbW hY0
  go_enter Try.func12, Try.ntmps12
  go_upto_region 1 with fail
  rw [← HW.out, HY0.out]
  refine wp_region_fb (fun _ X9 => Below W.heap.size W X9) (fun X9 X8 => Below X9.heap.size X9 X8) [
    fun v9 _ => v9 = vlV (nv 0),
    fun v9 _ => v9 = .int .i64 id,
    fun v9 _ => v9 = vlV (nv id),
    fun v9 _ => v9 = vlV k,
    fun v9 X9 => ∃ F9, v9 = .slice (some ⟨F9, 0, none⟩) 3 3 ∧ Li [nv 0, nv id, k] (some ⟨F9, 0, none⟩) X9,
    fun v9 _ => v9 = .tuple #[.string (bs (encS [nv 0, nv id, k])), .int .i64 (encE [nv 0, nv id, k])],
    fun v9 _ => v9 = .tuple #[.string (bs (encS [nv 0, nv id, k])), .int .i64 (encE [nv 0, nv id, k])],
    fun v9 _ => v9 = .string (bs (encS [nv 0, nv id, k])),
    fun v9 _ => v9 = .int .i64 (encE [nv 0, nv id, k]),
    fun v9 _ => v9 = .string (bs (encS [nv 0, nv id, k])),
    fun v9 _ => v9 = .int .i64 (encE [nv 0, nv id, k])]
    (by kernel_rfl) (by kernel_rfl) (by kernel_rfl) ?st ?g0 ?os ?en
  case st => exact ⟨fun _ _ _ _ h => h, fun _ _ _ _ h => h, fun _ _ _ _ h => h, fun _ _ _ _ h => h, (fun _ _ _ hb h => by obtain ⟨F9, e9, h9⟩ := h; exact ⟨F9, e9, h9.on hb⟩), fun _ _ _ _ h => h, fun _ _ _ _ h => h, fun _ _ _ _ h => h, fun _ _ _ _ h => h, fun _ _ _ _ h => h, fun _ _ _ _ h => h, trivial⟩
  case g0 => exact ⟨rfl, rfl, rfl, Nat.le_refl _, fun _ _ => rfl⟩
  case os =>
    refine ⟨?_, ?_, ?_, ?_, ?_, ?_, ?_, ?_, ?_, ?_, ?_, trivial⟩
    · intro ρ X9 fl hg hn hl hp ho hc hf hr
      refine .inl ⟨rfl, ?_⟩
      refine Runs.goes 17 #[.int .i64 0] (op_call1 hf (by go_simp) (hc _)) ((num_any _ X9).mono ?_)
      rintro e7 w7 ⟨rfl, b7⟩
      exact ⟨_, rfl, bgo hg b7, b7, rfl⟩
    · exact fun ρ X9 fl hg hn hl hp ho hc hf hr => .inl ⟨rfl, Runs.val _ (op_move (show ρ (.tmp 0) = .int .i64 id from ho 0 rfl)) ⟨hg, Below.refl _ _, rfl⟩⟩
    · intro ρ X9 fl hg hn hl hp ho hc hf hr
      refine .inl ⟨rfl, ?_⟩
      refine Runs.goes 17 #[.int .i64 id] (op_call1 hf (by go_simp) (show ρ (.tmp 9) = .int .i64 id from hr 1 9 rfl rfl)) ((num_any _ X9).mono ?_)
      rintro e7 w7 ⟨rfl, b7⟩
      exact ⟨_, rfl, bgo hg b7, b7, rfl⟩
    · exact fun ρ X9 fl hg hn hl hp ho hc hf hr => .inl ⟨rfl, Runs.val _ (op_load23 (show ρ (.tmp 3) = .pointer (some ⟨Y0, 0, none⟩) from ho 3 rfl) (cell_on hg c00) (cell_on hg c01) (cell_on hg c02)) ⟨hg, Below.refl _ _, rfl⟩⟩
    · intro ρ X9 fl hg hn hl hp ho hc hf hr
      refine .inl ⟨rfl, ?_⟩
      exact Runs.val _ (op_s32_3 (show ρ (.tmp 8) = vlV (nv 0) from hr 0 8 rfl rfl) (show ρ (.tmp 10) = vlV (nv id) from hr 2 10 rfl rfl) (show ρ (.tmp 11) = vlV k from hr 3 11 rfl rfl)) ⟨bgo hg (bnew _ _), bnew _ _, _, rfl, li_new _ _⟩
    · intro ρ X9 fl hg hn hl hp ho hc hf hr
      obtain ⟨F9, e9, h9⟩ : ∃ F9, ρ (.tmp 12) = .slice (some ⟨F9, 0, none⟩) 3 3 ∧ Li [nv 0, nv id, k] (some ⟨F9, 0, none⟩) X9 := hr 4 12 rfl rfl
      refine .inl ⟨rfl, ?_⟩
      refine Runs.goes 40 #[.slice (some ⟨F9, 0, none⟩) 3 3] (op_call1 hf (by go_simp) e9) ((refEnc_any [nv 0, nv id, k] _ 3 X9 h9 hfit).mono ?_)
      rintro e7 w7 ⟨rfl, b7⟩
      exact ⟨_, rfl, bgo hg b7, b7, rfl⟩
    · exact fun ρ X9 fl hg hn hl hp ho hc hf hr => .inl ⟨rfl, Runs.val _ (op_move (show ρ (.tmp 13) = .tuple #[.string (bs (encS [nv 0, nv id, k])), .int .i64 (encE [nv 0, nv id, k])] from hr 5 13 rfl rfl)) ⟨hg, Below.refl _ _, rfl⟩⟩
    · exact fun ρ X9 fl hg hn hl hp ho hc hf hr => .inl ⟨rfl, Runs.val _ (op_extract0 (show ρ (.tmp 7) = .tuple #[.string (bs (encS [nv 0, nv id, k])), .int .i64 (encE [nv 0, nv id, k])] from hr 6 7 rfl rfl)) ⟨hg, Below.refl _ _, rfl⟩⟩
    · exact fun ρ X9 fl hg hn hl hp ho hc hf hr => .inl ⟨rfl, Runs.val _ (op_extract1 (show ρ (.tmp 7) = .tuple #[.string (bs (encS [nv 0, nv id, k])), .int .i64 (encE [nv 0, nv id, k])] from hr 6 7 rfl rfl)) ⟨hg, Below.refl _ _, rfl⟩⟩
    · exact fun ρ X9 fl hg hn hl hp ho hc hf hr => .inl ⟨rfl, Runs.val _ (op_assign (show ρ (.tmp 14) = .string (bs (encS [nv 0, nv id, k])) from hr 7 14 rfl rfl)) ⟨hg, Below.refl _ _, rfl⟩⟩
    · exact fun ρ X9 fl hg hn hl hp ho hc hf hr => .inl ⟨rfl, Runs.val _ (op_assign (show ρ (.tmp 15) = .int .i64 (encE [nv 0, nv id, k]) from hr 8 15 rfl rfl)) ⟨hg, Below.refl _ _, rfl⟩⟩
  case en =>
    intro a9 w6 fl hfl b6 hs9 hd9 ho9 hr9
    obtain ⟨x9, hx, hxt⟩ := act_put hs9 hd9 ho9
    have x5 : x9 5 = .string (bs (encS [nv 0, nv id, k])) := (hxt 5).symm.trans (hr9 9 5 rfl)
    have x6 : x9 6 = .int .i64 (encE [nv 0, nv id, k]) := (hxt 6).symm.trans (hr9 10 6 rfl)
    change a9 = putAll _ x9 [8, 9, 10, 11, 12, 13, 7, 14, 15, 5, 6] at hx
    simp only [putAll, Act.put, List.setIfInBounds_toArray, List.set_cons_zero, List.set_cons_succ, x5, x6] at hx
    subst hx
    clear hs9 hd9 ho9 hr9 hfl x5 x6
    generalize x9 8 = z8, x9 9 = z9, x9 10 = z10, x9 11 = z11, x9 12 = z12, x9 13 = z13, x9 7 = z7, x9 14 = z14, x9 15 = z15
    go_wp2
    go_ret
    exact ⟨rfl, HB.out.trans (b6.mono HB.out.size)⟩
set_option maxHeartbeats 4000000 in
set_option maxRecDepth 100000 in
theorem entry_any {id : Int} {v k : V} (hid : Fit id) (hv : Fit v.n) (hk : Fit k.n) (w : World) : Calls Try.prog 13 #[.int .i64 id, vlV v, vlV k] w fun e w' => e = .returned (.string (bs (encS [nv 1, nv id, v, k]))) ∧ Below w.heap.size w w' := by
  obtain ⟨W, hW⟩ : ∃ W, W = (w.alloc (.cells #[.int .i64 v.k, .int .i64 v.n, .string v.s] 23)).alloc (.cells #[.int .i64 k.k, .int .i64 k.n, .string k.s] 23) := ⟨_, rfl⟩
  have hbW : Below w.heap.size w W := by rw [hW]; exact ((Below.refl _ w).alloc (Nat.le_refl _) _).alloc (by simp) _
  obtain ⟨Y0, hY0⟩ : ∃ Y, w.heap.size = Y := ⟨_, rfl⟩
  obtain ⟨Y1, hY1⟩ : ∃ Y, Y0 + 1 = Y := ⟨_, rfl⟩
  have c00 : W.cell? ⟨Y0, 0, none⟩ = some (.int .i64 v.k) := by rw [hW, ← hY0]; simp
  have c01 : W.cell? ⟨Y0, 1, none⟩ = some (.int .i64 v.n) := by rw [hW, ← hY0]; simp
  have c02 : W.cell? ⟨Y0, 2, none⟩ = some (.string v.s) := by rw [hW, ← hY0]; simp
  have c10 : W.cell? ⟨Y1, 0, none⟩ = some (.int .i64 k.k) := by rw [hW, ← hY1, ← hY0]; simp
  have c11 : W.cell? ⟨Y1, 1, none⟩ = some (.int .i64 k.n) := by rw [hW, ← hY1, ← hY0]; simp
  have c12 : W.cell? ⟨Y1, 2, none⟩ = some (.string k.s) := by rw [hW, ← hY1, ← hY0]; simp
  have hfit : Fits [nv 1, nv id, v, k] := fits4 (fit_small (by decide) (by decide)) hid hv hk
  have HW := Lib.hid hW
  have HB := Lib.hid hbW
  have HY0 := Lib.hid hY0
  have HY1 := Lib.hid hY1
  clear hW hbW hY0 hY1
  go_enter Try.func13, Try.ntmps13
  go_upto_region 1 with fail
  rw [← HW.out, HY0.out, HY1.out]
  refine wp_region_fb (fun _ X9 => Below W.heap.size W X9) (fun X9 X8 => Below X9.heap.size X9 X8) [
    fun v9 _ => v9 = vlV (nv 1),
    fun v9 _ => v9 = .int .i64 id,
    fun v9 _ => v9 = vlV (nv id),
    fun v9 _ => v9 = vlV v,
    fun v9 _ => v9 = vlV k,
    fun v9 X9 => ∃ F9, v9 = .slice (some ⟨F9, 0, none⟩) 4 4 ∧ Li [nv 1, nv id, v, k] (some ⟨F9, 0, none⟩) X9,
    fun v9 _ => v9 = .string (bs (encS [nv 1, nv id, v, k])),
    fun v9 _ => v9 = .string (bs (encS [nv 1, nv id, v, k]))]
    (by kernel_rfl) (by kernel_rfl) (by kernel_rfl) ?st ?g0 ?os ?en
  case st => exact ⟨fun _ _ _ _ h => h, fun _ _ _ _ h => h, fun _ _ _ _ h => h, fun _ _ _ _ h => h, fun _ _ _ _ h => h, (fun _ _ _ hb h => by obtain ⟨F9, e9, h9⟩ := h; exact ⟨F9, e9, h9.on hb⟩), fun _ _ _ _ h => h, fun _ _ _ _ h => h, trivial⟩
  case g0 => exact ⟨rfl, rfl, rfl, Nat.le_refl _, fun _ _ => rfl⟩
  case os =>
    refine ⟨?_, ?_, ?_, ?_, ?_, ?_, ?_, ?_, trivial⟩
    · intro ρ X9 fl hg hn hl hp ho hc hf hr
      refine .inl ⟨rfl, ?_⟩
      refine Runs.goes 39 #[.int .i64 1] (op_call1 hf (by go_simp) (hc _)) ((number_any _ X9).mono ?_)
      rintro e7 w7 ⟨rfl, b7⟩
      exact ⟨_, rfl, bgo hg b7, b7, rfl⟩
    · exact fun ρ X9 fl hg hn hl hp ho hc hf hr => .inl ⟨rfl, Runs.val _ (op_move (show ρ (.tmp 0) = .int .i64 id from ho 0 rfl)) ⟨hg, Below.refl _ _, rfl⟩⟩
    · intro ρ X9 fl hg hn hl hp ho hc hf hr
      refine .inl ⟨rfl, ?_⟩
      refine Runs.goes 39 #[.int .i64 id] (op_call1 hf (by go_simp) (show ρ (.tmp 8) = .int .i64 id from hr 1 8 rfl rfl)) ((number_any _ X9).mono ?_)
      rintro e7 w7 ⟨rfl, b7⟩
      exact ⟨_, rfl, bgo hg b7, b7, rfl⟩
    · exact fun ρ X9 fl hg hn hl hp ho hc hf hr => .inl ⟨rfl, Runs.val _ (op_load23 (show ρ (.tmp 4) = .pointer (some ⟨Y0, 0, none⟩) from ho 4 rfl) (cell_on hg c00) (cell_on hg c01) (cell_on hg c02)) ⟨hg, Below.refl _ _, rfl⟩⟩
    · exact fun ρ X9 fl hg hn hl hp ho hc hf hr => .inl ⟨rfl, Runs.val _ (op_load23 (show ρ (.tmp 5) = .pointer (some ⟨Y1, 0, none⟩) from ho 5 rfl) (cell_on hg c10) (cell_on hg c11) (cell_on hg c12)) ⟨hg, Below.refl _ _, rfl⟩⟩
    · intro ρ X9 fl hg hn hl hp ho hc hf hr
      refine .inl ⟨rfl, ?_⟩
      exact Runs.val _ (op_s32_4 (show ρ (.tmp 7) = vlV (nv 1) from hr 0 7 rfl rfl) (show ρ (.tmp 9) = vlV (nv id) from hr 2 9 rfl rfl) (show ρ (.tmp 10) = vlV v from hr 3 10 rfl rfl) (show ρ (.tmp 11) = vlV k from hr 4 11 rfl rfl)) ⟨bgo hg (bnew _ _), bnew _ _, _, rfl, li_new _ _⟩
    · intro ρ X9 fl hg hn hl hp ho hc hf hr
      obtain ⟨F9, e9, h9⟩ : ∃ F9, ρ (.tmp 12) = .slice (some ⟨F9, 0, none⟩) 4 4 ∧ Li [nv 1, nv id, v, k] (some ⟨F9, 0, none⟩) X9 := hr 5 12 rfl rfl
      refine .inl ⟨rfl, ?_⟩
      refine Runs.goes 38 #[.slice (some ⟨F9, 0, none⟩) 4 4] (op_call1 hf (by go_simp) e9) ((key_any [nv 1, nv id, v, k] _ 4 X9 h9 hfit).mono ?_)
      rintro e7 w7 ⟨rfl, b7⟩
      exact ⟨_, rfl, bgo hg b7, b7, rfl⟩
    · exact fun ρ X9 fl hg hn hl hp ho hc hf hr => .inl ⟨rfl, Runs.val _ (op_assign (show ρ (.tmp 13) = .string (bs (encS [nv 1, nv id, v, k])) from hr 6 13 rfl rfl)) ⟨hg, Below.refl _ _, rfl⟩⟩
  case en =>
    intro a9 w6 fl hfl b6 hs9 hd9 ho9 hr9
    obtain ⟨x9, hx, hxt⟩ := act_put hs9 hd9 ho9
    have x6 : x9 6 = .string (bs (encS [nv 1, nv id, v, k])) := (hxt 6).symm.trans (hr9 7 6 rfl)
    change a9 = putAll _ x9 [7, 8, 9, 10, 11, 12, 13, 6] at hx
    simp only [putAll, Act.put, List.setIfInBounds_toArray, List.set_cons_zero, List.set_cons_succ, x6] at hx
    subst hx
    clear hs9 hd9 ho9 hr9 hfl x6
    generalize x9 7 = z7, x9 8 = z8, x9 9 = z9, x9 10 = z10, x9 11 = z11, x9 12 = z12, x9 13 = z13
    go_wp2
    go_ret
    exact ⟨rfl, HB.out.trans (b6.mono HB.out.size)⟩
set_option maxHeartbeats 4000000 in
set_option maxRecDepth 100000 in
theorem refEntry_any {id : Int} {v k : V} (hid : Fit id) (hv : Fit v.n) (hk : Fit k.n) (w : World) : Calls Try.prog 14 #[.int .i64 id, vlV v, vlV k] w fun e w' => e = .returned (.string (bs (encS [nv 1, nv id, v, k]))) ∧ Below w.heap.size w w' := by
  obtain ⟨W, hW⟩ : ∃ W, W = (w.alloc (.cells #[.int .i64 v.k, .int .i64 v.n, .string v.s] 23)).alloc (.cells #[.int .i64 k.k, .int .i64 k.n, .string k.s] 23) := ⟨_, rfl⟩
  have hbW : Below w.heap.size w W := by rw [hW]; exact ((Below.refl _ w).alloc (Nat.le_refl _) _).alloc (by simp) _
  obtain ⟨Y0, hY0⟩ : ∃ Y, w.heap.size = Y := ⟨_, rfl⟩
  obtain ⟨Y1, hY1⟩ : ∃ Y, Y0 + 1 = Y := ⟨_, rfl⟩
  have c00 : W.cell? ⟨Y0, 0, none⟩ = some (.int .i64 v.k) := by rw [hW, ← hY0]; simp
  have c01 : W.cell? ⟨Y0, 1, none⟩ = some (.int .i64 v.n) := by rw [hW, ← hY0]; simp
  have c02 : W.cell? ⟨Y0, 2, none⟩ = some (.string v.s) := by rw [hW, ← hY0]; simp
  have c10 : W.cell? ⟨Y1, 0, none⟩ = some (.int .i64 k.k) := by rw [hW, ← hY1, ← hY0]; simp
  have c11 : W.cell? ⟨Y1, 1, none⟩ = some (.int .i64 k.n) := by rw [hW, ← hY1, ← hY0]; simp
  have c12 : W.cell? ⟨Y1, 2, none⟩ = some (.string k.s) := by rw [hW, ← hY1, ← hY0]; simp
  have hfit : Fits [nv 1, nv id, v, k] := fits4 (fit_small (by decide) (by decide)) hid hv hk
  have HW := Lib.hid hW
  have HB := Lib.hid hbW
  have HY0 := Lib.hid hY0
  have HY1 := Lib.hid hY1
  clear hW hbW hY0 hY1
  go_enter Try.func14, Try.ntmps14
  go_upto_region 1 with fail
  rw [← HW.out, HY0.out, HY1.out]
  refine wp_region_fb (fun _ X9 => Below W.heap.size W X9) (fun X9 X8 => Below X9.heap.size X9 X8) [
    fun v9 _ => v9 = vlV (nv 1),
    fun v9 _ => v9 = .int .i64 id,
    fun v9 _ => v9 = vlV (nv id),
    fun v9 _ => v9 = vlV v,
    fun v9 _ => v9 = vlV k,
    fun v9 X9 => ∃ F9, v9 = .slice (some ⟨F9, 0, none⟩) 4 4 ∧ Li [nv 1, nv id, v, k] (some ⟨F9, 0, none⟩) X9,
    fun v9 _ => v9 = .tuple #[.string (bs (encS [nv 1, nv id, v, k])), .int .i64 (encE [nv 1, nv id, v, k])],
    fun v9 _ => v9 = .tuple #[.string (bs (encS [nv 1, nv id, v, k])), .int .i64 (encE [nv 1, nv id, v, k])],
    fun v9 _ => v9 = .string (bs (encS [nv 1, nv id, v, k])),
    fun v9 _ => v9 = .int .i64 (encE [nv 1, nv id, v, k]),
    fun v9 _ => v9 = .string (bs (encS [nv 1, nv id, v, k])),
    fun v9 _ => v9 = .int .i64 (encE [nv 1, nv id, v, k])]
    (by kernel_rfl) (by kernel_rfl) (by kernel_rfl) ?st ?g0 ?os ?en
  case st => exact ⟨fun _ _ _ _ h => h, fun _ _ _ _ h => h, fun _ _ _ _ h => h, fun _ _ _ _ h => h, fun _ _ _ _ h => h, (fun _ _ _ hb h => by obtain ⟨F9, e9, h9⟩ := h; exact ⟨F9, e9, h9.on hb⟩), fun _ _ _ _ h => h, fun _ _ _ _ h => h, fun _ _ _ _ h => h, fun _ _ _ _ h => h, fun _ _ _ _ h => h, fun _ _ _ _ h => h, trivial⟩
  case g0 => exact ⟨rfl, rfl, rfl, Nat.le_refl _, fun _ _ => rfl⟩
  case os =>
    refine ⟨?_, ?_, ?_, ?_, ?_, ?_, ?_, ?_, ?_, ?_, ?_, ?_, trivial⟩
    · intro ρ X9 fl hg hn hl hp ho hc hf hr
      refine .inl ⟨rfl, ?_⟩
      refine Runs.goes 17 #[.int .i64 1] (op_call1 hf (by go_simp) (hc _)) ((num_any _ X9).mono ?_)
      rintro e7 w7 ⟨rfl, b7⟩
      exact ⟨_, rfl, bgo hg b7, b7, rfl⟩
    · exact fun ρ X9 fl hg hn hl hp ho hc hf hr => .inl ⟨rfl, Runs.val _ (op_move (show ρ (.tmp 0) = .int .i64 id from ho 0 rfl)) ⟨hg, Below.refl _ _, rfl⟩⟩
    · intro ρ X9 fl hg hn hl hp ho hc hf hr
      refine .inl ⟨rfl, ?_⟩
      refine Runs.goes 17 #[.int .i64 id] (op_call1 hf (by go_simp) (show ρ (.tmp 11) = .int .i64 id from hr 1 11 rfl rfl)) ((num_any _ X9).mono ?_)
      rintro e7 w7 ⟨rfl, b7⟩
      exact ⟨_, rfl, bgo hg b7, b7, rfl⟩
    · exact fun ρ X9 fl hg hn hl hp ho hc hf hr => .inl ⟨rfl, Runs.val _ (op_load23 (show ρ (.tmp 4) = .pointer (some ⟨Y0, 0, none⟩) from ho 4 rfl) (cell_on hg c00) (cell_on hg c01) (cell_on hg c02)) ⟨hg, Below.refl _ _, rfl⟩⟩
    · exact fun ρ X9 fl hg hn hl hp ho hc hf hr => .inl ⟨rfl, Runs.val _ (op_load23 (show ρ (.tmp 5) = .pointer (some ⟨Y1, 0, none⟩) from ho 5 rfl) (cell_on hg c10) (cell_on hg c11) (cell_on hg c12)) ⟨hg, Below.refl _ _, rfl⟩⟩
    · intro ρ X9 fl hg hn hl hp ho hc hf hr
      refine .inl ⟨rfl, ?_⟩
      exact Runs.val _ (op_s32_4 (show ρ (.tmp 10) = vlV (nv 1) from hr 0 10 rfl rfl) (show ρ (.tmp 12) = vlV (nv id) from hr 2 12 rfl rfl) (show ρ (.tmp 13) = vlV v from hr 3 13 rfl rfl) (show ρ (.tmp 14) = vlV k from hr 4 14 rfl rfl)) ⟨bgo hg (bnew _ _), bnew _ _, _, rfl, li_new _ _⟩
    · intro ρ X9 fl hg hn hl hp ho hc hf hr
      obtain ⟨F9, e9, h9⟩ : ∃ F9, ρ (.tmp 15) = .slice (some ⟨F9, 0, none⟩) 4 4 ∧ Li [nv 1, nv id, v, k] (some ⟨F9, 0, none⟩) X9 := hr 5 15 rfl rfl
      refine .inl ⟨rfl, ?_⟩
      refine Runs.goes 40 #[.slice (some ⟨F9, 0, none⟩) 4 4] (op_call1 hf (by go_simp) e9) ((refEnc_any [nv 1, nv id, v, k] _ 4 X9 h9 hfit).mono ?_)
      rintro e7 w7 ⟨rfl, b7⟩
      exact ⟨_, rfl, bgo hg b7, b7, rfl⟩
    · exact fun ρ X9 fl hg hn hl hp ho hc hf hr => .inl ⟨rfl, Runs.val _ (op_move (show ρ (.tmp 16) = .tuple #[.string (bs (encS [nv 1, nv id, v, k])), .int .i64 (encE [nv 1, nv id, v, k])] from hr 6 16 rfl rfl)) ⟨hg, Below.refl _ _, rfl⟩⟩
    · exact fun ρ X9 fl hg hn hl hp ho hc hf hr => .inl ⟨rfl, Runs.val _ (op_extract0 (show ρ (.tmp 9) = .tuple #[.string (bs (encS [nv 1, nv id, v, k])), .int .i64 (encE [nv 1, nv id, v, k])] from hr 7 9 rfl rfl)) ⟨hg, Below.refl _ _, rfl⟩⟩
    · exact fun ρ X9 fl hg hn hl hp ho hc hf hr => .inl ⟨rfl, Runs.val _ (op_extract1 (show ρ (.tmp 9) = .tuple #[.string (bs (encS [nv 1, nv id, v, k])), .int .i64 (encE [nv 1, nv id, v, k])] from hr 7 9 rfl rfl)) ⟨hg, Below.refl _ _, rfl⟩⟩
    · exact fun ρ X9 fl hg hn hl hp ho hc hf hr => .inl ⟨rfl, Runs.val _ (op_assign (show ρ (.tmp 17) = .string (bs (encS [nv 1, nv id, v, k])) from hr 8 17 rfl rfl)) ⟨hg, Below.refl _ _, rfl⟩⟩
    · exact fun ρ X9 fl hg hn hl hp ho hc hf hr => .inl ⟨rfl, Runs.val _ (op_assign (show ρ (.tmp 18) = .int .i64 (encE [nv 1, nv id, v, k]) from hr 9 18 rfl rfl)) ⟨hg, Below.refl _ _, rfl⟩⟩
  case en =>
    intro a9 w6 fl hfl b6 hs9 hd9 ho9 hr9
    obtain ⟨x9, hx, hxt⟩ := act_put hs9 hd9 ho9
    have x7 : x9 7 = .string (bs (encS [nv 1, nv id, v, k])) := (hxt 7).symm.trans (hr9 10 7 rfl)
    have x8 : x9 8 = .int .i64 (encE [nv 1, nv id, v, k]) := (hxt 8).symm.trans (hr9 11 8 rfl)
    change a9 = putAll _ x9 [10, 11, 12, 13, 14, 15, 16, 9, 17, 18, 7, 8] at hx
    simp only [putAll, Act.put, List.setIfInBounds_toArray, List.set_cons_zero, List.set_cons_succ, x7, x8] at hx
    subst hx
    clear hs9 hd9 ho9 hr9 hfl x7 x8
    generalize x9 10 = z10, x9 11 = z11, x9 12 = z12, x9 13 = z13, x9 14 = z14, x9 15 = z15, x9 16 = z16, x9 9 = z9, x9 17 = z17, x9 18 = z18
    go_wp2
    go_ret
    exact ⟨rfl, HB.out.trans (b6.mono HB.out.size)⟩
end Go.Proofs.Ytbepekgaipipjaa
