/- Key, Of, the document's Of, puts, keyValue. -/
import Derived.Test.YtbepekgaipipjaaRd
namespace Go.Proofs.Ytbepekgaipipjaa
open Go.RowKit

theorem results_two {fn : Func} {t u : Tmp} {ty : TypeId} {ad : Addr} {v x : Value} {tmps : Array Value} {w : World} (h : fn.results = #[.cell t ty, .tmp u]) (ha : tmps.getD t undef = .pointer (some ad)) (hu : tmps.getD u undef = x) (hl : (loadVar ty ad).run Try.prog w = .ok v w) : (results fn tmps).run Try.prog w = .ok (.tuple #[v, x]) w := by
  have ha2 : tmps[t]?.getD undef = .pointer (some ad) := by simpa using ha
  have hu2 : tmps[u]?.getD undef = x := by simpa using hu
  simp [results, h, ha2, hu2, asAddr, hl]
abbrev vlA (v : V) : Array Value := #[.int .i64 v.k, .int .i64 v.n, .string v.s]
def lastP (l : List UInt8) : Option V := match decL 8 l with
  | some L => L.getLast?
  | none => none
def keyA (l : List UInt8) : V := (lastP l).getD nullV0
def keyE (l : List UInt8) : Int := if (lastP l).isSome then 0 else 20
theorem box_new (w : World) (cs : Array Value) (t : TypeId) {W : World} {Y : Nat} (hW : W = w.alloc (.cells cs t)) (hY : w.heap.size = Y) : W.heap[Y]? = some (.cells cs t (0, 0)) := by
  rw [hW, ← hY]; exact heap_alloc_new w _
set_option maxHeartbeats 4000000 in
set_option maxRecDepth 100000 in
theorem keyLast_any (s : ByteArray) (w : World) (hm : s.size ≤ maxLen) : Calls Try.prog 20 #[.string s] w fun e w' => e = .returned (.tuple #[vlV (keyA s.data.toList), .int .i64 (keyE s.data.toList)]) ∧ Below w.heap.size w w' := by
  obtain ⟨W, hW⟩ : ∃ W, W = w.alloc (.cells #[.int .i64 0, .int .i64 0, .string ⟨#[]⟩] 23) := ⟨_, rfl⟩
  have hbW : Below w.heap.size w W := by rw [hW]; exact bnew _ _
  obtain ⟨Y, hY⟩ : ∃ Y, w.heap.size = Y := ⟨_, rfl⟩
  have HJ := Lib.hid (box_new w _ _ hW hY)
  have HB := Lib.hid hbW
  have HW := Lib.hid hW
  have HY := Lib.hid hY
  clear hW hbW hY
  cases hd : decL 8 s.data.toList with
  | none =>
    have HA : Hid (keyA s.data.toList = nullV0 ∧ keyE s.data.toList = 20) := by unfold keyA keyE lastP; rw [hd]; exact Lib.hid ⟨rfl, rfl⟩
    have hdec := decode_no s W hm hd
    rw [HA.out.1, HA.out.2]
    clear hd
    go_enter Try.func20, Try.ntmps20
    go_upto_region 1 with fail
    rw [← HW.out, HY.out]
    go_wp2_with (go_at_call 42; refine hdec.mono ?_; rintro e w4 ⟨rfl, b4⟩; refine Hid.out ?_)
    refine Lib.hid ?_
    have HB4 := Lib.hid (HB.out.trans (b4.mono HB.out.size))
    obtain ⟨X', hst, j', f'⟩ := st_row ((b4.block Y (blk_lt HJ.out)).trans HJ.out) (us := #[.int .i64 0, .int .i64 0, .string ⟨#[]⟩]) rfl size23 (by simp [Value.oneCell'])
    have HR := Lib.hid (And.intro j' f')
    clear hdec HJ b4 j' f'
    go_wp2_with (refine wpl_store _ _ rfl (by simp [Act.eval]) (by simp [Act.eval]) hst ?_)
    refine bodyPost_ret (results_two rfl rfl rfl (load_var HR.out.1 Try.underlying23 rfl size23)) rfl ?_
    exact ⟨rfl, HB4.out.trans (HR.out.2.toBelow (fun k hk q => by have := HY.out; omega) HB4.out.size)⟩
  | some M =>
    obtain ⟨hl8, _, _⟩ := encL_decL _ _ _ hd
    have hdec := decode_yes s W hm M hd
    rcases hM : M.length with _ | m
    · obtain rfl : M = [] := List.eq_nil_of_length_eq_zero hM
      have HA : Hid (keyA s.data.toList = nullV0 ∧ keyE s.data.toList = 20) := by unfold keyA keyE lastP; rw [hd]; exact Lib.hid ⟨rfl, rfl⟩
      rw [HA.out.1, HA.out.2]
      clear hd
      go_enter Try.func20, Try.ntmps20
      go_upto_region 1 with fail
      rw [← HW.out, HY.out]
      go_wp2_with (go_at_call 42; refine hdec.mono ?_; rintro e w4 ⟨ad, cap, rfl, b4, _, _⟩; refine Hid.out ?_)
      refine Lib.hid ?_
      have HB4 := Lib.hid (HB.out.trans (b4.mono HB.out.size))
      obtain ⟨X', hst, j', f'⟩ := st_row ((b4.block Y (blk_lt HJ.out)).trans HJ.out) (us := #[.int .i64 0, .int .i64 0, .string ⟨#[]⟩]) rfl size23 (by simp [Value.oneCell'])
      have HR := Lib.hid (And.intro j' f')
      clear hdec HJ b4 j' f'
      go_wp2_with (refine wpl_store _ _ rfl (by simp [Act.eval]) (by simp [Act.eval]) hst ?_)
      refine bodyPost_ret (results_two rfl rfl rfl (load_var HR.out.1 Try.underlying23 rfl size23)) rfl ?_
      exact ⟨rfl, HB4.out.trans (HR.out.2.toBelow (fun k hk q => by have := HY.out; omega) HB4.out.size)⟩
    · have hml : m < M.length := by omega
      obtain ⟨x, hx⟩ : ∃ x, M[m]'hml = x := ⟨_, rfl⟩
      have HA : Hid (keyA s.data.toList = x ∧ keyE s.data.toList = 0) := by
        have : lastP s.data.toList = some x := by
          unfold lastP
          rw [hd]
          show M.getLast? = _
          rw [List.getLast?_eq_getElem?, hM, Nat.add_sub_cancel, List.getElem?_eq_getElem (by omega), hx]
        unfold keyA keyE
        rw [this]
        exact Lib.hid ⟨rfl, rfl⟩
      rw [HA.out.1, HA.out.2]
      clear hd
      have HL8 : Hid (m ≤ 8) := Lib.hid (by omega)
      have HX := Lib.hid hx
      rw [hM] at hdec
      clear hx hl8 hM
      go_enter Try.func20, Try.ntmps20
      go_upto_region 1 with fail
      rw [← HW.out, HY.out]
      go_wp2_with (go_at_call 42; refine hdec.mono ?_; rintro e w4 ⟨ad, cap, rfl, b4, hli, _⟩; refine Hid.out ?_)
      refine Lib.hid ?_
      have HB4 := Lib.hid (HB.out.trans (b4.mono HB.out.size))
      obtain ⟨b, o, rfl, _, c0, c1, c2⟩ := hli.at' m hml
      rw [HX.out] at c0 c1 c2
      obtain ⟨X', hst, j', f'⟩ := st_row ((b4.block Y (blk_lt HJ.out)).trans HJ.out) (us := vlA x) rfl size23 (by simp [Value.oneCell'])
      have HR := Lib.hid (And.intro j' f')
      have k1 : (m : Int) ≤ 8 := by have := HL8.out; omega
      have k0 : (0 : Int) ≤ (m : Int) := by omega
      have k2 : ¬ ((m : Int) + 1 = 0) := by omega
      clear hdec HJ b4 j' f' hli
      go_wp2_with (refine wpl_store _ _ rfl (by simp [Act.eval]) (by simp [Act.eval]) hst ?_)
      refine bodyPost_ret (results_two rfl rfl rfl (load_var HR.out.1 Try.underlying23 rfl size23)) rfl ?_
      exact ⟨rfl, HB4.out.trans (HR.out.2.toBelow (fun k hk q => by have := HY.out; omega) HB4.out.size)⟩
set_option maxHeartbeats 1000000 in
theorem puts_any (st : Int) (w : World) : Calls Try.prog 49 #[.int .i64 st] w fun e w' => e = .returned (.bool (putsB st)) ∧ Below w.heap.size w w' := by
  have hp : putsB st = ((st == 2) || (st == 3)) := by
    unfold putsB
    by_cases h2 : st = 2 <;> by_cases h3 : st = 3 <;> simp [h2, h3]
  rw [hp]
  cases h2 : (st == 2) with
  | true =>
    go_enter Try.func49, Try.ntmps49
    go_wp2
    go_ret
    exact ⟨rfl, Below.refl _ _⟩
  | false =>
    go_enter Try.func49, Try.ntmps49
    go_wp2
    go_ret
    exact ⟨rfl, Below.refl _ _⟩
end Go.Proofs.Ytbepekgaipipjaa
