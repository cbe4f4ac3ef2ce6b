/- The walk of the drive's Crash, its loop. -/
import Derived.Test.YtoipmpaebngppaaDWk
namespace Go.Proofs.Ytoipmpaebngppaa
open Go.RowKit Go.Maps

theorem crash_nil (kv : Value) (w : World) : Calls Try.prog 18 #[.pointer none, kv] w fun e w' => e = .returned (.pointer none) ∧ w' = w := by
  go_enter Try.func18, Try.ntmps18
  go_wp2
  go_ret
  exact ⟨rfl, rfl⟩
theorem row_shape {w : World} {B : Nat} {e : TypeId} {v : Value} {n : Nat} {xs : List Value} (h : w.ownsRow B e 1 v n xs) : ∃ ad cap, v = .slice ad n cap ∧ ∀ i, i < n → ∃ b, ad = some ⟨b, 0, none⟩ := by
  rcases h.2 with ⟨rfl, rfl⟩ | ⟨g, cap, cur, rfl, _⟩
  · exact ⟨none, 0, rfl, fun i hi => by omega⟩
  · exact ⟨_, cap, rfl, fun i _ => ⟨g, rfl⟩⟩

section
variable {w : World} {A N : Nat} {S : Nat → Prop} {F : List Fl} {left : Int} {down : Bool} {mv : Value} {loc : ByteArray → Value} {kv : Value} {keep : List Int}
set_option maxHeartbeats 2000000 in
set_option maxRecDepth 100000 in
theorem crash_any (h : Dv w A S N F left down mv loc) (hk : Ints w kv keep) :
    Calls Try.prog 18 #[.pointer (some ⟨A, 0, none⟩), kv] w fun e w' => e = .returned (.pointer (some ⟨w.heap.size, 0, none⟩)) ∧ (∃ T, Dr w' w.heap.size T F.length (crashF F keep) 0 false ∧ ∀ j, T j → w.heap.size ≤ j) ∧ Dv w' A S N F left true mv loc ∧ Fr w w' (fun k => k = A) := by
  have hlen := h.len
  have hfew := h.few
  obtain ⟨kad, kcap, rfl, hkm, hkc⟩ := hk
  unfold maxLen at hkm
  have hA := h.lt A h.covA
  have hpn := ptr_no ⟨A, 0, none⟩
  go_enter Try.func18, Try.ntmps18
  go_wp2_with fail
  refine (new_any w).mono ?_
  rintro e w1 ⟨rfl, hdn, hb1, hs1⟩
  have hd1 := h.stays (T := fun _ => False) (Fr.ofBelow _ hb1) (fun _ _ q => q)
  clear hs1
  go_wp2_with fail
  refine (names_any hd1).mono ?_
  rintro e w2 ⟨nv, rfl, hrow, hb2⟩
  have hdn2 := hdn.stays (T := fun _ => False) (Fr.ofBelow _ hb2) (fun _ _ q => q)
  have hmid : Mid w w2 w.heap.size F keep nv 0 := by
    refine ⟨⟨_, ⟨_, _, hdn2⟩, fun j q => by have e : j = w.heap.size := q; omega, fun b hb q => ?_⟩, ownsRow_base_a hrow hb1.size, hb1.trans (hb2.mono hb1.size)⟩
    have e : b = w.heap.size := q
    have := (hrow.lt b hb).1
    have := hdn.lt w.heap.size rfl
    omega
  obtain ⟨nad, ncap, rfl, hnad⟩ := row_shape hrow
  obtain ⟨L, hL⟩ : ∃ L, F.length = L := ⟨_, rfl⟩
  have HL := Lib.hid hL
  clear hrow hb2 hdn2 hdn hd1
  rw [hL] at hmid hnad hlen ⊢
  clear hL
  go_wp2
  go_loopw [15] (fun i wr => ∃ k : Nat, k ≤ L ∧ i = .int .i64 k ∧ Mid w wr w.heap.size F keep (.slice nad L ncap) k) (fun i _ => L - (intOf i).toNat)
  case atStart => exact ⟨0, by omega, rfl, hmid⟩
  case round =>
    obtain ⟨k, hkl, rfl, hm⟩ := hrel
    by_cases hlt : k < L
    · have hkF : k < F.length := by rw [HL.out]; exact hlt
      obtain ⟨hlk, haf⟩ := hm.step h hkF
      obtain ⟨g, rfl⟩ := hnad k hlt
      have hmem : F[k] ∈ F := List.getElem_mem hkF
      have hd := h.stays (T := fun _ => False) (Fr.ofBelow _ hm.old) (fun _ _ q => q)
      have c0 := hd.c0
      have hcn : wr.cell? ⟨g, k, none⟩ = some (.string F[k].name) := by
        have hr := hm.row
        rw [HL.out] at hr
        rw [hr.cellAt k (by omega)]
        simp [hkF]
      obtain ⟨ad, ln, cap, hv0⟩ : ∃ ad ln cap, loc F[k].name = .slice ad ln cap := by
        obtain ⟨ad, cap, e⟩ := (h.row F[k] hmem).shape
        exact ⟨ad, _, cap, e⟩
      obtain ⟨nm, hnm⟩ : ∃ nm, F[k].name = nm := ⟨_, rfl⟩
      obtain ⟨s0, hs0⟩ : ∃ s0, F[k].safe = s0 := ⟨_, rfl⟩
      rw [hv0, hnm, hs0] at hlk haf
      rw [hnm] at hcn
      have k0 : (0 : Int) ≤ k := by omega
      have k1 : (k : Int) < L := by omega
      have k2 : (L : Int) ≤ 900000 := by omega
      clear hnm hs0 hv0 hmem hd
      by_cases hkk : k < keep.length
      · obtain ⟨b, o, rfl, hbl, hc⟩ := hkc k hkk
        have hck : wr.cell? ⟨b, o + k, none⟩ = some (.int .i64 keep[k]) := by rw [hm.old.cell (p := ⟨b, o + k, none⟩) hbl]; exact hc
        rw [show keep.getD k 0 = keep[k] by simp [List.getD, hkk]] at haf
        obtain ⟨x, hx⟩ : ∃ x, keep[k] = x := ⟨_, rfl⟩
        rw [hx] at haf hck
        have k3 : (k : Int) < keep.length := by omega
        have k4 : (keep.length : Int) ≤ 9223372036854775807 := by omega
        clear hx hc hkc
        go_wp2_with fail
        refine haf.mono ?_
        rintro e w3 ⟨v', m, rfl, ⟨ad', ln', cap', rfl⟩, hset⟩
        go_wp2_with fail
        refine hset.mono ?_
        rintro e w4 ⟨rfl, hm4⟩
        go_wp2
        go_roundw
        case rel => exact ⟨k + 1, by omega, by go_num, hm4⟩
        case measure => simp [intOf]; omega
      · rw [show keep.getD k 0 = 0 by simp [List.getD, Nat.le_of_not_lt hkk]] at haf
        have k3 : (keep.length : Int) ≤ k := by omega
        clear hkc
        go_wp2_with fail
        refine haf.mono ?_
        rintro e w3 ⟨v', m, rfl, ⟨ad', ln', cap', rfl⟩, hset⟩
        go_wp2_with fail
        refine hset.mono ?_
        rintro e w4 ⟨rfl, hm4⟩
        go_wp2
        go_roundw
        case rel => exact ⟨k + 1, by omega, by go_num, hm4⟩
        case measure => simp [intOf]; omega
    · have e : k = L := by omega
      subst e
      have hd := h.stays (T := fun _ => False) (Fr.ofBelow _ hm.old) (fun _ _ q => q)
      have c2 := hd.c2
      have f2 := frozen_blk hd.ob 2
      have k1 : ¬ ((k : Int) < k) := by omega
      go_wp2
      go_ret
      have hfr : Fr wr (wr.setCell ⟨A, 2, none⟩ (.bool true)) (fun j => j = A) := Fr.set (S := fun j => j = A) (Fr.refl wr _) (.inl rfl) _
      obtain ⟨T, hdr, hT, _⟩ := hm.dr
      rw [List.take_of_length_le (by rw [crash_len, HL.out]; exact Nat.le_refl _)] at hdr
      refine ⟨rfl, ⟨T, by rw [HL.out]; exact hdr.stays hfr (fun j q e => by have := hT j q; omega), hT⟩, hd.turn hfr (by rw [set_blk hd.ob]; rfl) h.int, (Fr.ofBelow _ hm.old).step hfr (fun j q => .inl q)⟩
end
end Go.Proofs.Ytoipmpaebngppaa
