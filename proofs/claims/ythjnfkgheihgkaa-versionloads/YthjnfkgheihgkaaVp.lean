/- New; a store that is none; the walks of awake and of VersionNil. -/
import Derived.Test.YthjnfkgheihgkaaVo
namespace Go.Proofs.Ythjnfkgheihgkaa
open Go.RowKit

section
variable {w w' W V X : World} {A : Nat} {S T : Nat → Prop} {R : List Rw} {k : ByteArray} {v : Ve}
theorem put_b (h : Sb w A S R) (k : ByteArray) (v : Ve) (hfew : R.length < 800000) (hless : ∀ r ∈ R, r.list.length < 800000) : Calls Try.prog 10 #[.pointer (some ⟨A, 0, none⟩), .string k, veV v] w fun e w' => PutAns w A S R k v e w' := by
  obtain ⟨G, rv, h, rfl⟩ := h
  rw [List.length_map] at hfew
  exact put_any h k v hfew (fun g hg => hless _ (List.mem_map_of_mem hg))
theorem span_b (h : Sb w A S R) (x y : ByteArray) (t : Int) : Calls Try.prog 12 #[.pointer (some ⟨A, 0, none⟩), .agg #[.string x, .string y], .int .i64 t] w fun e w' => SpanAns w (span R x y t) e w' := by
  obtain ⟨G, rv, h, rfl⟩ := h
  exact span_any h x y t
theorem newest_b (h : Sb w A S R) (k : ByteArray) : Calls Try.prog 15 #[.pointer (some ⟨A, 0, none⟩), .string k] w fun e w' => e = .returned (.int .i64 (newR R k)) ∧ Below w.heap.size w w' := by
  obtain ⟨G, rv, h, rfl⟩ := h
  exact newest_p h k
theorem rows_b (h : Sb w A S R) : Calls Try.prog 17 #[.pointer (some ⟨A, 0, none⟩)] w fun e w' => RowsAns w R e w' := by
  obtain ⟨G, rv, h, rfl⟩ := h
  exact rows_any h
theorem new_any (w : World) : Calls Try.prog 9 #[] w fun e w' => e = .returned (.pointer (some ⟨w.heap.size, 0, none⟩)) ∧ Sb w' w.heap.size (fun k => k = w.heap.size) [] ∧ Below w.heap.size w w' := by
  have hP : Sb (w.alloc (.cells #[.slice none 0 0] 63)) w.heap.size (fun k => k = w.heap.size) [] := by
    refine ⟨[], .slice none 0 0, ⟨heap_alloc_new w _, World.ownsRow_nil _ _ _ _, fun g hg => (by cases hg), fun g hg => (by cases hg), List.Pairwise.nil, rfl, fun k e => (by cases e), fun g hg => (by cases hg), fun g hg => (by cases hg), fun k e => ?_, Nat.zero_le _, fun g hg => (by cases hg), ⟨List.Pairwise.nil, fun r hr => by cases hr⟩⟩, rfl⟩
    rw [show k = w.heap.size from e]
    simp
  have HP := Lib.hid hP
  clear hP
  go_enter Try.func9, Try.ntmps9
  go_wp2
  go_ret
  exact ⟨rfl, HP.out, (Below.refl _ _).alloc (Nat.le_refl _) _⟩
theorem put_nil (w : World) (k : ByteArray) (v : Ve) : Calls Try.prog 10 #[.pointer none, .string k, veV v] w fun e w' => e = .returned (.int .i64 2) ∧ Below w.heap.size w w' := by
  go_enter Try.func10, Try.ntmps10
  go_wp2
  go_ret
  exact ⟨rfl, (Below.refl _ _).alloc (Nat.le_refl _) _⟩
theorem span_nil (w : World) (x y : ByteArray) (t : Int) : Calls Try.prog 12 #[.pointer none, .agg #[.string x, .string y], .int .i64 t] w fun e w' => e = .returned (.slice none 0 0) ∧ Below w.heap.size w w' := by
  go_enter Try.func12, Try.ntmps12
  go_wp2
  refine bodyPost_ret (v := .slice none 0 0) (by simp [results, Try.results12, go_sem]) rfl ?_
  exact ⟨rfl, (Below.refl _ _).alloc (Nat.le_refl _) _⟩
theorem newest_nil (w : World) (k : ByteArray) : Calls Try.prog 15 #[.pointer none, .string k] w fun e w' => e = .returned (.int .i64 0) ∧ w' = w := by
  go_enter Try.func15, Try.ntmps15
  go_wp2
  go_ret
  exact ⟨rfl, rfl⟩
theorem rows_nil (w : World) : Calls Try.prog 17 #[.pointer none] w fun e w' => e = .returned (.slice none 0 0) ∧ w' = w := by
  go_enter Try.func17, Try.ntmps17
  go_wp2
  refine bodyPost_ret (v := .slice none 0 0) (by simp [results, Try.results17, go_sem]) rfl ?_
  exact ⟨rfl, rfl⟩
abbrev kA : ByteArray := ⟨#[97]⟩
abbrev kB : ByteArray := ⟨#[98]⟩
abbrev u1 : Ve := ⟨3, ⟨#[120]⟩, false⟩
abbrev u2 : Ve := ⟨5, noT, true⟩
abbrev u3 : Ve := ⟨5, ⟨#[121]⟩, false⟩
theorem aw_put1 : putE [] kA u1 = 0 ∧ putR [] kA u1 = [⟨kA, [u1]⟩] := ⟨by kernel_rfl, by kernel_rfl⟩
theorem aw_put2 : putE [⟨kA, [u1]⟩] kA u2 = 0 ∧ putR [⟨kA, [u1]⟩] kA u2 = [⟨kA, [u1, u2]⟩] := ⟨by kernel_rfl, by kernel_rfl⟩
theorem aw_put3 : putE [⟨kA, [u1, u2]⟩] kA u3 = 120 ∧ putR [⟨kA, [u1, u2]⟩] kA u3 = [⟨kA, [u1, u2]⟩] := ⟨by kernel_rfl, by kernel_rfl⟩
theorem aw_span1 : span [⟨kA, [u1, u2]⟩] kA kB 4 = [⟨kA, 3, ⟨#[120]⟩⟩] := by kernel_rfl
theorem aw_span2 : span [⟨kA, [u1, u2]⟩] kA kB 5 = [] := by kernel_rfl
theorem aw_new : newR [⟨kA, [u1, u2]⟩] kA = 5 := by kernel_rfl
theorem Sb.step {S' : Nat → Prop} (hlo : ∀ k, S k → w.heap.size ≤ k) (hb : Below w.heap.size w V) (hs : ∀ j, S' j → Gro S V W j) (hf : Fr V W S) : (∀ k, S' k → w.heap.size ≤ k) ∧ Below w.heap.size w W :=
  ⟨fun k q => gro_fresh hlo hb.size k (hs k q), fr_below hlo hb hf⟩
set_option maxHeartbeats 4000000 in
set_option maxRecDepth 100000 in
theorem awake_any (w : World) : Calls Try.prog 8 #[] w fun e w' => e = .returned (.bool true) ∧ Below w.heap.size w w' := by
  have hn := new_any w
  obtain ⟨p1, p2⟩ := aw_put1
  obtain ⟨p3, p4⟩ := aw_put2
  obtain ⟨p5, p6⟩ := aw_put3
  have q1 := aw_span1
  have q2 := aw_span2
  have q3 := aw_new
  obtain ⟨R2, hR2⟩ : ∃ R2 : List Rw, [⟨kA, [u1, u2]⟩] = R2 := ⟨_, rfl⟩
  have hl2 : R2.length < 800000 ∧ ∀ r ∈ R2, r.list.length < 800000 := by rw [← hR2]; exact ⟨by decide, fun r hr => by rw [List.mem_singleton.1 hr]; decide⟩
  rw [hR2] at p4 p5 p6 q1 q2 q3
  have hput1 : ∀ V A S, Sb V A S [] → Hid (Calls Try.prog 10 #[.pointer (some ⟨A, 0, none⟩), .string kA, .agg #[.int .i64 3, .string ⟨#[120]⟩, .bool false]] V fun e w' => e = .returned (.int .i64 0) ∧ ∃ S', Sb w' A S' [⟨kA, [u1]⟩] ∧ (∀ j, S' j → Gro S V w' j) ∧ Fr V w' S) := fun V A S h => by
    refine (put_b h kA u1 (by decide) (fun r hr => by cases hr)).mono ?_
    rintro e w' ⟨rfl, q⟩
    rw [p1, p2] at *
    exact ⟨rfl, q⟩
  have hput2 : ∀ V A S, Sb V A S [⟨kA, [u1]⟩] → Hid (Calls Try.prog 10 #[.pointer (some ⟨A, 0, none⟩), .string kA, .agg #[.int .i64 5, .string noT, .bool true]] V fun e w' => e = .returned (.int .i64 0) ∧ ∃ S', Sb w' A S' R2 ∧ (∀ j, S' j → Gro S V w' j) ∧ Fr V w' S) := fun V A S h => by
    refine (put_b h kA u2 (by decide) (fun r hr => by rw [List.mem_singleton.1 hr]; decide)).mono ?_
    rintro e w' ⟨rfl, q⟩
    rw [p3, p4] at *
    exact ⟨rfl, q⟩
  have hput3 : ∀ V A S, Sb V A S R2 → Hid (Calls Try.prog 10 #[.pointer (some ⟨A, 0, none⟩), .string kA, .agg #[.int .i64 5, .string ⟨#[121]⟩, .bool false]] V fun e w' => e = .returned (.int .i64 120) ∧ ∃ S', Sb w' A S' R2 ∧ (∀ j, S' j → Gro S V w' j) ∧ Fr V w' S) := fun V A S h => by
    refine (put_b h kA u3 hl2.1 hl2.2).mono ?_
    rintro e w' ⟨rfl, q⟩
    rw [p5, p6] at *
    exact ⟨rfl, q⟩
  have hsp1 : ∀ V A S, Sb V A S R2 → Hid (Calls Try.prog 12 #[.pointer (some ⟨A, 0, none⟩), .agg #[.string kA, .string kB], .int .i64 4] V fun e w' => ∃ ad cap, e = .returned (.slice ad 1 cap) ∧ w'.ownsRow V.heap.size 44 3 (.slice ad 1 cap) 1 (hiC [⟨kA, 3, ⟨#[120]⟩⟩]) ∧ Below V.heap.size V w') := fun V A S h => by
    refine (span_b h kA kB 4).mono ?_
    rw [q1]
    rintro e w' ⟨ad, cap, rfl, z1, z2⟩
    exact ⟨ad, cap, rfl, z1, z2⟩
  have hsp2 : ∀ V A S, Sb V A S R2 → Hid (Calls Try.prog 12 #[.pointer (some ⟨A, 0, none⟩), .agg #[.string kA, .string kB], .int .i64 5] V fun e w' => ∃ ad cap, e = .returned (.slice ad 0 cap) ∧ Below V.heap.size V w') := fun V A S h => by
    refine (span_b h kA kB 5).mono ?_
    rw [q2]
    rintro e w' ⟨ad, cap, rfl, z1, z2⟩
    exact ⟨ad, cap, rfl, z2⟩
  have hnw : ∀ V A S, Sb V A S R2 → Hid (Calls Try.prog 15 #[.pointer (some ⟨A, 0, none⟩), .string kA] V fun e w' => e = .returned (.int .i64 5) ∧ Below V.heap.size V w') := fun V A S h => by
    refine (newest_b h kA).mono ?_
    rw [q3]
    rintro e w' q
    exact q
  clear p1 p2 p3 p4 p5 p6 q1 q2 q3 hR2 hl2
  go_enter Try.func8, Try.ntmps8
  go_wp2_with fail
  refine hn.mono ?_
  rintro e w1 ⟨rfl, h1, hb1⟩
  have lo1 : ∀ k, (fun k => k = w.heap.size) k → w.heap.size ≤ k := fun k e => by have e' : k = w.heap.size := e; omega
  obtain ⟨A, hA⟩ : ∃ A, w.heap.size = A := ⟨_, rfl⟩
  rw [hA] at h1 lo1 ⊢
  have c1 := (hput1 _ _ _ h1).out
  clear hn
  go_wp2_with fail
  refine c1.mono ?_
  rintro e w2 ⟨rfl, S2, h2, g2, f2⟩
  obtain ⟨lo2, hb2⟩ := Sb.step (S := fun k => k = A) (w := w) (fun k e => by have e' : k = A := e; omega) hb1 g2 f2
  have c2 := (hput2 _ _ _ h2).out
  clear c1 h1 hput1 g2 f2
  go_wp2_with fail
  refine c2.mono ?_
  rintro e w3 ⟨rfl, S3, h3, g3, f3⟩
  obtain ⟨lo3, hb3⟩ := Sb.step lo2 hb2 g3 f3
  have c3 := (hput3 _ _ _ h3).out
  clear c2 h2 hput2 g3 f3
  go_wp2_with fail
  refine c3.mono ?_
  rintro e w4 ⟨rfl, S4, h4, g4, f4⟩
  obtain ⟨lo4, hb4⟩ := Sb.step lo3 hb3 g4 f4
  have c4 := (hsp1 _ _ _ h4).out
  clear c3 h3 hput3 g4 f4
  go_wp2_with fail
  refine c4.mono ?_
  rintro e w5 ⟨ad, cap, rfl, o5, b5⟩
  have hb5 := hb4.trans (b5.mono hb4.size)
  have h5 := h4.on b5
  obtain ⟨g, cap', e5⟩ : ∃ g cap', (Value.slice ad 1 cap) = .slice (some ⟨g, 0, none⟩) 1 cap' ∧ 1 ≤ cap' ∧ cap' ≤ maxLen := by
    rcases o5.2 with ⟨_, h0⟩ | ⟨g, cap', cur, hv, _, _, z1, z2, _⟩
    · omega
    · exact ⟨g, cap', hv, z1, z2⟩
  obtain ⟨e5, z1, z2⟩ := e5
  cases e5
  have cl := fun j (hj : j < 3) => o5.cellAt j (show j < 1 * 3 by omega)
  have k0 : w5.cell? ⟨g, 0, none⟩ = some (.string kA) := cl 0 (by omega)
  have k1 : w5.cell? ⟨g, 1, none⟩ = some (.int .i64 3) := cl 1 (by omega)
  have k2 : w5.cell? ⟨g, 2, none⟩ = some (.string ⟨#[120]⟩) := cl 2 (by omega)
  have hmc : (cap : Int) ≤ 9223372036854775807 := by unfold maxLen at z2; omega
  have c5 := (hsp2 _ _ _ h5).out
  have HB5 := Lib.hid hb5
  have HH5 := Lib.hid h5
  clear c4 h4 hsp1 hb5 h5 hb4 hb3 hb2 hb1 lo1 lo2 lo3 lo4 cl o5 hsp2 z1 z2 b5
  go_wp2_with fail
  refine c5.mono ?_
  rintro e w6 ⟨ad6, cap6, rfl, b6⟩
  have c6 := (hnw _ _ _ (HH5.out.on b6)).out
  have HB6 := Lib.hid (HB5.out.trans (b6.mono HB5.out.size))
  clear c5 b6 k0 k1 k2
  go_wp2_with fail
  refine c6.mono ?_
  rintro e w7 ⟨rfl, b7⟩
  have HB7 := Lib.hid (HB6.out.trans (b7.mono HB6.out.size))
  clear c6 b7
  go_wp2
  go_ret
  exact ⟨rfl, HB7.out⟩
end
end Go.Proofs.Ythjnfkgheihgkaa
