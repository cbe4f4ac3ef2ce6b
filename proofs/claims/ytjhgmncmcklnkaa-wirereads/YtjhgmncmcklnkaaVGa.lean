/- The walk of awake. -/
import Derived.Test.YtjhgmncmcklnkaaVNb
namespace Go.Proofs.Ytjhgmncmcklnkaa
open Go.RowKit

abbrev x0 : List At := [.num 2, .num 1, .num 0, .num 3, .num 0, .num 0, .num 0, .yes true, .list [], .text ⟨#[]⟩]
abbrev v0L : List Value := [.int .i64 2, .int .i64 1, .int .i64 0, .int .i64 3, .int .i64 0, .int .i64 0, .int .i64 0, .bool true, .slice none 0 0, .string ⟨#[]⟩]
theorem x0_has : hasS msgT x0 := by
  simp [hasS, Ty.has, I64, hasL]
theorem x0_vals (w : World) : valsS w NoS x0 v0L := by
  simp only [valsS, At.lies, and_true, true_and]
  exact ⟨none, 0, rfl, Nat.le_refl _, Nat.zero_le _, .inl (by trivial)⟩
theorem num_small {n : Int} (h0 : 0 ≤ n) (h : n < 64) : num n = [UInt8.ofNat (2 * n.toNat)] := by
  unfold num grp zig
  rw [if_neg (by omega), show (2 * n).toNat = 2 * n.toNat by omega]
  exact grpN_last 9 _ (by omega)
theorem x0_enc : encS x0 = [4, 2, 0, 6, 0, 0, 0, 2, 0, 0] := by
  simp only [encS, At.enc, encL, yesN, if_true, List.append_nil]
  rw [num_small (n := 2) (by omega) (by omega), num_small (n := 1) (by omega) (by omega), num_small (n := 0) (by omega) (by omega), num_small (n := 3) (by omega) (by omega)]
  simp only [List.length_nil]
  rw [show ((0 : Nat) : Int) = 0 from rfl, num_small (n := 0) (by omega) (by omega)]
  rfl
theorem x0_txt : txt (encS x0) = ⟨#[4, 2, 0, 6, 0, 0, 0, 2, 0, 0]⟩ := by
  rw [x0_enc]
  rfl
abbrev E0 : ByteArray := ⟨#[4, 2, 0, 6, 0, 0, 0, 2, 0, 0]⟩
/-- What was put is got. -/
theorem GetAns.yes {w w' : World} {t : List Ty} {x : List At} {e : Ending} (hx : hasS t x) (h : GetAns w w' t (txt (encS x)) e) : ∃ vs : Array Value, e = .returned (.tuple #[.agg vs, .int .i64 0]) ∧ vs.size = t.length ∧ Below w.heap.size w w' ∧ valsS w' (fun k => k < w.heap.size) x vs.toList := by
  obtain ⟨vs, c, h1, h2, _, h4, h5⟩ := h
  rcases h5 with ⟨rfl, y, y1, y2, y3⟩ | ⟨_, _, q⟩
  · rw [txt_list] at y2
    obtain ⟨e1, _⟩ := preS t x y [] [] hx y1 (by simpa using y2)
    subst e1
    exact ⟨vs, h1, h2, h4, y3⟩
  · exact absurd (txt_list _) (q x hx)
/-- What has more behind it is nobody's. -/
theorem GetAns.more {w w' : World} {t : List Ty} {x : List At} {e : Ending} {m : List UInt8} (hm : m ≠ []) (hx : hasS t x) (h : GetAns w w' t (txt (encS x ++ m)) e) : e = .returned (.tuple #[.agg (zvS t), .int .i64 100]) ∧ Below w.heap.size w w' := by
  obtain ⟨vs, c, h1, h2, _, h4, h5⟩ := h
  rcases h5 with ⟨rfl, y, y1, y2, y3⟩ | ⟨rfl, rfl, q⟩
  · rw [txt_list] at y2
    obtain ⟨_, e2⟩ := preS t x y m [] hx y1 (by simpa using y2)
    exact absurd e2 hm
  · exact ⟨h1, h4⟩
set_option maxHeartbeats 8000000 in
set_option maxRecDepth 100000 in
theorem awake_any (w : World) : Calls Try.prog 9 #[] w fun e w' => e = .returned (.bool true) ∧ Below w.heap.size w w' := by
  have hput := Put_msg w x0_has (x0_vals w) (by rw [x0_enc]; simp)
  rw [x0_txt] at hput
  have hget1 : ∀ X, Calls Try.prog 11 #[.string E0] X fun e X' => (∃ ad cp, e = .returned (.tuple #[.agg #[.int .i64 2, .int .i64 1, .int .i64 0, .int .i64 3, .int .i64 0, .int .i64 0, .int .i64 0, .bool true, .slice ad 0 cp, .string ⟨#[]⟩], .int .i64 0])) ∧ Below X.heap.size X X' := by
    intro X
    have h := Get_msg X E0 (by decide)
    rw [show E0 = txt (encS x0) from x0_txt.symm] at h ⊢
    refine h.mono ?_
    intro e X' q
    obtain ⟨vs, rfl, h2, h3, h4⟩ := q.yes x0_has
    obtain ⟨a0, a1, a2, a3, a4, a5, a6, a7, a8, a9, rfl⟩ := arr10 h2
    simp only [valsS, At.lies, and_true] at h4
    obtain ⟨rfl, rfl, rfl, rfl, rfl, rfl, rfl, rfl, ⟨ad, cp, rfl, _⟩, rfl⟩ := h4
    exact ⟨⟨ad, cp, rfl⟩, h3⟩
  have e1 : E0 ++ ⟨#[0]⟩ = txt (encS x0 ++ [0]) := by
    rw [x0_enc]
    rfl
  have hget2 : ∀ X, Calls Try.prog 11 #[.string (E0 ++ ⟨#[0]⟩)] X fun e X' => e = .returned (.tuple #[.agg #[.int .i64 0, .int .i64 0, .int .i64 0, .int .i64 0, .int .i64 0, .int .i64 0, .int .i64 0, .bool false, .slice none 0 0, .string ⟨#[]⟩], .int .i64 100]) ∧ Below X.heap.size X X' := by
    intro X
    have h := Get_msg X (E0 ++ ⟨#[0]⟩) (by decide)
    rw [e1] at h ⊢
    exact h.mono (fun e X' q => q.more (by simp) x0_has)
  clear e1
  go_enter Try.func9, Try.ntmps9
  go_wp2_with (go_at_call 10; refine hput.mono ?_; rintro e w1 ⟨rfl, hb1⟩; refine Hid.out ?_)
  refine Lib.hid ?_
  go_wp2_with (go_at_call 11; refine (hget1 _).mono ?_; rintro e w2 ⟨⟨ad, cp, rfl⟩, hb2⟩; refine Hid.out ?_)
  refine Lib.hid ?_
  go_wp2_with (go_at_call 11; refine (hget2 _).mono ?_; rintro e w3 ⟨rfl, hb3⟩; refine Hid.out ?_)
  refine Lib.hid ?_
  have hbk := heap_alloc_new w2 (.cells #[.int .i64 2, .int .i64 1, .int .i64 0, .int .i64 3, .int .i64 0, .int .i64 0, .int .i64 0, .bool true, .slice ad 0 cp, .string ⟨#[]⟩] 24)
  have c3 : (w3.alloc (.cells #[.int .i64 0, .int .i64 0, .int .i64 0, .int .i64 0, .int .i64 0, .int .i64 0, .int .i64 0, .bool false, .slice none 0 0, .string ⟨#[]⟩] 24)).cell? ⟨w2.heap.size, 3, none⟩ = some (.int .i64 3) := cell_on (bel_alloc (Below.refl _ _) _) (cell_on hb3 (cell_blk hbk 3))
  have c7 : (w3.alloc (.cells #[.int .i64 0, .int .i64 0, .int .i64 0, .int .i64 0, .int .i64 0, .int .i64 0, .int .i64 0, .bool false, .slice none 0 0, .string ⟨#[]⟩] 24)).cell? ⟨w2.heap.size, 7, none⟩ = some (.bool true) := cell_on (bel_alloc (Below.refl _ _) _) (cell_on hb3 (cell_blk hbk 7))
  have HB : Hid (Below w.heap.size w w3) := bel_trans (bel_alloc (bel_trans hb1 hb2) _) hb3
  clear hb1 hb2 hb3 hbk hput hget1 hget2
  go_wp2
  go_ret
  exact ⟨rfl, bel_alloc HB.out _⟩
end Go.Proofs.Ytjhgmncmcklnkaa
