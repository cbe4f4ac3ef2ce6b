/- The walk of the statement KeysEncodes. -/
import Derived.Test.YtgagbfdknncadaaLf
import Derived.Deep.RegionHeldLaw
namespace Go.Proofs.Ytgagbfdknncadaa
open Go.RowKit

set_option maxHeartbeats 8000000 in
set_option maxRecDepth 100000 in
theorem encodes_some (L : List V) (a : Addr) (cap : Nat) (w : World) (hL : Li L (some a) w) (fL : Fits L) (hreach : L.length * 32 ≤ 140737488351232) :
    Calls Try.prog 3 #[.slice (some a) L.length cap] w fun e w' => e = .returned (.bool true) ∧ Below w.heap.size w w' := by
  obtain ⟨iV, hi, hz0, hz1, hz2⟩ := info_parts infoV
  have hlz : L.length ≤ 4398046510976 := by omega
  go_enter Try.func3, Try.ntmps3
  go_wp2_with (at_builtin; refine wpList_append_own _ rfl _ _ 22 rfl w.heap.size 24 iV (.agg #[.int .i64 0, .int .i64 0, .string ⟨#[]⟩]) 3 32 Try.underlying22 hi hz0 hz1 hz2 rfl (by decide) _ _ _ rfl (own_empty w _ (Nat.le_refl _)) a L.length cap (flat L) rfl (flat_len L) (news_li (hL.on ((Below.refl _ w).alloc (Nat.le_refl _) _))) (flat_one L) (by unfold maxLen; omega) (by omega) (by simp) ?_; intro v1 w1 hown1 hgrow1 _; refine Hid.out ?_)
  refine Lib.hid ?_
  have hb1 : Below w.heap.size w w1 := ((Below.refl _ w).alloc (Nat.le_refl _) _).grown hgrow1 (by simp) (fun k hk => ((own_empty w w.heap.size (Nat.le_refl _)).lt k hk).1)
  go_wp2_with (at_builtin; refine wpList_append_lies _ rfl _ _ 22 rfl w.heap.size 24 iV (.agg #[.int .i64 0, .int .i64 0, .string ⟨#[]⟩]) 3 32 Try.underlying22 hi hz0 hz1 hz2 rfl (by decide) _ _ _ rfl (hown1.alloc _) ⟨w1.heap.size, 0, none⟩ 1 1 [.int .i64 0, .int .i64 7, .string ⟨#[]⟩] rfl rfl (news_three _ _ _ _ _) (by intro u' hu'; simp at hu'; rcases hu' with rfl | rfl | rfl <;> rfl) (by decide) (by unfold maxLen; omega) (by omega) (by have := hb1.size; simp; omega) _ rfl ?_; intro g cap2 w2 hown2 hgrow2 _ _; refine Hid.out ?_)
  refine Lib.hid ?_
  have hb2 : Below w.heap.size w w2 := (hb1.alloc hb1.size _).grown hgrow2 (by have := hb1.size; simp; omega) (fun k hk => (hown1.lt k hk).1)
  obtain ⟨hI, hc2⟩ := li_own (L := L ++ [x7]) hown2 (by simp) (by rw [flat_snoc]; simp)
  have hn2 : 0 + L.length + 1 = L.length + 1 := by omega
  rw [hn2] at hc2
  have x1 : (L.length : Int) ≤ (cap2 : Int) := by omega
  go_wp2_with (go_at_call 9; refine (encode_any L (some ⟨g, 0, none⟩) cap2 _ (li_init hI) fL).mono ?_; rintro e w3 ⟨rfl, hb3⟩; refine Hid.out ?_)
  refine Lib.hid ?_
  have hI3 := hI.on hb3
  have hw3 := hb2.trans (hb3.mono hb2.size)
  go_wp2_with (go_at_call 10; refine (refEncode_any L (some a) cap _ (hL.on hw3) fL).mono ?_; rintro e w4 ⟨rfl, hb4⟩; refine Hid.out ?_)
  refine Lib.hid ?_
  have hI4 := hI3.on hb4
  have hw4 := hw3.trans (hb4.mono hw3.size)
  have hL4 := hL.on hw4
  clear hI hI3 hown1 hgrow1 hown2 hgrow2
  have x2 : (L.length : Int) + 1 ≤ (cap2 : Int) := by omega
  have y2 := wrap_len L.length hlz
  have y1 := wrap_len' L.length hlz
  have y3 : ((L.length : Int) + 1).toNat = L.length + 1 := by omega
  go_wp2
  go_region_held_law (fun _ => True) (trivial) (first
    | (refine step_own _ rfl (.tmp 44) (.tmp 45) 22 rfl w5.heap.size 24 iV (.agg #[.int .i64 0, .int .i64 0, .string ⟨#[]⟩]) 3 32 Try.underlying22 hi hz0 hz1 hz2 rfl (by decide) (.slice (some ⟨w5.heap.size, 0, none⟩) 0 0) 0 [] rfl (own_empty w5 w5.heap.size (Nat.le_refl _)) a L.length cap (flat L) rfl (flat_len L) (news_li (hL5.on (al1 w5 E0))) (flat_one L) (by unfold maxLen; omega) (by omega) (al1 w5 E0).size ?_; intro v6 w6 hown6 hgrow6; have hb6 : Below w5.heap.size w5 w6 := grown_own (al1 w5 E0) hgrow6 (al1 w5 E0).size (fun k hk => (((own_empty w5 w5.heap.size (Nat.le_refl _)) : World.ownsRow _ _ _ _ _ _ _).lt k hk).1))
    | (refine step_own _ rfl (.tmp 44) (.tmp 45) 22 rfl w5.heap.size 24 iV (.agg #[.int .i64 0, .int .i64 0, .string ⟨#[]⟩]) 3 32 Try.underlying22 hi hz0 hz1 hz2 rfl (by decide) (.slice (some ⟨w5.heap.size, 0, none⟩) 0 0) 0 [] rfl ((own_empty w5 w5.heap.size (Nat.le_refl _)).alloc O7) a L.length cap (flat L) rfl (flat_len L) (news_li (hL5.on (al2 w5 E0 O7))) (flat_one L) (by unfold maxLen; omega) (by omega) (al2 w5 E0 O7).size ?_; intro v6 w6 hown6 hgrow6; have hb6 : Below w5.heap.size w5 w6 := grown_own (al2 w5 E0 O7) hgrow6 (al2 w5 E0 O7).size (fun k hk => ((((own_empty w5 w5.heap.size (Nat.le_refl _)).alloc O7) : World.ownsRow _ _ _ _ _ _ _).lt k hk).1); have h7 := o7_two hgrow6 (by intro h; simp [Value.ownBlock] at h))
    | (refine step_own _ rfl (.tmp 44) (.tmp 45) 22 rfl w5.heap.size 24 iV (.agg #[.int .i64 0, .int .i64 0, .string ⟨#[]⟩]) 3 32 Try.underlying22 hi hz0 hz1 hz2 rfl (by decide) (.slice (some ⟨w5.heap.size + 1, 0, none⟩) 0 0) 0 [] rfl (own_empty3 w5 O7) a L.length cap (flat L) rfl (flat_len L) (news_li (hL5.on (al2 w5 O7 E0))) (flat_one L) (by unfold maxLen; omega) (by omega) (al2 w5 O7 E0).size ?_; intro v6 w6 hown6 hgrow6; have hb6 : Below w5.heap.size w5 w6 := grown_own (al2 w5 O7 E0) hgrow6 (al2 w5 O7 E0).size (fun k hk => (((own_empty3 w5 O7) : World.ownsRow _ _ _ _ _ _ _).lt k hk).1); have h7 := o7_three hgrow6 (by intro h; simp [Value.ownBlock] at h))
    | (refine step_lies _ rfl (.tmp 46) (.tmp 48) 22 rfl w5.heap.size 24 iV (.agg #[.int .i64 0, .int .i64 0, .string ⟨#[]⟩]) 3 32 Try.underlying22 hi hz0 hz1 hz2 rfl (by decide) v6 _ _ rfl hown6 ⟨w5.heap.size + 1, 0, none⟩ 1 1 [.int .i64 0, .int .i64 7, .string ⟨#[]⟩] rfl rfl (World.news_of_block h7) (by intro u' hu'; simp at hu'; rcases hu' with rfl | rfl | rfl <;> rfl) (by decide) (by unfold maxLen; omega) (by omega) hb6.size ?_; intro g7 cap7 w7 hown7 hgrow7; have hb7 : Below w5.heap.size w5 w7 := grown_own hb6 hgrow7 hb6.size (fun k hk => (hown6.lt k hk).1); have hI7 := hI5.on hb7; have hL7 := (li_own (L := L ++ [x7]) hown7 (by simp) (by rw [flat_snoc]; simp)).1)
    | (refine step_lies _ rfl (.tmp 46) (.tmp 48) 22 rfl w5.heap.size 24 iV (.agg #[.int .i64 0, .int .i64 0, .string ⟨#[]⟩]) 3 32 Try.underlying22 hi hz0 hz1 hz2 rfl (by decide) v6 _ _ rfl hown6 ⟨w5.heap.size, 0, none⟩ 1 1 [.int .i64 0, .int .i64 7, .string ⟨#[]⟩] rfl rfl (World.news_of_block h7) (by intro u' hu'; simp at hu'; rcases hu' with rfl | rfl | rfl <;> rfl) (by decide) (by unfold maxLen; omega) (by omega) hb6.size ?_; intro g7 cap7 w7 hown7 hgrow7; have hb7 : Below w5.heap.size w5 w7 := grown_own hb6 hgrow7 hb6.size (fun k hk => (hown6.lt k hk).1); have hI7 := hI5.on hb7; have hL7 := (li_own (L := L ++ [x7]) hown7 (by simp) (by rw [flat_snoc]; simp)).1)
    | (refine step_lies _ rfl (.tmp 46) (.tmp 48) 22 rfl w5.heap.size 24 iV (.agg #[.int .i64 0, .int .i64 0, .string ⟨#[]⟩]) 3 32 Try.underlying22 hi hz0 hz1 hz2 rfl (by decide) v6 _ _ rfl (hown6.alloc O7) ⟨w6.heap.size, 0, none⟩ 1 1 [.int .i64 0, .int .i64 7, .string ⟨#[]⟩] rfl rfl (news_three _ _ _ _ _) (by intro u' hu'; simp at hu'; rcases hu' with rfl | rfl | rfl <;> rfl) (by decide) (by unfold maxLen; omega) (by omega) (hb6.alloc hb6.size O7).size ?_; intro g7 cap7 w7 hown7 hgrow7; have hb7 : Below w5.heap.size w5 w7 := grown_own (hb6.alloc hb6.size O7) hgrow7 (hb6.alloc hb6.size O7).size (fun k hk => (hown6.lt k hk).1); have hI7 := hI5.on hb7; have hL7 := (li_own (L := L ++ [x7]) hown7 (by simp) (by rw [flat_snoc]; simp)).1)
    | (go_at_call 11; refine (awake_any _).mono ?_; rintro e w5 ⟨rfl, hb5'⟩; have hb5 := undrew hb5'; have hI5 := hI4.on hb5; have hL5 := hL4.on hb5; have hw5 := hw4.trans (hb5.mono hw4.size); clear hI4 hL4)
    | (go_at_call 12; refine (same_n (L ++ [x7]) _ _ (by simp) (by simp) _ _ _ _ _ hI7 hL7 (by simp; omega)).mono ?_; rintro e w8 ⟨rfl, hb8⟩; have hw8 := (hw5.trans (hb7.mono hw5.size)).trans (hb8.mono (Nat.le_trans hw5.size hb7.size))))
  all_goals go_wp2
  all_goals go_ret
  all_goals exact ⟨rfl, hw8⟩
end Go.Proofs.Ytgagbfdknncadaa
