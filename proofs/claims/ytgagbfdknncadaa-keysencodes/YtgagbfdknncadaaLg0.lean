/- The walk of the statement KeysEncodes at no list. -/
import Derived.Test.YtgagbfdknncadaaLf
import Derived.Deep.RegionHeldLaw
namespace Go.Proofs.Ytgagbfdknncadaa
open Go.RowKit

theorem news_first (w : World) (o : Obj) (x y z : Value) (t : TypeId) : ∀ j u, [x, y, z][j]? = some u → ((w.alloc (.cells #[x, y, z] t)).alloc o).cell? ((⟨w.heap.size, 0, none⟩ : Addr).add j) = some u := by
  intro j u hj
  have h := news_three w x y z t j u hj
  have e : (⟨w.heap.size, 0, none⟩ : Addr).add j = ⟨w.heap.size, 0 + j, none⟩ := by unfold Addr.add; split <;> simp_all
  rw [e] at h ⊢
  rw [World.cell?_alloc_past _ _ _ (by simp)]
  exact h

set_option maxHeartbeats 8000000 in
set_option maxRecDepth 100000 in
theorem encodes_nil (w : World) :
    Calls Try.prog 3 #[.slice none 0 0] w fun e w' => e = .returned (.bool true) ∧ Below w.heap.size w w' := by
  obtain ⟨iV, hi, hz0, hz1, hz2⟩ := info_parts infoV
  go_enter Try.func3, Try.ntmps3
  go_wp2_with (at_builtin; refine wpList_append_own_none rfl _ _ 22 rfl w.heap.size 24 iV 3 Try.underlying22 hi _ _ _ rfl (own_empty w _ (Nat.le_refl _)) rfl ?_; refine Hid.out ?_)
  refine Lib.hid ?_
  go_wp2_with (at_builtin; refine wpList_append_lies _ rfl _ _ 22 rfl w.heap.size 24 iV (.agg #[.int .i64 0, .int .i64 0, .string ⟨#[]⟩]) 3 32 Try.underlying22 hi hz0 hz1 hz2 rfl (by decide) _ _ _ rfl ((own_empty w w.heap.size (Nat.le_refl _)).alloc _) ⟨w.heap.size + 1, 0, none⟩ 1 1 [.int .i64 0, .int .i64 7, .string ⟨#[]⟩] rfl rfl (news_at3 _ _ _ _ _ _) (by intro u' hu'; simp at hu'; rcases hu' with rfl | rfl | rfl <;> rfl) (by decide) (by decide) (by decide) (al2 w E0 O7).size _ rfl ?_; intro g cap2 w2 hown2 hgrow2 _ _; refine Hid.out ?_)
  refine Lib.hid ?_
  have hb2 : Below w.heap.size w w2 := (al2 w E0 O7).grown hgrow2 (al2 w E0 O7).size (fun k hk => ((own_empty w w.heap.size (Nat.le_refl _)).lt k hk).1)
  obtain ⟨hI, hc2⟩ := li_own (L := [x7]) hown2 rfl rfl
  have x1 : (0 : Int) ≤ (cap2 : Int) := by omega
  have x3 : (1 : Int) ≤ (cap2 : Int) := by omega
  have hc3 : 1 ≤ cap2 := hc2
  go_wp2_with (go_at_call 9; refine (encode_any [] (some ⟨g, 0, none⟩) cap2 _ (Li.nil _ _) ⟨fun v hv => by simp at hv⟩).mono ?_; rintro e w3 ⟨rfl, hb3⟩; refine Hid.out ?_)
  refine Lib.hid ?_
  have hI3 := hI.on hb3
  have hw3 := hb2.trans (hb3.mono hb2.size)
  go_wp2_with (go_at_call 10; refine (refEncode_any [] none 0 _ (Li.nil _ _) ⟨fun v hv => by simp at hv⟩).mono ?_; rintro e w4 ⟨rfl, hb4⟩; refine Hid.out ?_)
  refine Lib.hid ?_
  have hI4 := hI3.on hb4
  have hw4 := hw3.trans (hb4.mono hw3.size)
  clear hI hI3 hown2 hgrow2
  have y1 : IntKind.i64.wrap 1 = 1 := by decide
  have y2 : IntKind.i64.wrap (0 + 1) = 1 := by decide
  have y3 : IntKind.i64.wrap (((0 : Nat) : Int) + 1) = 1 := by decide
  go_wp2
  go_region_held_law (fun _ => True) (trivial) (first
    | (refine step_none _ rfl (.tmp 44) (.tmp 45) 22 rfl w5.heap.size 24 iV 3 Try.underlying22 hi (.slice (some ⟨w5.heap.size, 0, none⟩) 0 0) 0 [] rfl (own_empty w5 w5.heap.size (Nat.le_refl _)) rfl ?_)
    | (refine step_none _ rfl (.tmp 44) (.tmp 45) 22 rfl w5.heap.size 24 iV 3 Try.underlying22 hi (.slice (some ⟨w5.heap.size, 0, none⟩) 0 0) 0 [] rfl ((own_empty w5 w5.heap.size (Nat.le_refl _)).alloc O7) rfl ?_)
    | (refine step_none _ rfl (.tmp 44) (.tmp 45) 22 rfl w5.heap.size 24 iV 3 Try.underlying22 hi (.slice (some ⟨w5.heap.size + 1, 0, none⟩) 0 0) 0 [] rfl (own_empty3 w5 O7) rfl ?_)
    | (refine step_lies _ rfl (.tmp 46) (.tmp 48) 22 rfl w5.heap.size 24 iV (.agg #[.int .i64 0, .int .i64 0, .string ⟨#[]⟩]) 3 32 Try.underlying22 hi hz0 hz1 hz2 rfl (by decide) (.slice (some ⟨w5.heap.size + 1, 0, none⟩) 0 0) 0 [] rfl (own_empty3 w5 O7) ⟨w5.heap.size, 0, none⟩ 1 1 [.int .i64 0, .int .i64 7, .string ⟨#[]⟩] rfl rfl (news_first w5 E0 _ _ _ _) (by intro u' hu'; simp at hu'; rcases hu' with rfl | rfl | rfl <;> rfl) (by decide) (by decide) (by decide) (al2 w5 O7 E0).size ?_; intro g7 cap7 w7 hown7 hgrow7; have hb7 : Below w5.heap.size w5 w7 := grown_own (al2 w5 O7 E0) hgrow7 (al2 w5 O7 E0).size (fun k hk => (((own_empty3 w5 O7) : World.ownsRow _ _ _ _ _ _ _).lt k hk).1); have hI7 := hI5.on hb7; have hL7 := (li_own (L := [x7]) hown7 rfl rfl).1)
    | (refine step_lies _ rfl (.tmp 46) (.tmp 48) 22 rfl w5.heap.size 24 iV (.agg #[.int .i64 0, .int .i64 0, .string ⟨#[]⟩]) 3 32 Try.underlying22 hi hz0 hz1 hz2 rfl (by decide) (.slice (some ⟨w5.heap.size, 0, none⟩) 0 0) 0 [] rfl ((own_empty w5 w5.heap.size (Nat.le_refl _)).alloc O7) ⟨w5.heap.size + 1, 0, none⟩ 1 1 [.int .i64 0, .int .i64 7, .string ⟨#[]⟩] rfl rfl (news_at3 w5 E0 _ _ _ _) (by intro u' hu'; simp at hu'; rcases hu' with rfl | rfl | rfl <;> rfl) (by decide) (by decide) (by decide) (al2 w5 E0 O7).size ?_; intro g7 cap7 w7 hown7 hgrow7; have hb7 : Below w5.heap.size w5 w7 := grown_own (al2 w5 E0 O7) hgrow7 (al2 w5 E0 O7).size (fun k hk => ((((own_empty w5 w5.heap.size (Nat.le_refl _)).alloc O7) : World.ownsRow _ _ _ _ _ _ _).lt k hk).1); have hI7 := hI5.on hb7; have hL7 := (li_own (L := [x7]) hown7 rfl rfl).1)
    | (go_at_call 11; refine (awake_any _).mono ?_; rintro e w5 ⟨rfl, hb5'⟩; have hb5 := undrew hb5'; have hI5 := hI4.on hb5; have hw5 := hw4.trans (hb5.mono hw4.size); clear hI4)
    | (go_at_call 12; refine (same_n [x7] 1 1 rfl rfl _ _ _ _ _ hI7 hL7 (by simp)).mono ?_; rintro e w8 ⟨rfl, hb8⟩; have hw8 := (hw5.trans (hb7.mono hw5.size)).trans (hb8.mono (Nat.le_trans hw5.size hb7.size))))
  all_goals go_wp2
  all_goals go_ret
  all_goals exact ⟨rfl, hw8⟩
end Go.Proofs.Ytgagbfdknncadaa
