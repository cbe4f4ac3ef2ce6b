/- The walks of slices.Clone. -/
import Derived.Test.YtfokgalgdlajlaaCa
namespace Go.Proofs.Ytfokgalgdlajlaa
open Go.RowKit
set_option maxHeartbeats 1000000 in
set_option maxRecDepth 100000 in
theorem cloneW_any {w : World} {l : List Wr} {v : Value} (hl : Lr (fun _ x cs => cs = wrL x) 3 w l v) (hz : l.length ≤ 900000) : Calls Try.prog 37 #[v] w fun e w' => ∃ ad cap, e = .returned (.slice ad l.length cap) ∧ w'.ownsRow w.heap.size 69 3 (.slice ad l.length cap) l.length (l.flatMap wrL) ∧ Below w.heap.size w w' := by
  have hl' := hl
  obtain ⟨ad, cap, rfl, h0, h1, h2, _⟩ := hl'
  cases ad with
  | none =>
    have e0 : l = [] := by
      rcases Lr.src (f := wrL) wrL_len hl with ⟨_, q, _⟩ | ⟨a, q, _⟩
      · exact List.eq_nil_of_length_eq_zero q
      · cases q
    subst e0
    have hc0 := h0 rfl
    subst hc0
    clear h0 h1 h2 hl
    have hq : ∀ w, (binOp BinOp.eql 23 (.slice none 0 0) (.slice none 0 0)).run Try.prog w = .ok (.bool true) w := fun _ => by kernel_rfl
    go_enter Try.func37, Try.ntmps37
    go_wp2
    refine bodyPost_ret (v := .slice none 0 0) (by simp [results, Try.results37, go_sem]) rfl ?_
    exact ⟨none, 0, rfl, World.ownsRow_nil _ _ _ _, Below.refl _ _⟩
  | some a =>
    have hal : Below w.heap.size w (w.alloc (.cells #[] 69)) := (Below.refl _ w).alloc (Nat.le_refl _) _
    have hemp : (w.alloc (.cells #[] 69)).ownsRow w.heap.size 69 3 (.slice (some ⟨w.heap.size, 0, none⟩) 0 0) 0 [] := ⟨rfl, .inr ⟨w.heap.size, 0, #[], rfl, Nat.le_refl _, heap_alloc_new w _, Nat.le_refl _, Nat.zero_le _, rfl, rfl⟩⟩
    obtain ⟨ad', cap', w', hrun, ho, hg, _⟩ := run_wr hemp hal.size (Lr.src (f := wrL) wrL_len (hl.on (fun _ _ _ _ _ h => h) hal)) (wr_one l) (by omega)
    rw [Nat.zero_add, List.nil_append] at ho
    rw [Nat.zero_add] at hrun
    have hb := hal.grown hg hal.size (fun k hk => (hemp.lt k hk).1)
    have HO := Lib.hid ho
    have HB := Lib.hid hb
    clear h0 h1 h2 hl ho hb hg hal hemp
    have hq : ∀ w, (binOp BinOp.eql 23 (.slice (some a) l.length cap) (.slice none 0 0)).run Try.prog w = .ok (.bool false) w := fun _ => by kernel_rfl
    go_enter Try.func37, Try.ntmps37
    go_wp2_with (at_builtin; refine wpl_run2 _ _ rfl (by simp [Act.eval]) (by simp [Act.eval]) hrun ?_)
    refine bodyPost_ret (v := .slice ad' l.length cap') (by simp [results, Try.results37, go_sem]) rfl ?_
    exact ⟨ad', cap', rfl, HO.out, HB.out⟩
set_option maxHeartbeats 1000000 in
set_option maxRecDepth 100000 in
theorem cloneS_any {w : World} {l : List Sm} {v : Value} (hl : Lr (fun _ x cs => cs = smL x) 2 w l v) (hz : l.length ≤ 900000) : Calls Try.prog 58 #[v] w fun e w' => ∃ ad cap, e = .returned (.slice ad l.length cap) ∧ w'.ownsRow w.heap.size 64 2 (.slice ad l.length cap) l.length (l.flatMap smL) ∧ Below w.heap.size w w' := by
  have hl' := hl
  obtain ⟨ad, cap, rfl, h0, h1, h2, _⟩ := hl'
  cases ad with
  | none =>
    have e0 : l = [] := by
      rcases Lr.src (f := smL) smL_len hl with ⟨_, q, _⟩ | ⟨a, q, _⟩
      · exact List.eq_nil_of_length_eq_zero q
      · cases q
    subst e0
    have hc0 := h0 rfl
    subst hc0
    clear h0 h1 h2 hl
    have hq : ∀ w, (binOp BinOp.eql 65 (.slice none 0 0) (.slice none 0 0)).run Try.prog w = .ok (.bool true) w := fun _ => by kernel_rfl
    go_enter Try.func58, Try.ntmps58
    go_wp2
    refine bodyPost_ret (v := .slice none 0 0) (by simp [results, Try.results58, go_sem]) rfl ?_
    exact ⟨none, 0, rfl, World.ownsRow_nil _ _ _ _, Below.refl _ _⟩
  | some a =>
    have hal : Below w.heap.size w (w.alloc (.cells #[] 64)) := (Below.refl _ w).alloc (Nat.le_refl _) _
    have hemp : (w.alloc (.cells #[] 64)).ownsRow w.heap.size 64 2 (.slice (some ⟨w.heap.size, 0, none⟩) 0 0) 0 [] := ⟨rfl, .inr ⟨w.heap.size, 0, #[], rfl, Nat.le_refl _, heap_alloc_new w _, Nat.le_refl _, Nat.zero_le _, rfl, rfl⟩⟩
    obtain ⟨ad', cap', w', hrun, ho, hg, _⟩ := run_sm hemp hal.size (Lr.src (f := smL) smL_len (hl.on (fun _ _ _ _ _ h => h) hal)) (sm_one l) (by omega)
    rw [Nat.zero_add, List.nil_append] at ho
    rw [Nat.zero_add] at hrun
    have hb := hal.grown hg hal.size (fun k hk => (hemp.lt k hk).1)
    have HO := Lib.hid ho
    have HB := Lib.hid hb
    clear h0 h1 h2 hl ho hb hg hal hemp
    have hq : ∀ w, (binOp BinOp.eql 65 (.slice (some a) l.length cap) (.slice none 0 0)).run Try.prog w = .ok (.bool false) w := fun _ => by kernel_rfl
    go_enter Try.func58, Try.ntmps58
    go_wp2_with (at_builtin; refine wpl_run2 _ _ rfl (by simp [Act.eval]) (by simp [Act.eval]) hrun ?_)
    refine bodyPost_ret (v := .slice ad' l.length cap') (by simp [results, Try.results58, go_sem]) rfl ?_
    exact ⟨ad', cap', rfl, HO.out, HB.out⟩
set_option maxHeartbeats 1000000 in
set_option maxRecDepth 100000 in
theorem cloneP_any {w : World} {l : List Gp} {v : Value} (hl : Lr (fun _ x cs => cs = gpL x) 3 w l v) (hz : l.length ≤ 900000) : Calls Try.prog 76 #[v] w fun e w' => ∃ ad cap, e = .returned (.slice ad l.length cap) ∧ w'.ownsRow w.heap.size 84 3 (.slice ad l.length cap) l.length (l.flatMap gpL) ∧ Below w.heap.size w w' := by
  have hl' := hl
  obtain ⟨ad, cap, rfl, h0, h1, h2, _⟩ := hl'
  cases ad with
  | none =>
    have e0 : l = [] := by
      rcases Lr.src (f := gpL) gpL_len hl with ⟨_, q, _⟩ | ⟨a, q, _⟩
      · exact List.eq_nil_of_length_eq_zero q
      · cases q
    subst e0
    have hc0 := h0 rfl
    subst hc0
    clear h0 h1 h2 hl
    have hq : ∀ w, (binOp BinOp.eql 79 (.slice none 0 0) (.slice none 0 0)).run Try.prog w = .ok (.bool true) w := fun _ => by kernel_rfl
    go_enter Try.func76, Try.ntmps76
    go_wp2
    refine bodyPost_ret (v := .slice none 0 0) (by simp [results, Try.results76, go_sem]) rfl ?_
    exact ⟨none, 0, rfl, World.ownsRow_nil _ _ _ _, Below.refl _ _⟩
  | some a =>
    have hal : Below w.heap.size w (w.alloc (.cells #[] 84)) := (Below.refl _ w).alloc (Nat.le_refl _) _
    have hemp : (w.alloc (.cells #[] 84)).ownsRow w.heap.size 84 3 (.slice (some ⟨w.heap.size, 0, none⟩) 0 0) 0 [] := ⟨rfl, .inr ⟨w.heap.size, 0, #[], rfl, Nat.le_refl _, heap_alloc_new w _, Nat.le_refl _, Nat.zero_le _, rfl, rfl⟩⟩
    obtain ⟨ad', cap', w', hrun, ho, hg, _⟩ := run_gp hemp hal.size (Lr.src (f := gpL) gpL_len (hl.on (fun _ _ _ _ _ h => h) hal)) (gp_one l) (by omega)
    rw [Nat.zero_add, List.nil_append] at ho
    rw [Nat.zero_add] at hrun
    have hb := hal.grown hg hal.size (fun k hk => (hemp.lt k hk).1)
    have HO := Lib.hid ho
    have HB := Lib.hid hb
    clear h0 h1 h2 hl ho hb hg hal hemp
    have hq : ∀ w, (binOp BinOp.eql 79 (.slice (some a) l.length cap) (.slice none 0 0)).run Try.prog w = .ok (.bool false) w := fun _ => by kernel_rfl
    go_enter Try.func76, Try.ntmps76
    go_wp2_with (at_builtin; refine wpl_run2 _ _ rfl (by simp [Act.eval]) (by simp [Act.eval]) hrun ?_)
    refine bodyPost_ret (v := .slice ad' l.length cap') (by simp [results, Try.results76, go_sem]) rfl ?_
    exact ⟨ad', cap', rfl, HO.out, HB.out⟩
set_option maxHeartbeats 1000000 in
set_option maxRecDepth 100000 in
theorem cloneR_any {w : World} {l : List Gr} {v : Value} (hl : Lr (fun _ x cs => cs = grL x) 3 w l v) (hz : l.length ≤ 900000) (h1 : ∀ u ∈ l.flatMap grL, u.oneCell' = true) : Calls Try.prog 57 #[v] w fun e w' => ∃ ad cap, e = .returned (.slice ad l.length cap) ∧ w'.ownsRow w.heap.size 67 3 (.slice ad l.length cap) l.length (l.flatMap grL) ∧ Below w.heap.size w w' := by
  have hl' := hl
  obtain ⟨ad, cap, rfl, h0, g1, g2, _⟩ := hl'
  cases ad with
  | none =>
    have e0 : l = [] := by
      rcases Lr.src (f := grL) grL_len hl with ⟨_, q, _⟩ | ⟨a, q, _⟩
      · exact List.eq_nil_of_length_eq_zero q
      · cases q
    subst e0
    have hc0 := h0 rfl
    subst hc0
    clear h0 g1 g2 hl
    have hq : ∀ w, (binOp BinOp.eql 22 (.slice none 0 0) (.slice none 0 0)).run Try.prog w = .ok (.bool true) w := fun _ => by kernel_rfl
    go_enter Try.func57, Try.ntmps57
    go_wp2
    refine bodyPost_ret (v := .slice none 0 0) (by simp [results, Try.results57, go_sem]) rfl ?_
    exact ⟨none, 0, rfl, World.ownsRow_nil _ _ _ _, Below.refl _ _⟩
  | some a =>
    have hal : Below w.heap.size w (w.alloc (.cells #[] 67)) := (Below.refl _ w).alloc (Nat.le_refl _) _
    have hemp : (w.alloc (.cells #[] 67)).ownsRow w.heap.size 67 3 (.slice (some ⟨w.heap.size, 0, none⟩) 0 0) 0 [] := ⟨rfl, .inr ⟨w.heap.size, 0, #[], rfl, Nat.le_refl _, heap_alloc_new w _, Nat.le_refl _, Nat.zero_le _, rfl, rfl⟩⟩
    obtain ⟨ad', cap', w', hrun, ho, hg, _⟩ := run_gr hemp hal.size (Lr.src (f := grL) grL_len (hl.on (fun _ _ _ _ _ h => h) hal)) (h1) (by omega)
    rw [Nat.zero_add, List.nil_append] at ho
    rw [Nat.zero_add] at hrun
    have hb := hal.grown hg hal.size (fun k hk => (hemp.lt k hk).1)
    have HO := Lib.hid ho
    have HB := Lib.hid hb
    clear h0 g1 g2 hl ho hb hg hal hemp
    have hq : ∀ w, (binOp BinOp.eql 22 (.slice (some a) l.length cap) (.slice none 0 0)).run Try.prog w = .ok (.bool false) w := fun _ => by kernel_rfl
    go_enter Try.func57, Try.ntmps57
    go_wp2_with (at_builtin; refine wpl_run2 _ _ rfl (by simp [Act.eval]) (by simp [Act.eval]) hrun ?_)
    refine bodyPost_ret (v := .slice ad' l.length cap') (by simp [results, Try.results57, go_sem]) rfl ?_
    exact ⟨ad', cap', rfl, HO.out, HB.out⟩
end Go.Proofs.Ytfokgalgdlajlaa
