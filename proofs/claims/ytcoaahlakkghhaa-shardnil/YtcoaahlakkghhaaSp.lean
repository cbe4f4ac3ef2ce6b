/- A drawn region whose last operation says what it leaves by the slots that it reads; clones; the walk of newLock. -/
import Derived.Test.YtcoaahlakkghhaaSo
namespace Go.Proofs.Ytcoaahlakkghhaa
section
variable {P : Program} {ops : Array Oper} {Q : Exit → Act → World → Prop}
/-- **Whatever order is drawn**, and the last one comes last; what it leaves is told by what it read. -/
theorem wp_region_lr {id : Nat} {a0 : Act} {w0 : World} (G : World → Prop) (S : World → World → Prop) (R : List (Value → World → Prop)) (F : (Operand → Value) → Value → World → Prop) {ol : Oper} (hol : ops[ops.size - 1]? = some ol)
    (hm : P.follows .mixedOrders = true) (hd : dstsOk ops a0.tmps.size = true) (haf : afterOk ops = true) (hla : lastOk ops = true) (hst : Stable S R) (hg : G w0.drew)
    (hops : AllOps (OpOk P ops a0 G S R) 0 (ops.toList.take (ops.size - 1)))
    (hlast : plainOp ol ∧ ∀ ρ w, G w → (∀ t, outer ops t = true → ρ (.tmp t) = a0.eval (.tmp t)) → (∀ x, ρ (.const x) = x) → (∀ f, ρ (.func f) = .func (.func f) #[] #[]) → (∀ j t, j < ops.size - 1 → dstOf ops j = some t → R.getD j (fun _ _ => True) (ρ (.tmp t)) w) → Runs P ol ρ w (F ρ))
    (he : ∀ (a : Act) (ρ : Operand → Value) (w wb : World) (v : Value), F ρ v w → (∀ t, ol.dst ≠ some t → a.tmps.getD t undef = ρ (.tmp t)) → a.tmps.size = a0.tmps.size → a.defers = a0.defers → (∀ t, outer ops t = true → a.tmps.getD t undef = a0.tmps.getD t undef) → (∀ t, ol.dst = some t → a.tmps.getD t undef = v) →
      (∀ j t, j < ops.size - 1 → dstOf ops j = some t → R.getD j (fun _ _ => True) (a.tmps.getD t undef) wb) → Q .normal a w) :
    (Code.region id ops true).wp P Q a0 w0 := by
  have hmlt : ops.size - 1 < ops.size := (Array.getElem?_eq_some_iff.1 hol).1
  have hd2 := hd
  unfold dstsOk at hd2
  simp only [Bool.and_eq_true, decide_eq_true_eq, List.all_eq_true] at hd2
  refine wp_region_any hm (wpAny_kept (fun l a w => (l.getD (ops.size - 1) false = false ∧ KeptIn ops a0 G R l a w) ∨ ((∀ j, j < ops.size → l.getD j true = true) ∧ Q .normal a w)) ?_ ?_ _ _ _ _ (left_replicate _) ?_)
  · intro l a w i hk hi
    obtain ⟨hl, o, ho, hall⟩ := mem_ready.1 hi
    have hil : i < ops.size := (Array.getElem?_eq_some_iff.1 ho).1
    rcases hk with ⟨hnl, hk⟩ | ⟨hk, _⟩
    · by_cases him : i = ops.size - 1
      · subst him
        rw [ho] at hol
        cases hol
        obtain ⟨hgd, hok⟩ := hlast
        have hah := all_ahead hla hk.dn ho hall
        have hrun := hok a.eval w hk.good (fun t ht => by
          rw [eval_tmp, eval_tmp]
          exact hk.out t fun j oj hj _ q => outer_not ht hj q) (fun _ => rfl) (fun _ => rfl) (fun j t hj hdj => by
          obtain ⟨oj, hoj, hdj⟩ := dstOf_some hdj
          rw [eval_tmp]
          exact hk.is _ oj t hoj (hah _ j rfl hj) hdj)
        have hfin : ∀ v w', F a.eval v w' → (∀ j, j < ops.size → (l.setIfInBounds (ops.size - 1) true).getD j true = true) ∧ Q .normal (a.put ol.dst v) w' := by
          intro v w' hF
          refine ⟨fun j hj => ?_, he _ a.eval w' w v hF (fun t ht => put_other ht) (put_size.trans hk.size) (put_defers'.trans hk.defers) (fun t ht => ?_) (fun t ht => ?_) (fun j t hj hdj => ?_)⟩
          · by_cases e : j = ops.size - 1
            · subst e
              rw [Array.getD_eq_getD_getElem?, Array.getElem?_setIfInBounds_self_of_lt (by rw [hk.sz]; exact hmlt)]
              rfl
            · have := hah _ j rfl (by omega)
              have hjl : j < l.size := by rw [hk.sz]; exact hj
              rw [Array.getD_eq_getD_getElem?, Array.getElem?_setIfInBounds_ne (fun q => e q.symm), Array.getElem?_eq_getElem hjl]
              rw [Array.getD_eq_getD_getElem?, Array.getElem?_eq_getElem hjl] at this
              simpa using this
          · rw [put_other (outer_not ht ho)]
            exact hk.out t fun j oj hj _ q => outer_not ht hj q
          · rw [ht, put_self]
            rw [hk.size]
            exact hd2.2 t (List.mem_filterMap.2 ⟨ol, List.mem_of_getElem? (by rw [Array.getElem?_toList]; exact ho), ht⟩)
          · obtain ⟨oj, hoj, hdj⟩ := dstOf_some hdj
            rw [put_other]
            · exact hk.is _ oj t hoj (hah _ j rfl hj) hdj
            · intro q
              have := nodup_filterMap hd2.1 (by rw [Array.getElem?_toList]; exact hoj) (by rw [Array.getElem?_toList]; exact ho) hdj q
              omega
        unfold wpOp
        simp only [ho]
        rw [if_pos (wanted_none hgd _)]
        refine .inl ?_
        unfold Oper.wp
        rcases hrun with ⟨v, w', hv, hF⟩ | ⟨w', hv, hF⟩ | ⟨f, args, w1, hv, hc⟩
        · rw [hv]
          exact .inr (hfin v w' hF)
        · rw [hv]
          exact .inr (hfin undef w' hF)
        · rw [hv]
          refine hc.mono ?_
          rintro e w' ⟨v, rfl, hF⟩
          exact .inr (hfin v w' hF)
      · refine kept_step hd hst ho ?_ hk hall (fun a' w' h => .inl ⟨?_, h⟩)
        · have := hops.get (k := i) (o := o) (by rw [List.getElem?_take_of_lt (by omega), Array.getElem?_toList]; exact ho)
          rwa [Nat.zero_add] at this
        · rw [Array.getD_eq_getD_getElem?, Array.getElem?_setIfInBounds_ne him, ← Array.getD_eq_getD_getElem?]
          exact hnl
    · rw [hk i hil] at hl
      cases hl
  · intro l a w hk hr
    rcases hk with ⟨hnl, hk⟩ | ⟨_, hq⟩
    · have := all_listed haf l hk.sz hr _ hmlt
      rw [hnl] at this
      cases this
    · exact hq
  · refine .inl ⟨?_, ⟨hg, fun j _ _ hl => absurd hl (none_listed _ j), by simp, rfl, rfl, fun _ _ => rfl, fun j o t hj hl _ => absurd hl (none_listed _ j)⟩⟩
    cases hc : (Array.replicate ops.size false).getD (ops.size - 1) false with
    | false => rfl
    | true => exact absurd hc (none_listed _ _)
end
open Go.RowKit
theorem Lr.src {α : Type} {f : α → List Value} {c : Nat} {w : World} {L : List α} {ad : Option Addr} {cap : Nat} (hc : ∀ x, (f x).length = c) (h : Lr (fun _ x cs => cs = f x) c w L (.slice ad L.length cap)) : (ad = none ∧ L.length = 0 ∧ cap = 0 ∧ L.flatMap f = []) ∨ ∃ a, ad = some a ∧ (L.flatMap f).length = L.length * c ∧ (∀ j u, (L.flatMap f)[j]? = some u → w.cell? (a.add j) = some u) := by
  obtain ⟨ad', cap', e, h0, h1, h2, h3⟩ := h
  cases e
  cases had : ad with
  | none =>
    have hL : L = [] := by
      rcases L with _ | ⟨x, L⟩
      · rfl
      · obtain ⟨b, o, cs, e, _⟩ := h3 0 (by simp)
        rw [had] at e
        cases e
    subst hL
    exact .inl ⟨rfl, rfl, h0 had, rfl⟩
  | some a =>
    refine .inr ⟨a, rfl, fl_len hc L, fun j u hu => ?_⟩
    have hj : j < L.length * c := by
      have := (List.getElem?_eq_some_iff.1 hu).1
      rwa [fl_len hc] at this
    have hc0 : 0 < c := by
      rcases Nat.eq_zero_or_pos c with q | q
      · subst q
        simp at hj
      · exact q
    have hi : j / c < L.length := Nat.div_lt_of_lt_mul (by rw [Nat.mul_comm]; exact hj)
    have hm : j % c < c := Nat.mod_lt _ hc0
    have e2 : j = j / c * c + j % c := by
      have := Nat.div_add_mod j c
      rw [Nat.mul_comm] at this
      exact this.symm
    obtain ⟨b, o, cs, e, _, hE, _, hh⟩ := h3 (j / c) hi
    rw [had] at e
    cases e
    have hE' : cs = f L[j / c] := hE
    have := hh (j % c) u (by
      rw [hE', ← fl_get hc L (j / c) hi _ hm, ← e2]
      exact hu)
    rw [add_at]
    rw [Nat.add_assoc, ← e2] at this
    exact this
set_option maxHeartbeats 1000000 in
set_option maxRecDepth 100000 in
theorem cloneW_any {w : World} {l : List Wr} {v : Value} (hl : Lr wrE 3 w l v) (hz : l.length ≤ 900000) : Calls Try.prog 64 #[v] w fun e w' => ∃ ad cap, e = .returned (.slice ad l.length cap) ∧ w'.ownsRow w.heap.size 55 3 (.slice ad l.length cap) l.length (l.flatMap wrL) ∧ Below w.heap.size w w' := by
  have hl' := hl
  obtain ⟨ad, cap, rfl, h0, h1, h2, _⟩ := hl'
  cases ad with
  | none =>
    have e0 : l = [] := by
      rcases Lr.src (f := wrL) wrL_len hl with ⟨_, q, _⟩ | ⟨a, q, _⟩
      · exact List.eq_nil_of_length_eq_zero q
      · cases q
    subst e0
    have hc0 := h0 rfl
    subst hc0
    clear h0 h1 h2 hl
    have hq : ∀ w, (binOp BinOp.eql 39 (.slice none 0 0) (.slice none 0 0)).run Try.prog w = .ok (.bool true) w := fun _ => by kernel_rfl
    go_enter Try.func64, Try.ntmps64
    go_wp2
    refine bodyPost_ret (v := .slice none 0 0) (by simp [results, Try.results64, go_sem]) rfl ?_
    exact ⟨none, 0, rfl, World.ownsRow_nil _ _ _ _, Below.refl _ _⟩
  | some a =>
    have hal : Below w.heap.size w (w.alloc (.cells #[] 55)) := (Below.refl _ w).alloc (Nat.le_refl _) _
    have hemp : (w.alloc (.cells #[] 55)).ownsRow w.heap.size 55 3 (.slice (some ⟨w.heap.size, 0, none⟩) 0 0) 0 [] := ⟨rfl, .inr ⟨w.heap.size, 0, #[], rfl, Nat.le_refl _, heap_alloc_new w _, Nat.le_refl _, Nat.zero_le _, rfl, rfl⟩⟩
    obtain ⟨ad', cap', w', hrun, ho, hg, _⟩ := run_wr hemp hal.size (Lr.src (f := wrL) wrL_len (hl.on wrE_held hal)) (fun u hu => by
      obtain ⟨x, _, hx⟩ := List.mem_flatMap.1 hu
      simp at hx
      rcases hx with rfl | rfl | rfl <;> rfl) (by omega)
    rw [Nat.zero_add, List.nil_append] at ho
    rw [Nat.zero_add] at hrun
    have hb := hal.grown hg hal.size (fun k hk => (hemp.lt k hk).1)
    have HO := Lib.hid ho
    have HB := Lib.hid hb
    clear h0 h1 h2 hl ho hb hg hal hemp
    have hq : ∀ w, (binOp BinOp.eql 39 (.slice (some a) l.length cap) (.slice none 0 0)).run Try.prog w = .ok (.bool false) w := fun _ => by kernel_rfl
    go_enter Try.func64, Try.ntmps64
    go_wp2_with (at_builtin; refine wpl_run2 _ _ rfl (by simp [Act.eval]) (by simp [Act.eval]) hrun ?_)
    refine bodyPost_ret (v := .slice ad' l.length cap') (by simp [results, Try.results64, go_sem]) rfl ?_
    exact ⟨ad', cap', rfl, HO.out, HB.out⟩
set_option maxHeartbeats 1000000 in
set_option maxRecDepth 100000 in
theorem cloneS_any {w : World} {l : List Sn} {v : Value} (hl : Lr snE 2 w l v) (hz : l.length ≤ 900000) : Calls Try.prog 63 #[v] w fun e w' => ∃ ad cap, e = .returned (.slice ad l.length cap) ∧ w'.ownsRow w.heap.size 57 2 (.slice ad l.length cap) l.length (l.flatMap snL) ∧ Below w.heap.size w w' := by
  have hl' := hl
  obtain ⟨ad, cap, rfl, h0, h1, h2, _⟩ := hl'
  cases ad with
  | none =>
    have e0 : l = [] := by
      rcases Lr.src (f := snL) snL_len hl with ⟨_, q, _⟩ | ⟨a, q, _⟩
      · exact List.eq_nil_of_length_eq_zero q
      · cases q
    subst e0
    have hc0 := h0 rfl
    subst hc0
    clear h0 h1 h2 hl
    have hq : ∀ w, (binOp BinOp.eql 66 (.slice none 0 0) (.slice none 0 0)).run Try.prog w = .ok (.bool true) w := fun _ => by kernel_rfl
    go_enter Try.func63, Try.ntmps63
    go_wp2
    refine bodyPost_ret (v := .slice none 0 0) (by simp [results, Try.results63, go_sem]) rfl ?_
    exact ⟨none, 0, rfl, World.ownsRow_nil _ _ _ _, Below.refl _ _⟩
  | some a =>
    have hal : Below w.heap.size w (w.alloc (.cells #[] 57)) := (Below.refl _ w).alloc (Nat.le_refl _) _
    have hemp : (w.alloc (.cells #[] 57)).ownsRow w.heap.size 57 2 (.slice (some ⟨w.heap.size, 0, none⟩) 0 0) 0 [] := ⟨rfl, .inr ⟨w.heap.size, 0, #[], rfl, Nat.le_refl _, heap_alloc_new w _, Nat.le_refl _, Nat.zero_le _, rfl, rfl⟩⟩
    obtain ⟨ad', cap', w', hrun, ho, hg, _⟩ := run_sn hemp hal.size (Lr.src (f := snL) snL_len (hl.on snE_held hal)) (fun u hu => by
      obtain ⟨x, _, hx⟩ := List.mem_flatMap.1 hu
      simp at hx
      rcases hx with rfl | rfl <;> rfl) (by omega)
    rw [Nat.zero_add, List.nil_append] at ho
    rw [Nat.zero_add] at hrun
    have hb := hal.grown hg hal.size (fun k hk => (hemp.lt k hk).1)
    have HO := Lib.hid ho
    have HB := Lib.hid hb
    clear h0 h1 h2 hl ho hb hg hal hemp
    have hq : ∀ w, (binOp BinOp.eql 66 (.slice (some a) l.length cap) (.slice none 0 0)).run Try.prog w = .ok (.bool false) w := fun _ => by kernel_rfl
    go_enter Try.func63, Try.ntmps63
    go_wp2_with (at_builtin; refine wpl_run2 _ _ rfl (by simp [Act.eval]) (by simp [Act.eval]) hrun ?_)
    refine bodyPost_ret (v := .slice ad' l.length cap') (by simp [results, Try.results63, go_sem]) rfl ?_
    exact ⟨ad', cap', rfl, HO.out, HB.out⟩
set_option maxHeartbeats 1000000 in
set_option maxRecDepth 100000 in
theorem cloneR_any {w : World} {l : List Rc} {v : Value} (hl : Lr rcE 4 w l v) (hz : l.length ≤ 900000) : Calls Try.prog 37 #[v] w fun e w' => ∃ ad cap, e = .returned (.slice ad l.length cap) ∧ w'.ownsRow w.heap.size 101 4 (.slice ad l.length cap) l.length (l.flatMap rcL) ∧ Below w.heap.size w w' := by
  have hl' := hl
  obtain ⟨ad, cap, rfl, h0, h1, h2, _⟩ := hl'
  cases ad with
  | none =>
    have e0 : l = [] := by
      rcases Lr.src (f := rcL) rcL_len hl with ⟨_, q, _⟩ | ⟨a, q, _⟩
      · exact List.eq_nil_of_length_eq_zero q
      · cases q
    subst e0
    have hc0 := h0 rfl
    subst hc0
    clear h0 h1 h2 hl
    have hq : ∀ w, (binOp BinOp.eql 32 (.slice none 0 0) (.slice none 0 0)).run Try.prog w = .ok (.bool true) w := fun _ => by kernel_rfl
    go_enter Try.func37, Try.ntmps37
    go_wp2
    refine bodyPost_ret (v := .slice none 0 0) (by simp [results, Try.results37, go_sem]) rfl ?_
    exact ⟨none, 0, rfl, World.ownsRow_nil _ _ _ _, Below.refl _ _⟩
  | some a =>
    have hal : Below w.heap.size w (w.alloc (.cells #[] 101)) := (Below.refl _ w).alloc (Nat.le_refl _) _
    have hemp : (w.alloc (.cells #[] 101)).ownsRow w.heap.size 101 4 (.slice (some ⟨w.heap.size, 0, none⟩) 0 0) 0 [] := ⟨rfl, .inr ⟨w.heap.size, 0, #[], rfl, Nat.le_refl _, heap_alloc_new w _, Nat.le_refl _, Nat.zero_le _, rfl, rfl⟩⟩
    obtain ⟨ad', cap', w', hrun, ho, hg, _⟩ := run_rc hemp hal.size (Lr.src (f := rcL) rcL_len (hl.on rcE_held hal)) (fun u hu => by
      obtain ⟨x, _, hx⟩ := List.mem_flatMap.1 hu
      simp at hx
      rcases hx with rfl | rfl | rfl | rfl <;> rfl) (by omega)
    rw [Nat.zero_add, List.nil_append] at ho
    rw [Nat.zero_add] at hrun
    have hb := hal.grown hg hal.size (fun k hk => (hemp.lt k hk).1)
    have HO := Lib.hid ho
    have HB := Lib.hid hb
    clear h0 h1 h2 hl ho hb hg hal hemp
    have hq : ∀ w, (binOp BinOp.eql 32 (.slice (some a) l.length cap) (.slice none 0 0)).run Try.prog w = .ok (.bool false) w := fun _ => by kernel_rfl
    go_enter Try.func37, Try.ntmps37
    go_wp2_with (at_builtin; refine wpl_run2 _ _ rfl (by simp [Act.eval]) (by simp [Act.eval]) hrun ?_)
    refine bodyPost_ret (v := .slice ad' l.length cap') (by simp [results, Try.results37, go_sem]) rfl ?_
    exact ⟨ad', cap', rfl, HO.out, HB.out⟩
set_option maxHeartbeats 1000000 in
set_option maxRecDepth 100000 in
theorem cloneT_any {w : World} {l : List Td} {v : Value} (hl : Lr tdE 3 w l v) (hz : l.length ≤ 900000) : Calls Try.prog 38 #[v] w fun e w' => ∃ ad cap, e = .returned (.slice ad l.length cap) ∧ w'.ownsRow w.heap.size 37 3 (.slice ad l.length cap) l.length (l.flatMap tdL) ∧ Below w.heap.size w w' := by
  have hl' := hl
  obtain ⟨ad, cap, rfl, h0, h1, h2, _⟩ := hl'
  cases ad with
  | none =>
    have e0 : l = [] := by
      rcases Lr.src (f := tdL) tdL_len hl with ⟨_, q, _⟩ | ⟨a, q, _⟩
      · exact List.eq_nil_of_length_eq_zero q
      · cases q
    subst e0
    have hc0 := h0 rfl
    subst hc0
    clear h0 h1 h2 hl
    have hq : ∀ w, (binOp BinOp.eql 33 (.slice none 0 0) (.slice none 0 0)).run Try.prog w = .ok (.bool true) w := fun _ => by kernel_rfl
    go_enter Try.func38, Try.ntmps38
    go_wp2
    refine bodyPost_ret (v := .slice none 0 0) (by simp [results, Try.results38, go_sem]) rfl ?_
    exact ⟨none, 0, rfl, World.ownsRow_nil _ _ _ _, Below.refl _ _⟩
  | some a =>
    have hal : Below w.heap.size w (w.alloc (.cells #[] 37)) := (Below.refl _ w).alloc (Nat.le_refl _) _
    have hemp : (w.alloc (.cells #[] 37)).ownsRow w.heap.size 37 3 (.slice (some ⟨w.heap.size, 0, none⟩) 0 0) 0 [] := ⟨rfl, .inr ⟨w.heap.size, 0, #[], rfl, Nat.le_refl _, heap_alloc_new w _, Nat.le_refl _, Nat.zero_le _, rfl, rfl⟩⟩
    obtain ⟨ad', cap', w', hrun, ho, hg, _⟩ := run_td hemp hal.size (Lr.src (f := tdL) tdL_len (hl.on tdE_held hal)) (fun u hu => by
      obtain ⟨x, _, hx⟩ := List.mem_flatMap.1 hu
      simp at hx
      rcases hx with rfl | rfl | rfl <;> rfl) (by omega)
    rw [Nat.zero_add, List.nil_append] at ho
    rw [Nat.zero_add] at hrun
    have hb := hal.grown hg hal.size (fun k hk => (hemp.lt k hk).1)
    have HO := Lib.hid ho
    have HB := Lib.hid hb
    clear h0 h1 h2 hl ho hb hg hal hemp
    have hq : ∀ w, (binOp BinOp.eql 33 (.slice (some a) l.length cap) (.slice none 0 0)).run Try.prog w = .ok (.bool false) w := fun _ => by kernel_rfl
    go_enter Try.func38, Try.ntmps38
    go_wp2_with (at_builtin; refine wpl_run2 _ _ rfl (by simp [Act.eval]) (by simp [Act.eval]) hrun ?_)
    refine bodyPost_ret (v := .slice ad' l.length cap') (by simp [results, Try.results38, go_sem]) rfl ?_
    exact ⟨ad', cap', rfl, HO.out, HB.out⟩
end Go.Proofs.Ytcoaahlakkghhaa
