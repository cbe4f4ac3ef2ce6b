/- The walks of what is looked for: elements by name, by id. -/
import Derived.Test.YtongmhfpoopebaaGreatBd
namespace Go.Proofs.YtongmhfpoopebaaGreat
open Go.RowKit
section
variable {w : World}
theorem pt_lt {a : Addr} {v : Value} (c0 : w.cell? a = some v) : a.block < w.heap.size := by
  refine Classical.byContradiction fun z => ?_
  unfold World.cell? at c0
  rw [Array.getElem?_eq_none (by simpa using z)] at c0
  cases c0
theorem field156_0 (a b c : Value) (X : World) : (Instr.field 156 (.agg #[a, b, c]) 0).run Tryz.prog X = .ok a X := by kernel_rfl
theorem field156_1 (a b c : Value) (X : World) : (Instr.field 156 (.agg #[a, b, c]) 1).run Tryz.prog X = .ok b X := by kernel_rfl
theorem field156_2 (a b c : Value) (X : World) : (Instr.field 156 (.agg #[a, b, c]) 2).run Tryz.prog X = .ok c X := by kernel_rfl
theorem bdrew {X : World} (h : Below w.heap.size w X) : Below w.heap.size w X.drew := ⟨h.os, h.tape, h.output, h.size, h.block⟩
theorem bdrewN {X : World} (h : Below w.heap.size w X) (n : Nat) : Below w.heap.size w (X.drewN n) := ⟨h.os, h.tape, h.output, h.size, h.block⟩
theorem goes43 : Goes 43 := fun X a => by go_simp
theorem goes58 : Goes 58 := fun X a => by go_simp
theorem goes61 : Goes 61 := fun X a => by go_simp
theorem goes66 : Goes 66 := fun X a => by go_simp
theorem goes70 : Goes 70 := fun X a => by go_simp
theorem goes74 : Goes 74 := fun X a => by go_simp
theorem goes92 : Goes 92 := fun X a => by go_simp
theorem goes102 : Goes 102 := fun X a => by go_simp
theorem goes105 : Goes 105 := fun X a => by go_simp
theorem goes107 : Goes 107 := fun X a => by go_simp
theorem goes108 : Goes 108 := fun X a => by go_simp
theorem goes118 : Goes 118 := fun X a => by go_simp
theorem goes119 : Goes 119 := fun X a => by go_simp
theorem goes121 : Goes 121 := fun X a => by go_simp
theorem goes122 : Goes 122 := fun X a => by go_simp
theorem goes123 : Goes 123 := fun X a => by go_simp
theorem goes125 : Goes 125 := fun X a => by go_simp
theorem goes127 : Goes 127 := fun X a => by go_simp
theorem goes128 : Goes 128 := fun X a => by go_simp
theorem goes67 : Goes 67 := fun X a => by go_simp
theorem goes71 : Goes 71 := fun X a => by go_simp
theorem goes75 : Goes 75 := fun X a => by go_simp
theorem goes78 : Goes 78 := fun X a => by go_simp
theorem goes81 : Goes 81 := fun X a => by go_simp
set_option maxHeartbeats 2000000 in
set_option maxRecDepth 100000 in
theorem ofC_any {x : Col} {B q : Nat} (h : Pt colE w B q x) : Calls Tryz.prog 66 #[.pointer (some ⟨B, q, none⟩)] w fun e w' => e = .returned (.agg #[.int .i64 x.id, .string x.nm, .pointer (some ⟨B, q + 3, none⟩)]) ∧ Below w.heap.size w w' := by
  obtain ⟨cs, hE, hc⟩ := h
  cases hE
  have c0 : w.cell? ⟨B, q, none⟩ = some (.int .i64 x.id) := hc 0 _ rfl
  have c1 : w.cell? ⟨B, q + 1, none⟩ = some (.string x.nm) := hc 1 _ rfl
  have hbl := pt_lt c0
  have hne : ¬ B = w.heap.size := by simp only at hbl; omega
  clear hc
  go_enter Tryz.func66, Tryz.ntmps66
  go_wp2
  go_region
  go_wp2
  have hj := heap_alloc_new w (.cells #[.int .i64 x.id, .string x.nm, .pointer (some ⟨B, q + 3, none⟩)] 156)
  refine bodyPost_ret (results_one rfl rfl (load_var (w := (w.alloc _).drew) hj Tryz.underlying156 rfl size156)) rfl ?_
  exact ⟨rfl, bdrew (bnew _ _)⟩
set_option maxHeartbeats 2000000 in
set_option maxRecDepth 100000 in
theorem ofI_any {x : Ix} {B q : Nat} (h : Pt ixE w B q x) : Calls Tryz.prog 70 #[.pointer (some ⟨B, q, none⟩)] w fun e w' => e = .returned (.agg #[.int .i64 x.id, .string x.nm, .pointer (some ⟨B, q + 4, none⟩)]) ∧ Below w.heap.size w w' := by
  obtain ⟨cs, hE, hc⟩ := h
  cases hE
  have c0 : w.cell? ⟨B, q, none⟩ = some (.int .i64 x.id) := hc 0 _ rfl
  have c1 : w.cell? ⟨B, q + 1, none⟩ = some (.string x.nm) := hc 1 _ rfl
  have hbl := pt_lt c0
  have hne : ¬ B = w.heap.size := by simp only at hbl; omega
  clear hc
  go_enter Tryz.func70, Tryz.ntmps70
  go_wp2
  go_region
  go_wp2
  have hj := heap_alloc_new w (.cells #[.int .i64 x.id, .string x.nm, .pointer (some ⟨B, q + 4, none⟩)] 156)
  refine bodyPost_ret (results_one rfl rfl (load_var (w := (w.alloc _).drew) hj Tryz.underlying156 rfl size156)) rfl ?_
  exact ⟨rfl, bdrew (bnew _ _)⟩
set_option maxHeartbeats 2000000 in
set_option maxRecDepth 100000 in
theorem ofK_any {x : Fk} {B q : Nat} (h : Pt fkE w B q x) : Calls Tryz.prog 74 #[.pointer (some ⟨B, q, none⟩)] w fun e w' => e = .returned (.agg #[.int .i64 x.id, .string x.nm, .pointer (some ⟨B, q + 4, none⟩)]) ∧ Below w.heap.size w w' := by
  obtain ⟨cs, hE, hc⟩ := h
  cases hE
  have c0 : w.cell? ⟨B, q, none⟩ = some (.int .i64 x.id) := hc 0 _ rfl
  have c1 : w.cell? ⟨B, q + 1, none⟩ = some (.string x.nm) := hc 1 _ rfl
  have hbl := pt_lt c0
  have hne : ¬ B = w.heap.size := by simp only at hbl; omega
  clear hc
  go_enter Tryz.func74, Tryz.ntmps74
  go_wp2
  go_region
  go_wp2
  have hj := heap_alloc_new w (.cells #[.int .i64 x.id, .string x.nm, .pointer (some ⟨B, q + 4, none⟩)] 156)
  refine bodyPost_ret (results_one rfl rfl (load_var (w := (w.alloc _).drew) hj Tryz.underlying156 rfl size156)) rfl ?_
  exact ⟨rfl, bdrew (bnew _ _)⟩
set_option maxHeartbeats 2000000 in
set_option maxRecDepth 100000 in
theorem namedC_f {x : Col} {B q : Nat} {P Q : Nat} {nm : ByteArray} (h : Pt colE w B q x) (cp : w.cell? ⟨P, 0, none⟩ = some (.func (.func 66) #[] #[])) (cq : w.cell? ⟨Q, 0, none⟩ = some (.string nm)) :
    Calls Tryz.prog 123 #[.pointer (some ⟨B, q, none⟩), .pointer (some ⟨P, 0, none⟩), .pointer (some ⟨Q, 0, none⟩)] w fun e w' => e = .returned (.bool (decide (x.nm = nm))) ∧ Below w.heap.size w w' := by
  have HO : Hid (∀ X : World, Below w.heap.size w X → Calls Tryz.prog 66 #[.pointer (some ⟨B, q, none⟩)] X fun e w' => ∃ u, e = .returned (.agg #[.int .i64 x.id, .string x.nm, u]) ∧ Below X.heap.size X w') := fun X hX => by
    obtain ⟨cs, hE, hc⟩ := h
    refine (ofC_any (w := X) ⟨cs, colE_held _ _ _ _ hX hE, fun j u hu => cell_on hX (hc j u hu)⟩).mono ?_
    rintro e w' ⟨rfl, b⟩
    exact ⟨_, rfl, b⟩
  have hs := same_eq x.nm nm
  obtain ⟨r, hr⟩ : ∃ r, decide (x.nm = nm) = r := ⟨_, rfl⟩
  rw [hr] at hs ⊢
  have HQ := Lib.hid cq
  have hfd := field156_1
  clear hr h
  go_enter Tryz.func123, Tryz.ntmps123
  go_wp2
  go_region_with (go_at_call 66; refine (HO.out _ (by first | exact bdrew (Below.refl _ _) | exact bdrew (bdrew (Below.refl _ _)) | exact bdrewN (Below.refl _ _) _)).mono ?_; rintro e w1 ⟨u, rfl, b1⟩; have cq1 := cell_on (V := w) (X := w1) ⟨b1.os, b1.tape, b1.output, b1.size, b1.block⟩ HQ.out)
  all_goals
    go_wp2
    go_ret
    exact ⟨rfl, ⟨b1.os, b1.tape, b1.output, b1.size, b1.block⟩⟩
set_option maxHeartbeats 2000000 in
set_option maxRecDepth 100000 in
theorem namedI_f {x : Ix} {B q : Nat} {P Q : Nat} {nm : ByteArray} (h : Pt ixE w B q x) (cp : w.cell? ⟨P, 0, none⟩ = some (.func (.func 70) #[] #[])) (cq : w.cell? ⟨Q, 0, none⟩ = some (.string nm)) :
    Calls Tryz.prog 125 #[.pointer (some ⟨B, q, none⟩), .pointer (some ⟨P, 0, none⟩), .pointer (some ⟨Q, 0, none⟩)] w fun e w' => e = .returned (.bool (decide (x.nm = nm))) ∧ Below w.heap.size w w' := by
  have HO : Hid (∀ X : World, Below w.heap.size w X → Calls Tryz.prog 70 #[.pointer (some ⟨B, q, none⟩)] X fun e w' => ∃ u, e = .returned (.agg #[.int .i64 x.id, .string x.nm, u]) ∧ Below X.heap.size X w') := fun X hX => by
    obtain ⟨cs, hE, hc⟩ := h
    refine (ofI_any (w := X) ⟨cs, ixE_held _ _ _ _ hX hE, fun j u hu => cell_on hX (hc j u hu)⟩).mono ?_
    rintro e w' ⟨rfl, b⟩
    exact ⟨_, rfl, b⟩
  have hs := same_eq x.nm nm
  obtain ⟨r, hr⟩ : ∃ r, decide (x.nm = nm) = r := ⟨_, rfl⟩
  rw [hr] at hs ⊢
  have HQ := Lib.hid cq
  have hfd := field156_1
  clear hr h
  go_enter Tryz.func125, Tryz.ntmps125
  go_wp2
  go_region_with (go_at_call 70; refine (HO.out _ (by first | exact bdrew (Below.refl _ _) | exact bdrew (bdrew (Below.refl _ _)) | exact bdrewN (Below.refl _ _) _)).mono ?_; rintro e w1 ⟨u, rfl, b1⟩; have cq1 := cell_on (V := w) (X := w1) ⟨b1.os, b1.tape, b1.output, b1.size, b1.block⟩ HQ.out)
  all_goals
    go_wp2
    go_ret
    exact ⟨rfl, ⟨b1.os, b1.tape, b1.output, b1.size, b1.block⟩⟩
set_option maxHeartbeats 2000000 in
set_option maxRecDepth 100000 in
theorem namedK_f {x : Fk} {B q : Nat} {P Q : Nat} {nm : ByteArray} (h : Pt fkE w B q x) (cp : w.cell? ⟨P, 0, none⟩ = some (.func (.func 74) #[] #[])) (cq : w.cell? ⟨Q, 0, none⟩ = some (.string nm)) :
    Calls Tryz.prog 128 #[.pointer (some ⟨B, q, none⟩), .pointer (some ⟨P, 0, none⟩), .pointer (some ⟨Q, 0, none⟩)] w fun e w' => e = .returned (.bool (decide (x.nm = nm))) ∧ Below w.heap.size w w' := by
  have HO : Hid (∀ X : World, Below w.heap.size w X → Calls Tryz.prog 74 #[.pointer (some ⟨B, q, none⟩)] X fun e w' => ∃ u, e = .returned (.agg #[.int .i64 x.id, .string x.nm, u]) ∧ Below X.heap.size X w') := fun X hX => by
    obtain ⟨cs, hE, hc⟩ := h
    refine (ofK_any (w := X) ⟨cs, fkE_held _ _ _ _ hX hE, fun j u hu => cell_on hX (hc j u hu)⟩).mono ?_
    rintro e w' ⟨rfl, b⟩
    exact ⟨_, rfl, b⟩
  have hs := same_eq x.nm nm
  obtain ⟨r, hr⟩ : ∃ r, decide (x.nm = nm) = r := ⟨_, rfl⟩
  rw [hr] at hs ⊢
  have HQ := Lib.hid cq
  have hfd := field156_1
  clear hr h
  go_enter Tryz.func128, Tryz.ntmps128
  go_wp2
  go_region_with (go_at_call 74; refine (HO.out _ (by first | exact bdrew (Below.refl _ _) | exact bdrew (bdrew (Below.refl _ _)) | exact bdrewN (Below.refl _ _) _)).mono ?_; rintro e w1 ⟨u, rfl, b1⟩; have cq1 := cell_on (V := w) (X := w1) ⟨b1.os, b1.tape, b1.output, b1.size, b1.block⟩ HQ.out)
  all_goals
    go_wp2
    go_ret
    exact ⟨rfl, ⟨b1.os, b1.tape, b1.output, b1.size, b1.block⟩⟩
end
end Go.Proofs.YtongmhfpoopebaaGreat
