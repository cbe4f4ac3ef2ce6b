/- The walks of what is looked for: elements by name, by id. -/
import Derived.Test.YtongmhfpoopebaaBd
namespace Go.Proofs.Ytongmhfpoopebaa
open Go.RowKit
section
variable {w : World}
theorem pt_lt {a : Addr} {v : Value} (c0 : w.cell? a = some v) : a.block < w.heap.size := by
  refine Classical.byContradiction fun z => ?_
  unfold World.cell? at c0
  rw [Array.getElem?_eq_none (by simpa using z)] at c0
  cases c0
theorem field156_0 (a b c : Value) (X : World) : (Instr.field 113 (.agg #[a, b, c]) 0).run Try.prog X = .ok a X := by kernel_rfl
theorem field156_1 (a b c : Value) (X : World) : (Instr.field 113 (.agg #[a, b, c]) 1).run Try.prog X = .ok b X := by kernel_rfl
theorem field156_2 (a b c : Value) (X : World) : (Instr.field 113 (.agg #[a, b, c]) 2).run Try.prog X = .ok c X := by kernel_rfl
theorem bdrew {X : World} (h : Below w.heap.size w X) : Below w.heap.size w X.drew := ⟨h.os, h.tape, h.output, h.size, h.block⟩
theorem bdrewN {X : World} (h : Below w.heap.size w X) (n : Nat) : Below w.heap.size w (X.drewN n) := ⟨h.os, h.tape, h.output, h.size, h.block⟩
theorem goes93 : Goes 93 := fun X a => by go_simp
theorem goes43 : Goes 43 := fun X a => by go_simp
theorem goes47 : Goes 47 := fun X a => by go_simp
theorem goes33 : Goes 33 := fun X a => by go_simp
theorem goes35 : Goes 35 := fun X a => by go_simp
theorem goes37 : Goes 37 := fun X a => by go_simp
theorem goes71 : Goes 71 := fun X a => by go_simp
theorem goes81 : Goes 81 := fun X a => by go_simp
theorem goes84 : Goes 84 := fun X a => by go_simp
theorem goes89 : Goes 89 := fun X a => by go_simp
theorem goes90 : Goes 90 := fun X a => by go_simp
theorem goes101 : Goes 101 := fun X a => by go_simp
theorem goes102 : Goes 102 := fun X a => by go_simp
theorem goes104 : Goes 104 := fun X a => by go_simp
theorem goes105 : Goes 105 := fun X a => by go_simp
theorem goes106 : Goes 106 := fun X a => by go_simp
theorem goes108 : Goes 108 := fun X a => by go_simp
theorem goes110 : Goes 110 := fun X a => by go_simp
theorem goes111 : Goes 111 := fun X a => by go_simp
theorem goes53 : Goes 53 := fun X a => by go_simp
theorem goes56 : Goes 56 := fun X a => by go_simp
theorem goes59 : Goes 59 := fun X a => by go_simp
theorem goes62 : Goes 62 := fun X a => by go_simp
theorem goes65 : Goes 65 := fun X a => by go_simp
set_option maxHeartbeats 2000000 in
set_option maxRecDepth 100000 in
theorem ofC_any {x : Col} {B q : Nat} (h : Pt colE w B q x) : Calls Try.prog 33 #[.pointer (some ⟨B, q, none⟩)] w fun e w' => e = .returned (.agg #[.int .i64 x.id, .string x.nm, .pointer (some ⟨B, q + 3, none⟩)]) ∧ Below w.heap.size w w' := by
  obtain ⟨cs, hE, hc⟩ := h
  cases hE
  have c0 : w.cell? ⟨B, q, none⟩ = some (.int .i64 x.id) := hc 0 _ rfl
  have c1 : w.cell? ⟨B, q + 1, none⟩ = some (.string x.nm) := hc 1 _ rfl
  have hbl := pt_lt c0
  have hne : ¬ B = w.heap.size := by simp only at hbl; omega
  clear hc
  go_enter Try.func33, Try.ntmps33
  go_wp2
  go_region
  go_wp2
  have hj := heap_alloc_new w (.cells #[.int .i64 x.id, .string x.nm, .pointer (some ⟨B, q + 3, none⟩)] 113)
  refine bodyPost_ret (results_one rfl rfl (load_var (w := (w.alloc _).drew) hj Try.underlying113 rfl size113)) rfl ?_
  exact ⟨rfl, bdrew (bnew _ _)⟩
set_option maxHeartbeats 2000000 in
set_option maxRecDepth 100000 in
theorem ofI_any {x : Ix} {B q : Nat} (h : Pt ixE w B q x) : Calls Try.prog 35 #[.pointer (some ⟨B, q, none⟩)] w fun e w' => e = .returned (.agg #[.int .i64 x.id, .string x.nm, .pointer (some ⟨B, q + 4, none⟩)]) ∧ Below w.heap.size w w' := by
  obtain ⟨cs, hE, hc⟩ := h
  cases hE
  have c0 : w.cell? ⟨B, q, none⟩ = some (.int .i64 x.id) := hc 0 _ rfl
  have c1 : w.cell? ⟨B, q + 1, none⟩ = some (.string x.nm) := hc 1 _ rfl
  have hbl := pt_lt c0
  have hne : ¬ B = w.heap.size := by simp only at hbl; omega
  clear hc
  go_enter Try.func35, Try.ntmps35
  go_wp2
  go_region
  go_wp2
  have hj := heap_alloc_new w (.cells #[.int .i64 x.id, .string x.nm, .pointer (some ⟨B, q + 4, none⟩)] 113)
  refine bodyPost_ret (results_one rfl rfl (load_var (w := (w.alloc _).drew) hj Try.underlying113 rfl size113)) rfl ?_
  exact ⟨rfl, bdrew (bnew _ _)⟩
set_option maxHeartbeats 2000000 in
set_option maxRecDepth 100000 in
theorem ofK_any {x : Fk} {B q : Nat} (h : Pt fkE w B q x) : Calls Try.prog 37 #[.pointer (some ⟨B, q, none⟩)] w fun e w' => e = .returned (.agg #[.int .i64 x.id, .string x.nm, .pointer (some ⟨B, q + 4, none⟩)]) ∧ Below w.heap.size w w' := by
  obtain ⟨cs, hE, hc⟩ := h
  cases hE
  have c0 : w.cell? ⟨B, q, none⟩ = some (.int .i64 x.id) := hc 0 _ rfl
  have c1 : w.cell? ⟨B, q + 1, none⟩ = some (.string x.nm) := hc 1 _ rfl
  have hbl := pt_lt c0
  have hne : ¬ B = w.heap.size := by simp only at hbl; omega
  clear hc
  go_enter Try.func37, Try.ntmps37
  go_wp2
  go_region
  go_wp2
  have hj := heap_alloc_new w (.cells #[.int .i64 x.id, .string x.nm, .pointer (some ⟨B, q + 4, none⟩)] 113)
  refine bodyPost_ret (results_one rfl rfl (load_var (w := (w.alloc _).drew) hj Try.underlying113 rfl size113)) rfl ?_
  exact ⟨rfl, bdrew (bnew _ _)⟩
set_option maxHeartbeats 2000000 in
set_option maxRecDepth 100000 in
theorem namedC_f {x : Col} {B q : Nat} {P Q : Nat} {nm : ByteArray} (h : Pt colE w B q x) (cp : w.cell? ⟨P, 0, none⟩ = some (.func (.func 33) #[] #[])) (cq : w.cell? ⟨Q, 0, none⟩ = some (.string nm)) :
    Calls Try.prog 106 #[.pointer (some ⟨B, q, none⟩), .pointer (some ⟨P, 0, none⟩), .pointer (some ⟨Q, 0, none⟩)] w fun e w' => e = .returned (.bool (decide (x.nm = nm))) ∧ Below w.heap.size w w' := by
  have HO : Hid (∀ X : World, Below w.heap.size w X → Calls Try.prog 33 #[.pointer (some ⟨B, q, none⟩)] X fun e w' => ∃ u, e = .returned (.agg #[.int .i64 x.id, .string x.nm, u]) ∧ Below X.heap.size X w') := fun X hX => by
    obtain ⟨cs, hE, hc⟩ := h
    refine (ofC_any (w := X) ⟨cs, colE_held _ _ _ _ hX hE, fun j u hu => cell_on hX (hc j u hu)⟩).mono ?_
    rintro e w' ⟨rfl, b⟩
    exact ⟨_, rfl, b⟩
  have hs := same_eq x.nm nm
  obtain ⟨r, hr⟩ : ∃ r, decide (x.nm = nm) = r := ⟨_, rfl⟩
  rw [hr] at hs ⊢
  have HQ := Lib.hid cq
  have hfd := field156_1
  clear hr h
  go_enter Try.func106, Try.ntmps106
  go_wp2
  go_region_with (go_at_call 33; refine (HO.out _ (by first | exact bdrew (Below.refl _ _) | exact bdrew (bdrew (Below.refl _ _)) | exact bdrewN (Below.refl _ _) _)).mono ?_; rintro e w1 ⟨u, rfl, b1⟩; have cq1 := cell_on (V := w) (X := w1) ⟨b1.os, b1.tape, b1.output, b1.size, b1.block⟩ HQ.out)
  all_goals
    go_wp2
    go_ret
    exact ⟨rfl, ⟨b1.os, b1.tape, b1.output, b1.size, b1.block⟩⟩
set_option maxHeartbeats 2000000 in
set_option maxRecDepth 100000 in
theorem namedI_f {x : Ix} {B q : Nat} {P Q : Nat} {nm : ByteArray} (h : Pt ixE w B q x) (cp : w.cell? ⟨P, 0, none⟩ = some (.func (.func 35) #[] #[])) (cq : w.cell? ⟨Q, 0, none⟩ = some (.string nm)) :
    Calls Try.prog 108 #[.pointer (some ⟨B, q, none⟩), .pointer (some ⟨P, 0, none⟩), .pointer (some ⟨Q, 0, none⟩)] w fun e w' => e = .returned (.bool (decide (x.nm = nm))) ∧ Below w.heap.size w w' := by
  have HO : Hid (∀ X : World, Below w.heap.size w X → Calls Try.prog 35 #[.pointer (some ⟨B, q, none⟩)] X fun e w' => ∃ u, e = .returned (.agg #[.int .i64 x.id, .string x.nm, u]) ∧ Below X.heap.size X w') := fun X hX => by
    obtain ⟨cs, hE, hc⟩ := h
    refine (ofI_any (w := X) ⟨cs, ixE_held _ _ _ _ hX hE, fun j u hu => cell_on hX (hc j u hu)⟩).mono ?_
    rintro e w' ⟨rfl, b⟩
    exact ⟨_, rfl, b⟩
  have hs := same_eq x.nm nm
  obtain ⟨r, hr⟩ : ∃ r, decide (x.nm = nm) = r := ⟨_, rfl⟩
  rw [hr] at hs ⊢
  have HQ := Lib.hid cq
  have hfd := field156_1
  clear hr h
  go_enter Try.func108, Try.ntmps108
  go_wp2
  go_region_with (go_at_call 35; refine (HO.out _ (by first | exact bdrew (Below.refl _ _) | exact bdrew (bdrew (Below.refl _ _)) | exact bdrewN (Below.refl _ _) _)).mono ?_; rintro e w1 ⟨u, rfl, b1⟩; have cq1 := cell_on (V := w) (X := w1) ⟨b1.os, b1.tape, b1.output, b1.size, b1.block⟩ HQ.out)
  all_goals
    go_wp2
    go_ret
    exact ⟨rfl, ⟨b1.os, b1.tape, b1.output, b1.size, b1.block⟩⟩
set_option maxHeartbeats 2000000 in
set_option maxRecDepth 100000 in
theorem namedK_f {x : Fk} {B q : Nat} {P Q : Nat} {nm : ByteArray} (h : Pt fkE w B q x) (cp : w.cell? ⟨P, 0, none⟩ = some (.func (.func 37) #[] #[])) (cq : w.cell? ⟨Q, 0, none⟩ = some (.string nm)) :
    Calls Try.prog 111 #[.pointer (some ⟨B, q, none⟩), .pointer (some ⟨P, 0, none⟩), .pointer (some ⟨Q, 0, none⟩)] w fun e w' => e = .returned (.bool (decide (x.nm = nm))) ∧ Below w.heap.size w w' := by
  have HO : Hid (∀ X : World, Below w.heap.size w X → Calls Try.prog 37 #[.pointer (some ⟨B, q, none⟩)] X fun e w' => ∃ u, e = .returned (.agg #[.int .i64 x.id, .string x.nm, u]) ∧ Below X.heap.size X w') := fun X hX => by
    obtain ⟨cs, hE, hc⟩ := h
    refine (ofK_any (w := X) ⟨cs, fkE_held _ _ _ _ hX hE, fun j u hu => cell_on hX (hc j u hu)⟩).mono ?_
    rintro e w' ⟨rfl, b⟩
    exact ⟨_, rfl, b⟩
  have hs := same_eq x.nm nm
  obtain ⟨r, hr⟩ : ∃ r, decide (x.nm = nm) = r := ⟨_, rfl⟩
  rw [hr] at hs ⊢
  have HQ := Lib.hid cq
  have hfd := field156_1
  clear hr h
  go_enter Try.func111, Try.ntmps111
  go_wp2
  go_region_with (go_at_call 37; refine (HO.out _ (by first | exact bdrew (Below.refl _ _) | exact bdrew (bdrew (Below.refl _ _)) | exact bdrewN (Below.refl _ _) _)).mono ?_; rintro e w1 ⟨u, rfl, b1⟩; have cq1 := cell_on (V := w) (X := w1) ⟨b1.os, b1.tape, b1.output, b1.size, b1.block⟩ HQ.out)
  all_goals
    go_wp2
    go_ret
    exact ⟨rfl, ⟨b1.os, b1.tape, b1.output, b1.size, b1.block⟩⟩
end
end Go.Proofs.Ytongmhfpoopebaa
