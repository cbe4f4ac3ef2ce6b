/- The walk of the document's make. -/
import Derived.Test.YtoipmpaebngppaaDRb
import Derived.Deep.AppendLies
namespace Go.Proofs.Ytoipmpaebngppaa
open Go.RowKit Go.Maps

section
variable {w w' : World} {B : Nat} {T : Nat → Prop} {F : List Fl} {left : Int} {off : Bool} {v : Value} {n : ByteArray}
theorem make_yes (h : Rv w B T F left off v) (hn : n.size ≤ maxLen) (hf : (fileF F n).isSome = true) : Calls Try.prog 44 #[.pointer (some ⟨B, 0, none⟩), .string n] w fun e w' => e = .returned (.int .i64 (placeF F n)) ∧ Below w.heap.size w w' := by
  have ha := at_any h hn
  rw [hf] at ha
  go_enter Try.func44, Try.ntmps44
  go_wp2_with fail
  refine ha.mono ?_
  rintro e w1 ⟨rfl, hb⟩
  go_wp2
  go_ret
  exact ⟨rfl, hb⟩

/-- The first files of a list, as a source for append. -/
theorem src_front {ad : Option Addr} {cap : Nat} (h : Rv w B T F left off (.slice ad F.length cap)) {p : Nat} (hp : p ≤ F.length) : (ad = none ∧ p = 0 ∧ cap = 0 ∧ flat3 (F.take p) = []) ∨ ∃ a, ad = some a ∧ (flat3 (F.take p)).length = p * 3 ∧ (∀ j u, (flat3 (F.take p))[j]? = some u → w.cell? (a.add j) = some u) := by
  rcases h.own.2 with ⟨e, h0⟩ | ⟨g, cap', cur, e, _⟩
  · simp only [Value.slice.injEq] at e
    have : p = 0 := by omega
    subst this
    exact .inl ⟨e.1, rfl, e.2.2, by simp [flat3]⟩
  · simp only [Value.slice.injEq] at e
    obtain ⟨rfl, _, rfl⟩ := e
    refine .inr ⟨_, rfl, by rw [flat3_len, List.length_take]; omega, fun j u hu => ?_⟩
    have hj : j < p * 3 := by
      have := (List.getElem?_eq_some_iff.1 hu).1
      rw [flat3_len, List.length_take] at this
      omega
    have e : (⟨g, 0, none⟩ : Addr).add j = ⟨g, j, none⟩ := by unfold Addr.add; split <;> simp_all
    rw [e, h.own.cellAt j (by omega)]
    rw [← flat3_take, List.getElem?_take, if_pos hj] at hu
    exact hu

/-- The last files of a list, as a source for append. -/
theorem src_back {g cap : Nat} (h : Rv w B T F left off (.slice (some ⟨g, 0, none⟩) F.length cap)) {p : Nat} (hp : p ≤ F.length) : (flat3 (F.drop p)).length = (F.length - p) * 3 ∧ (∀ j u, (flat3 (F.drop p))[j]? = some u → w.cell? ((⟨g, p * 3, none⟩ : Addr).add j) = some u) := by
  refine ⟨by rw [flat3_len, List.length_drop], fun j u hu => ?_⟩
  have hj : j < (F.length - p) * 3 := by
    have := (List.getElem?_eq_some_iff.1 hu).1
    rw [flat3_len, List.length_drop] at this
    omega
  have e : (⟨g, p * 3, none⟩ : Addr).add j = ⟨g, p * 3 + j, none⟩ := by unfold Addr.add; split <;> simp_all
  rw [e, h.own.cellAt (p * 3 + j) (by omega)]
  rw [← flat3_drop, List.getElem?_drop] at hu
  exact hu
/-- The new list is laid in. -/
theorem make_end {w0 w3 : World} {v3 : Value} {m : Nat} (h0 : Rv w0 B T F left off v) (hb0 : Below w.heap.size w w0) (hlt : ∀ k, T k → k < w.heap.size) (hn : n.size ≤ maxLen) (hf : (fileF F n).isSome = false) (hfew : F.length < 900000) (hb : Below w0.heap.size w0 w3)
    (ho : w3.ownsRow w0.heap.size 78 3 v3 m (flat3 (F.take (placeF F n)) ++ [.string n, .string ⟨#[]⟩, .int .i64 0] ++ flat3 (F.drop (placeF F n)))) (hm : m = F.length + 1) :
    Rv (w3.setCell ⟨B, 0, none⟩ v3) B (Gro T w (w3.setCell ⟨B, 0, none⟩ v3)) (mkF F n) left off v3 ∧ Fr w (w3.setCell ⟨B, 0, none⟩ v3) T := by
  have hle := place_le F n
  have hBT := h0.covB
  have hB := h0.lt B hBT
  have h3 := h0.on hb
  have hmk : mkF F n = F.take (placeF F n) ++ [⟨n, ⟨#[]⟩, 0⟩] ++ F.drop (placeF F n) := by unfold mkF; rw [if_neg (by simp [hf])]
  have hlen : (mkF F n).length = F.length + 1 := by rw [hmk]; simp; omega
  have hflat : flat3 (mkF F n) = flat3 (F.take (placeF F n)) ++ [.string n, .string ⟨#[]⟩, .int .i64 0] ++ flat3 (F.drop (placeF F n)) := by
    rw [hmk, flat3_append, flat3_append]
    rfl
  rw [← hflat, hm, ← hlen] at ho
  have hne : ∀ k, v3.ownBlock = some k → k ≠ B := by
    intro k hk e
    have := (ho.lt k hk).1
    omega
  have hfr : Fr w (w3.setCell ⟨B, 0, none⟩ v3) T := by
    have hf1 : Fr w w3 T := (Fr.ofBelow T hb0).below hb
    exact hf1.set (.inl hBT) _
  have hsz : (w3.setCell ⟨B, 0, none⟩ v3).heap.size = w3.heap.size := by simp
  have hs0 := hb0.size
  have hs1 := hb.size
  refine ⟨⟨by rw [set_blk h3.ob]; rfl, ?_, mk_rise h0.rise n, ?_, ?_, ?_, .inl hBT, ?_, ?_, by omega, h0.int⟩, hfr⟩
  · refine ownsRow_base_a (own_like ho (fun k hk => set_other _ (hne k hk))) (Nat.zero_le _)
  · intro f hfm
    rcases mk_mem hfm with rfl | q
    · exact Nat.zero_le _
    · exact h0.safe f q
  · intro f hfm
    rcases mk_mem hfm with rfl | q
    · exact Nat.zero_le _
    · exact h0.big f q
  · intro f hfm
    rcases mk_mem hfm with rfl | q
    · exact hn
    · exact h0.nm f q
  · intro k hk
    have := ho.lt k hk
    exact .inr ⟨by omega, by omega⟩
  · intro k hk
    rcases hk with q | q
    · have := hlt k q
      omega
    · exact q.2

set_option maxHeartbeats 2000000 in
set_option maxRecDepth 100000 in
theorem make_no (h : Rv w B T F left off v) (hn : n.size ≤ maxLen) (hf : (fileF F n).isSome = false) (hfew : F.length < 900000) :
    Calls Try.prog 44 #[.pointer (some ⟨B, 0, none⟩), .string n] w fun e w' => e = .returned (.int .i64 (placeF F n)) ∧ ∃ v', Rv w' B (Gro T w w') (mkF F n) left off v' ∧ Fr w w' T := by
  obtain ⟨ad, cap, rfl⟩ := h.shape
  have ha := at_any h hn
  rw [hf] at ha
  have hle := place_le F n
  obtain ⟨p, hp⟩ : ∃ p, placeF F n = p := ⟨_, rfl⟩
  obtain ⟨L, hL⟩ : ∃ L, F.length = L := ⟨_, rfl⟩
  have hcap : F.length ≤ cap := by
    rcases h.own.2 with ⟨e, h0⟩ | ⟨g, cap', cur, e, _, _, h1, _⟩
    · omega
    · simp only [Value.slice.injEq] at e
      omega
  rw [hp] at ha hle ⊢
  have HP := Lib.hid hp
  have HL := Lib.hid hL
  have p0 : (0 : Int) ≤ p := by omega
  have p1 : (p : Int) ≤ cap := by omega
  have p2 : (p : Int) ≤ L := by omega
  have p3 : (L : Int) ≤ cap := by omega
  have p4 : (L : Int) ≤ 900000 := by omega
  have hBT := h.covB
  have hlt := h.lt
  go_enter Try.func44, Try.ntmps44
  go_wp2_with fail
  refine ha.mono ?_
  rintro e w0 ⟨rfl, hb0⟩
  have h0 := h.on hb0
  have c0 := h0.c0
  obtain ⟨v1, w1, hrun1, ho1, hg1⟩ := files_run (World.ownsRow_nil w0 w0.heap.size 78 3) (Nat.le_refl _) (src_front h0 (p := p) (by omega)) (c := cap) (flat3_one _) (by omega)
  simp only [Nat.zero_add, List.nil_append] at ho1
  have hb1 : Below w0.heap.size w0 w1 := (Below.refl _ w0).grown hg1 (Nat.le_refl _) (fun k hk => by cases hk)
  have hbA : Below w0.heap.size w0 (w1.alloc (.cells #[.string n, .string ⟨#[]⟩, .int .i64 0] 78)) := hb1.alloc hb1.size _
  obtain ⟨v2, w2, hrun2, ho2, hg2⟩ := files_run (ho1.alloc (.cells #[.string n, .string ⟨#[]⟩, .int .i64 0] 78)) hbA.size (m := 1) (c := 1) (ad := some ⟨w1.heap.size, 0, none⟩) (news := [.string n, .string ⟨#[]⟩, .int .i64 0]) (.inr ⟨_, rfl, rfl, World.news_of_block (heap_alloc_new w1 _)⟩) (by intro u hu; simp at hu; rcases hu with rfl | rfl | rfl <;> rfl) (by omega)
  have hb2 : Below w0.heap.size w0 w2 := hbA.grown hg2 hbA.size (fun k hk => (ho1.lt k hk).1)
  have h2 := h0.on hb2
  have c2 := h2.c0
  rw [hL] at c0 c2
  have o1 : ∀ w3, (Below w0.heap.size w0 w3) → w3.cell? ⟨B, 0, none⟩ = some (.slice ad L cap) ∧ w3.frozen? ⟨B, 0, none⟩ = false := by
    intro w3 hb3
    have h3 := h0.on hb3
    refine ⟨?_, frozen_blk h3.ob 0⟩
    have := h3.c0
    rwa [hL] at this
  by_cases hcp : cap = p
  · have hpl : p = F.length := by omega
    have hdrop : flat3 (F.drop p) = [] := by rw [hpl, List.drop_length]; rfl
    obtain ⟨v3, w3, hrun3, ho3, hg3⟩ := files_run ho2 hb2.size (m := 0) (c := 0) (ad := ad) (news := []) (by
      cases ad with
      | none => exact .inl ⟨rfl, rfl, rfl, rfl⟩
      | some a => exact .inr ⟨a, rfl, rfl, fun j u hu => by simp at hu⟩) (fun u hu => by cases hu) (by omega)
    have hb3 : Below w0.heap.size w0 w3 := hb2.grown hg3 hb2.size (fun k hk => (ho2.lt k hk).1)
    obtain ⟨d0, d1⟩ := o1 w3 hb3
    obtain ⟨ad3, cap3, hv3⟩ : ∃ ad cap, v3 = .slice ad (p + 1 + 0) cap := by
      rcases ho3.2 with ⟨_, e⟩ | ⟨g, cap, cur, e, _⟩
      · omega
      · exact ⟨_, _, e⟩
    subst hv3
    rw [← HP.out] at hdrop
    have hend := make_end (v3 := .slice ad3 (p + 1 + 0) cap3) (m := p + 1 + 0) h0 hb0 hlt hn hf hfew hb3 (by rw [hdrop, HP.out]; exact ho3) (by omega)
    have hLp : L = p := by omega
    subst hcp hLp
    clear hp hL hpl o1
    go_wp2_with (at_builtin; refine wpl_run _ _ rfl hrun1 ?_; refine Hid.out ?_)
    refine Lib.hid ?_
    go_wp2_with (at_builtin; refine wpl_run _ _ rfl hrun2 ?_; refine Hid.out ?_)
    refine Lib.hid ?_
    go_wp2_with (at_builtin; refine wpl_run _ _ rfl hrun3 ?_; refine Hid.out ?_)
    refine Lib.hid ?_
    go_wp2
    go_ret
    exact ⟨rfl, _, hend⟩
  · obtain ⟨g, rfl⟩ : ∃ g, ad = some ⟨g, 0, none⟩ := by
      rcases h.own.2 with ⟨e, hz⟩ | ⟨g, cap', cur, e, _⟩
      · simp only [Value.slice.injEq] at e
        omega
      · simp only [Value.slice.injEq] at e
        exact ⟨g, e.1⟩
    obtain ⟨hl3, hc3⟩ := src_back h2 (p := p) (by omega)
    obtain ⟨v3, w3, hrun3, ho3, hg3⟩ := files_run ho2 hb2.size (m := F.length - p) (c := cap - p) (ad := some ⟨g, p * 3, none⟩) (news := flat3 (F.drop p)) (.inr ⟨_, rfl, hl3, hc3⟩) (flat3_one _) (by omega)
    have hb3 : Below w0.heap.size w0 w3 := hb2.grown hg3 hb2.size (fun k hk => (ho2.lt k hk).1)
    obtain ⟨d0, d1⟩ := o1 w3 hb3
    obtain ⟨ad3, cap3, hv3⟩ : ∃ ad cap, v3 = .slice ad (p + 1 + (F.length - p)) cap := by
      rcases ho3.2 with ⟨_, e⟩ | ⟨g, cap, cur, e, _⟩
      · omega
      · exact ⟨_, _, e⟩
    subst hv3
    have hend := make_end (v3 := .slice ad3 (p + 1 + (F.length - p)) cap3) (m := p + 1 + (F.length - p)) h0 hb0 hlt hn hf hfew hb3 (by rw [HP.out]; exact ho3) (by omega)
    rw [HL.out] at hrun3 hend
    clear hp hL o1 hl3 hc3
    go_wp2_with (at_builtin; refine wpl_run _ _ rfl hrun1 ?_; refine Hid.out ?_)
    refine Lib.hid ?_
    go_wp2_with (at_builtin; refine wpl_run _ _ rfl hrun2 ?_; refine Hid.out ?_)
    refine Lib.hid ?_
    go_wp2_with (at_builtin; refine wpl_run _ _ rfl hrun3 ?_; refine Hid.out ?_)
    refine Lib.hid ?_
    go_wp2
    go_ret
    exact ⟨rfl, _, hend⟩
end
end Go.Proofs.Ytoipmpaebngppaa
