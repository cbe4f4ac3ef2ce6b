/- A drive with its diary, and a list of texts beside it. -/
import Derived.Test.YtoipmpaebngppaaEl
namespace Go.Proofs.Ytoipmpaebngppaa
open Go.RowKit Go.Maps

/-- A list of texts that lies outside a drive. -/
structure Bes (w0 w : World) (S : Nat → Prop) (put : List ByteArray) (v : Value) : Prop where
  row : w.ownsRow w0.heap.size 9 1 v put.length (put.map Value.string)
  out : ∀ j, v.ownBlock = some j → ¬ S j
def KR (w0 w : World) (A N : Nat) (s : Ds) (put : List ByteArray) (v : Value) : Prop := ∃ S, PD w A S N s ∧ (∀ k, S k → w0.heap.size ≤ k) ∧ Below w0.heap.size w0 w ∧ Bes w0 w S put v
/-- The same, with the drive's diary, and a block that stays. -/
def KS (w0 w : World) (A X N : Nat) (s : Ds) (put : List ByteArray) (v : Value) (bx : Nat) (ob : Obj) : Prop := ∃ S, PD w A S N s ∧ (∀ k, S k → w0.heap.size ≤ k) ∧ Below w0.heap.size w0 w ∧ Bes w0 w S put v ∧ w.heap[X]? = some (pdO A nF) ∧ ¬ S X ∧ v.ownBlock ≠ some X ∧ w.heap[bx]? = some ob ∧ ¬ S bx ∧ v.ownBlock ≠ some bx
section
variable {w0 w w' w1 w2 : World} {A B X Y N M : Nat} {S T : Nat → Prop} {s : Ds} {n d : ByteArray} {L put : List ByteArray} {ad : Option Addr} {cap : Nat} {v v' : Value} {bx : Nat} {ob : Obj}
theorem Bes.keep (h : Bes w0 w S put v) (hf : Fr w w' T) (hT : ∀ j, v.ownBlock = some j → ¬ T j) {S' : Nat → Prop} (hS : ∀ j, S' j → Gro S w w' j) : Bes w0 w' S' put v := by
  refine ⟨row_keep h.row hf hT, fun j hj q => ?_⟩
  have := (h.row.lt j hj).2
  rcases hS j q with q | q
  · exact h.out j hj q
  · omega
theorem KS.below (h : KS w0 w A X N s put v bx ob) : Below w0.heap.size w0 w := by
  obtain ⟨S, _, _, hb, _⟩ := h
  exact hb
theorem KS.lt (h : KS w0 w A X N s put v bx ob) : X < w.heap.size := by
  obtain ⟨S, _, _, _, _, h5, _⟩ := h
  exact (Array.getElem?_eq_some_iff.1 h5).1
theorem KS.ltB (h : KS w0 w A X N s put v bx ob) : bx < w.heap.size := by
  obtain ⟨S, _, _, _, _, _, _, _, h8, _⟩ := h
  exact (Array.getElem?_eq_some_iff.1 h8).1
theorem KS.box (h : KS w0 w A X N s put v bx ob) : w.heap[bx]? = some ob := by
  obtain ⟨S, _, _, _, _, _, _, _, h8, _⟩ := h
  exact h8
theorem KS.row (h : KS w0 w A X N s put v bx ob) : w.ownsRow w0.heap.size 9 1 v put.length (put.map Value.string) := by
  obtain ⟨S, _, _, _, h4, _⟩ := h
  exact h4.row
theorem KS.turn {N' : Nat} {s' : Ds} {S' : Nat → Prop} (hX : X < w.heap.size) (h2 : ∀ k, S k → w0.heap.size ≤ k) (h3 : Below w0.heap.size w0 w) (h4 : Bes w0 w S put v) (h5 : w.heap[X]? = some (pdO A nF)) (h6 : ¬ S X) (h7 : v.ownBlock ≠ some X) (hB : bx < w.heap.size) (h8 : w.heap[bx]? = some ob) (h9 : ¬ S bx) (h10 : v.ownBlock ≠ some bx)
    (hp : PD w' A S' N' s') (hs : ∀ j, S' j → Gro S w w' j) (hf : Fr w w' S) : KS w0 w' A X N' s' put v bx ob := by
  refine ⟨S', hp, fun k q => gro_fresh h2 h3.size k (hs k q), fr_below h2 h3 hf, h4.keep hf h4.out hs, (hf.block X hX h6).trans h5, fun q => ?_, h7, (hf.block bx hB h9).trans h8, fun q => ?_, h10⟩
  · rcases hs X q with q | q
    · exact h6 q
    · omega
  · rcases hs bx q with q | q
    · exact h9 q
    · omega
theorem KS.on (h : KS w0 w A X N s put v bx ob) (hb : Below w.heap.size w w') : KS w0 w' A X N s put v bx ob := by
  have hX := h.lt
  have hB := h.ltB
  obtain ⟨S, h1, h2, h3, h4, h5, h6, h7, h8, h9, h10⟩ := h
  exact KS.turn hX h2 h3 h4 h5 h6 h7 hB h8 h9 h10 (h1.on hb) (fun j q => .inl q) (Fr.ofBelow _ hb)
/-- Another list takes the first one's place. -/
theorem KS.other (h : KS w0 w A X N s put v bx ob) (hb : Below w.heap.size w w') {put' : List ByteArray} (hr : w'.ownsRow w.heap.size 9 1 v' put'.length (put'.map Value.string)) : KS w0 w' A X N s put' v' bx ob := by
  have hX := h.lt
  have hB := h.ltB
  obtain ⟨S, h1, h2, h3, h4, h5, h6, h7, h8, h9, h10⟩ := h
  have hlt := h1.lt
  refine ⟨S, h1.on hb, h2, h3.trans (hb.mono h3.size), ⟨own_mono hr h3.size, fun j hj q => ?_⟩, (hb.block X hX).trans h5, h6, fun q => ?_, (hb.block bx hB).trans h8, h9, fun q => ?_⟩
  · have a := (hr.lt j hj).1
    have b := hlt j q
    omega
  · have a := (hr.lt X q).1
    omega
  · have a := (hr.lt bx q).1
    omega
/-- A new block takes the elder one's place. -/
theorem KS.newBox (h : KS w0 w A X N s put v bx ob) (o' : Obj) : KS w0 (w.alloc o') A X N s put v w.heap.size o' := by
  have hal : Below w.heap.size w (w.alloc o') := (Below.refl _ w).alloc (Nat.le_refl _) _
  obtain ⟨S, h1, h2, h3, h4, h5, h6, h7, _⟩ := h.on hal
  obtain ⟨S0, g1, g2, g3, g4, g5, g6, g7, _⟩ := h
  refine ⟨S0, g1.on hal, g2, h3, g4.keep (Fr.ofBelow S0 hal) g4.out (fun j q => .inl q), h5, g6, g7, heap_alloc_new w _, fun q => ?_, fun q => ?_⟩
  · have := g1.lt _ q
    omega
  · have := (g4.row.lt _ q).2
    omega
/-- The list grows. -/
theorem KS.grow (h : KS w0 w A X N s put v bx ob) (hr : w'.ownsRow w0.heap.size 9 1 v' (put.length + L.length) (put.map Value.string ++ L.map Value.string)) (hg : w.grownBy w' v.ownBlock) (ha : v'.ownBlock = v.ownBlock ∨ v'.ownBlock = some w.heap.size) : KS w0 w' A X N s (put ++ L) v' bx ob := by
  have hX := h.lt
  have hB := h.ltB
  obtain ⟨S, h1, h2, h3, h4, h5, h6, h7, h8, h9, h10⟩ := h
  have hlt := h1.lt
  have hf : Fr w w' (fun k => v.ownBlock = some k) := ⟨hg.os, hg.tape, hg.output, hg.size, fun k hk hn => hg.block k hk (fun e => hn e.symm)⟩
  refine ⟨S, h1.stays hf (fun b hb q => h4.out b q hb), h2, fr_below (T := fun k => v.ownBlock = some k) (fun k q => (h4.row.lt k q).1) h3 hf, ⟨?_, fun j hj q => ?_⟩, (hf.block X hX h7).trans h5, h6, fun q => ?_, (hf.block bx hB h10).trans h8, h9, fun q => ?_⟩
  · rw [List.length_append, List.map_append]
    exact hr
  · rcases ha with e | e
    · exact h4.out j (e ▸ hj) q
    · rw [e] at hj
      have b := hlt j q
      cases hj
      omega
  · rcases ha with e | e
    · exact h7 (e ▸ q)
    · rw [e] at q
      cases q
      omega
  · rcases ha with e | e
    · exact h10 (e ▸ q)
    · rw [e] at q
      cases q
      omega
theorem ks_append (h : KS w0 w A X N s put v bx ob) (hL : Ls L ad w) (hz : sumS L ≤ 1000000000000) (ho : (oldF s.F nF).data.size ≤ 1000000000000) (hN : N + 1 < 900000) :
    Calls Try.prog 12 #[.pointer (some ⟨X, 0, none⟩), .slice ad L.length cap] w fun e w' => e = .returned (.int .i64 (s.dApp nF L).2) ∧ KS w0 w' A X (N + 2) (s.dApp nF L).1 put v bx ob := by
  have hX := h.lt
  have hB := h.ltB
  obtain ⟨S, h1, h2, h3, h4, h5, h6, h7, h8, h9, h10⟩ := h
  refine (pd_append h1 h5 h6 hL hz (by decide) ho hN).mono ?_
  rintro e w' ⟨rfl, hp, hf⟩
  exact ⟨rfl, KS.turn hX h2 h3 h4 h5 h6 h7 hB h8 h9 h10 hp (fun j q => q) hf⟩
theorem ks_rewrite (h : KS w0 w A X N s put v bx ob) (hL : Ls L ad w) (hz : sumS L ≤ 1000000000000) (hN : N < 900000) :
    Calls Try.prog 14 #[.pointer (some ⟨X, 0, none⟩), .slice ad L.length cap] w fun e w' => e = .returned (.int .i64 (s.dRew nF L).2) ∧ KS w0 w' A X (N + 1) (s.dRew nF L).1 put v bx ob := by
  have hX := h.lt
  have hB := h.ltB
  obtain ⟨S, h1, h2, h3, h4, h5, h6, h7, h8, h9, h10⟩ := h
  refine (pd_rewrite h1 h5 hL hz (by decide) hN).mono ?_
  rintro e w' ⟨rfl, hp, hf⟩
  exact ⟨rfl, KS.turn hX h2 h3 h4 h5 h6 h7 hB h8 h9 h10 hp (fun j q => q) hf⟩
theorem ks_arm (h : KS w0 w A X N s put v bx ob) {m : Int} (hm : -9223372036854775808 ≤ m ∧ m ≤ 9223372036854775807) :
    Calls Try.prog 16 #[.pointer (some ⟨A, 0, none⟩), .int .i64 m] w fun e w' => e = .returned (.tuple #[]) ∧ KS w0 w' A X N (s.arm m) put v bx ob := by
  have hX := h.lt
  have hB := h.ltB
  obtain ⟨S, h1, h2, h3, h4, h5, h6, h7, h8, h9, h10⟩ := h
  refine (p_arm h1 hm).mono ?_
  rintro e w' ⟨rfl, hp, hf, _⟩
  exact ⟨rfl, KS.turn hX h2 h3 h4 h5 h6 h7 hB h8 h9 h10 hp (fun j q => .inl q) hf⟩
theorem ks_down (h : KS w0 w A X N s put v bx ob) : Calls Try.prog 23 #[.pointer (some ⟨A, 0, none⟩)] w fun e w' => e = .returned (.bool s.down) ∧ w' = w := by
  obtain ⟨S, h1, _⟩ := h
  exact p_down h1
theorem ks_crash (h : KS w0 w A X N s put v bx ob) {kv : Value} {keep : List Int} (hk : Ints w kv keep) :
    Calls Try.prog 18 #[.pointer (some ⟨A, 0, none⟩), kv] w fun e w' => ∃ B, e = .returned (.pointer (some ⟨B, 0, none⟩)) ∧ KR w0 w' B N (s.crash keep) put v := by
  obtain ⟨S, h1, h2, h3, h4, _⟩ := h
  have hA : S A := by
    obtain ⟨mv, loc, hd⟩ := h1
    exact hd.covA
  refine (p_crash h1 hk).mono ?_
  rintro e w' ⟨rfl, ⟨T, hp, hT⟩, _, hf⟩
  have hz := h3.size
  refine ⟨_, rfl, T, hp, fun k q => Nat.le_trans hz (hT k q), fr_below (T := fun k => k = A) (fun k q => by rw [q]; exact h2 A hA) h3 hf, row_keep h4.row hf (fun j hj q => ?_), fun j hj q => ?_⟩
  · have q' : j = A := q
    subst q'
    exact h4.out j hj hA
  · have a := hT j q
    have b := (h4.row.lt j hj).2
    omega
theorem kr_open (h : KR w0 w A N s put v) (ho : (s.text nF).size ≤ 1000000000000) (hN : N < 900000) :
    Calls Try.prog 10 #[.pointer (some ⟨A, 0, none⟩), .string nF] w fun e w' => ∃ ps k, Scans (s.text nF).data.toList (lists ps) k ∧
      (((s.dOpn nF k).down = true ∧ e = .returned (.tuple #[.pointer none, .slice none 0 0, .int .i64 50])) ∨
       (∃ X ad cap, e = .returned (.tuple #[.pointer (some ⟨X, 0, none⟩), .slice ad ps.length cap, .int .i64 0]) ∧ KS w0 w' A X (N + 1) (s.dOpn nF k) put v X (pdO A nF) ∧ Ls ps ad w')) := by
  obtain ⟨S, h1, h2, h3, h4⟩ := h
  refine (pd_open h1 (by decide) ho hN).mono ?_
  rintro e w' ⟨ps, k, hsc, hk, hps, hf, S', hS', hp, hc⟩
  refine ⟨ps, k, hsc, ?_⟩
  rcases hc with ⟨hd, rfl⟩ | ⟨hd, Y, v9, rfl, hY, hSY, hwY, hown, _⟩
  · exact .inl ⟨hd, rfl⟩
  · obtain ⟨ad, cap, rfl, hls, _, _⟩ := Ls.own hown
    refine .inr ⟨Y, ad, cap, rfl, ⟨S', hp, fun j q => gro_fresh h2 h3.size j (hS' j q), fr_below h2 h3 hf, h4.keep hf h4.out hS', hY, hSY, fun q => ?_, hY, hSY, fun q => ?_⟩, hls⟩
    all_goals
      have := (h4.row.lt Y q).2
      omega
end
end Go.Proofs.Ytoipmpaebngppaa
