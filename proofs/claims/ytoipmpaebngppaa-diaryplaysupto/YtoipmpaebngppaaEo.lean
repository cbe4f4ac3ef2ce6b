/- Both diaries side by side, on the same files: what stays while one of them is turned. -/
import Derived.Test.YtoipmpaebngppaaEk
namespace Go.Proofs.Ytoipmpaebngppaa
open Go.RowKit Go.Maps

/-! ### How great the files are -/
section
variable {F : List Fl} {n d : ByteArray} {M D : Nat} {s : Ds}
theorem appF_fit (hb : ∀ f ∈ F, f.data.size ≤ M) (hd : d.size ≤ D) : ∀ f ∈ appF F n d, f.data.size ≤ M + D := by
  intro f hf
  rcases putF_mem hf with rfl | q
  · show ((oldF F n).data ++ d).size ≤ _
    rw [ByteArray.size_append]
    have := old_big (n := n) hb
    omega
  · have := hb f q
    omega
theorem synF_fit (hb : ∀ f ∈ F, f.data.size ≤ M) : ∀ f ∈ synF F n, f.data.size ≤ M := by
  intro f hf
  unfold synF at hf
  cases e : fileF F n with
  | none =>
    rw [e] at hf
    exact hb f hf
  | some g =>
    rw [e] at hf
    rcases putF_mem hf with rfl | q
    · exact hb g (fileF_name e).2
    · exact hb f q
theorem swpF_fit (hb : ∀ f ∈ F, f.data.size ≤ M) (hd : d.size ≤ M) : ∀ f ∈ swpF F n d, f.data.size ≤ M := by
  intro f hf
  rcases putF_mem hf with rfl | q
  · exact hd
  · exact hb f q
theorem crashF_fit (hb : ∀ f ∈ F, f.data.size ≤ M) (keep : List Int) : ∀ f ∈ crashF F keep, f.data.size ≤ M := by
  intro f hf
  obtain ⟨i, hi, e⟩ := List.getElem_of_mem hf
  have hi' : i < F.length := by rwa [crash_len] at hi
  rw [crash_get F keep i hi'] at e
  rw [← e]
  have h2 := hb F[i] (List.getElem_mem hi')
  show (F[i].data.extract 0 _).size ≤ _
  rw [ByteArray.size_extract]
  omega
theorem fits_more {M' : Nat} (h : s.fits M) (hm : M ≤ M') : s.fits M' := fun f hf => Nat.le_trans (h f hf) hm
theorem fits_app (h : s.fits M) (hd : d.size ≤ D) : (s.app n d).fits (M + D) := by
  unfold Ds.app
  split
  · exact fits_more h (by omega)
  · exact appF_fit h hd
theorem fits_syn (h : s.fits M) : (s.syn n).fits M := by
  unfold Ds.syn
  split
  · exact h
  · split
    · exact h
    · exact synF_fit h
theorem fits_swp (h : s.fits M) (hd : d.size ≤ M) : (s.swp n d).fits M := by
  unfold Ds.swp
  split
  · exact h
  · split
    · exact h
    · exact swpF_fit h hd
theorem fits_dApp (h : s.fits M) {L : List ByteArray} (hd : sumS L ≤ D) : (s.dApp n L).1.fits (M + D) := by
  have hR : (recsB L).size ≤ D := hd
  have h1 : (s.app n (recsB L)).fits (M + D) := fits_app h hR
  unfold Ds.dApp
  split
  · exact fits_more h (by omega)
  · split
    · exact fits_more h (by omega)
    · split
      · exact h1
      · exact fits_syn h1
theorem fits_dRew (h : s.fits M) {L : List ByteArray} (hd : sumS L ≤ D) : (s.dRew n L).1.fits (M + D) := by
  have hR : (recsB L).size ≤ D := hd
  unfold Ds.dRew
  split
  · exact fits_more h (by omega)
  · exact fits_swp (fits_more h (by omega)) (by omega)
theorem fits_arm (h : s.fits M) (m : Int) : (s.arm m).fits M := by
  unfold Ds.arm
  split
  · exact h
  · exact h
theorem fits_text (h : s.fits M) (n : ByteArray) : (s.text n).size ≤ M := by
  unfold Ds.text
  split
  · exact Nat.zero_le _
  · exact old_big h
theorem fits_dOpn (h : s.fits M) (n : ByteArray) (k : Nat) : (s.dOpn n k).fits M := by
  have ht := fits_text h n
  unfold Ds.dOpn
  split
  · refine fits_swp h ?_
    rw [ByteArray.size_extract]
    omega
  · exact h
/-- A drive behind a loss of power has power. -/
theorem opn_crash (s : Ds) (keep : List Int) (n : ByteArray) (k : Nat) : ((s.crash keep).dOpn n k).down = false := by
  unfold Ds.dOpn
  split
  · rfl
  · rfl
end

/-! ### Two drives, and blocks that stay -/
structure TV (w0 w : World) (A B N : Nat) (S T : Nat → Prop) (sp sr : Ds) (K : List (Nat × Obj)) : Prop where
  pd : PD w A S N sp
  rd : RD w B T N sr
  dis : ∀ k, S k → ¬ T k
  fs : ∀ k, S k → w0.heap.size ≤ k
  ft : ∀ k, T k → w0.heap.size ≤ k
  old : Below w0.heap.size w0 w
  kp : ∀ p ∈ K, w.heap[p.1]? = some p.2 ∧ ¬ S p.1 ∧ ¬ T p.1
def TK (w0 w : World) (A B N : Nat) (s : Ds) (K : List (Nat × Obj)) : Prop := ∃ S T, TV w0 w A B N S T s s K
section
variable {w0 w w' w1 w2 : World} {A B X Y N N' M : Nat} {S T S' T' : Nat → Prop} {s sp sr sp' sr' : Ds} {K K' : List (Nat × Obj)} {n d : ByteArray} {L : List ByteArray} {ad ad0 : Option Addr} {cap cap0 : Nat}
theorem TV.ltK (h : TV w0 w A B N S T sp sr K) {p : Nat × Obj} (hp : p ∈ K) : p.1 < w.heap.size := (Array.getElem?_eq_some_iff.1 (h.kp p hp).1).1
theorem TV.blk (h : TV w0 w A B N S T sp sr K) : ∀ p ∈ K, w.heap[p.1]? = some p.2 := fun p hp => (h.kp p hp).1
theorem TV.p_turn (h : TV w0 w A B N S T sp sr K) (hp : PD w' A S' N' sp') (hs : ∀ j, S' j → Gro S w w' j) (hf : Fr w w' S) (hN : N ≤ N') : TV w0 w' A B N' S' T sp' sr K := by
  refine ⟨hp, (h.rd.stays hf (fun b hb q => h.dis b q hb)).more hN hp.few, fun k q1 q2 => ?_, fun k q => gro_fresh h.fs h.old.size k (hs k q), h.ft, fr_below h.fs h.old hf, fun p hpK => ?_⟩
  · rcases hs k q1 with q | q
    · exact h.dis k q q2
    · have := h.rd.lt k q2
      omega
  · obtain ⟨a, b, c⟩ := h.kp p hpK
    have hl := h.ltK hpK
    refine ⟨(hf.block p.1 hl b).trans a, fun q => ?_, c⟩
    rcases hs p.1 q with q | q
    · exact b q
    · omega
theorem TV.r_turn (h : TV w0 w A B N S T sp sr K) (hp : RD w' B T' N' sr') (hs : ∀ j, T' j → Gro T w w' j) (hf : Fr w w' T) (hN : N ≤ N') : TV w0 w' A B N' S T' sp sr' K := by
  refine ⟨(h.pd.stays hf (fun b hb q => h.dis b hb q)).more hN hp.few, hp, fun k q1 q2 => ?_, h.fs, fun k q => gro_fresh h.ft h.old.size k (hs k q), fr_below h.ft h.old hf, fun p hpK => ?_⟩
  · rcases hs k q2 with q | q
    · exact h.dis k q1 q
    · have := h.pd.lt k q1
      omega
  · obtain ⟨a, b, c⟩ := h.kp p hpK
    have hl := h.ltK hpK
    refine ⟨(hf.block p.1 hl c).trans a, b, fun q => ?_⟩
    rcases hs p.1 q with q | q
    · exact c q
    · omega
theorem TV.on (h : TV w0 w A B N S T sp sr K) (hb : Below w.heap.size w w') : TV w0 w' A B N S T sp sr K :=
  h.p_turn (h.pd.on hb) (fun _ q => .inl q) (Fr.ofBelow _ hb) (Nat.le_refl _)
theorem TV.sub (h : TV w0 w A B N S T sp sr K) (hK : ∀ p ∈ K', p ∈ K) : TV w0 w A B N S T sp sr K' :=
  ⟨h.pd, h.rd, h.dis, h.fs, h.ft, h.old, fun p hp => h.kp p (hK p hp)⟩
/-- A new block stays too. -/
theorem TV.box (h : TV w0 w A B N S T sp sr K) (o : Obj) : TV w0 (w.alloc o) A B N S T sp sr ((w.heap.size, o) :: K) := by
  have hal : Below w.heap.size w (w.alloc o) := (Below.refl _ w).alloc (Nat.le_refl _) _
  have h' := h.on hal
  refine ⟨h'.pd, h'.rd, h'.dis, h'.fs, h'.ft, h'.old, fun p hp => ?_⟩
  rcases List.mem_cons.1 hp with rfl | hp
  · refine ⟨heap_alloc_new w _, fun q => ?_, fun q => ?_⟩
    · have q1 : w.heap.size < w.heap.size := h.pd.lt w.heap.size q
      omega
    · have q1 : w.heap.size < w.heap.size := h.rd.lt w.heap.size q
      omega
  · exact h'.kp p hp
theorem TV.drewN (h : TV w0 w A B N S T sp sr K) (k : Nat) : TV w0 (w.drewN k) A B N S T sp sr K := h.on (below_draw (Below.refl _ w) k)

theorem tv_append (h : TV w0 w A B N S T s s K) (hX : (X, pdO A n) ∈ K) (hY : (Y, rdO B n) ∈ K) (hL : Ls L ad w) (hL0 : Ls L ad0 w0) (hz : sumS L ≤ 1000000000000) (hn : n.size ≤ maxLen) (ho : (oldF s.F n).data.size ≤ 1000000000000) (hN : N + 1 < 900000) :
    Calls Try.prog 12 #[.pointer (some ⟨X, 0, none⟩), .slice ad L.length cap] w fun e w1 => e = .returned (.int .i64 (s.dApp n L).2) ∧ (∀ p ∈ K, w1.heap[p.1]? = some p.2) ∧
      Calls Try.prog 13 #[.pointer (some ⟨Y, 0, none⟩), .slice ad0 L.length cap0] w1 fun e w2 => e = .returned (.int .i64 (s.dApp n L).2) ∧ (∀ p ∈ K, w2.heap[p.1]? = some p.2) ∧ TK w0 w2 A B (N + 2) (s.dApp n L).1 K := by
  obtain ⟨a, b, c⟩ := h.kp _ hX
  refine (pd_append h.pd a b hL hz hn ho hN).mono ?_
  rintro e w1 ⟨rfl, hp, hf⟩
  have h1 := h.p_turn hp (fun j q => q) hf (by omega)
  have hr := h.rd.stays hf (fun b hb q => h.dis b q hb)
  obtain ⟨a1, b1, c1⟩ := h1.kp _ hY
  refine ⟨rfl, h1.blk, (rd_append hr a1 c1 (hL0.on h1.old) hz hn ho hN).mono ?_⟩
  rintro e w2 ⟨rfl, hp2, hf2⟩
  have h2 := h1.r_turn hp2 (fun j q => q) hf2 (Nat.le_refl _)
  exact ⟨rfl, h2.blk, _, _, h2⟩
theorem tv_rewrite (h : TV w0 w A B N S T s s K) (hX : (X, pdO A n) ∈ K) (hY : (Y, rdO B n) ∈ K) (hL : Ls L ad w) (hL0 : Ls L ad0 w0) (hz : sumS L ≤ 1000000000000) (hn : n.size ≤ maxLen) (hN : N < 900000) :
    Calls Try.prog 14 #[.pointer (some ⟨X, 0, none⟩), .slice ad L.length cap] w fun e w1 => e = .returned (.int .i64 (s.dRew n L).2) ∧ (∀ p ∈ K, w1.heap[p.1]? = some p.2) ∧
      Calls Try.prog 15 #[.pointer (some ⟨Y, 0, none⟩), .slice ad0 L.length cap0] w1 fun e w2 => e = .returned (.int .i64 (s.dRew n L).2) ∧ (∀ p ∈ K, w2.heap[p.1]? = some p.2) ∧ TK w0 w2 A B (N + 1) (s.dRew n L).1 K := by
  obtain ⟨a, b, c⟩ := h.kp _ hX
  refine (pd_rewrite h.pd a hL hz hn hN).mono ?_
  rintro e w1 ⟨rfl, hp, hf⟩
  have h1 := h.p_turn hp (fun j q => q) hf (by omega)
  have hr := h.rd.stays hf (fun b hb q => h.dis b q hb)
  obtain ⟨a1, b1, c1⟩ := h1.kp _ hY
  refine ⟨rfl, h1.blk, (rd_rewrite hr a1 (hL0.on h1.old) hz hn hN).mono ?_⟩
  rintro e w2 ⟨rfl, hp2, hf2⟩
  have h2 := h1.r_turn hp2 (fun j q => q) hf2 (Nat.le_refl _)
  exact ⟨rfl, h2.blk, _, _, h2⟩
theorem tv_arm (h : TV w0 w A B N S T s s K) {m : Int} (hm : -9223372036854775808 ≤ m ∧ m ≤ 9223372036854775807) :
    Calls Try.prog 16 #[.pointer (some ⟨A, 0, none⟩), .int .i64 m] w fun e w1 => e = .returned (.tuple #[]) ∧ (∀ p ∈ K, w1.heap[p.1]? = some p.2) ∧
      Calls Try.prog 17 #[.pointer (some ⟨B, 0, none⟩), .int .i64 m] w1 fun e w2 => e = .returned (.tuple #[]) ∧ (∀ p ∈ K, w2.heap[p.1]? = some p.2) ∧ TK w0 w2 A B N (s.arm m) K := by
  refine (p_arm h.pd hm).mono ?_
  rintro e w1 ⟨rfl, hp, hf, _⟩
  have h1 := h.p_turn hp (fun j q => .inl q) hf (Nat.le_refl _)
  refine ⟨rfl, h1.blk, (r_arm h1.rd hm).mono ?_⟩
  rintro e w2 ⟨rfl, hp2, hf2, _⟩
  have h2 := h1.r_turn hp2 (fun j q => .inl q) hf2 (Nat.le_refl _)
  exact ⟨rfl, h2.blk, _, _, h2⟩
theorem tv_read (h : TV w0 w A B N S T s s K) (hn : n.size ≤ maxLen) :
    Calls Try.prog 21 #[.pointer (some ⟨A, 0, none⟩), .string n] w fun e w1 => e = .returned (.tuple #[.string (s.text n), .int .i64 s.code]) ∧
      Calls Try.prog 22 #[.pointer (some ⟨B, 0, none⟩), .string n] w1 fun e w2 => e = .returned (.tuple #[.string (s.text n), .int .i64 s.code]) ∧ TK w0 w2 A B N s K := by
  refine (p_read h.pd hn).mono ?_
  rintro e w1 ⟨rfl, hb⟩
  have h1 := h.on hb
  refine ⟨rfl, (r_read h1.rd hn).mono ?_⟩
  rintro e w2 ⟨rfl, hb2⟩
  exact ⟨rfl, _, _, h1.on hb2⟩
theorem tv_crash (h : TV w0 w A B N S T s s K) {cv kv : Value} {keep : List Int} (hc : Ints w cv keep) (hk : Ints w0 kv keep) :
    Calls Try.prog 18 #[.pointer (some ⟨A, 0, none⟩), cv] w fun e w1 => ∃ A', e = .returned (.pointer (some ⟨A', 0, none⟩)) ∧ (∀ p ∈ K, w1.heap[p.1]? = some p.2) ∧
      Calls Try.prog 19 #[.pointer (some ⟨B, 0, none⟩), kv] w1 fun e w2 => ∃ B', e = .returned (.pointer (some ⟨B', 0, none⟩)) ∧ (∀ p ∈ K, w2.heap[p.1]? = some p.2) ∧ TK w0 w2 A' B' N (s.crash keep) K := by
  have hA : S A := by
    obtain ⟨mv, loc, hd⟩ := h.pd
    exact hd.covA
  have hB : T B := by
    obtain ⟨rl, ⟨v, hd⟩, _⟩ := h.rd
    exact hd.covB
  refine (p_crash h.pd hc).mono ?_
  rintro e w1 ⟨rfl, ⟨S1, hp1, hS1⟩, _, hf1⟩
  have hfS : Fr w w1 S := hf1.mono (fun k q => by rw [q]; exact hA)
  have hr1 := h.rd.stays hfS (fun b hb q => h.dis b q hb)
  have hb1 := fr_below h.fs h.old hfS
  have hk1 : ∀ p ∈ K, w1.heap[p.1]? = some p.2 := fun p hp => (hfS.block p.1 (h.ltK hp) (h.kp p hp).2.1).trans (h.kp p hp).1
  refine ⟨_, rfl, hk1, (r_crash hr1 (hk.on hb1)).mono ?_⟩
  rintro e w2 ⟨rfl, ⟨T2, hr2, hT2⟩, _, hf2⟩
  have hfT : Fr w1 w2 T := hf2.mono (fun k q => by rw [q]; exact hB)
  have z0 := h.old.size
  have z1 := hf1.size
  have hk2 : ∀ p ∈ K, w2.heap[p.1]? = some p.2 := fun p hp => (hfT.block p.1 (Nat.lt_of_lt_of_le (h.ltK hp) z1) (h.kp p hp).2.2).trans (hk1 p hp)
  refine ⟨_, rfl, hk2, S1, T2, hp1.stays hfT (fun b hb q => ?_), hr2, fun b hb q => ?_, fun b hb => ?_, fun b hb => ?_, fr_below h.ft hb1 hfT, fun p hp => ⟨hk2 p hp, fun q => ?_, fun q => ?_⟩⟩
  · have a := hS1 b hb
    have c := h.rd.lt b q
    omega
  · have a := hp1.lt b hb
    have c := hT2 b q
    omega
  · have := hS1 b hb
    omega
  · have := hT2 b hb
    omega
  · have a := hS1 _ q
    have c := h.ltK hp
    omega
  · have a := hT2 _ q
    have c := h.ltK hp
    omega
/-- What the second Open finds is what the first one found. -/
theorem tv_open (h : TV w0 w A B N S T s s K) (hn : n.size ≤ maxLen) (ho : (s.text n).size ≤ 1000000000000) (hN : N < 900000) :
    Calls Try.prog 10 #[.pointer (some ⟨A, 0, none⟩), .string n] w fun e w1 => ∃ ps k, 8 * ps.length ≤ (s.text n).size ∧
      (((s.dOpn n k).down = true ∧ e = .returned (.tuple #[.pointer none, .slice none 0 0, .int .i64 50]) ∧
          Calls Try.prog 11 #[.pointer (some ⟨B, 0, none⟩), .string n] w1 fun e w2 => e = .returned (.tuple #[.pointer none, .slice none 0 0, .int .i64 50]) ∧ TK w0 w2 A B (N + 1) (s.dOpn n k) K) ∨
       ((s.dOpn n k).down = false ∧ ∃ X ad cap, e = .returned (.tuple #[.pointer (some ⟨X, 0, none⟩), .slice ad ps.length cap, .int .i64 0]) ∧
          Calls Try.prog 11 #[.pointer (some ⟨B, 0, none⟩), .string n] w1 fun e w2 => ∃ Y ad' cap', e = .returned (.tuple #[.pointer (some ⟨Y, 0, none⟩), .slice ad' ps.length cap', .int .i64 0]) ∧ TK w0 w2 A B (N + 1) (s.dOpn n k) ((X, pdO A n) :: (Y, rdO B n) :: K) ∧ Ls ps ad w2 ∧ Ls ps ad' w2)) := by
  refine (pd_open h.pd hn ho hN).mono ?_
  rintro e w1 ⟨ps, k, hsc, hk, hps, hf, S', hS', hp, hc⟩
  have h1 := h.p_turn hp hS' hf (Nat.le_succ N)
  have hr1 := h.rd.stays hf (fun b hb q => h.dis b q hb)
  have hro := rd_open hr1 hn ho hN
  refine ⟨ps, k, hps, ?_⟩
  rcases hc with ⟨hd, rfl⟩ | ⟨hd, X, v, rfl, hX, hSX, hwX, hown, hvS⟩
  · refine .inl ⟨hd, rfl, hro.mono ?_⟩
    rintro e w2 ⟨ps', k', hsc', hk', hps', hf2, T', hT', hr, hc'⟩
    obtain ⟨e1, e2⟩ := scans_one hsc hsc'
    subst e2
    have h2 := h1.r_turn hr hT' hf2 (Nat.le_refl _)
    rcases hc' with ⟨_, rfl⟩ | ⟨hd', _⟩
    · exact ⟨rfl, S', T', h2⟩
    · rw [hd] at hd'
      cases hd'
  · have hXl : X < w1.heap.size := (Array.getElem?_eq_some_iff.1 hX).1
    have hXT : ¬ T X := fun q => by
      have := h.rd.lt X q
      omega
    have hrow := fun w2 (hf2 : Fr w1 w2 T) => row_keep hown hf2 (fun j hj q => by
      have a := (hown.lt j hj).1
      have c := h.rd.lt j q
      omega)
    obtain ⟨ad, cap, rfl, _, _, _⟩ := Ls.own hown
    refine .inr ⟨hd, X, ad, cap, rfl, hro.mono ?_⟩
    rintro e w2 ⟨ps', k', hsc', hk', hps', hf2, T', hT', hr, hc'⟩
    obtain ⟨e1, e2⟩ := scans_one hsc hsc'
    obtain rfl := lists_inj e1
    subst e2
    have h2 := h1.r_turn hr hT' hf2 (Nat.le_refl _)
    rcases hc' with ⟨hd', _⟩ | ⟨_, Y, v', rfl, hY, hTY, hwY, hown', _⟩
    · rw [hd] at hd'
      cases hd'
    · obtain ⟨ad', cap', rfl, hls', _, _⟩ := Ls.own hown'
      obtain ⟨ad2, cap2, e3, hls2, _, _⟩ := Ls.own (hrow w2 hf2)
      cases e3
      refine ⟨Y, ad', cap', rfl, ⟨S', T', h2.pd, h2.rd, h2.dis, h2.fs, h2.ft, h2.old, fun p hp' => ?_⟩, hls2, hls'⟩
      rcases List.mem_cons.1 hp' with rfl | hp'
      · refine ⟨(hf2.block X hXl hXT).trans hX, hSX, fun q => ?_⟩
        rcases hT' X q with q | q
        · exact hXT q
        · omega
      · rcases List.mem_cons.1 hp' with rfl | hp'
        · refine ⟨hY, fun q => ?_, hTY⟩
          have a : Y < w1.heap.size := hp.lt Y q
          omega
        · exact h2.kp p hp'
end
end Go.Proofs.Ytoipmpaebngppaa
