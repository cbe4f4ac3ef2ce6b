/- The program's drive and the document's, side by side. -/
import Derived.Test.YtoipmpaebngppaaDRg
namespace Go.Proofs.Ytoipmpaebngppaa
open Go.RowKit Go.Maps

/-- Both drives have the files F; they were made since w0. -/
structure Tw (w0 w : World) (A B : Nat) (S T : Nat → Prop) (N M : Nat) (F : List Fl) (left rl : Int) (down : Bool) : Prop where
  dr : Dr w A S N F left down
  rd : Rd w B T F rl down
  dis : ∀ k, S k → ¬ T k
  fs : ∀ k, S k → w0.heap.size ≤ k
  ft : ∀ k, T k → w0.heap.size ≤ k
  old : Below w0.heap.size w0 w
  lr : down = false → rl = max 0 left
  big : ∀ f ∈ F, f.data.size ≤ M
def Two (w0 w : World) (A B N M : Nat) : Prop := ∃ S T F left rl down, Tw w0 w A B S T N M F left rl down

section
variable {w0 w w' : World} {A B N M : Nat} {S T : Nat → Prop} {F F' : List Fl} {left left' rl rl' : Int} {down down' : Bool} {n d : ByteArray}
theorem Dr.ltS (h : Dr w A S N F left down) : ∀ k, S k → k < w.heap.size := by
  obtain ⟨mv, loc, h⟩ := h
  exact h.lt
theorem Rd.ltT (h : Rd w B T F rl down) : ∀ k, T k → k < w.heap.size := by
  obtain ⟨v, h⟩ := h
  exact h.lt
theorem Dr.more (h : Dr w A S N F left down) {N' : Nat} (hN : N ≤ N') (h9 : N' ≤ 900000) : Dr w A S N' F left down := by
  obtain ⟨mv, loc, h⟩ := h
  exact ⟨mv, loc, h.ob, h.mp.mono hN, h.rise, h.row, h.safe, h.big, h.nm, h.sep, h.covA, h.covM, h.covR, h.lt, h9, h.int⟩
theorem Dr.lenF (h : Dr w A S N F left down) : F.length ≤ N := by
  obtain ⟨mv, loc, h⟩ := h
  exact h.len
theorem Tw.on (h : Tw w0 w A B S T N M F left rl down) (hb : Below w.heap.size w w') : Tw w0 w' A B S T N M F left rl down :=
  ⟨h.dr.stays (T := fun _ => False) (Fr.ofBelow _ hb) (fun _ _ q => q), h.rd.stays (S := fun _ => False) (Fr.ofBelow _ hb) (fun _ _ q => q), h.dis, h.fs, h.ft, h.old.trans (hb.mono h.old.size), h.lr, h.big⟩
theorem Two.on (h : Two w0 w A B N M) (hb : Below w.heap.size w w') : Two w0 w' A B N M := by
  obtain ⟨S, T, F, left, rl, down, h⟩ := h
  exact ⟨S, T, F, left, rl, down, h.on hb⟩
theorem Two.old (h : Two w0 w A B N M) : Below w0.heap.size w0 w := by
  obtain ⟨S, T, F, left, rl, down, h⟩ := h
  exact h.old
/-- The program's call, then the document's. -/
theorem Tw.pair {f g : Nat} {xs ys : Array Value} {c : Int} {N' M' : Nat} (h : Tw w0 w A B S T N M F left rl down) {bx : Nat} (hS : ¬ S bx) (hT : ¬ T bx) (hbx : bx < w.heap.size)
    (hp : Calls Try.prog f xs w fun e w1 => e = .returned (.int .i64 c) ∧ Dr w1 A (Gro S w w1) N' F' left' down' ∧ Fr w w1 S)
    (hr : ∀ w1, Rd w1 B T F rl down → Calls Try.prog g ys w1 fun e w2 => e = .returned (.int .i64 c) ∧ Rd w2 B (Gro T w1 w2) F' rl' down' ∧ Fr w1 w2 T)
    (hl : down' = false → rl' = max 0 left') (hm : ∀ f ∈ F', f.data.size ≤ M') :
    Calls Try.prog f xs w fun e w1 => e = .returned (.int .i64 c) ∧ w1.heap[bx]? = w.heap[bx]? ∧ Calls Try.prog g ys w1 fun e w2 => e = .returned (.int .i64 c) ∧ w2.heap[bx]? = w.heap[bx]? ∧ Two w0 w2 A B N' M' := by
  refine hp.mono ?_
  rintro e w1 ⟨rfl, hd1, hf1⟩
  have hTlt := h.rd.ltT
  have hSlt := h.dr.ltS
  have hr1 := h.rd.stays hf1 (fun b hb q => h.dis b q hb)
  have h1 := hf1.block bx hbx hS
  refine ⟨rfl, h1, (hr w1 hr1).mono ?_⟩
  rintro e w2 ⟨rfl, hr2, hf2⟩
  have hdis : ∀ b, Gro S w w1 b → ¬ T b := by
    intro b q p
    rcases q with q | q
    · exact h.dis b q p
    · have := hTlt b p
      omega
  have hs1 := hf1.size
  have hs0 := h.old.size
  refine ⟨rfl, (hf2.block bx (Nat.lt_of_lt_of_le hbx hs1) hT).trans h1, _, _, _, _, _, _, ⟨hd1.stays hf2 hdis, hr2, ?_, gro_fresh h.fs hs0, gro_fresh h.ft (Nat.le_trans hs0 hs1), fr_below h.ft (fr_below h.fs h.old hf1) hf2, hl, hm⟩⟩
  intro b q p
  rcases p with p | p
  · exact hdis b q p
  · have hq : b < w1.heap.size := by
      rcases q with q | q
      · exact Nat.lt_of_lt_of_le (hSlt b q) hs1
      · exact q.2
    omega
theorem Dr.self (h : Dr w A S N F left down) (hN : N < 900000) : Dr w A (Gro S w w) (N + 1) F left down := by
  obtain ⟨mv, loc, h⟩ := h
  exact h.self hN (Fr.refl _ _) h
theorem Rd.self (h : Rd w B T F rl down) (hb : Below w.heap.size w w') : Rd w' B (Gro T w w') F rl down := by
  obtain ⟨v, h⟩ := h
  refine ⟨v, (h.on hb).wider (fun k q => .inl q) (fun k q => ?_)⟩
  rcases q with q | q
  · exact Nat.lt_of_lt_of_le (h.lt k q) hb.size
  · exact q.2
theorem Rd.self2 (hlt : ∀ k, T k → k < w.heap.size) (h : Rd w' B T F rl down) (hf : Fr w w' T) : Rd w' B (Gro T w w') F rl down := by
  obtain ⟨v, h⟩ := h
  refine ⟨v, h.wider (fun k q => .inl q) (fun k q => ?_)⟩
  rcases q with q | q
  · exact Nat.lt_of_lt_of_le (hlt k q) hf.size
  · exact q.2

theorem down_one : downB 1 false = true := rfl
theorem down_not (h : left ≠ 1) : downB left false = false := by
  unfold downB
  split
  · simp [h]
  · rfl
theorem left_max (left : Int) : leftB (max 0 left) = max 0 (leftB left) := by
  unfold leftB
  split <;> split <;> omega
theorem app_big (hb : ∀ f ∈ F, f.data.size ≤ M) (hd : d.size ≤ 65536) : ∀ f ∈ appF F n d, f.data.size ≤ M + 65536 := by
  intro f hf
  rcases putF_mem hf with rfl | q
  · show ((oldF F n).data ++ d).size ≤ _
    rw [ByteArray.size_append]
    have : (oldF F n).data.size ≤ M := by
      cases e : fileF F n with
      | none => simp only [oldF, e]; exact Nat.zero_le _
      | some g => simp only [oldF, e]; exact hb g (fileF_name e).2
    omega
  · have := hb f q
    omega
theorem syn_big (hb : ∀ f ∈ F, f.data.size ≤ M) : ∀ f ∈ synF F n, f.data.size ≤ M + 65536 := by
  intro f hf
  unfold synF at hf
  cases e : fileF F n with
  | none =>
    rw [e] at hf
    have := hb f hf
    omega
  | some g =>
    rw [e] at hf
    rcases putF_mem hf with rfl | q
    · have := hb g (fileF_name e).2
      show g.data.size ≤ _
      omega
    · have := hb f q
      omega
theorem swp_big (hb : ∀ f ∈ F, f.data.size ≤ M) (hd : d.size ≤ 65536) : ∀ f ∈ swpF F n d, f.data.size ≤ M + 65536 := by
  intro f hf
  rcases putF_mem hf with rfl | q
  · show d.size ≤ _
    omega
  · have := hb f q
    omega
theorem old_big (hb : ∀ f ∈ F, f.data.size ≤ M) : (oldF F n).data.size ≤ M := by
  cases e : fileF F n with
  | none => simp only [oldF, e]; exact Nat.zero_le _
  | some g => simp only [oldF, e]; exact hb g (fileF_name e).2
theorem more_big (hb : ∀ f ∈ F, f.data.size ≤ M) : ∀ f ∈ F, f.data.size ≤ M + 65536 := fun f hf => by have := hb f hf; omega

/-- What both calls leave. -/
def Both (w0 w : World) (A B N M bx f g : Nat) (xs ys : Array Value) : Prop :=
  ∃ c : Int, Calls Try.prog f xs w fun e w1 => e = .returned (.int .i64 c) ∧ w1.heap[bx]? = w.heap[bx]? ∧ Calls Try.prog g ys w1 fun e w2 => e = .returned (.int .i64 c) ∧ w2.heap[bx]? = w.heap[bx]? ∧ Two w0 w2 A B (N + 1) (M + 65536)

theorem both_append (h : Tw w0 w A B S T N M F left rl down) {bx : Nat} (hS : ¬ S bx) (hT : ¬ T bx) (hbx : bx < w.heap.size) (hn : n.size ≤ maxLen) (hd : d.size ≤ 65536) (hM : M ≤ 100000000) (hN : N < 900000) :
    Both w0 w A B N M bx 29 32 #[.pointer (some ⟨A, 0, none⟩), .string n, .string d] #[.pointer (some ⟨B, 0, none⟩), .string n, .string d] := by
  have hlen := h.dr.lenF
  have hold := old_big (n := n) h.big
  cases down with
  | true =>
    refine ⟨50, h.pair (F' := F) (left' := left) (rl' := rl) (down' := true) hS hT hbx ?_ ?_ (fun q => by cases q) (more_big h.big)⟩
    · have hdr := h.dr
      obtain ⟨mv, loc, hdv⟩ := hdr
      refine (append_down hdv n d).mono ?_
      rintro e w1 ⟨rfl, rfl⟩
      exact ⟨rfl, h.dr.self hN, Fr.refl _ _⟩
    · intro w1 hr
      obtain ⟨v, hrv⟩ := hr
      refine (rappend_off hrv n d).mono ?_
      rintro e w2 ⟨rfl, rfl⟩
      exact ⟨rfl, Rd.self ⟨v, hrv⟩ (Below.refl _ _), Fr.refl _ _⟩
  | false =>
    obtain ⟨mv, loc, hdv⟩ := h.dr
    have hrl := h.lr rfl
    by_cases h1 : left = 1
    · subst h1
      have : rl = 1 := by omega
      subst this
      refine ⟨50, h.pair (F' := appF F n d) (left' := 0) (rl' := 1) (down' := true) hS hT hbx ?_ ?_ (fun q => by cases q) (app_big h.big hd)⟩
      · exact append_up hdv hn d (by omega) hN
      · intro w1 hr
        obtain ⟨v, hrv⟩ := hr
        exact rappend_goes hrv hn (by omega) (by omega)
    · have hp := append_up hdv hn d (by omega) hN
      rw [down_not h1] at hp
      refine ⟨0, h.pair (F' := appF F n d) (left' := leftB left) (rl' := leftB rl) (down' := false) hS hT hbx hp ?_ (fun _ => by rw [hrl, left_max left]) (app_big h.big hd)⟩
      intro w1 hr
      obtain ⟨v, hrv⟩ := hr
      exact rappend_on hrv (by omega) hn (by omega) (by omega)
theorem both_sync (h : Tw w0 w A B S T N M F left rl down) {bx : Nat} (hS : ¬ S bx) (hT : ¬ T bx) (hbx : bx < w.heap.size) (hn : n.size ≤ maxLen) (hN : N < 900000) :
    Both w0 w A B N M bx 30 33 #[.pointer (some ⟨A, 0, none⟩), .string n] #[.pointer (some ⟨B, 0, none⟩), .string n] := by
  have hlen := h.dr.lenF
  cases down with
  | true =>
    refine ⟨50, h.pair (F' := F) (left' := left) (rl' := rl) (down' := true) hS hT hbx ?_ ?_ (fun q => by cases q) (more_big h.big)⟩
    · have hdr := h.dr
      obtain ⟨mv, loc, hdv⟩ := hdr
      refine (sync_down hdv n).mono ?_
      rintro e w1 ⟨rfl, rfl⟩
      exact ⟨rfl, h.dr.self hN, Fr.refl _ _⟩
    · intro w1 hr
      obtain ⟨v, hrv⟩ := hr
      refine (rsync_off hrv hn).mono ?_
      rintro e w2 ⟨rfl, hb⟩
      exact ⟨rfl, Rd.self ⟨v, hrv⟩ hb, Fr.ofBelow _ hb⟩
  | false =>
    obtain ⟨mv, loc, hdv⟩ := h.dr
    have hrl := h.lr rfl
    by_cases h1 : left = 1
    · subst h1
      have : rl = 1 := by omega
      subst this
      refine ⟨50, h.pair (F' := F) (left' := 0) (rl' := 1) (down' := true) hS hT hbx ?_ ?_ (fun q => by cases q) (more_big h.big)⟩
      · refine (sync_goes hdv down_one n).mono ?_
        rintro e w1 ⟨rfl, hd1, hf1⟩
        exact ⟨rfl, hdv.self hN hf1 hd1, hf1⟩
      · intro w1 hr
        obtain ⟨v, hrv⟩ := hr
        refine (rsync_goes hrv hn).mono ?_
        rintro e w2 ⟨rfl, hr2, hf2⟩
        exact ⟨rfl, Rd.self2 hrv.lt ⟨v, hr2⟩ hf2, hf2⟩
    · refine ⟨0, h.pair (F' := synF F n) (left' := leftB left) (rl' := leftB rl) (down' := false) hS hT hbx (sync_up hdv (down_not h1) hn hN) ?_ (fun _ => by rw [hrl, left_max left]) (syn_big h.big)⟩
      intro w1 hr
      obtain ⟨v, hrv⟩ := hr
      refine (rsync_on hrv (by omega) hn (by omega)).mono ?_
      rintro e w2 ⟨rfl, hr2, hf2⟩
      exact ⟨rfl, Rd.self2 hrv.lt ⟨v, hr2⟩ hf2, hf2⟩
theorem both_swap (h : Tw w0 w A B S T N M F left rl down) {bx : Nat} (hS : ¬ S bx) (hT : ¬ T bx) (hbx : bx < w.heap.size) (hn : n.size ≤ maxLen) (hd : d.size ≤ 65536) (hN : N < 900000) :
    Both w0 w A B N M bx 24 27 #[.pointer (some ⟨A, 0, none⟩), .string n, .string d] #[.pointer (some ⟨B, 0, none⟩), .string n, .string d] := by
  have hlen := h.dr.lenF
  cases down with
  | true =>
    refine ⟨50, h.pair (F' := F) (left' := left) (rl' := rl) (down' := true) hS hT hbx ?_ ?_ (fun q => by cases q) (more_big h.big)⟩
    · have hdr := h.dr
      obtain ⟨mv, loc, hdv⟩ := hdr
      refine (swap_down hdv n d).mono ?_
      rintro e w1 ⟨rfl, rfl⟩
      exact ⟨rfl, h.dr.self hN, Fr.refl _ _⟩
    · intro w1 hr
      obtain ⟨v, hrv⟩ := hr
      refine (rswap_off hrv n d).mono ?_
      rintro e w2 ⟨rfl, rfl⟩
      exact ⟨rfl, Rd.self ⟨v, hrv⟩ (Below.refl _ _), Fr.refl _ _⟩
  | false =>
    obtain ⟨mv, loc, hdv⟩ := h.dr
    have hrl := h.lr rfl
    by_cases h1 : left = 1
    · subst h1
      have : rl = 1 := by omega
      subst this
      refine ⟨50, h.pair (F' := F) (left' := 0) (rl' := 1) (down' := true) hS hT hbx ?_ ?_ (fun q => by cases q) (more_big h.big)⟩
      · refine (swap_goes hdv down_one n d).mono ?_
        rintro e w1 ⟨rfl, hd1, hf1⟩
        exact ⟨rfl, hdv.self hN hf1 hd1, hf1⟩
      · intro w1 hr
        obtain ⟨v, hrv⟩ := hr
        refine (rswap_goes hrv n d).mono ?_
        rintro e w2 ⟨rfl, hr2, hf2⟩
        exact ⟨rfl, Rd.self2 hrv.lt ⟨v, hr2⟩ hf2, hf2⟩
    · refine ⟨0, h.pair (F' := swpF F n d) (left' := leftB left) (rl' := leftB rl) (down' := false) hS hT hbx (swap_up hdv (down_not h1) hn d (by omega) hN) ?_ (fun _ => by rw [hrl, left_max left]) (swp_big h.big hd)⟩
      intro w1 hr
      obtain ⟨v, hrv⟩ := hr
      exact rswap_on hrv (by omega) hn (by omega) (by omega)
end
end Go.Proofs.Ytoipmpaebngppaa
