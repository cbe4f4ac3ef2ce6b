/- One state of a drive, and what each call leaves of it: the same for the program's drive and for the document's. -/
import Derived.Test.YtoipmpaebngppaaDRh
namespace Go.Proofs.Ytoipmpaebngppaa
open Go.RowKit Go.Maps

structure Ds where
  F : List Fl
  left : Int
  down : Bool
namespace Ds
def code (s : Ds) : Int := pw s.down
def app (s : Ds) (n d : ByteArray) : Ds := if s.down then s else ⟨appF s.F n d, leftB s.left, downB s.left false⟩
def syn (s : Ds) (n : ByteArray) : Ds := if s.down then s else if downB s.left false then ⟨s.F, leftB s.left, true⟩ else ⟨synF s.F n, leftB s.left, false⟩
def swp (s : Ds) (n d : ByteArray) : Ds := if s.down then s else if downB s.left false then ⟨s.F, leftB s.left, true⟩ else ⟨swpF s.F n d, leftB s.left, false⟩
def arm (s : Ds) (m : Int) : Ds := if s.down then s else ⟨s.F, m, false⟩
def off (s : Ds) : Ds := ⟨s.F, s.left, true⟩
def crash (s : Ds) (keep : List Int) : Ds := ⟨crashF s.F keep, 0, false⟩
def text (s : Ds) (n : ByteArray) : ByteArray := if s.down then ⟨#[]⟩ else (oldF s.F n).data
/-- No file is greater. -/
def fits (s : Ds) (M : Nat) : Prop := ∀ f ∈ s.F, f.data.size ≤ M
end Ds

def PD (w : World) (A : Nat) (S : Nat → Prop) (N : Nat) (s : Ds) : Prop := Dr w A S N s.F s.left s.down
def RD (w : World) (B : Nat) (T : Nat → Prop) (N : Nat) (s : Ds) : Prop := ∃ rl, Rd w B T s.F rl s.down ∧ (s.down = false → rl = max 0 s.left) ∧ s.F.length ≤ N ∧ N ≤ 900000

theorem putF_len (F : List Fl) (x : Fl) : (putF F x).length ≤ F.length + 1 := by
  induction F with
  | nil => simp [putF]
  | cons f F ih =>
    unfold putF
    split
    · simp only [List.length_cons]; omega
    · split <;> simp
theorem appF_len (F : List Fl) (n d : ByteArray) : (appF F n d).length ≤ F.length + 1 := putF_len _ _
theorem swpF_len (F : List Fl) (n d : ByteArray) : (swpF F n d).length ≤ F.length + 1 := putF_len _ _
theorem synF_len (F : List Fl) (n : ByteArray) : (synF F n).length ≤ F.length + 1 := by
  unfold synF
  split
  · exact putF_len _ _
  · omega

section
variable {w w' w1 w2 : World} {A B N M : Nat} {S T : Nat → Prop} {s s1 s2 : Ds} {n d : ByteArray}
theorem Fr.two (h1 : Fr w w1 S) (h2 : Fr w1 w2 (Gro S w w1)) : Fr w w2 S :=
  h1.step h2 (fun j hj => by rcases hj with q | q; exact .inl q; exact .inr q.1)
theorem gro_two (h1 : w.heap.size ≤ w1.heap.size) (h2 : w1.heap.size ≤ w2.heap.size) (k : Nat) (h : Gro (Gro S w w1) w1 w2 k) : Gro S w w2 k := by
  rcases h with (q | q) | q
  · exact .inl q
  · exact .inr ⟨q.1, by omega⟩
  · exact .inr ⟨by omega, q.2⟩

/-! ### The program's -/
theorem PD.lt (h : PD w A S N s) : ∀ k, S k → k < w.heap.size := Dr.ltS h
theorem PD.few (h : PD w A S N s) : N ≤ 900000 := by
  obtain ⟨mv, loc, h⟩ := h
  exact h.few
theorem PD.stays (h : PD w A S N s) (k : Fr w w' T) (hd : ∀ b, S b → ¬ T b) : PD w' A S N s := Dr.stays h k hd
theorem PD.on (h : PD w A S N s) (hb : Below w.heap.size w w') : PD w' A S N s := h.stays (T := fun _ => False) (Fr.ofBelow _ hb) (fun _ _ q => q)
theorem PD.wider (h : PD w A S N s) (hT : ∀ k, S k → T k) (hl : ∀ k, T k → k < w.heap.size) : PD w A T N s := Dr.wider h hT hl
theorem PD.more (h : PD w A S N s) {N' : Nat} (hN : N ≤ N') (h9 : N' ≤ 900000) : PD w A S N' s := Dr.more h hN h9
theorem PD.int (h : PD w A S N s) : -9223372036854775808 ≤ s.left ∧ s.left ≤ 9223372036854775807 := by
  obtain ⟨mv, loc, h⟩ := h
  exact h.int
theorem PD.safe (h : PD w A S N s) : ∀ f ∈ s.F, f.safe ≤ f.data.size := by
  obtain ⟨mv, loc, h⟩ := h
  exact h.safe
theorem PD.rise (h : PD w A S N s) : Rise s.F := by
  obtain ⟨mv, loc, h⟩ := h
  exact h.rise
theorem PD.grow (h : PD w A S N s) (hb : Below w.heap.size w w') (hN : N < 900000) : PD w' A (Gro S w w') (N + 1) s := by
  refine ((h.on hb).wider (fun k q => .inl q) (fun k q => ?_)).more (by omega) hN
  rcases q with q | q
  · exact Nat.lt_of_lt_of_le (h.lt k q) hb.size
  · exact q.2
/-- Two steps are one. -/
theorem PD.two (hs : ∀ k, S k → k < w.heap.size) (h : PD w2 A (Gro (Gro S w w1) w1 w2) N s) (h1 : w.heap.size ≤ w1.heap.size) (h2 : w1.heap.size ≤ w2.heap.size) : PD w2 A (Gro S w w2) N s := by
  refine h.wider (fun k q => gro_two h1 h2 k q) (fun k q => ?_)
  rcases q with q | q
  · have := hs k q
    omega
  · exact q.2

theorem p_app (h : PD w A S N s) (hn : n.size ≤ maxLen) (hb : (oldF s.F n).data.size + d.size ≤ 140737488355328) (hN : N < 900000) :
    Calls Try.prog 29 #[.pointer (some ⟨A, 0, none⟩), .string n, .string d] w fun e w' => e = .returned (.int .i64 (s.app n d).code) ∧ PD w' A (Gro S w w') (N + 1) (s.app n d) ∧ Fr w w' S := by
  obtain ⟨F, left, down⟩ := s
  cases down with
  | true =>
    have h0 := h
    obtain ⟨mv, loc, h⟩ := h
    refine (append_down h n d).mono ?_
    rintro e w1 ⟨rfl, rfl⟩
    exact ⟨rfl, h0.grow (Below.refl _ _) hN, Fr.refl _ _⟩
  | false =>
    obtain ⟨mv, loc, h⟩ := h
    exact append_up h hn d hb hN
theorem p_syn (h : PD w A S N s) (hn : n.size ≤ maxLen) (hN : N < 900000) :
    Calls Try.prog 30 #[.pointer (some ⟨A, 0, none⟩), .string n] w fun e w' => e = .returned (.int .i64 (s.syn n).code) ∧ PD w' A (Gro S w w') (N + 1) (s.syn n) ∧ Fr w w' S := by
  obtain ⟨F, left, down⟩ := s
  cases down with
  | true =>
    have h0 := h
    obtain ⟨mv, loc, h⟩ := h
    refine (sync_down h n).mono ?_
    rintro e w1 ⟨rfl, rfl⟩
    exact ⟨rfl, h0.grow (Below.refl _ _) hN, Fr.refl _ _⟩
  | false =>
    obtain ⟨mv, loc, h⟩ := h
    cases hl : downB left false with
    | true =>
      have e1 : Ds.syn ⟨F, left, false⟩ n = ⟨F, leftB left, true⟩ := by simp [Ds.syn, hl]
      rw [e1]
      refine (sync_goes h hl n).mono ?_
      rintro e w1 ⟨rfl, hd1, hf1⟩
      exact ⟨rfl, h.self hN hf1 hd1, hf1⟩
    | false =>
      have e1 : Ds.syn ⟨F, left, false⟩ n = ⟨synF F n, leftB left, false⟩ := by simp [Ds.syn, hl]
      rw [e1]
      exact sync_up h hl hn hN
theorem p_swp (h : PD w A S N s) (hn : n.size ≤ maxLen) (hb : d.size ≤ 140737488355328) (hN : N < 900000) :
    Calls Try.prog 24 #[.pointer (some ⟨A, 0, none⟩), .string n, .string d] w fun e w' => e = .returned (.int .i64 (s.swp n d).code) ∧ PD w' A (Gro S w w') (N + 1) (s.swp n d) ∧ Fr w w' S := by
  obtain ⟨F, left, down⟩ := s
  cases down with
  | true =>
    have h0 := h
    obtain ⟨mv, loc, h⟩ := h
    refine (swap_down h n d).mono ?_
    rintro e w1 ⟨rfl, rfl⟩
    exact ⟨rfl, h0.grow (Below.refl _ _) hN, Fr.refl _ _⟩
  | false =>
    obtain ⟨mv, loc, h⟩ := h
    cases hl : downB left false with
    | true =>
      have e1 : Ds.swp ⟨F, left, false⟩ n d = ⟨F, leftB left, true⟩ := by simp [Ds.swp, hl]
      rw [e1]
      refine (swap_goes h hl n d).mono ?_
      rintro e w1 ⟨rfl, hd1, hf1⟩
      exact ⟨rfl, h.self hN hf1 hd1, hf1⟩
    | false =>
      have e1 : Ds.swp ⟨F, left, false⟩ n d = ⟨swpF F n d, leftB left, false⟩ := by simp [Ds.swp, hl]
      rw [e1]
      exact swap_up h hl hn d hb hN
theorem p_read (h : PD w A S N s) (hn : n.size ≤ maxLen) :
    Calls Try.prog 21 #[.pointer (some ⟨A, 0, none⟩), .string n] w fun e w' => e = .returned (.tuple #[.string (s.text n), .int .i64 s.code]) ∧ Below w.heap.size w w' := by
  obtain ⟨F, left, down⟩ := s
  obtain ⟨mv, loc, h⟩ := h
  cases down with
  | true =>
    refine (read_down h n).mono ?_
    rintro e w1 ⟨rfl, rfl⟩
    exact ⟨rfl, Below.refl _ _⟩
  | false =>
    refine (read_up h hn).mono ?_
    rintro e w1 ⟨rfl, rfl⟩
    exact ⟨rfl, Below.refl _ _⟩
theorem p_down (h : PD w A S N s) : Calls Try.prog 23 #[.pointer (some ⟨A, 0, none⟩)] w fun e w' => e = .returned (.bool s.down) ∧ w' = w := by
  obtain ⟨mv, loc, h⟩ := h
  exact down_any h
theorem p_arm (h : PD w A S N s) {m : Int} (hm : -9223372036854775808 ≤ m ∧ m ≤ 9223372036854775807) :
    Calls Try.prog 16 #[.pointer (some ⟨A, 0, none⟩), .int .i64 m] w fun e w' => e = .returned (.tuple #[]) ∧ PD w' A S N (s.arm m) ∧ Fr w w' S ∧ w'.heap.size = w.heap.size := by
  obtain ⟨F, left, down⟩ := s
  obtain ⟨mv, loc, h⟩ := h
  refine (arm_any h hm).mono ?_
  rintro e w1 ⟨rfl, hd1, hf1, hz⟩
  refine ⟨rfl, ?_, hf1, hz⟩
  cases down
  · exact ⟨mv, loc, hd1⟩
  · exact ⟨mv, loc, hd1⟩
theorem p_crash (h : PD w A S N s) {kv : Value} {keep : List Int} (hk : Ints w kv keep) :
    Calls Try.prog 18 #[.pointer (some ⟨A, 0, none⟩), kv] w fun e w' => e = .returned (.pointer (some ⟨w.heap.size, 0, none⟩)) ∧ (∃ T, PD w' w.heap.size T N (s.crash keep) ∧ ∀ j, T j → w.heap.size ≤ j) ∧ PD w' A S N s.off ∧ Fr w w' (fun k => k = A) := by
  have hl := Dr.lenF h
  have hf := h.few
  obtain ⟨mv, loc, h⟩ := h
  refine (crash_any h hk).mono ?_
  rintro e w1 ⟨rfl, ⟨T, hd, hT⟩, ho, hf1⟩
  exact ⟨rfl, ⟨T, Dr.more hd hl hf, hT⟩, ⟨mv, loc, ho⟩, hf1⟩

/-! ### The document's -/
theorem RD.lt (h : RD w B T N s) : ∀ k, T k → k < w.heap.size := by
  obtain ⟨rl, h, _⟩ := h
  exact h.ltT
theorem RD.few (h : RD w B T N s) : N ≤ 900000 := h.choose_spec.2.2.2
theorem RD.stays (h : RD w B T N s) (k : Fr w w' S) (hd : ∀ b, T b → ¬ S b) : RD w' B T N s := by
  obtain ⟨rl, h, a⟩ := h
  exact ⟨rl, h.stays k hd, a⟩
theorem RD.on (h : RD w B T N s) (hb : Below w.heap.size w w') : RD w' B T N s := h.stays (S := fun _ => False) (Fr.ofBelow _ hb) (fun _ _ q => q)
theorem RD.wider (h : RD w B T N s) (hT : ∀ k, T k → S k) (hl : ∀ k, S k → k < w.heap.size) : RD w B S N s := by
  obtain ⟨rl, ⟨v, h⟩, a⟩ := h
  exact ⟨rl, ⟨v, h.wider hT hl⟩, a⟩
theorem RD.more (h : RD w B T N s) {N' : Nat} (hN : N ≤ N') (h9 : N' ≤ 900000) : RD w B T N' s := by
  obtain ⟨rl, h, a, b, c⟩ := h
  exact ⟨rl, h, a, by omega, h9⟩
theorem RD.grow (h : RD w B T N s) (hb : Below w.heap.size w w') (hN : N < 900000) : RD w' B (Gro T w w') (N + 1) s := by
  refine ((h.on hb).wider (fun k q => .inl q) (fun k q => ?_)).more (by omega) hN
  rcases q with q | q
  · exact Nat.lt_of_lt_of_le (h.lt k q) hb.size
  · exact q.2
theorem RD.two (hs : ∀ k, T k → k < w.heap.size) (h : RD w2 B (Gro (Gro T w w1) w1 w2) N s) (h1 : w.heap.size ≤ w1.heap.size) (h2 : w1.heap.size ≤ w2.heap.size) : RD w2 B (Gro T w w2) N s := by
  refine h.wider (fun k q => gro_two h1 h2 k q) (fun k q => ?_)
  rcases q with q | q
  · have := hs k q
    omega
  · exact q.2
theorem r_app (h : RD w B T N s) (hn : n.size ≤ maxLen) (hb : (oldF s.F n).data.size + d.size ≤ 140737488355328) (hN : N < 900000) :
    Calls Try.prog 32 #[.pointer (some ⟨B, 0, none⟩), .string n, .string d] w fun e w' => e = .returned (.int .i64 (s.app n d).code) ∧ RD w' B (Gro T w w') (N + 1) (s.app n d) ∧ Fr w w' T := by
  obtain ⟨F, left, down⟩ := s
  have hlen := appF_len F n d
  cases down with
  | true =>
    have h0 := h
    obtain ⟨rl, ⟨v, h⟩, _⟩ := h
    refine (rappend_off h n d).mono ?_
    rintro e w1 ⟨rfl, rfl⟩
    exact ⟨rfl, h0.grow (Below.refl _ _) hN, Fr.refl _ _⟩
  | false =>
    obtain ⟨rl, ⟨v, h⟩, hl, hF, _⟩ := h
    have hl' : rl = max 0 left := hl rfl
    have hF' : F.length ≤ N := hF
    by_cases h1 : left = 1
    · subst h1
      have : rl = 1 := by omega
      subst this
      refine (rappend_goes h hn hb (by show F.length < _; omega)).mono ?_
      rintro e w1 ⟨rfl, hr1, hf1⟩
      exact ⟨rfl, ⟨1, hr1, (fun q => by cases q), by show (appF F n d).length ≤ _; omega, hN⟩, hf1⟩
    · have e1 : Ds.app ⟨F, left, false⟩ n d = ⟨appF F n d, leftB left, false⟩ := by simp [Ds.app, down_not h1]
      rw [e1]
      refine (rappend_on h (by omega) hn hb (by show F.length < _; omega)).mono ?_
      rintro e w1 ⟨rfl, hr1, hf1⟩
      exact ⟨rfl, ⟨_, hr1, fun q => by rw [hl', left_max left], by show (appF F n d).length ≤ _; omega, hN⟩, hf1⟩
theorem r_syn (h : RD w B T N s) (hn : n.size ≤ maxLen) (hN : N < 900000) :
    Calls Try.prog 33 #[.pointer (some ⟨B, 0, none⟩), .string n] w fun e w' => e = .returned (.int .i64 (s.syn n).code) ∧ RD w' B (Gro T w w') (N + 1) (s.syn n) ∧ Fr w w' T := by
  obtain ⟨F, left, down⟩ := s
  have hlen := synF_len F n
  cases down with
  | true =>
    have h0 := h
    obtain ⟨rl, ⟨v, h⟩, _⟩ := h
    refine (rsync_off h hn).mono ?_
    rintro e w1 ⟨rfl, hb⟩
    exact ⟨rfl, h0.grow hb hN, Fr.ofBelow _ hb⟩
  | false =>
    obtain ⟨rl, ⟨v, h⟩, hl, hF, _⟩ := h
    have hl' : rl = max 0 left := hl rfl
    have hF' : F.length ≤ N := hF
    by_cases h1 : left = 1
    · subst h1
      have : rl = 1 := by omega
      subst this
      refine (rsync_goes h hn).mono ?_
      rintro e w1 ⟨rfl, hr1, hf1⟩
      exact ⟨rfl, ⟨1, Rd.self2 h.lt ⟨v, hr1⟩ hf1, (fun q => by cases q), by show F.length ≤ _; omega, hN⟩, hf1⟩
    · have e1 : Ds.syn ⟨F, left, false⟩ n = ⟨synF F n, leftB left, false⟩ := by simp [Ds.syn, down_not h1]
      rw [e1]
      refine (rsync_on h (by omega) hn (by show F.length < _; omega)).mono ?_
      rintro e w1 ⟨rfl, hr1, hf1⟩
      exact ⟨rfl, ⟨_, Rd.self2 h.lt ⟨v, hr1⟩ hf1, fun q => by rw [hl', left_max left], by show (synF F n).length ≤ _; omega, hN⟩, hf1⟩
theorem r_swp (h : RD w B T N s) (hn : n.size ≤ maxLen) (hb : d.size ≤ 140737488355328) (hN : N < 900000) :
    Calls Try.prog 27 #[.pointer (some ⟨B, 0, none⟩), .string n, .string d] w fun e w' => e = .returned (.int .i64 (s.swp n d).code) ∧ RD w' B (Gro T w w') (N + 1) (s.swp n d) ∧ Fr w w' T := by
  obtain ⟨F, left, down⟩ := s
  have hlen := swpF_len F n d
  cases down with
  | true =>
    have h0 := h
    obtain ⟨rl, ⟨v, h⟩, _⟩ := h
    refine (rswap_off h n d).mono ?_
    rintro e w1 ⟨rfl, rfl⟩
    exact ⟨rfl, h0.grow (Below.refl _ _) hN, Fr.refl _ _⟩
  | false =>
    obtain ⟨rl, ⟨v, h⟩, hl, hF, _⟩ := h
    have hl' : rl = max 0 left := hl rfl
    have hF' : F.length ≤ N := hF
    by_cases h1 : left = 1
    · subst h1
      have : rl = 1 := by omega
      subst this
      refine (rswap_goes h n d).mono ?_
      rintro e w1 ⟨rfl, hr1, hf1⟩
      exact ⟨rfl, ⟨1, Rd.self2 h.lt ⟨v, hr1⟩ hf1, (fun q => by cases q), by show F.length ≤ _; omega, hN⟩, hf1⟩
    · have e1 : Ds.swp ⟨F, left, false⟩ n d = ⟨swpF F n d, leftB left, false⟩ := by simp [Ds.swp, down_not h1]
      rw [e1]
      refine (rswap_on h (by omega) hn hb (by show F.length < _; omega)).mono ?_
      rintro e w1 ⟨rfl, hr1, hf1⟩
      exact ⟨rfl, ⟨_, hr1, fun q => by rw [hl', left_max left], by show (swpF F n d).length ≤ _; omega, hN⟩, hf1⟩
theorem r_read (h : RD w B T N s) (hn : n.size ≤ maxLen) :
    Calls Try.prog 22 #[.pointer (some ⟨B, 0, none⟩), .string n] w fun e w' => e = .returned (.tuple #[.string (s.text n), .int .i64 s.code]) ∧ Below w.heap.size w w' := by
  obtain ⟨F, left, down⟩ := s
  obtain ⟨rl, ⟨v, h⟩, _⟩ := h
  cases down with
  | true => exact rread_off h n
  | false => exact rread_on h hn
theorem r_arm (h : RD w B T N s) {m : Int} (hm : -9223372036854775808 ≤ m ∧ m ≤ 9223372036854775807) :
    Calls Try.prog 17 #[.pointer (some ⟨B, 0, none⟩), .int .i64 m] w fun e w' => e = .returned (.tuple #[]) ∧ RD w' B T N (s.arm m) ∧ Fr w w' T ∧ w'.heap.size = w.heap.size := by
  obtain ⟨F, left, down⟩ := s
  obtain ⟨rl, ⟨v, h⟩, hl, hF, hN⟩ := h
  refine (rarm_any h hm).mono ?_
  rintro e w1 ⟨rfl, hd1, hf1, hz⟩
  refine ⟨rfl, ?_, hf1, hz⟩
  cases down
  · exact ⟨max 0 m, ⟨v, hd1⟩, fun _ => rfl, hF, hN⟩
  · exact ⟨rl, ⟨v, hd1⟩, (fun q => by cases q), hF, hN⟩
theorem r_crash (h : RD w B T N s) {kv : Value} {keep : List Int} (hk : Ints w kv keep) :
    Calls Try.prog 19 #[.pointer (some ⟨B, 0, none⟩), kv] w fun e w' => e = .returned (.pointer (some ⟨w.heap.size, 0, none⟩)) ∧ (∃ T', RD w' w.heap.size T' N (s.crash keep) ∧ ∀ j, T' j → w.heap.size ≤ j) ∧ RD w' B T N s.off ∧ Fr w w' (fun k => k = B) := by
  obtain ⟨rl, ⟨v, h⟩, hl, hF, hN⟩ := h
  refine (rcrash_any h hk).mono ?_
  rintro e w1 ⟨rfl, ⟨T', hd, hT⟩, ho, hf1⟩
  exact ⟨rfl, ⟨T', ⟨0, hd, fun _ => rfl, by show (crashF s.F keep).length ≤ N; rw [crash_len]; exact hF, hN⟩, hT⟩, ⟨rl, ⟨v, ho⟩, (fun q => by cases q), hF, hN⟩, hf1⟩
end
end Go.Proofs.Ytoipmpaebngppaa
