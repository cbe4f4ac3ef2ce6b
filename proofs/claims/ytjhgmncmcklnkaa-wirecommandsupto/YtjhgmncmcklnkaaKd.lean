/- What is written or read, in memory; a tape. -/
import Derived.Test.YtjhgmncmcklnkaaKc
namespace Go.Proofs.Ytjhgmncmcklnkaa
open Go.RowKit

mutual
/-- v holds the field; all that it leads to lies outside S. -/
def At.lies (w : World) (S : Nat → Prop) (v : Value) : At → Prop
  | .num n => v = .int .i64 n
  | .yes b => v = .bool b
  | .text s => v = .string s
  | .list l => ∃ ad cap, v = .slice ad l.length cap ∧ l.length ≤ cap ∧ cap ≤ maxLen ∧ (l = [] ∨ ∃ b o, ad = some ⟨b, o, none⟩ ∧ b < w.heap.size ∧ ¬ S b ∧ liesL w S b o l)
/-- The fields lie at b, from o on. -/
def liesS (w : World) (S : Nat → Prop) (b o : Nat) : List At → Prop
  | [] => True
  | a :: r => (∃ v, w.cell? ⟨b, o, none⟩ = some v ∧ a.lies w S v) ∧ liesS w S b (o + 1) r
def liesL (w : World) (S : Nat → Prop) (b o : Nat) : List (List At) → Prop
  | [] => True
  | x :: r => liesS w S b o x ∧ liesL w S b (o + x.length) r
end
/-- What is outside S stays, and is outside S'. -/
def Keeps (w w' : World) (S S' : Nat → Prop) : Prop := w.heap.size ≤ w'.heap.size ∧ ∀ k, k < w.heap.size → ¬ S k → w'.heap[k]? = w.heap[k]? ∧ ¬ S' k
mutual
theorem At.keeps {w w' : World} {S S' : Nat → Prop} (hk : Keeps w w' S S') : ∀ (a : At) (v : Value), a.lies w S v → a.lies w' S' v
  | .num n, v, h => by simpa only [At.lies] using h
  | .yes n, v, h => by simpa only [At.lies] using h
  | .text n, v, h => by simpa only [At.lies] using h
  | .list l, v, h => by
    simp only [At.lies] at h ⊢
    obtain ⟨ad, cap, h1, h2, h3, h4⟩ := h
    refine ⟨ad, cap, h1, h2, h3, ?_⟩
    rcases h4 with h4 | ⟨b, o, h5, h6, h7, h8⟩
    · exact .inl h4
    · have q := hk.2 b h6 h7
      exact .inr ⟨b, o, h5, Nat.lt_of_lt_of_le h6 hk.1, q.2, liesL_keeps hk l b o q.1 h8⟩
theorem liesS_keeps {w w' : World} {S S' : Nat → Prop} (hk : Keeps w w' S S') : ∀ (x : List At) (b o : Nat), (∀ i, o ≤ i → i < o + x.length → w'.cell? ⟨b, i, none⟩ = w.cell? ⟨b, i, none⟩) → liesS w S b o x → liesS w' S' b o x
  | [], _, _, _, _ => by simp [liesS]
  | a :: r, b, o, hc, h => by
    simp only [liesS] at h ⊢
    obtain ⟨⟨v, h1, h2⟩, h3⟩ := h
    exact ⟨⟨v, by rw [hc o (Nat.le_refl _) (by simp)]; exact h1, At.keeps hk a v h2⟩, liesS_keeps hk r b (o + 1) (fun i i1 i2 => hc i (by omega) (by simp only [List.length_cons]; omega)) h3⟩
theorem liesL_keeps {w w' : World} {S S' : Nat → Prop} (hk : Keeps w w' S S') : ∀ (l : List (List At)) (b o : Nat), w'.heap[b]? = w.heap[b]? → liesL w S b o l → liesL w' S' b o l
  | [], _, _, _, _ => by simp [liesL]
  | x :: r, b, o, hb, h => by
    simp only [liesL] at h ⊢
    exact ⟨liesS_keeps hk x b o (fun i _ _ => World.cell?_of_block hb) h.1, liesL_keeps hk r b _ hb h.2⟩
end
theorem liesS_append {w : World} {S : Nat → Prop} {b : Nat} : ∀ (x y : List At) (o : Nat), liesS w S b o (x ++ y) ↔ liesS w S b o x ∧ liesS w S b (o + x.length) y
  | [], y, o => by simp [liesS]
  | a :: r, y, o => by
    have := liesS_append (w := w) (S := S) (b := b) r y (o + 1)
    rw [show o + 1 + r.length = o + (a :: r).length by simp only [List.length_cons]; omega] at this
    simp only [List.cons_append, liesS, this, and_assoc]
/-- Of lists that have the same length. -/
theorem liesL_at {w : World} {S : Nat → Prop} {b m : Nat} : ∀ (l : List (List At)) (o : Nat), (∀ x ∈ l, x.length = m) → liesL w S b o l → ∀ (i : Nat) (h : i < l.length), liesS w S b (o + i * m) l[i]
  | [], _, _, _, i, h => by simp at h
  | x :: r, o, hm, hl, i, h => by
    simp only [liesL] at hl
    cases i with
    | zero => simpa using hl.1
    | succ i =>
      have := liesL_at r (o + x.length) (fun y hy => hm y (by simp [hy])) hl.2 i (by simpa using h)
      rw [hm x (by simp), show o + m + i * m = o + (i + 1) * m by rw [Nat.add_mul]; omega] at this
      simpa using this
theorem liesL_of {w : World} {S : Nat → Prop} {b m : Nat} : ∀ (l : List (List At)) (o : Nat), (∀ x ∈ l, x.length = m) → (∀ (i : Nat) (h : i < l.length), liesS w S b (o + i * m) l[i]) → liesL w S b o l
  | [], _, _, _ => by simp [liesL]
  | x :: r, o, hm, hl => by
    simp only [liesL]
    have h0 := hl 0 (by simp)
    rw [Nat.zero_mul, Nat.add_zero] at h0
    refine ⟨h0, liesL_of r _ (fun y hy => hm y (by simp [hy])) (fun i h => ?_)⟩
    have := hl (i + 1) (by simpa using h)
    rw [hm x (by simp), show o + m + i * m = o + (i + 1) * m by rw [Nat.add_mul]; omega]
    simpa using this
/-- What a value of a type looks like. -/
def Ty.kind : Ty → Value → Prop
  | .num, v => ∃ n, v = .int .i64 n
  | .yes, v => ∃ b, v = .bool b
  | .text, v => ∃ s, v = .string s
  | .list _, v => ∃ ad n c, v = .slice ad n c
theorem Ty.kind_one {t : Ty} {v : Value} (h : t.kind v) : v.oneCell' = true := by
  cases t with
  | num => obtain ⟨n, rfl⟩ := h; rfl
  | yes => obtain ⟨n, rfl⟩ := h; rfl
  | text => obtain ⟨n, rfl⟩ := h; rfl
  | list t => obtain ⟨ad, n, c, rfl⟩ := h; rfl
theorem At.kind {a : At} {t : Ty} {w : World} {S : Nat → Prop} {v : Value} (ht : t.has a) (h : a.lies w S v) : t.kind v := by
  cases t <;> cases a <;> simp only [Ty.has] at ht
  · simp only [At.lies] at h; exact ⟨_, h⟩
  · simp only [At.lies] at h; exact ⟨_, h⟩
  · simp only [At.lies] at h; exact ⟨_, h⟩
  · simp only [At.lies] at h
    obtain ⟨ad, cap, h1, _⟩ := h
    exact ⟨_, _, _, h1⟩
theorem At.one {a : At} {w : World} {S : Nat → Prop} {v : Value} (h : a.lies w S v) : v.oneCell' = true := by
  cases a with
  | num n => simp only [At.lies] at h; rw [h]; rfl
  | yes n => simp only [At.lies] at h; rw [h]; rfl
  | text n => simp only [At.lies] at h; rw [h]; rfl
  | list l =>
    simp only [At.lies] at h
    obtain ⟨ad, cap, h1, _⟩ := h
    rw [h1]
    rfl
theorem liesS_one {w : World} {S : Nat → Prop} {b : Nat} : ∀ (x : List At) (o : Nat), liesS w S b o x → ∀ i, i < x.length → ∃ v, w.cell? ⟨b, o + i, none⟩ = some v ∧ v.oneCell' = true
  | [], _, _, i, h => by simp at h
  | a :: r, o, hl, i, h => by
    simp only [liesS] at hl
    cases i with
    | zero =>
      obtain ⟨v, h1, h2⟩ := hl.1
      exact ⟨v, h1, At.one h2⟩
    | succ i =>
      obtain ⟨v, h1, h2⟩ := liesS_one r (o + 1) hl.2 i (by simpa using h)
      exact ⟨v, by rw [← h1]; congr 2; omega, h2⟩
/-- The value of nothing. -/
def Ty.zv : Ty → Value
  | .num => .int .i64 0
  | .yes => .bool false
  | .text => .string ⟨#[]⟩
  | .list _ => .slice none 0 0
theorem zero_lies (t : Ty) (w : World) (S : Nat → Prop) : t.zero.lies w S t.zv := by
  cases t with
  | num => simp [Ty.zero, Ty.zv, At.lies]
  | yes => simp [Ty.zero, Ty.zv, At.lies]
  | text => simp [Ty.zero, Ty.zv, At.lies]
  | list t =>
    simp only [Ty.zero, Ty.zv, At.lies]
    exact ⟨none, 0, rfl, Nat.le_refl _, Nat.zero_le _, .inl (by trivial)⟩
theorem zeroS_lies {w : World} {S : Nat → Prop} {b : Nat} : ∀ (t : List Ty) (o : Nat), (∀ i (h : i < t.length), w.cell? ⟨b, o + i, none⟩ = some t[i].zv) → liesS w S b o (zeroS t)
  | [], _, _ => by simp [zeroS, liesS]
  | t :: r, o, h => by
    show liesS w S b o (t.zero :: zeroS r)
    simp only [liesS]
    refine ⟨⟨t.zv, h 0 (by simp), zero_lies t w S⟩, zeroS_lies r (o + 1) (fun i hi => ?_)⟩
    have := h (i + 1) (by simpa using hi)
    rw [show o + 1 + i = o + (i + 1) by omega]
    simpa using this

/-! ### A tape -/
def txt (l : List UInt8) : ByteArray := ⟨l.toArray⟩
theorem txt_list (l : List UInt8) : (txt l).data.toList = l := rfl
theorem txt_of (s : ByteArray) : txt s.data.toList = s := by cases s; rfl
theorem txt_size (l : List UInt8) : (txt l).size = l.length := rfl
structure TS where
  reads : Bool
  wr : List UInt8
  rest : List UInt8
  bad : Bool
abbrev tpC (s : TS) (rv : Value) : Array Value := #[.bool s.reads, rv, .string (txt s.rest), .bool s.bad]
/-- The tape s lies at A; S are the blocks that it writes. -/
structure Tv (w : World) (A : Nat) (S : Nat → Prop) (s : TS) (rv : Value) : Prop where
  ob : w.heap[A]? = some (.cells (tpC s rv) 132 (0, 0))
  row : w.ownsRow 0 5 1 rv s.wr.length (Lib.byteCells s.wr)
  cov : ∀ k, rv.ownBlock = some k → S k
  covA : S A
  lt : ∀ k, S k → k < w.heap.size
def Tp (w : World) (A : Nat) (S : Nat → Prop) (s : TS) : Prop := ∃ rv, Tv w A S s rv
section
variable {w w' : World} {A : Nat} {S T : Nat → Prop} {s : TS} {rv : Value}
theorem Tv.like (h : Tv w A S s rv) (hb : ∀ k, S k → w'.heap[k]? = w.heap[k]?) (hz : w.heap.size ≤ w'.heap.size) : Tv w' A S s rv :=
  ⟨(hb A h.covA).trans h.ob, own_like h.row (fun k hk => hb k (h.cov k hk)), h.cov, h.covA, fun k hk => Nat.lt_of_lt_of_le (h.lt k hk) hz⟩
theorem Tp.like (h : Tp w A S s) (hb : ∀ k, S k → w'.heap[k]? = w.heap[k]?) (hz : w.heap.size ≤ w'.heap.size) : Tp w' A S s := by
  obtain ⟨rv, h⟩ := h
  exact ⟨rv, h.like hb hz⟩
theorem Tp.lt (h : Tp w A S s) : ∀ k, S k → k < w.heap.size := by
  obtain ⟨rv, h⟩ := h
  exact h.lt
theorem Tp.covA (h : Tp w A S s) : S A := by
  obtain ⟨rv, h⟩ := h
  exact h.covA
theorem Tp.on (h : Tp w A S s) (hb : Below w.heap.size w w') : Tp w' A S s := h.like (fun k hk => hb.block k (h.lt k hk)) hb.size
theorem Tv.neA (h : Tv w A S s rv) : ∀ k, rv.ownBlock = some k → k ≠ A := by
  intro k hk e
  subst e
  have h' := h.row
  rcases h'.2 with ⟨hv, _⟩ | ⟨g, cap, cur, hv, _, hc, _⟩
  · subst hv
    cases hk
  · subst hv
    have : g = k := by simpa [Value.ownBlock] using hk
    subst this
    rw [h.ob] at hc
    simp at hc
end

/-- The cells of nothing. -/
def Zc (w : World) (B o : Nat) (t : List Ty) : Prop := ∀ i (h : i < t.length), w.cell? ⟨B, o + i, none⟩ = some t[i].zv
theorem Zc.split {w : World} {B o : Nat} {t u : List Ty} (h : Zc w B o (t ++ u)) : Zc w B o t ∧ Zc w B (o + t.length) u := by
  refine ⟨fun i hi => ?_, fun i hi => ?_⟩
  · have := h i (by rw [List.length_append]; omega)
    rwa [List.getElem_append_left hi] at this
  · have := h (t.length + i) (by rw [List.length_append]; omega)
    rw [List.getElem_append_right (by omega)] at this
    rw [Nat.add_assoc]
    simpa using this
/-- Where the fields x lie ahead of a walk along them, by types t. -/
structure Pre (w : World) (A : Nat) (S : Nat → Prop) (s : TS) (B o : Nat) (t : List Ty) (x : List At) : Prop where
  tp : Tp w A S s
  nB : ¬ S B
  blk : ∃ cs ty, w.heap[B]? = some (.cells cs ty (0, 0)) ∧ o + t.length ≤ cs.size
  has : hasS t x
  lies : liesS w S B o x
  zero : s.reads = true → x = zeroS t ∧ Zc w B o t
  rb : s.reads = true → s.bad = true → s.rest = []
  wb : s.reads = false → s.bad = false
  lenW : s.reads = false → s.wr.length + (encS x).length ≤ 1000000000
  lenR : s.rest.length ≤ 1000000000
/-- What became of the tape. -/
def Out (w w' : World) (S' : Nat → Prop) (s s' : TS) (B o : Nat) (t : List Ty) (x : List At) : Prop :=
  (s.reads = false ∧ s' = { s with wr := s.wr ++ encS x }) ∨
  (s.reads = true ∧ ∃ y r, hasS t y ∧ s.rest = encS y ++ r ∧ s' = { s with rest := r } ∧ liesS w' (fun k => k < w.heap.size ∨ S' k) B o y) ∨
  (s.reads = true ∧ ¬ Rd t s.rest ∧ s' = { s with rest := [], bad := true })
/-- What became of the block. -/
def Blk (w w' : World) (s : TS) (B o : Nat) (t : List Ty) : Prop := ∃ cs cs' ty, w.heap[B]? = some (.cells cs ty (0, 0)) ∧ w'.heap[B]? = some (.cells cs' ty (0, 0)) ∧ cs'.size = cs.size ∧ o + t.length ≤ cs.size ∧ (∀ i, i < o ∨ o + t.length ≤ i → cs'[i]? = cs[i]?) ∧ (s.reads = false → cs' = cs) ∧
  (∀ i (h : i < t.length), ∃ v, cs'[o + i]? = some v ∧ t[i].kind v)
def Post (w w' : World) (A : Nat) (S : Nat → Prop) (s : TS) (B o : Nat) (t : List Ty) (x : List At) : Prop :=
  ∃ S' s', Tp w' A S' s' ∧ (∀ k, S' k → Gro S w w' k) ∧ Fr w w' (fun k => S k ∨ k = B) ∧ Blk w w' s B o t ∧ Out w w' S' s s' B o t x
section
variable {w w' w1 w2 : World} {A : Nat} {S S1 : Nat → Prop} {s s1 : TS} {B o : Nat} {t u : List Ty} {x y : List At}
theorem Pre.on (h : Pre w A S s B o t x) (hb : Below w.heap.size w w') : Pre w' A S s B o t x := by
  obtain ⟨cs, ty, h1, h2⟩ := h.blk
  have hB : B < w.heap.size := blk_lt h1
  refine ⟨h.tp.on hb, h.nB, ⟨cs, ty, (hb.block B hB).trans h1, h2⟩, h.has, ?_, fun q => ⟨(h.zero q).1, fun i hi => (World.cell?_of_block (hb.block B hB)).trans ((h.zero q).2 i hi)⟩, h.rb, h.wb, h.lenW, h.lenR⟩
  exact liesS_keeps ⟨hb.size, fun k hk hs => ⟨hb.block k hk, hs⟩⟩ x B o (fun i _ _ => World.cell?_of_block (hb.block B hB)) h.lies
theorem Pre.lt (h : Pre w A S s B o t x) : B < w.heap.size := by
  obtain ⟨cs, ty, h1, h2⟩ := h.blk
  exact blk_lt h1
theorem Post.from (hb : Below w.heap.size w w1) (hB : B < w.heap.size) (h : Post w1 w2 A S s B o t x) : Post w w2 A S s B o t x := by
  obtain ⟨S', s', h1, h2, h3, h4, h5⟩ := h
  have hz := hb.size
  have hz2 := h3.size
  refine ⟨S', s', h1, fun k hk => ?_, (Fr.ofBelow (fun k => S k ∨ k = B) hb).trans h3, ?_, ?_⟩
  · rcases h2 k hk with q | q
    · exact .inl q
    · exact .inr ⟨by omega, q.2⟩
  · obtain ⟨cs, cs', ty, b1, b2⟩ := h4
    exact ⟨cs, cs', ty, (hb.block B hB).symm.trans b1, b2⟩
  · rcases h5 with q | ⟨q1, y, r, q2, q3, q4, q5⟩ | q
    · exact .inl q
    · refine .inr (.inl ⟨q1, y, r, q2, q3, q4, ?_⟩)
      exact liesS_keeps ⟨Nat.le_refl _, fun k _ hk => ⟨rfl, fun q => hk (by rcases q with q | q; exact .inl (by omega); exact .inr q)⟩⟩ y B o (fun _ _ _ => rfl) q5
    · exact .inr (.inr q)
/-- One walk, then the next. -/
theorem Pre.cons (hu : u ≠ []) (h : Pre w A S s B o (t ++ u) x) : ∃ y z, x = y ++ z ∧ Pre w A S s B o t y ∧ ∀ w1, Post w w1 A S s B o t y → ∃ S1 s1, ((∀ k, S1 k → Gro S w w1 k) ∧ Fr w w1 (fun k => S k ∨ k = B)) ∧ Pre w1 A S1 s1 B (o + t.length) u z ∧ ∀ w2, Post w1 w2 A S1 s1 B (o + t.length) u z → Post w w2 A S s B o (t ++ u) x := by
  obtain ⟨y, z, rfl, hy, hz⟩ := hasS_split h.has
  obtain ⟨cs, ty, hb, hsz⟩ := h.blk
  have hB : B < w.heap.size := blk_lt hb
  rw [List.length_append] at hsz
  have ly := hasS_len hy
  have lz := hasS_len hz
  have hl := (liesS_append y z o).1 h.lies
  rw [ly] at hl
  have e0 : s.reads = true → y = zeroS t ∧ z = zeroS u := by
    intro hr
    have e := (h.zero hr).1
    rw [zeroS_append] at e
    exact append_same (by rw [ly]; simp [zeroS]) e
  have hlen : s.reads = false → s.wr.length + ((encS y).length + (encS z).length) ≤ 1000000000 := fun q => by
    have hlen := h.lenW q
    rwa [encS_append, List.length_append] at hlen
  refine ⟨y, z, rfl, ⟨h.tp, h.nB, ⟨cs, ty, hb, by omega⟩, hy, hl.1, fun q => ⟨(e0 q).1, (h.zero q).2.split.1⟩, h.rb, h.wb, fun q => (by have := hlen q; omega), h.lenR⟩, ?_⟩
  rintro w1 ⟨S1, s1, p1, p2, p3, ⟨c0, c1, ty', b1, b2, b3, b4, b5, b6, b7⟩, p5⟩
  have hbb := hb
  rw [b1] at hbb
  simp only [Option.some.injEq, Obj.cells.injEq] at hbb
  obtain ⟨rfl, rfl, _⟩ := hbb
  have hz1 := p3.size
  have nB1 : ¬ S1 B := by
    intro q
    rcases p2 B q with q | q
    · exact h.nB q
    · omega
  have hr1 : s1.reads = s.reads := by
    rcases p5 with ⟨_, q⟩ | ⟨_, _, _, _, _, q, _⟩ | ⟨_, _, q⟩ <;> rw [q]
  have hcell : ∀ i, o + t.length ≤ i → w1.cell? ⟨B, i, none⟩ = w.cell? ⟨B, i, none⟩ := fun i hi => by
    rw [cell_blk b2, cell_blk b1, b5 _ (.inr hi)]
  have hzc : s.reads = true → Zc w1 B (o + t.length) u := fun q i hi => (hcell _ (by omega)).trans ((h.zero q).2.split.2 i hi)
  have hlies : liesS w1 S1 B (o + t.length) z := by
    cases hr : s.reads with
    | true =>
      rw [(e0 hr).2]
      exact zeroS_lies u _ (hzc hr)
    | false =>
      have ec := b6 hr
      subst ec
      refine liesS_keeps ⟨p3.size, fun k hk hs => ⟨?_, fun q => ?_⟩⟩ z B _ (fun i _ _ => World.cell?_of_block (b2.trans b1.symm)) hl.2
      · by_cases e : k = B
        · subst e
          exact b2.trans b1.symm
        · exact p3.block k hk (fun q => by rcases q with q | q; exact hs q; exact e q)
      · rcases p2 k q with q | q
        · exact hs q
        · omega
  refine ⟨S1, s1, ⟨p2, p3⟩, ⟨p1, nB1, ⟨c1, ty', b2, by omega⟩, hz, hlies, fun q => ⟨(e0 (hr1 ▸ q)).2, hzc (hr1 ▸ q)⟩, ?_, ?_, ?_, ?_⟩, ?_⟩
  · intro q1 q2
    rcases p5 with ⟨_, q⟩ | ⟨_, y', r, _, q3, q, _⟩ | ⟨_, _, q⟩
    · rw [q] at q1 q2 ⊢
      exact h.rb q1 q2
    · rw [q] at q1 q2 ⊢
      have := h.rb q1 q2
      rw [this] at q3
      exact (List.append_eq_nil_iff.1 q3.symm).2
    · rw [q]
  · intro q1
    rcases p5 with ⟨_, q⟩ | ⟨q0, _⟩ | ⟨q0, _⟩
    · rw [q] at q1 ⊢
      exact h.wb q1
    · rw [hr1, q0] at q1; cases q1
    · rw [hr1, q0] at q1; cases q1
  · intro q1
    rw [hr1] at q1
    have hlen := hlen q1
    rcases p5 with ⟨_, q⟩ | ⟨q0, _⟩ | ⟨q0, _⟩
    · rw [q, List.length_append]; omega
    · rw [q1] at q0; cases q0
    · rw [q1] at q0; cases q0
  · have := h.lenR
    rcases p5 with ⟨_, q⟩ | ⟨_, y', r, _, q3, q, _⟩ | ⟨_, _, q⟩
    · rw [q]; exact this
    · rw [q]
      rw [q3, List.length_append] at this
      show r.length ≤ _
      omega
    · rw [q]; simp
  · rintro w2 ⟨S2, s2, r1, r2, r3, ⟨d0, d1, ty2, a1, a2, a3, a4, a5, a6, a7⟩, r5⟩
    rw [b2] at a1
    simp only [Option.some.injEq, Obj.cells.injEq] at a1
    obtain ⟨rfl, rfl, _⟩ := a1
    have hz2 := r3.size
    refine ⟨S2, s2, r1, fun k hk => ?_, p3.step r3 (fun k hk => ?_), ⟨c0, d1, ty', b1, a2, by omega, by rw [List.length_append]; omega, fun i hi => ?_, fun q => ?_, fun i hi => ?_⟩, ?_⟩
    · rcases r2 k hk with q | q
      · rcases p2 k q with q | q
        · exact .inl q
        · exact .inr ⟨q.1, by omega⟩
      · exact .inr ⟨by omega, q.2⟩
    · rcases hk with q | q
      · rcases p2 k q with q | q
        · exact .inl (.inl q)
        · exact .inr q.1
      · exact .inl (.inr q)
    · rw [List.length_append] at hi
      rw [a5 i (by omega), b5 i (by omega)]
    · rw [a6 (hr1.trans q), b6 q]
    · have hi2 := hi
      rw [List.length_append] at hi2
      by_cases q : i < t.length
      · rw [a5 (o + i) (.inl (by omega)), List.getElem_append_left q]
        exact b7 i q
      · rw [List.getElem_append_right (by omega)]
        have := a7 (i - t.length) (by omega)
        rwa [show o + t.length + (i - t.length) = o + i by omega] at this
    · have hkeep : ∀ y', hasS t y' → liesS w1 (fun k => k < w.heap.size ∨ S1 k) B o y' → liesS w2 (fun k => k < w.heap.size ∨ S2 k) B o y' := by
        intro y' hy' hl'
        have ly' := hasS_len hy'
        refine liesS_keeps ⟨hz2, fun k hk hs => ⟨?_, fun q => ?_⟩⟩ y' B o (fun i i1 i2 => ?_) hl'
        · refine r3.block k hk (fun q => ?_)
          rcases q with q | q
          · exact hs (.inr q)
          · exact hs (.inl (q ▸ hB))
        · rcases q with q | q
          · exact hs (.inl q)
          · rcases r2 k q with q | q
            · exact hs (.inr q)
            · omega
        · rw [cell_blk a2, cell_blk b2, a5 i (.inl (by omega))]
      rcases p5 with ⟨q0, q⟩ | ⟨q0, y', r, g1, g2, g3, g4⟩ | ⟨q0, g1, g2⟩
      · rcases r5 with ⟨_, q'⟩ | ⟨q', _⟩ | ⟨q', _⟩
        · refine .inl ⟨q0, ?_⟩
          rw [q', q, encS_append, ← List.append_assoc]
        · rw [hr1, q0] at q'; cases q'
        · rw [hr1, q0] at q'; cases q'
      · rcases r5 with ⟨q', _⟩ | ⟨_, z', r', f1, f2, f3, f4⟩ | ⟨_, f1, f2⟩
        · rw [hr1, q0] at q'; cases q'
        · refine .inr (.inl ⟨q0, y' ++ z', r', hasS_append g1 f1, ?_, ?_, ?_⟩)
          · rw [g3] at f2
            rw [g2, encS_append, List.append_assoc, ← f2]
          · rw [f3, g3]
          · rw [liesS_append, hasS_len g1]
            refine ⟨hkeep y' g1 g4, ?_⟩
            exact liesS_keeps ⟨Nat.le_refl _, fun k _ hk => ⟨rfl, fun q => hk (by rcases q with q | q; exact .inl (by omega); exact .inr q)⟩⟩ z' B _ (fun _ _ _ => rfl) f4
        · refine .inr (.inr ⟨q0, fun q => ?_, ?_⟩)
          · rw [g2] at q
            rw [g3] at f1
            exact f1 (q.split g1)
          · rw [f2, g3]
      · rcases r5 with ⟨q', _⟩ | ⟨_, z', r', f1, f2, f3, f4⟩ | ⟨_, f1, f2⟩
        · rw [hr1, q0] at q'; cases q'
        · rw [g2] at f2
          exact absurd ⟨z', r', f1, f2⟩ (Rd.none hu)
        · exact .inr (.inr ⟨q0, fun q => g1 q.first, by rw [f2, g2]⟩)
end
end Go.Proofs.Ytjhgmncmcklnkaa
