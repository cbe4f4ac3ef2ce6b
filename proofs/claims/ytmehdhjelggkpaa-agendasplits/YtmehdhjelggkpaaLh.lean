/- Two agendas beside one another, and what was taken of each. -/
import Derived.Test.YtmehdhjelggkpaaLg
import Derived.Test.YtmehdhjelggkpaaLe
namespace Go.Proofs.Ytmehdhjelggkpaa
open Go.RowKit Go.Maps

def intsV (xs : List Int) : List Value := xs.map (fun x => .int .i64 x)
theorem intsV_len (xs : List Int) : (intsV xs).length = xs.length := by simp [intsV]
theorem intsV_snoc (xs : List Int) (x : Int) : intsV (xs ++ [x]) = intsV xs ++ [.int .i64 x] := by simp [intsV]

theorem intsV_get (xs : List Int) (k : Nat) (h : k < xs.length) : (intsV xs)[k]? = some (.int .i64 xs[k]) := by simp [intsV, h]

/-- Nothing is due by then. -/
def Fin0 (t : Int) (R : List Ti) : Prop := nextL R = none ∨ ∃ x, nextL R = some x ∧ t < x.due
theorem far_end {t : Int} {R0 R : List Ti} {xs : List Int} (h : SoFar t R0 xs R) (hf : Fin0 t R) : taken t R0 = (xs, R) := by
  rcases hf with hf | ⟨x, hx, hd⟩
  · exact far_none h hf
  · exact far_late h hx hd
theorem pop_any {w : World} {A c : Nat} {S : Nat → Prop} {R : List Ti} {now : Int} (h : Agd w A S c R) : Calls Try.prog 14 #[.pointer (some ⟨A, 0, none⟩), .int .i64 now] w fun e w' =>
    (∃ u, nextL R = some u ∧ u.due ≤ now ∧ e = .returned (.tuple #[.int .i64 u.what, .bool true]) ∧ Agd w' A S c (dropL R u.what) ∧ Fr w w' S) ∨ (Fin0 now R ∧ e = .returned (.tuple #[.int .i64 0, .bool false]) ∧ w' = w) := by
  cases hn : nextL R with
  | none =>
    have hR := next_none hn
    subst hR
    refine (pop_none h).mono ?_
    rintro e w' ⟨rfl, rfl⟩
    exact .inr ⟨.inl hn, rfl, rfl⟩
  | some u =>
    by_cases hd : u.due ≤ now
    · refine (pop_due h hn hd).mono ?_
      rintro e w' ⟨rfl, ha, hf⟩
      exact .inl ⟨u, rfl, hd, rfl, ha, hf⟩
    · refine (pop_late h hn (by omega)).mono ?_
      rintro e w' ⟨rfl, rfl⟩
      exact .inr ⟨.inr ⟨u, hn, by omega⟩, rfl, rfl⟩

/-- The agendas at A and B; what was taken of them lies at xv and yv; nothing is shared. -/
structure Prs (B0 : Nat) (w : World) (A B c : Nat) (R1 R2 : List Ti) (xv yv : Value) (xs ys : List Int) (S T : Nat → Prop) : Prop where
  a : Agd w A S c R1
  b : Agd w B T c R2
  dis : ∀ k, S k → ¬ T k
  loS : ∀ k, S k → B0 ≤ k
  loT : ∀ k, T k → B0 ≤ k
  x : w.ownsRow B0 3 1 xv xs.length (intsV xs)
  y : w.ownsRow B0 3 1 yv ys.length (intsV ys)
  xout : ∀ k, xv.ownBlock = some k → ¬ S k ∧ ¬ T k
  yout : ∀ k, yv.ownBlock = some k → ¬ S k ∧ ¬ T k
  xy : ∀ k, xv.ownBlock = some k → yv.ownBlock ≠ some k
def Pr (B0 : Nat) (w : World) (A B c : Nat) (R1 R2 : List Ti) (xv yv : Value) (xs ys : List Int) : Prop := ∃ S T, Prs B0 w A B c R1 R2 xv yv xs ys S T

section
variable {B0 : Nat} {w w' : World} {A B c : Nat} {R1 R2 : List Ti} {xv yv : Value} {xs ys : List Int}
theorem Pr.symm (h : Pr B0 w A B c R1 R2 xv yv xs ys) : Pr B0 w B A c R2 R1 yv xv ys xs := by
  obtain ⟨S, T, h⟩ := h
  exact ⟨T, S, h.b, h.a, fun k p q => h.dis k q p, h.loT, h.loS, h.y, h.x, fun k hk => (h.yout k hk).symm, fun k hk => (h.xout k hk).symm, fun k p q => h.xy k q p⟩
theorem Pr.agd (h : Pr B0 w A B c R1 R2 xv yv xs ys) : ∃ S, Agd w A S c R1 := by
  obtain ⟨S, T, h⟩ := h
  exact ⟨S, h.a⟩
theorem Pr.own (h : Pr B0 w A B c R1 R2 xv yv xs ys) : w.ownsRow B0 3 1 xv xs.length (intsV xs) := by
  obtain ⟨S, T, h⟩ := h
  exact h.x
/-- One is taken, or none is due. -/
theorem Pr.pop {now : Int} (h : Pr B0 w A B c R1 R2 xv yv xs ys) (hB : B0 ≤ w.heap.size) : Calls Try.prog 14 #[.pointer (some ⟨A, 0, none⟩), .int .i64 now] w fun e w' =>
    (∃ u, nextL R1 = some u ∧ u.due ≤ now ∧ e = .returned (.tuple #[.int .i64 u.what, .bool true]) ∧ Pr B0 w' A B c (dropL R1 u.what) R2 xv yv xs ys ∧ Below B0 w w') ∨ (Fin0 now R1 ∧ e = .returned (.tuple #[.int .i64 0, .bool false]) ∧ w' = w) := by
  obtain ⟨S, T, h⟩ := h
  refine (pop_any h.a).mono ?_
  rintro e w' (⟨u, hu, hd, rfl, ha, hf⟩ | ⟨hf, rfl, rfl⟩)
  · refine .inl ⟨u, hu, hd, rfl, ⟨S, T, ha, h.b.stays hf (fun k p q => h.dis k q p), h.dis, h.loS, h.loT, own_like h.x (fun k hk => hf.block k (h.x.lt k hk).2 (h.xout k hk).1), own_like h.y (fun k hk => hf.block k (h.y.lt k hk).2 (h.yout k hk).1), h.xout, h.yout, h.xy⟩, ?_⟩
    exact hf.toBelow (fun k hk q => by have := h.loS k q; omega) hB
  · exact .inr ⟨hf, rfl, rfl⟩
/-- What was taken is put down. -/
theorem Pr.put {o : Obj} {u : Int} {v3 : Value} (h : Pr B0 w A B c R1 R2 xv yv xs ys) (hB : B0 ≤ w.heap.size) (ho : w'.ownsRow B0 3 1 v3 (xs.length + 1) (intsV xs ++ [.int .i64 u])) (hg : (w.alloc o).grownBy w' xv.ownBlock) (hl : v3.ownBlock = xv.ownBlock ∨ v3.ownBlock = some (w.alloc o).heap.size) :
    Pr B0 w' A B c R1 R2 v3 yv (xs ++ [u]) ys ∧ Below B0 w w' := by
  obtain ⟨S, T, h⟩ := h
  have hf : Fr w w' (fun k => xv.ownBlock = some k) := ((Fr.refl w _).alloc o).grown hg (fun k hk => .inl hk)
  have out : ∀ k, v3.ownBlock = some k → xv.ownBlock = some k ∨ w.heap.size ≤ k := by
    intro k hk
    rcases hl with q | q
    · exact .inl (q.symm.trans hk)
    · rw [q] at hk
      have := Option.some.inj hk
      simp at this
      exact .inr (by omega)
  refine ⟨⟨S, T, h.a.stays hf (fun k p q => (h.xout k q).1 p), h.b.stays hf (fun k p q => (h.xout k q).2 p), h.dis, h.loS, h.loT, ?_, own_like h.y (fun k hk => hf.block k (h.y.lt k hk).2 (fun q => h.xy k q hk)), ?_, h.yout, ?_⟩, ?_⟩
  · rw [intsV_snoc, List.length_append]
    exact ho
  · intro k hk
    rcases out k hk with q | q
    · exact h.xout k q
    · exact ⟨fun p => by have := h.a.1 k p; omega, fun p => by have := h.b.1 k p; omega⟩
  · intro k hk p
    rcases out k hk with q | q
    · exact h.xy k q p
    · have := (h.y.lt k p).2
      omega
  · exact hf.toBelow (fun k hk q => by have := (h.x.lt k q).1; omega) hB
end

theorem Pr.start {w w1 w2 w3 : World} {A B n : Nat} {R : List Ti} (hB : w.heap.size ≤ w1.heap.size) (o2 : Own w1.heap.size w2 A n R) (b2 : Below w1.heap.size w1 w2) (o3 : Own w2.heap.size w3 B n R) (b3 : Below w2.heap.size w2 w3) : Pr w.heap.size w3 A B n R R (.slice none 0 0) (.slice none 0 0) [] [] := by
  have hs := b2.size
  refine ⟨Frm w1.heap.size w2, Frm w2.heap.size w3, o2.2.stays (T := fun _ => False) (Fr.ofBelow _ b3) (fun _ _ q => q), o3.2, ?_, ?_, ?_, World.ownsRow_nil _ _ _ _, World.ownsRow_nil _ _ _ _, fun k hk => (by cases hk), fun k hk => (by cases hk), fun k hk => (by cases hk)⟩
  · rintro k ⟨_, q⟩ ⟨p, _⟩
    omega
  · rintro k ⟨q, _⟩
    omega
  · rintro k ⟨q, _⟩
    omega
theorem infoI : (Try.prog.info? 3).map (fun i => (i.zero, i.size, i.bytes)) = some (some (.int .i64 0), 1, 8) := by kernel_rfl


theorem own_shape' {w : World} {base : Nat} {e : TypeId} {size : Nat} {v : Value} {n : Nat} {xs : List Value} (h : w.ownsRow base e size v n xs) : ∃ ad cap, v = .slice ad n cap := by
  rcases h.2 with ⟨rfl, rfl⟩ | ⟨g', cap', cur, rfl, _⟩
  · exact ⟨none, 0, rfl⟩
  · exact ⟨_, _, rfl⟩
/-- What a Pop answers, and what it leaves. -/
def Pop1 (B0 : Nat) (now : Int) (w : World) (A B c : Nat) (R1 R2 : List Ti) (xv yv : Value) (xs ys : List Int) (u : Int) (ok : Bool) (w' : World) : Prop :=
  Below B0 w w' ∧ ((ok = true ∧ ∃ x, nextL R1 = some x ∧ x.due ≤ now ∧ u = x.what ∧ Pr B0 w' A B c (dropL R1 x.what) R2 xv yv xs ys) ∨ (ok = false ∧ Fin0 now R1 ∧ Pr B0 w' A B c R1 R2 xv yv xs ys))
theorem Pr.pop1 {B0 : Nat} {w : World} {A B c : Nat} {R1 R2 : List Ti} {xv yv : Value} {xs ys : List Int} {now : Int} (h : Pr B0 w A B c R1 R2 xv yv xs ys) (hB : B0 ≤ w.heap.size) : Calls Try.prog 14 #[.pointer (some ⟨A, 0, none⟩), .int .i64 now] w fun e w' =>
    ∃ (u : Int) (ok : Bool), e = .returned (.tuple #[.int .i64 u, .bool ok]) ∧ Pop1 B0 now w A B c R1 R2 xv yv xs ys u ok w' := by
  refine (h.pop hB).mono ?_
  rintro e w' (⟨u, hu, hd, rfl, hp, hb⟩ | ⟨hf, rfl, rfl⟩)
  · exact ⟨u.what, true, rfl, hb, .inl ⟨rfl, u, hu, hd, rfl, hp⟩⟩
  · exact ⟨0, false, rfl, Below.refl _ _, .inr ⟨rfl, hf, h⟩⟩
/-- Where the taking stands: u is at hand, or nothing is due any more. -/
def InAt (B0 : Nat) (t mx : Int) (A B c : Nat) (R0 R2 : List Ti) (yv : Value) (ys : List Int) (wr : World) (xv : Value) (u : Int) (ok : Bool) : Prop :=
  ∃ (xs : List Int) (R : List Ti), Pr B0 wr A B c R R2 xv yv xs ys ∧ ((ok = true ∧ SoFar mx R0 (xs ++ [u]) R ∧ xs.length + 1 + R.length = R0.length) ∨ (ok = false ∧ SoFar mx R0 xs R ∧ Fin0 t R ∧ xs.length + R.length = R0.length))
theorem inAt_pop {B0 : Nat} {t mx : Int} {w w' : World} {A B c : Nat} {R0 R R2 : List Ti} {xv yv : Value} {xs ys : List Int} {u : Int} {ok : Bool} (hp : Pr B0 w A B c R R2 xv yv xs ys) (hs : SoFar mx R0 xs R) (hl : xs.length + R.length = R0.length) (ht : t ≤ mx) (h : Pop1 B0 t w A B c R R2 xv yv xs ys u ok w') : InAt B0 t mx A B c R0 R2 yv ys w' xv u ok := by
  obtain ⟨S, ha⟩ := hp.agd
  rcases h.2 with ⟨rfl, x, hx, hd, rfl, hp'⟩ | ⟨rfl, hf, hp'⟩
  · have := drop_len ha.once (List.mem_map.2 ⟨x, next_mem (next_of hx), rfl⟩)
    exact ⟨xs, _, hp', .inl ⟨rfl, far_step hs ha.once hx hd ht, by omega⟩⟩
  · exact ⟨xs, R, hp', .inr ⟨rfl, hs, hf, hl⟩⟩
def okN (v : Value) : Nat := match v with
  | .bool true => 1
  | _ => 0
/-- Each Pop brings the end nearer. -/
theorem pop_less {B0 : Nat} {t : Int} {w wr w' : World} {A B c : Nat} {R R2 : List Ti} {xv yv : Value} {xs ys : List Int} {u : Int} {ok : Bool} {S : Nat → Prop} (hr : Agd wr A S c R) (h : Pop1 B0 t w A B c R R2 xv yv xs ys u ok w') : 2 * lenAt w' A + okN (.bool ok) < 2 * lenAt wr A + okN (.bool true) := by
  rw [hr.lenAt]
  rcases h.2 with ⟨rfl, x, hx, hd, rfl, hp'⟩ | ⟨rfl, hf, hp'⟩
  · obtain ⟨S', ha'⟩ := hp'.agd
    have := drop_len hr.once (List.mem_map.2 ⟨x, next_mem (next_of hx), rfl⟩)
    rw [ha'.lenAt]
    show 2 * (dropL R x.what).length + 1 < 2 * R.length + 1
    omega
  · obtain ⟨S', ha'⟩ := hp'.agd
    rw [ha'.lenAt]
    show 2 * R.length + 0 < 2 * R.length + 1
    omega
end Go.Proofs.Ytmehdhjelggkpaa
