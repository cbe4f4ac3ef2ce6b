/- Plain facts on an agenda: the document's list of things in the order in which they were set, and a heap that has the same things. -/
import Derived.Test.YtmehdhjelggkpaaHa
namespace Go.Proofs.Ytmehdhjelggkpaa

/-- A thing, as the document's list has it. -/
structure Ti where
  what : Int
  due : Int
def Th.bare (x : Th) : Ti := ⟨x.what, x.due⟩

def dropL (R : List Ti) (w : Int) : List Ti := R.filter (fun t => decide (t.what ≠ w))
def setL (R : List Ti) (w d : Int) : List Ti := dropL R w ++ [⟨w, d⟩]
def better (b : Option Ti) (t : Ti) : Option Ti := match b with
  | none => some t
  | some b => if t.due < b.due then some t else some b
def nextL (R : List Ti) : Option Ti := R.foldl better none
abbrev whats (R : List Ti) : List Int := R.map (fun t => t.what)

theorem dropL_nil (w : Int) : dropL [] w = [] := rfl
theorem dropL_append (a b : List Ti) (w : Int) : dropL (a ++ b) w = dropL a w ++ dropL b w := List.filter_append _ _
theorem dropL_none {R : List Ti} {w : Int} (h : w ∉ whats R) : dropL R w = R := by
  unfold dropL
  rw [List.filter_eq_self]
  intro t ht
  simp only [decide_eq_true_eq]
  intro e
  exact h (List.mem_map.2 ⟨t, ht, e⟩)
theorem dropL_mem {R : List Ti} {w : Int} {t : Ti} : t ∈ dropL R w ↔ t ∈ R ∧ t.what ≠ w := by simp [dropL]
theorem dropL_whats {R : List Ti} {w v : Int} : v ∈ whats (dropL R w) ↔ v ∈ whats R ∧ v ≠ w := by
  simp only [whats, List.mem_map, dropL_mem]
  constructor
  · rintro ⟨t, ⟨h1, h2⟩, rfl⟩
    exact ⟨⟨t, h1, rfl⟩, h2⟩
  · rintro ⟨⟨t, h1, rfl⟩, h2⟩
    exact ⟨t, ⟨h1, h2⟩, rfl⟩
theorem dropL_nodup {R : List Ti} (h : (whats R).Nodup) (w : Int) : (whats (dropL R w)).Nodup := by
  unfold whats dropL
  exact List.Nodup.sublist (List.Sublist.map _ List.filter_sublist) h
theorem setL_nodup {R : List Ti} (h : (whats R).Nodup) (w d : Int) : (whats (setL R w d)).Nodup := by
  unfold setL
  rw [show whats (dropL R w ++ [⟨w, d⟩]) = whats (dropL R w) ++ [w] by simp [whats]]
  rw [List.nodup_append]
  refine ⟨dropL_nodup h w, by simp, ?_⟩
  intro a ha b hb
  simp at hb
  subst hb
  exact (dropL_whats.1 ha).2

/-- The first of those that are due first. -/
def IsNext (R : List Ti) (t : Ti) : Prop := ∃ a b, R = a ++ t :: b ∧ (∀ x ∈ a, t.due < x.due) ∧ (∀ x ∈ b, t.due ≤ x.due)
theorem better_some : ∀ (R : List Ti) (b : Ti), ∃ t, R.foldl better (some b) = some t ∧ IsNext (b :: R) t
  | [], b => ⟨b, rfl, [], [], rfl, by simp, by simp⟩
  | x :: R, b => by
    rw [List.foldl_cons]
    by_cases h : x.due < b.due
    · have e : better (some b) x = some x := if_pos h
      rw [e]
      obtain ⟨t, ht, p, q, hpq, h1, h2⟩ := better_some R x
      refine ⟨t, ht, b :: p, q, by rw [hpq]; rfl, ?_, h2⟩
      intro y hy
      rcases List.mem_cons.1 hy with rfl | hy
      · cases p with
        | nil => simp at hpq; rw [← hpq.1]; exact h
        | cons z p =>
          simp at hpq
          have := h1 z (by simp)
          rw [← hpq.1] at this
          omega
      · exact h1 y hy
    · have e : better (some b) x = some b := if_neg h
      rw [e]
      obtain ⟨t, ht, p, q, hpq, h1, h2⟩ := better_some R b
      refine ⟨t, ht, ?_⟩
      cases p with
      | nil =>
        simp at hpq
        refine ⟨[], x :: q, by rw [← hpq.1, ← hpq.2]; rfl, by simp, ?_⟩
        intro y hy
        rcases List.mem_cons.1 hy with rfl | hy
        · rw [← hpq.1]; omega
        · exact h2 y hy
      | cons z p =>
        simp at hpq
        obtain ⟨rfl, hR⟩ := hpq
        refine ⟨b :: x :: p, q, by rw [hR]; rfl, ?_, h2⟩
        intro y hy
        have hb := h1 b (by simp)
        rcases List.mem_cons.1 hy with rfl | hy
        · exact hb
        · rcases List.mem_cons.1 hy with rfl | hy
          · omega
          · exact h1 y (by simp [hy])
theorem nextL_nil : nextL [] = none := rfl
theorem nextL_cons (b : Ti) (R : List Ti) : ∃ t, nextL (b :: R) = some t ∧ IsNext (b :: R) t := better_some R b
theorem next_one {R : List Ti} {t u : Ti} (h : IsNext R t) (h' : IsNext R u) : t = u := by
  obtain ⟨a, b, e, h1, h2⟩ := h
  obtain ⟨c, d, e', h3, h4⟩ := h'
  rw [e] at e'
  rcases List.append_eq_append_iff.1 e' with ⟨m, hc, hb⟩ | ⟨m, ha, hd⟩
  · cases m with
    | nil => simp at hb; exact hb.1
    | cons z m =>
      simp at hb
      obtain ⟨rfl, rfl⟩ := hb
      have p := h3 t (by rw [hc]; simp)
      have q := h2 u (by simp)
      omega
  · cases m with
    | nil => simp at hd; exact hd.1.symm
    | cons z m =>
      simp at hd
      obtain ⟨rfl, rfl⟩ := hd
      have p := h1 u (by rw [ha]; simp)
      have q := h4 t (by simp)
      omega
theorem nextL_of {R : List Ti} {t : Ti} (h : IsNext R t) : nextL R = some t := by
  cases R with
  | nil => obtain ⟨a, b, e, _⟩ := h; simp at e
  | cons b R =>
    obtain ⟨u, hu, hn⟩ := nextL_cons b R
    rw [hu, next_one h hn]
theorem next_of {R : List Ti} {t : Ti} (h : nextL R = some t) : IsNext R t := by
  cases R with
  | nil => simp [nextL] at h
  | cons b R =>
    obtain ⟨u, hu, hn⟩ := nextL_cons b R
    rw [hu] at h
    simp at h
    subst h
    exact hn
theorem next_none {R : List Ti} (h : nextL R = none) : R = [] := by
  cases R with
  | nil => rfl
  | cons b R =>
    obtain ⟨u, hu, _⟩ := nextL_cons b R
    rw [hu] at h
    cases h
theorem next_mem {R : List Ti} {t : Ti} (h : IsNext R t) : t ∈ R := by
  obtain ⟨a, b, rfl, _⟩ := h
  simp
theorem next_least {R : List Ti} {t : Ti} (h : IsNext R t) : ∀ x ∈ R, t.due ≤ x.due := by
  obtain ⟨a, b, rfl, h1, h2⟩ := h
  intro x hx
  rcases List.mem_append.1 hx with hx | hx
  · have := h1 x hx; omega
  · rcases List.mem_cons.1 hx with rfl | hx
    · omega
    · exact h2 x hx
/-- Where things are due at one time the first one comes first. -/
theorem next_ties {R : List Ti} {t : Ti} (h : ∀ x ∈ R, x.due = t.due) : IsNext (t :: R) t := ⟨[], R, rfl, by simp, fun x hx => by rw [h x hx]; omega⟩
theorem drop_head {R : List Ti} {t : Ti} (h : (whats (t :: R)).Nodup) : dropL (t :: R) t.what = R := by
  have hn : t.what ∉ whats R := by
    have := List.nodup_cons.1 (show (t.what :: whats R).Nodup from h)
    exact this.1
  show List.filter _ (t :: R) = R
  rw [List.filter_cons_of_neg (by simp)]
  exact dropL_none hn
theorem drop_len {R : List Ti} (h : (whats R).Nodup) {w : Int} (hw : w ∈ whats R) : (dropL R w).length + 1 = R.length := by
  induction R with
  | nil => simp [whats] at hw
  | cons t R ih =>
    by_cases e : t.what = w
    · subst e
      rw [drop_head h]
      rfl
    · have hw' : w ∈ whats R := by
        simp only [whats, List.map_cons, List.mem_cons] at hw
        rcases hw with hw | hw
        · exact absurd hw.symm e
        · exact hw
      have h' : (whats R).Nodup := (List.nodup_cons.1 (show (t.what :: whats R).Nodup from h)).2
      have := ih h' hw'
      show (List.filter _ (t :: R)).length + 1 = _
      rw [List.filter_cons_of_pos (by simpa using e), List.length_cons, List.length_cons]
      have e2 : (List.filter (fun t => decide (t.what ≠ w)) R).length = (dropL R w).length := rfl
      omega

/- A heap that has the same things -/
structure Rep (f : Nat → Th) (n : Nat) (c : Int) (R : List Ti) : Prop where
  same : ∃ S : List Th, (row f n).Perm S ∧ S.map Th.bare = R ∧ S.Pairwise (fun a b => a.seq < b.seq) ∧ (∀ x ∈ S, x.seq < c)
  once : (whats R).Nodup
theorem Rep.len {f : Nat → Th} {n : Nat} {c : Int} {R : List Ti} (h : Rep f n c R) : R.length = n := by
  obtain ⟨S, h1, h2, _⟩ := h.same
  rw [← h2, List.length_map, ← h1.length_eq, row_len]
theorem Rep.nil (f : Nat → Th) (c : Int) : Rep f 0 c [] := ⟨⟨[], by simp [row], rfl, by simp, by simp⟩, by simp [whats]⟩
theorem Rep.whats {f : Nat → Th} {n : Nat} {c : Int} {R : List Ti} (h : Rep f n c R) : (Ytmehdhjelggkpaa.whats R).Perm ((row f n).map (fun x => x.what)) := by
  obtain ⟨S, h1, h2, _⟩ := h.same
  have : Ytmehdhjelggkpaa.whats R = S.map (fun x => x.what) := by rw [← h2]; simp [Ytmehdhjelggkpaa.whats, Th.bare]
  rw [this]
  exact (h1.map _).symm
theorem Rep.mem {f : Nat → Th} {n : Nat} {c : Int} {R : List Ti} (h : Rep f n c R) (w : Int) : w ∈ Ytmehdhjelggkpaa.whats R ↔ ∃ i, i < n ∧ (f i).what = w := by
  rw [h.whats.mem_iff, List.mem_map]
  constructor
  · rintro ⟨x, hx, rfl⟩
    obtain ⟨k, hk, rfl⟩ := mem_row.1 hx
    exact ⟨k, hk, rfl⟩
  · rintro ⟨i, hi, rfl⟩
    exact ⟨f i, mem_row.2 ⟨i, hi, rfl⟩, rfl⟩
theorem Rep.inj {f : Nat → Th} {n : Nat} {c : Int} {R : List Ti} (h : Rep f n c R) {i j : Nat} (hi : i < n) (hj : j < n) (e : (f i).what = (f j).what) : i = j := by
  have hn := h.whats.nodup h.once
  have hl : ((row f n).map (fun x => x.what)).length = n := by simp [row]
  have g : ∀ k (hk : k < n), ((row f n).map (fun x => x.what))[k]'(by rw [hl]; exact hk) = (f k).what := by intro k hk; simp [row]
  have hp := List.pairwise_iff_getElem.1 hn
  rcases Nat.lt_trichotomy i j with q | q | q
  · exact absurd (by rw [g i hi, g j hj, e]) (hp i j (by rw [hl]; exact hi) (by rw [hl]; exact hj) q)
  · exact q
  · exact absurd (by rw [g i hi, g j hj, e]) (hp j i (by rw [hl]; exact hj) (by rw [hl]; exact hi) q)
/-- What is at the front comes first. -/
theorem Rep.next {f : Nat → Th} {n : Nat} {c : Int} {R : List Ti} (h : Rep f n c R) (hh : Heap f n) (h0 : 0 < n) : nextL R = some ⟨(f 0).what, (f 0).due⟩ := by
  obtain ⟨S, h1, h2, h3, _⟩ := h.same
  have hm : f 0 ∈ S := h1.mem_iff.1 (mem_row.2 ⟨0, h0, rfl⟩)
  have hl : ∀ x ∈ S, ¬ ahead x (f 0) := by
    intro x hx
    obtain ⟨k, hk, rfl⟩ := mem_row.1 (h1.mem_iff.2 hx)
    exact heap_least hh k hk
  obtain ⟨a, b, rfl⟩ := List.append_of_mem hm
  apply nextL_of
  refine ⟨a.map Th.bare, b.map Th.bare, by rw [← h2]; simp [Th.bare], ?_, ?_⟩
  · intro y hy
    obtain ⟨x, hx, rfl⟩ := List.mem_map.1 hy
    have p := hl x (by simp [hx])
    have q := (List.pairwise_append.1 h3).2.2 x hx (f 0) (by simp)
    show (f 0).due < x.due
    unfold ahead at p
    omega
  · intro y hy
    obtain ⟨x, hx, rfl⟩ := List.mem_map.1 hy
    have p := hl x (by simp [hx])
    show (f 0).due ≤ x.due
    unfold ahead at p
    omega
theorem Rep.perm {f g : Nat → Th} {n : Nat} {c : Int} {R : List Ti} (h : Rep f n c R) (hp : (row g n).Perm (row f n)) : Rep g n c R := by
  obtain ⟨S, h1, h2, h3, h4⟩ := h.same
  exact ⟨⟨S, hp.trans h1, h2, h3, h4⟩, h.once⟩
theorem Rep.later {f : Nat → Th} {n : Nat} {c d : Int} {R : List Ti} (h : Rep f n c R) (hd : c ≤ d) : Rep f n d R := by
  obtain ⟨S, h1, h2, h3, h4⟩ := h.same
  exact ⟨⟨S, h1, h2, h3, fun x hx => by have := h4 x hx; omega⟩, h.once⟩
/-- One thing less. -/
theorem Rep.drop {f g : Nat → Th} {n : Nat} {c : Int} {R : List Ti} (h : Rep f (n + 1) c R) {x : Th} (hp : (x :: row g n).Perm (row f (n + 1))) : Rep g n c (dropL R x.what) := by
  obtain ⟨S, h1, h2, h3, h4⟩ := h.same
  have hxS : (x :: row g n).Perm S := hp.trans h1
  have hm : x ∈ S := hxS.mem_iff.1 (by simp)
  obtain ⟨a, b, rfl⟩ := List.append_of_mem hm
  have hab : (row g n).Perm (a ++ b) := List.Perm.cons_inv (hxS.trans List.perm_middle)
  have hR : R = a.map Th.bare ++ x.bare :: b.map Th.bare := by rw [← h2]; simp
  have ho := h.once
  have hw : Ytmehdhjelggkpaa.whats R = Ytmehdhjelggkpaa.whats (a.map Th.bare) ++ x.what :: Ytmehdhjelggkpaa.whats (b.map Th.bare) := by rw [hR]; simp [Ytmehdhjelggkpaa.whats, Th.bare]
  rw [hw, List.nodup_append] at ho
  obtain ⟨_, o2, o3⟩ := ho
  have ha : x.what ∉ Ytmehdhjelggkpaa.whats (a.map Th.bare) := fun q => o3 _ q x.what (by simp) rfl
  have hb : x.what ∉ Ytmehdhjelggkpaa.whats (b.map Th.bare) := (List.nodup_cons.1 o2).1
  have e : dropL R x.what = (a ++ b).map Th.bare := by
    rw [hR, dropL_append, dropL_none ha, List.map_append]
    congr 1
    show List.filter _ (x.bare :: _) = _
    rw [List.filter_cons_of_neg (by simp [Th.bare])]
    exact dropL_none hb
  refine ⟨⟨a ++ b, hab, e.symm, ?_, ?_⟩, dropL_nodup h.once _⟩
  · rw [List.pairwise_append] at h3 ⊢
    obtain ⟨p1, p2, p3⟩ := h3
    exact ⟨p1, (List.pairwise_cons.1 p2).2, fun y hy z hz => p3 y hy z (by simp [hz])⟩
  · intro y hy
    apply h4
    rcases List.mem_append.1 hy with hy | hy <;> simp [hy]
/-- One thing more, set last. -/
theorem Rep.push {f g : Nat → Th} {n : Nat} {c d : Int} {R : List Ti} (h : Rep f n c R) {x : Th} (hp : (row g (n + 1)).Perm (x :: row f n)) (hw : x.what ∉ Ytmehdhjelggkpaa.whats R) (hx : c ≤ x.seq) (hd : x.seq < d) : Rep g (n + 1) d (setL R x.what x.due) := by
  obtain ⟨S, h1, h2, h3, h4⟩ := h.same
  refine ⟨⟨S ++ [x], ?_, ?_, ?_, ?_⟩, setL_nodup h.once _ _⟩
  · exact hp.trans ((List.Perm.cons x h1).trans (List.perm_append_comm (l₁ := [x])))
  · unfold setL
    rw [dropL_none hw, List.map_append, h2]
    rfl
  · rw [List.pairwise_append]
    refine ⟨h3, by simp, ?_⟩
    intro a ha b hb
    simp at hb
    subst hb
    have := h4 a ha
    omega
  · intro y hy
    rcases List.mem_append.1 hy with hy | hy
    · have := h4 y hy; omega
    · simp at hy; subst hy; exact hd
/-- One thing set anew. -/
theorem Rep.fix {f g : Nat → Th} {n : Nat} {c d : Int} {R : List Ti} (h : Rep f n c R) {i : Nat} (hi : i < n) {x : Th} (hp : (f i :: row g n).Perm (x :: row f n)) (hw : x.what = (f i).what) (hx : c ≤ x.seq) (hd : x.seq < d) : Rep g n d (setL R x.what x.due) := by
  obtain ⟨m, rfl⟩ : ∃ m, n = m + 1 := ⟨n - 1, by omega⟩
  -- without the thing at i there are m
  have hz : (f i :: row (swp f i m) m).Perm (row f (m + 1)) := row_swap_last f m i hi
  have hd1 := h.drop hz
  have hq : (row g (m + 1)).Perm (x :: row (swp f i m) m) := by
    have e1 : (f i :: row g (m + 1)).Perm (x :: f i :: row (swp f i m) m) := hp.trans (List.Perm.cons x hz.symm)
    exact List.Perm.cons_inv (e1.trans (List.Perm.swap _ _ _))
  have := hd1.push hq (by rw [hw]; intro q; exact (dropL_whats.1 q).2 rfl) hx hd
  have e : setL (dropL R (f i).what) x.what x.due = setL R x.what x.due := by
    unfold setL
    congr 1
    rw [hw]
    exact dropL_none (fun q => (dropL_whats.1 q).2 rfl)
  rw [e] at this
  exact this
end Go.Proofs.Ytmehdhjelggkpaa
