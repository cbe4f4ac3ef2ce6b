/- Plain facts on a drive: files that rise by name. -/
import Derived.Test.YtoipmpaebngppaaDZa
namespace Go.Proofs.Ytoipmpaebngppaa

/-- A file. -/
structure Fl where
  name : ByteArray
  data : ByteArray
  safe : Nat
/-- How two names stand. -/
def cmpN (a b : ByteArray) : Int := Lib.compareBytes a.data.toList b.data.toList
theorem bytes_ext {a b : ByteArray} (h : a.data.toList = b.data.toList) : a = b := by
  cases a
  cases b
  simp only [ByteArray.mk.injEq]
  exact Array.toList_inj.1 h
theorem cmpN_zero (a b : ByteArray) : cmpN a b = 0 ↔ a = b := by
  unfold cmpN
  rw [cb_zero]
  exact ⟨bytes_ext, fun h => by rw [h]⟩
theorem cmpN_anti (a b : ByteArray) : cmpN b a = - cmpN a b := cb_anti _ _
theorem cmpN_self (a : ByteArray) : cmpN a a = 0 := (cmpN_zero a a).2 rfl
theorem cmpN_tr {a b c : ByteArray} (h : cmpN a b < 0) (h' : cmpN b c ≤ 0) : cmpN a c < 0 := by
  have h1 := cb_tr a.data.toList b.data.toList c.data.toList (by unfold cmpN at h; omega) h'
  have h2 : cmpN a c ≠ 0 := by
    intro e
    have e' := (cmpN_zero a c).1 e
    subst e'
    have := cmpN_anti b a
    omega
  unfold cmpN at *
  omega

/-- Files rise by name. -/
def Rise (F : List Fl) : Prop := F.Pairwise (fun a b => cmpN a.name b.name < 0)
/-- The file of a name. -/
def fileF : List Fl → ByteArray → Option Fl
  | [], _ => none
  | f :: F, n => if cmpN f.name n = 0 then some f else fileF F n
/-- A file's place, or where it would stand. -/
def placeF : List Fl → ByteArray → Nat
  | [], _ => 0
  | f :: F, n => if cmpN f.name n < 0 then placeF F n + 1 else 0
/-- A file is made, or is another now. -/
def putF : List Fl → Fl → List Fl
  | [], x => [x]
  | f :: F, x => if cmpN f.name x.name < 0 then f :: putF F x else if cmpN f.name x.name = 0 then x :: F else x :: f :: F

theorem fileF_name {F : List Fl} {n : ByteArray} {f : Fl} (h : fileF F n = some f) : f.name = n ∧ f ∈ F := by
  induction F with
  | nil => cases h
  | cons g F ih =>
    unfold fileF at h
    by_cases e : cmpN g.name n = 0
    · rw [if_pos e] at h
      cases h
      exact ⟨(cmpN_zero _ _).1 e, by simp⟩
    · rw [if_neg e] at h
      exact ⟨(ih h).1, by simp [(ih h).2]⟩
theorem fileF_mem {F : List Fl} (hr : Rise F) {f : Fl} (h : f ∈ F) : fileF F f.name = some f := by
  induction F with
  | nil => cases h
  | cons g F ih =>
    have hc := List.pairwise_cons.1 hr
    unfold fileF
    rcases List.mem_cons.1 h with rfl | h'
    · rw [if_pos (cmpN_self _)]
    · have := hc.1 f h'
      rw [if_neg (by omega)]
      exact ih hc.2 h'
theorem fileF_above {F : List Fl} {n : ByteArray} (h : ∀ f ∈ F, cmpN n f.name < 0) : fileF F n = none := by
  induction F with
  | nil => rfl
  | cons g F ih =>
    unfold fileF
    have := h g (by simp)
    have := cmpN_anti n g.name
    rw [if_neg (by omega)]
    exact ih (fun f hf => h f (by simp [hf]))
theorem putF_mem {F : List Fl} {x g : Fl} (h : g ∈ putF F x) : g = x ∨ g ∈ F := by
  induction F with
  | nil => simp [putF] at h; exact .inl h
  | cons f F ih =>
    unfold putF at h
    split at h
    · rcases List.mem_cons.1 h with rfl | h
      · exact .inr (by simp)
      · rcases ih h with q | q
        · exact .inl q
        · exact .inr (by simp [q])
    · split at h
      · rcases List.mem_cons.1 h with rfl | h
        · exact .inl rfl
        · exact .inr (by simp [h])
      · rcases List.mem_cons.1 h with rfl | h
        · exact .inl rfl
        · exact .inr h
theorem putF_rise {F : List Fl} (hr : Rise F) (x : Fl) : Rise (putF F x) := by
  induction F with
  | nil => unfold putF Rise; simp
  | cons f F ih =>
    have hc := List.pairwise_cons.1 hr
    unfold putF
    split
    · rename_i hlt
      refine List.pairwise_cons.2 ⟨?_, ih hc.2⟩
      intro g hg
      rcases putF_mem hg with rfl | q
      · exact hlt
      · exact hc.1 g q
    · split
      · rename_i _ he
        refine List.pairwise_cons.2 ⟨?_, hc.2⟩
        intro g hg
        rw [← (cmpN_zero _ _).1 he]
        exact hc.1 g hg
      · rename_i hn he
        have hx : cmpN x.name f.name < 0 := by have := cmpN_anti f.name x.name; omega
        refine List.pairwise_cons.2 ⟨?_, hr⟩
        intro g hg
        rcases List.mem_cons.1 hg with rfl | q
        · exact hx
        · exact cmpN_tr hx (by have := hc.1 g q; omega)
theorem fileF_put {F : List Fl} (hr : Rise F) (x : Fl) (n : ByteArray) : fileF (putF F x) n = if cmpN x.name n = 0 then some x else fileF F n := by
  induction F with
  | nil => rfl
  | cons f F ih =>
    have hc := List.pairwise_cons.1 hr
    unfold putF
    split
    · rename_i hlt
      unfold fileF
      by_cases e : cmpN f.name n = 0
      · rw [if_pos e]
        have e' := (cmpN_zero _ _).1 e
        have : cmpN x.name n ≠ 0 := by
          intro q
          have q' := (cmpN_zero _ _).1 q
          rw [q', ← e', cmpN_self] at hlt
          omega
        rw [if_neg this, if_pos e]
      · rw [if_neg e, if_neg e]
        exact ih hc.2
    · split
      · rename_i _ he
        have he' := (cmpN_zero _ _).1 he
        by_cases q : cmpN x.name n = 0
        · simp [fileF, q]
        · have : cmpN f.name n ≠ 0 := by rw [he']; exact q
          simp [fileF, q, this]
      · by_cases q : cmpN x.name n = 0
        · simp [fileF, q]
        · simp [fileF, q]
/-- Two drives with the same files at each name are the same. -/
theorem rise_ext_from (F : List Fl) : ∀ G : List Fl, Rise F → Rise G → (∀ n, fileF F n = fileF G n) → F = G := by
  induction F with
  | nil =>
    intro G _ hG h
    cases G with
    | nil => rfl
    | cons g G =>
      have := h g.name
      rw [fileF_mem hG (by simp)] at this
      cases this
  | cons f F ih =>
    intro G hF hG h
    have cF := List.pairwise_cons.1 hF
    cases G with
    | nil =>
      have := h f.name
      rw [fileF_mem hF (by simp)] at this
      cases this
    | cons g G =>
      have cG := List.pairwise_cons.1 hG
      have e : f = g := by
        have h1 := h f.name
        rw [fileF_mem hF (by simp)] at h1
        have h2 := h g.name
        rw [fileF_mem hG (by simp)] at h2
        have m1 := (fileF_name h1.symm).2
        have m2 := (fileF_name h2).2
        rcases List.mem_cons.1 m1 with q | q
        · exact q
        · rcases List.mem_cons.1 m2 with p | p
          · exact p.symm
          · have a := cG.1 f q
            have b := cF.1 g p
            have := cmpN_anti f.name g.name
            omega
      subst e
      have : F = G := by
        refine ih G cF.2 cG.2 ?_
        intro n
        have hn := h n
        unfold fileF at hn
        by_cases q : cmpN f.name n = 0
        · have q' := (cmpN_zero _ _).1 q
          subst q'
          rw [fileF_above cF.1, fileF_above cG.1]
        · rw [if_neg q, if_neg q] at hn
          exact hn
      rw [this]

theorem rise_ext {F G : List Fl} (hF : Rise F) (hG : Rise G) (h : ∀ n, fileF F n = fileF G n) : F = G := rise_ext_from F G hF hG h

/- What the document's at and make do. -/
theorem place_le (F : List Fl) (n : ByteArray) : placeF F n ≤ F.length := by
  induction F with
  | nil => exact Nat.le_refl _
  | cons f F ih =>
    unfold placeF
    split
    · simp; omega
    · simp
theorem place_front (F : List Fl) (n : ByteArray) : ∀ i (h : i < F.length), i < placeF F n → cmpN F[i].name n < 0 := by
  induction F with
  | nil => intro i h; simp at h
  | cons f F ih =>
    intro i h hp
    unfold placeF at hp
    by_cases e : cmpN f.name n < 0
    · rw [if_pos e] at hp
      cases i with
      | zero => exact e
      | succ i => exact ih i (by simpa using h) (by omega)
    · rw [if_neg e] at hp
      omega
theorem place_at (F : List Fl) (n : ByteArray) (h : placeF F n < F.length) : 0 ≤ cmpN F[placeF F n].name n := by
  induction F with
  | nil => simp at h
  | cons f F ih =>
    by_cases e : cmpN f.name n < 0
    · have e1 : placeF (f :: F) n = placeF F n + 1 := if_pos e
      have h' : placeF F n < F.length := by rw [e1] at h; simpa using h
      have := ih h'
      simpa [e1] using this
    · have e1 : placeF (f :: F) n = 0 := if_neg e
      simp [e1]
      omega
theorem file_place {F : List Fl} (hr : Rise F) (n : ByteArray) : fileF F n = if h : placeF F n < F.length then (if cmpN F[placeF F n].name n = 0 then some F[placeF F n] else none) else none := by
  induction F with
  | nil => rfl
  | cons f F ih =>
    have hc := List.pairwise_cons.1 hr
    by_cases e : cmpN f.name n < 0
    · have e1 : placeF (f :: F) n = placeF F n + 1 := if_pos e
      unfold fileF
      rw [if_neg (by omega), ih hc.2]
      simp [e1]
    · have e1 : placeF (f :: F) n = 0 := if_neg e
      simp only [e1]
      unfold fileF
      by_cases q : cmpN f.name n = 0
      · simp [q]
      · rw [if_neg q]
        simp [q]
        refine fileF_above ?_
        intro g hg
        have h1 := hc.1 g hg
        have h2 : cmpN n f.name < 0 := by have := cmpN_anti f.name n; omega
        exact cmpN_tr h2 (by omega)
/-- A file that isn't there is put at its place. -/
theorem put_new (F : List Fl) (x : Fl) (h : ∀ h : placeF F x.name < F.length, cmpN F[placeF F x.name].name x.name ≠ 0) : putF F x = F.take (placeF F x.name) ++ [x] ++ F.drop (placeF F x.name) := by
  induction F with
  | nil => rfl
  | cons f F ih =>
    by_cases e : cmpN f.name x.name < 0
    · have e1 : placeF (f :: F) x.name = placeF F x.name + 1 := if_pos e
      unfold putF
      rw [if_pos e, e1]
      simp only [List.take_succ_cons, List.drop_succ_cons, List.cons_append]
      rw [ih (fun hh => by have := h (by rw [e1]; simpa using hh); simpa [e1] using this)]
    · have e1 : placeF (f :: F) x.name = 0 := if_neg e
      have hne : cmpN f.name x.name ≠ 0 := by
        have := h (by rw [e1]; simp)
        simpa [e1] using this
      unfold putF
      rw [if_neg e, if_neg hne, e1]
      rfl
/-- One that is there is another now. -/
theorem put_old (F : List Fl) (x : Fl) (h : placeF F x.name < F.length) (he : cmpN F[placeF F x.name].name x.name = 0) : putF F x = F.set (placeF F x.name) x := by
  induction F with
  | nil => simp at h
  | cons f F ih =>
    by_cases e : cmpN f.name x.name < 0
    · have e1 : placeF (f :: F) x.name = placeF F x.name + 1 := if_pos e
      have h' : placeF F x.name < F.length := by rw [e1] at h; simpa using h
      have he' : cmpN F[placeF F x.name].name x.name = 0 := by simpa [e1] using he
      unfold putF
      rw [if_pos e, e1, ih h' he']
      rfl
    · have e1 : placeF (f :: F) x.name = 0 := if_neg e
      have he' : cmpN f.name x.name = 0 := by simpa [e1] using he
      unfold putF
      rw [if_neg e, if_pos he', e1]
      rfl
end Go.Proofs.Ytoipmpaebngppaa
