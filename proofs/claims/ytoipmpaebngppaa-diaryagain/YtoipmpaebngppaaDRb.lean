/- The walk of the document's make: a file that isn't there is made. -/
import Derived.Test.YtoipmpaebngppaaDRa
import Derived.Test.YtoipmpaebngppaaDLc
namespace Go.Proofs.Ytoipmpaebngppaa
open Go.RowKit Go.Maps

theorem infoFile : (Try.prog.info? 78).map (fun i => (i.zero, i.size, i.bytes)) = some (some (.agg #[.string ⟨#[]⟩, .string ⟨#[]⟩, .int .i64 0]), 3, 40) := by kernel_rfl
theorem flat3_one (F : List Fl) : ∀ u ∈ flat3 F, u.oneCell' = true := by
  intro u hu
  obtain ⟨f, _, hf⟩ := List.mem_flatMap.1 hu
  simp at hf
  rcases hf with rfl | rfl | rfl <;> rfl
theorem flat3_take (F : List Fl) : ∀ k, (flat3 F).take (k * 3) = flat3 (F.take k) := by
  induction F with
  | nil => intro k; simp [flat3]
  | cons f F ih =>
    intro k
    cases k with
    | zero => simp [flat3]
    | succ k =>
      have e : flat3 (f :: F) = [.string f.name, .string f.data, .int .i64 f.safe] ++ flat3 F := by simp [flat3]
      have e2 : flat3 ((f :: F).take (k + 1)) = [.string f.name, .string f.data, .int .i64 f.safe] ++ flat3 (F.take k) := by simp [flat3]
      rw [e, e2, show (k + 1) * 3 = [Value.string f.name, .string f.data, .int .i64 f.safe].length + k * 3 by simp; omega, List.take_length_add_append, ih]
theorem flat3_drop (F : List Fl) : ∀ k, (flat3 F).drop (k * 3) = flat3 (F.drop k) := by
  induction F with
  | nil => intro k; simp [flat3]
  | cons f F ih =>
    intro k
    cases k with
    | zero => simp
    | succ k =>
      have e : flat3 (f :: F) = [.string f.name, .string f.data, .int .i64 f.safe] ++ flat3 F := by simp [flat3]
      rw [e, show (k + 1) * 3 = [Value.string f.name, .string f.data, .int .i64 f.safe].length + k * 3 by simp; omega, List.drop_length_add_append, ih]
      rfl
theorem flat3_set1 (F : List Fl) : ∀ (i : Nat) (h : i < F.length) (d : ByteArray), (flat3 F).set (i * 3 + 1) (.string d) = flat3 (F.set i ⟨F[i].name, d, F[i].safe⟩) := by
  induction F with
  | nil => intro i h; simp at h
  | cons f F ih =>
    intro i h d
    have e : flat3 (f :: F) = .string f.name :: .string f.data :: .int .i64 f.safe :: flat3 F := by simp [flat3]
    cases i with
    | zero => rw [e]; simp [flat3]
    | succ i =>
      have hi' : i < F.length := by simpa using h
      have := ih i hi' d
      have e2 : flat3 ((f :: F).set (i + 1) ⟨(f :: F)[i + 1].name, d, (f :: F)[i + 1].safe⟩) = .string f.name :: .string f.data :: .int .i64 f.safe :: flat3 (F.set i ⟨F[i].name, d, F[i].safe⟩) := by simp [flat3]
      rw [e, e2, show (i + 1) * 3 + 1 = i * 3 + 1 + 1 + 1 + 1 by omega]
      simp only [List.set_cons_succ]
      rw [this]
theorem flat3_set2 (F : List Fl) : ∀ (i : Nat) (h : i < F.length) (s : Nat), (flat3 F).set (i * 3 + 2) (.int .i64 s) = flat3 (F.set i ⟨F[i].name, F[i].data, s⟩) := by
  induction F with
  | nil => intro i h; simp at h
  | cons f F ih =>
    intro i h s
    have e : flat3 (f :: F) = .string f.name :: .string f.data :: .int .i64 f.safe :: flat3 F := by simp [flat3]
    cases i with
    | zero => rw [e]; simp [flat3]
    | succ i =>
      have hi' : i < F.length := by simpa using h
      have := ih i hi' s
      have e2 : flat3 ((f :: F).set (i + 1) ⟨(f :: F)[i + 1].name, (f :: F)[i + 1].data, s⟩) = .string f.name :: .string f.data :: .int .i64 f.safe :: flat3 (F.set i ⟨F[i].name, F[i].data, s⟩) := by simp [flat3]
      rw [e, e2, show (i + 1) * 3 + 2 = i * 3 + 2 + 1 + 1 + 1 by omega]
      simp only [List.set_cons_succ]
      rw [this]

/-- A file that isn't there is made. -/
def mkF (F : List Fl) (n : ByteArray) : List Fl := if (fileF F n).isSome then F else F.take (placeF F n) ++ [⟨n, ⟨#[]⟩, 0⟩] ++ F.drop (placeF F n)
theorem not_found {F : List Fl} (hr : Rise F) {n : ByteArray} (h : (fileF F n).isSome = false) : ∀ h : placeF F n < F.length, cmpN F[placeF F n].name n ≠ 0 := by
  intro hl
  rw [found_eq hr] at h
  simp only [hl, dite_true, decide_eq_false_iff_not] at h
  exact h
theorem found_at {F : List Fl} (hr : Rise F) {n : ByteArray} (h : (fileF F n).isSome = true) : ∃ hl : placeF F n < F.length, cmpN F[placeF F n].name n = 0 ∧ fileF F n = some F[placeF F n] := by
  have h' := h
  rw [found_eq hr] at h
  by_cases hl : placeF F n < F.length
  · simp only [hl, dite_true, decide_eq_true_eq] at h
    refine ⟨hl, h, ?_⟩
    rw [file_place hr]
    simp [hl, h]
  · simp [hl] at h
theorem set_mid (a b : List Fl) (x y : Fl) : (a ++ [x] ++ b).set a.length y = a ++ [y] ++ b := by simp
theorem mk_put {F : List Fl} (hr : Rise F) (n d : ByteArray) (s : Nat) : (mkF F n).set (placeF F n) ⟨n, d, s⟩ = putF F ⟨n, d, s⟩ := by
  unfold mkF
  cases e : (fileF F n).isSome with
  | true =>
    obtain ⟨hl, hc, _⟩ := found_at hr e
    rw [if_pos rfl]
    exact (put_old F ⟨n, d, s⟩ hl hc).symm
  | false =>
    have h1 := put_new F ⟨n, d, s⟩ (not_found hr e)
    rw [if_neg (by simp), h1]
    have h2 := set_mid (F.take (placeF F n)) (F.drop (placeF F n)) ⟨n, ⟨#[]⟩, 0⟩ ⟨n, d, s⟩
    have hle := place_le F n
    rw [List.length_take, Nat.min_eq_left hle] at h2
    exact h2
theorem mk_at {F : List Fl} (hr : Rise F) (n : ByteArray) : ∃ hl : placeF F n < (mkF F n).length, (mkF F n)[placeF F n] = ⟨n, (oldF F n).data, (oldF F n).safe⟩ := by
  have hle := place_le F n
  unfold mkF
  cases e : (fileF F n).isSome with
  | true =>
    obtain ⟨hl, hc, hf⟩ := found_at hr e
    refine ⟨by rw [if_pos rfl]; exact hl, ?_⟩
    have e1 := (fileF_name hf).1
    simp only [if_true]
    simp only [oldF, hf, Option.getD_some]
    have g : ∀ f : Fl, f.name = n → f = ⟨n, f.data, f.safe⟩ := by
      intro f h
      cases f
      simp only at h
      subst h
      rfl
    exact g _ e1
  | false =>
    have hf : fileF F n = none := by simpa using e
    refine ⟨by simp; omega, ?_⟩
    simp only [oldF, hf, Option.getD_none]
    simp [Nat.min_eq_left hle]
theorem mk_rise {F : List Fl} (hr : Rise F) (n : ByteArray) : Rise (mkF F n) := by
  unfold mkF
  cases e : (fileF F n).isSome with
  | true => rw [if_pos rfl]; exact hr
  | false =>
    rw [if_neg (by simp), ← put_new F ⟨n, ⟨#[]⟩, 0⟩ (not_found hr e)]
    exact putF_rise hr _
theorem mk_mem {F : List Fl} {n : ByteArray} {f : Fl} (h : f ∈ mkF F n) : f = ⟨n, ⟨#[]⟩, 0⟩ ∨ f ∈ F := by
  unfold mkF at h
  split at h
  · exact .inr h
  · simp only [List.append_assoc, List.mem_append, List.mem_cons, List.not_mem_nil, or_false] at h
    rcases h with h | h | h
    · exact .inr (List.mem_of_mem_take h)
    · exact .inl h
    · exact .inr (List.mem_of_mem_drop h)
theorem mk_len (F : List Fl) (n : ByteArray) : (mkF F n).length ≤ F.length + 1 := by
  have hle := place_le F n
  unfold mkF
  split
  · omega
  · simp
    omega

/-- append at files. -/
theorem files_run {w : World} {base n m c : Nat} {v : Value} {xs news : List Value} {ad : Option Addr} (ho : w.ownsRow base 78 3 v n xs) (hb : base ≤ w.heap.size) (hs : (ad = none ∧ m = 0 ∧ c = 0 ∧ news = []) ∨ ∃ a, ad = some a ∧ news.length = m * 3 ∧ (∀ j u, news[j]? = some u → w.cell? (a.add j) = some u))
    (h1 : ∀ u ∈ news, u.oneCell' = true) (hnm : (n + m) * 40 ≤ 140737488355328) : ∃ v' w', (Builtin.append_ #[28, 28] 28 #[v, .slice ad m c]).run Try.prog w = .ok v' w' ∧ w'.ownsRow base 78 3 v' (n + m) (xs ++ news) ∧ w.grownBy w' v.ownBlock := by
  obtain ⟨i0, hi, hz0, hz1, hz2⟩ := info_parts infoFile
  rcases hs with ⟨rfl, rfl, rfl, rfl⟩ | ⟨a, rfl, hl, hc⟩
  · refine ⟨v, w, ?_, by simpa using ho, ⟨rfl, rfl, rfl, Nat.le_refl _, fun _ _ _ => rfl⟩⟩
    exact run_append_owned_none (P := Try.prog) (w := w) base 28 28 78 i0 3 Try.underlying28 hi v n xs ho
  · obtain ⟨v', w', hr, ho', hg, _⟩ := run_append_own (P := Try.prog) (w := w) base 28 28 78 i0 (.agg #[.string ⟨#[]⟩, .string ⟨#[]⟩, .int .i64 0]) 3 40 Try.underlying28 hi hz0 hz1 hz2 rfl (by decide) v n xs ho a m c news hl hc h1 (by unfold maxLen; omega) hnm hb
    exact ⟨v', w', hr, ho', hg⟩
end Go.Proofs.Ytoipmpaebngppaa
