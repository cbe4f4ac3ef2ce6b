/- Plain facts on a drive's names, and on what a crash leaves. -/
import Derived.Test.YtoipmpaebngppaaDDa
namespace Go.Proofs.Ytoipmpaebngppaa

theorem put_last {F : List Fl} {x : Fl} (h : ∀ f ∈ F, cmpN f.name x.name < 0) : putF F x = F ++ [x] := by
  induction F with
  | nil => rfl
  | cons f F ih =>
    unfold putF
    rw [if_pos (h f (by simp)), ih (fun g hg => h g (by simp [hg]))]
    rfl
theorem rise_take {F : List Fl} (h : Rise F) (k : Nat) : Rise (F.take k) := List.Pairwise.sublist (List.take_sublist k F) h
theorem rise_put_take {F : List Fl} (h : Rise F) (k : Nat) (hk : k < F.length) : putF (F.take k) F[k] = F.take (k + 1) := by
  rw [List.take_succ_eq_append_getElem hk]
  refine put_last ?_
  intro f hf
  obtain ⟨i, hi, e⟩ := List.getElem_of_mem hf
  rw [List.length_take] at hi
  rw [← e, List.getElem_take]
  exact List.pairwise_iff_getElem.1 h i k (by omega) hk (by omega)

def namesF (F : List Fl) : List ByteArray := F.map (fun f => f.name)
theorem mem_names {F : List Fl} (hr : Rise F) (n : ByteArray) : n ∈ namesF F ↔ ∃ f, fileF F n = some f := by
  constructor
  · intro h
    obtain ⟨f, hf, rfl⟩ := List.mem_map.1 h
    exact ⟨f, fileF_mem hr hf⟩
  · rintro ⟨f, hf⟩
    obtain ⟨e, hm⟩ := fileF_name hf
    exact List.mem_map.2 ⟨f, hm, e⟩
/-- Names that rise. -/
def RiseN (L : List ByteArray) : Prop := L.Pairwise (fun a b => cmpN a b < 0)
theorem rise_names {F : List Fl} (h : Rise F) : RiseN (namesF F) := by
  unfold RiseN namesF
  rw [List.pairwise_map]
  exact h
/-- Names that don't fall, each once, rise. -/
theorem rise_of {L : List ByteArray} (hs : L.Pairwise (fun a b => cmpN a b ≤ 0)) (hn : L.Nodup) : RiseN L := by
  induction L with
  | nil => simp [RiseN]
  | cons a L ih =>
    have h1 := List.pairwise_cons.1 hs
    have h2 := List.nodup_cons.1 hn
    refine List.pairwise_cons.2 ⟨?_, ih h1.2 h2.2⟩
    intro b hb
    have := h1.1 b hb
    have : cmpN a b ≠ 0 := fun e => h2.1 ((cmpN_zero a b).1 e ▸ hb)
    omega
/-- Names that rise, and are the same ones, are the same list. -/
theorem riseN_ext_from (L : List ByteArray) : ∀ M : List ByteArray, RiseN L → RiseN M → (∀ n, n ∈ L ↔ n ∈ M) → L = M := by
  induction L with
  | nil =>
    intro M _ _ h
    cases M with
    | nil => rfl
    | cons m M => have := (h m).2 (by simp); cases this
  | cons a L ih =>
    intro M hL hM h
    have cL := List.pairwise_cons.1 hL
    cases M with
    | nil => have := (h a).1 (by simp); cases this
    | cons m M =>
      have cM := List.pairwise_cons.1 hM
      have e : a = m := by
        rcases List.mem_cons.1 ((h a).1 (by simp)) with q | q
        · exact q
        · rcases List.mem_cons.1 ((h m).2 (by simp)) with p | p
          · exact p.symm
          · have x := cM.1 a q
            have y := cL.1 m p
            have := cmpN_anti a m
            omega
      subst e
      have hne : ∀ n ∈ L, n ≠ a := fun n hn q => by
        subst q
        have := cL.1 n hn
        rw [cmpN_self] at this
        omega
      have hne' : ∀ n ∈ M, n ≠ a := fun n hn q => by
        subst q
        have := cM.1 n hn
        rw [cmpN_self] at this
        omega
      rw [ih M cL.2 cM.2 (fun n => ?_)]
      constructor
      · intro hn
        rcases List.mem_cons.1 ((h n).1 (by simp [hn])) with q | q
        · exact absurd q (hne n hn)
        · exact q
      · intro hn
        rcases List.mem_cons.1 ((h n).2 (by simp [hn])) with q | q
        · exact absurd q (hne' n hn)
        · exact q
theorem riseN_ext {L M : List ByteArray} (hL : RiseN L) (hM : RiseN M) (h : ∀ n, n ∈ L ↔ n ∈ M) : L = M := riseN_ext_from L M hL hM h
/-- The sorted keys of a map that has F's files are F's names. -/
theorem names_sorted {F : List Fl} (hr : Rise F) {L : List ByteArray} (hs : L.Pairwise (fun a b => cmpN a b ≤ 0)) (hn : L.Nodup) (hm : ∀ n, n ∈ L ↔ ∃ f, fileF F n = some f) : L = namesF F :=
  riseN_ext (rise_of hs hn) (rise_names hr) (fun n => by rw [hm, mem_names hr])

/-- How much of a file is kept: its safe bytes, and k of the others. -/
def keptN (f : Fl) (k : Int) : Nat := f.safe + (min k ((f.data.size : Int) - f.safe)).toNat
/-- What a crash leaves, with the numbers of keep for the files from the first on. -/
def crashF : List Fl → List Int → List Fl
  | [], _ => []
  | f :: F, [] => ⟨f.name, f.data.extract 0 (keptN f 0), keptN f 0⟩ :: crashF F []
  | f :: F, k :: keep => ⟨f.name, f.data.extract 0 (keptN f k), keptN f k⟩ :: crashF F keep
theorem crash_names (F : List Fl) : ∀ keep : List Int, namesF (crashF F keep) = namesF F := by
  induction F with
  | nil => intro keep; rfl
  | cons f F ih =>
    intro keep
    have i1 := ih []
    cases keep with
    | nil => simp only [crashF, namesF, List.map_cons] at *; rw [i1]
    | cons k keep =>
      have i2 := ih keep
      simp only [crashF, namesF, List.map_cons] at *
      rw [i2]
theorem crash_len (F : List Fl) (keep : List Int) : (crashF F keep).length = F.length := by
  have := congrArg List.length (crash_names F keep)
  simpa [namesF] using this
theorem rise_of_names {F : List Fl} (h : RiseN (namesF F)) : Rise F := by
  unfold RiseN namesF at h
  rw [List.pairwise_map] at h
  exact h
theorem crash_rise {F : List Fl} (h : Rise F) (keep : List Int) : Rise (crashF F keep) := rise_of_names (by rw [crash_names]; exact rise_names h)
theorem crash_get (F : List Fl) : ∀ (keep : List Int) (i : Nat) (h : i < F.length), (crashF F keep)[i]'(by rw [crash_len]; exact h) = ⟨F[i].name, F[i].data.extract 0 (keptN F[i] (keep.getD i 0)), keptN F[i] (keep.getD i 0)⟩ := by
  induction F with
  | nil => intro keep i h; simp at h
  | cons f F ih =>
    intro keep i h
    cases keep with
    | nil =>
      cases i with
      | zero => simp [crashF]
      | succ i =>
        have := ih [] i (by simpa using h)
        simpa [crashF] using this
    | cons k keep =>
      cases i with
      | zero => simp [crashF]
      | succ i =>
        have := ih keep i (by simpa using h)
        simpa [crashF] using this
end Go.Proofs.Ytoipmpaebngppaa
