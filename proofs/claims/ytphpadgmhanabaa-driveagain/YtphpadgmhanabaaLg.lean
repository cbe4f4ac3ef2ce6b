/- Steps of the statement DriveAgain. -/
import Derived.Test.YtphpadgmhanabaaLf
namespace Go.Proofs.Ytphpadgmhanabaa
open Go.RowKit Go.Maps

def wantL (F : List Fl) : List Value := F.flatMap fun f => [.string f.name, .string f.data]
theorem want_len (F : List Fl) : (wantL F).length = 2 * F.length := by
  induction F with
  | nil => rfl
  | cons t F ih => simp [wantL] at *; omega
theorem want_get (F : List Fl) : ∀ (k : Nat) (h : k < F.length), (wantL F)[2 * k]? = some (.string F[k].name) ∧ (wantL F)[2 * k + 1]? = some (.string F[k].data) := by
  induction F with
  | nil => intro k h; simp at h
  | cons t F ih =>
    intro k h
    have e : wantL (t :: F) = [.string t.name, .string t.data] ++ wantL F := by simp [wantL]
    rw [e]
    cases k with
    | zero => simp
    | succ k =>
      have h' : k < F.length := by simpa using h
      obtain ⟨a, b⟩ := ih k h'
      have e1 : 2 * (k + 1) = 2 * k + 2 := by omega
      have e3 : [Value.string t.name, .string t.data].length = 2 := rfl
      rw [e1]
      refine ⟨?_, ?_⟩
      · rw [List.getElem?_append_right (by simp), e3, show 2 * k + 2 - 2 = 2 * k by omega]
        simpa using a
      · rw [List.getElem?_append_right (by simp), e3, show 2 * k + 2 + 1 - 2 = 2 * k + 1 by omega]
        simpa using b
theorem want_step (F : List Fl) (k : Nat) (h : k < F.length) : wantL (F.take (k + 1)) = wantL (F.take k) ++ [.string F[k].name, .string F[k].data] := by
  unfold wantL
  rw [List.take_succ_eq_append_getElem h, List.flatMap_append]
  rfl
/-- What a crash leaves is all safe. -/
theorem crash_all_safe {F : List Fl} (hs : ∀ f ∈ F, f.safe ≤ f.data.size) (keep : List Int) : ∀ f ∈ crashF F keep, f.safe = f.data.size := by
  intro f hf
  obtain ⟨i, hi, e⟩ := List.getElem_of_mem hf
  have hi' : i < F.length := by rwa [crash_len] at hi
  rw [crash_at F keep i hi'] at e
  rw [← e]
  have h1 := kept_le (hs F[i] (List.getElem_mem hi')) (keep.getD i 0)
  show kept _ _ _ = (F[i].data.extract 0 _).size
  rw [ext_sz _ _ h1]
theorem crash_twice {F : List Fl} (hs : ∀ f ∈ F, f.safe ≤ f.data.size) (keep more : List Int) : crashF (crashF F keep) more = crashF F keep := crash_safe _ more (crash_all_safe hs keep)
theorem old_at {F : List Fl} (hr : Rise F) (k : Nat) (h : k < F.length) : (oldF F F[k].name).data = F[k].data := by
  simp [oldF, fileF_mem hr (List.getElem_mem h)]
section
variable {w0 w : World} {A N : Nat} {F : List Fl} {left : Int} {down : Bool} {kv : Value} {keep : List Int}
theorem own_names (h : Own w0 w A N F left down) : Calls Try.prog 19 #[.pointer (some ⟨A, 0, none⟩)] w fun e w' => ∃ v, e = .returned v ∧ w'.ownsRow w.heap.size 9 1 v F.length (F.map fun f => .string f.name) ∧ Below w.heap.size w w' := by
  obtain ⟨T, ⟨mv, loc, hd⟩, hT, hw⟩ := h
  exact names_any hd
theorem Own.facts (h : Own w0 w A N F left down) : Rise F ∧ (∀ f ∈ F, f.safe ≤ f.data.size) ∧ (∀ f ∈ F, f.name.size ≤ maxLen) ∧ F.length ≤ N ∧ N ≤ 900000 := by
  obtain ⟨T, ⟨mv, loc, hd⟩, hT, hw⟩ := h
  exact ⟨hd.rise, hd.safe, hd.nm, hd.len, hd.few⟩
/-- A crash leaves other rows as they were. -/
theorem own_crash2 (h : Own w0 w A N F left down) (hk : Ints w kv keep) : Calls Try.prog 16 #[.pointer (some ⟨A, 0, none⟩), kv] w fun e w' => ∃ B, e = .returned (.pointer (some ⟨B, 0, none⟩)) ∧ Own w0 w' B F.length (crashF F keep) 0 false ∧ ∀ (B' : Nat) (v : Value) (n : Nat) (xs : List Value), w.ownsRow B' 9 1 v n xs → w'.ownsRow B' 9 1 v n xs := by
  obtain ⟨T, ⟨mv, loc, hd⟩, hT, hw⟩ := h
  refine (crash_any hd hk).mono ?_
  rintro e w' ⟨rfl, ⟨T', hd', hT'⟩, ho, hf⟩
  have hb := fr_below (T := fun k => k = A) (fun k q => by rw [q]; exact hT A hd.covA) hw hf
  refine ⟨_, rfl, ⟨T', hd', fun k q => Nat.le_trans hw.size (hT' k q), hb⟩, fun B' v n xs hrow => own_like hrow (fun k hk => hf.block k (hrow.lt k hk).2 (fun q => ?_))⟩
  rcases hrow.2 with ⟨rfl, _⟩ | ⟨g, cap, cur, rfl, _, hg, _⟩
  · cases hk
  · cases hk
    exact tag_ne hg hd.ob (by decide) q
theorem Tw.own {B M : Nat} {S T : Nat → Prop} {rl : Int} (h : Tw w0 w A B S T N M F left rl down) : Own w0 w A N F left down := ⟨S, h.dr, h.fs, h.old⟩
theorem infoStr : (Try.prog.info? 9).map (fun i => (i.zero, i.size, i.bytes)) = some (some (.string ⟨#[]⟩), 1, 16) := by kernel_rfl
theorem news_two (w : World) (x y : Value) (t : TypeId) : ∀ j u, [x, y][j]? = some u → (w.alloc (.cells #[x, y] t)).cell? ((⟨w.heap.size, 0, none⟩ : Addr).add j) = some u := by
  intro j u hj
  match j, hj with
  | 0, hj => simp at hj; subst hj; simp [Addr.add]
  | 1, hj => simp at hj; subst hj; simp [Addr.add]
/-- want = append(want, name, s) -/
theorem want_run {base n : Nat} {v : Value} {xs : List Value} (ho : w.ownsRow base 9 1 v n xs) (hb : base ≤ w.heap.size) (hn : n ≤ 2000000) (a b : ByteArray) :
    ∃ ad' cap' w', (Builtin.append_ #[47, 47] 47 #[v, .slice (some ⟨w.heap.size, 0, none⟩) 2 2]).run Try.prog (w.alloc (.cells #[.string a, .string b] 9)) = .ok (.slice ad' (n + 2) cap') w' ∧ w'.ownsRow base 9 1 (.slice ad' (n + 2) cap') (n + 2) (xs ++ [.string a, .string b]) ∧ ∀ w1, Below base w1 w → base ≤ w1.heap.size → Below base w1 w' := by
  obtain ⟨i0, hi, hz0, hz1, hz2⟩ := info_parts infoStr
  have ho2 := ho.alloc (.cells #[.string a, .string b] 9)
  obtain ⟨v', w1, hrun, ho', hgr, _⟩ := run_append_own (P := Try.prog) (w := w.alloc (.cells #[.string a, .string b] 9)) base 47 47 9 i0 (.string ⟨#[]⟩) 1 16 Try.underlying47 hi hz0 hz1 hz2 rfl (by decide) v n xs ho2 ⟨w.heap.size, 0, none⟩ 2 2 [.string a, .string b] rfl (news_two w _ _ 9) (by intro u hu; simp at hu; rcases hu with rfl | rfl <;> rfl) (by unfold maxLen; omega) (by omega) (by simp; omega)
  obtain ⟨ad', cap', e⟩ : ∃ ad cap, v' = .slice ad (n + 2) cap := by
    rcases ho'.2 with ⟨_, e⟩ | ⟨g, cap, cur, e, _⟩
    · omega
    · exact ⟨_, _, e⟩
  subst e
  refine ⟨ad', cap', w1, hrun, ho', fun w2 hb2 hs => ?_⟩
  have h1 := hb2.alloc (Nat.le_trans hs hb2.size) (.cells #[.string a, .string b] 9)
  exact h1.grown hgr (by simp; omega) (fun k hk => (ho.lt k hk).1)
end
end Go.Proofs.Ytphpadgmhanabaa
