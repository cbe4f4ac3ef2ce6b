/- How the word is read that begins with a byte; what Words answers. -/
import Derived.Test.YtcmdpahchbbicaaDoorWl
namespace Go.Proofs.YtcmdpahchbbicaaDoor
open Go.RowKit
abbrev Goes (f : FuncId) : Prop := ∀ (X : World) (a : Array Value), Sem.run Tryd.prog (callFunc f a) X = .ok (.enter f a) X
theorem goes18 : Goes 18 := fun X a => by go_simp
theorem goes19 : Goes 19 := fun X a => by go_simp
theorem goes20 : Goes 20 := fun X a => by go_simp
theorem goes21 : Goes 21 := fun X a => by go_simp
theorem word_err {c : UInt8} {r : List UInt8} {e : Int} (h : wordL c r = .inl e) : e = 21 ∨ e = 170 ∨ e = 171 ∨ e = 172 := by
  unfold wordL at h
  split at h
  · split at h
    · exact .inl (Sum.inl.inj h).symm
    · cases h
  · split at h
    · split at h
      · exact .inr (.inl (Sum.inl.inj h).symm)
      · split at h
        · exact .inr (.inr (.inr (Sum.inl.inj h).symm))
        · cases h
    · split at h
      · split at h
        · exact .inr (.inr (.inl (Sum.inl.inj h).symm))
        · split at h
          · exact .inl (Sum.inl.inj h).symm
          · cases h
      · split at h
        · cases h
        · exact .inr (.inl (Sum.inl.inj h).symm)
theorem read_all {B0 R : Nat} {s : ByteArray} {j : Nat} (hRB : B0 ≤ R) (hs : s.size ≤ 1024) (hj : j < s.size) :
    (begV R s[j] = .nilFunc ∧ wordL s[j] (s.data.toList.drop (j + 1)) = .inl 170) ∨ ∃ f, begV R s[j] = rdF f R ∧ Goes f ∧ ∀ X, Gd B0 X → B0 ≤ X.heap.size → Rd X R s j → Calls Tryd.prog f #[.pointer (some ⟨R, 0, none⟩)] X (RdAns X R s j (wordL s[j] (s.data.toList.drop (j + 1)))) := by
  unfold begV
  by_cases h1 : isL s[j] = true
  · rw [if_pos h1]
    exact .inr ⟨18, rfl, goes18, fun X _ _ hR => name_any hR hs hj h1⟩
  · rw [if_neg h1]
    by_cases h2 : isD s[j] = true ∨ s[j].toNat = 45
    · rw [if_pos h2]
      refine .inr ⟨19, rfl, goes19, fun X hg hB hR => ?_⟩
      by_cases h3 : s[j].toNat = 45 ∧ cnt isD (s.data.toList.drop (j + 1)) = 0
      · exact number_none hR hs hj h3.1 h3.2
      · rcases h2 with h2 | h2
        · exact number_digit hg hB hRB hR hs hj h2 rfl h3
        · exact number_minus hg hB hRB hR hs hj h2 rfl h3
    · rw [if_neg h2]
      by_cases h4 : s[j].toNat = 39
      · rw [if_pos h4]
        exact .inr ⟨20, rfl, goes20, fun X _ _ hR => quoted_any hR hs hj h4⟩
      · rw [if_neg h4]
        by_cases h5 : isS s[j] = true
        · rw [if_pos h5]
          exact .inr ⟨21, rfl, goes21, fun X _ _ hR => sign_any hR hs hj h5⟩
        · rw [if_neg h5]
          refine .inl ⟨rfl, ?_⟩
          unfold wordL
          rw [if_neg h1, if_neg h2, if_neg h4, if_neg h5]
def wdC (L : List Wd) : List Value := L.flatMap fun x => [.int .i64 x.kind, .int .i64 x.pl, .string ⟨x.text.toArray⟩, .int .i64 x.n]
theorem wdC_snoc (L : List Wd) (x : Wd) : wdC (L ++ [x]) = wdC L ++ [.int .i64 x.kind, .int .i64 x.pl, .string ⟨x.text.toArray⟩, .int .i64 x.n] := by simp [wdC]
def wordsP (s : ByteArray) : Out := if 1024 < s.size then .inl (0, 30) else lexL 0 s.data.toList
/-- What Words answers. -/
def WAns (B : Nat) (o : Out) (e : Ending) (w' : World) : Prop := match o with
  | .inl (p, er) => e = .returned (.tuple #[.slice none 0 0, .int .i64 p, .int .i64 er])
  | .inr L => ∃ v, e = .returned (.tuple #[v, .int .i64 0, .int .i64 0]) ∧ w'.ownsRow B 31 4 v L.length (wdC L)
theorem infoW : (Tryd.prog.info? 31).map (fun i => (i.zero, i.size, i.bytes)) = some (some (.agg zW), 4, 40) := by kernel_rfl
theorem news_four (w : World) (x y z u : Value) (t : TypeId) : ∀ j v, [x, y, z, u][j]? = some v → (w.alloc (.cells #[x, y, z, u] t)).cell? ((⟨w.heap.size, 0, none⟩ : Addr).add j) = some v := by
  intro j v hj
  match j, hj with
  | 0, hj => simp at hj; subst hj; simp [Addr.add]
  | 1, hj => simp at hj; subst hj; simp [Addr.add]
  | 2, hj => simp at hj; subst hj; simp [Addr.add]
  | 3, hj => simp at hj; subst hj; simp [Addr.add]
theorem own_word {w : World} {B : Nat} {v : Value} {M : List Wd} {x : Wd} (h : w.ownsRow B 31 4 v (M.length + 1) (wdC M ++ [.int .i64 x.kind, .int .i64 x.pl, .string ⟨x.text.toArray⟩, .int .i64 x.n])) : w.ownsRow B 31 4 v (M ++ [x]).length (wdC (M ++ [x])) := by
  rw [wdC_snoc, List.length_append]
  exact h
theorem eqf_in (d : Nat) (fn : Fn) (a b : Array Value) (w : World) : (Op.equalIn (d + 1) 41 (.func fn a b) .nilFunc).run Tryd.prog w = .ok false w := by
  simp [Op.equalIn, run_underlying Tryd.underlying41]
theorem eqn_in (d : Nat) (w : World) : (Op.equalIn (d + 1) 41 .nilFunc .nilFunc).run Tryd.prog w = .ok true w := by
  simp [Op.equalIn, run_underlying Tryd.underlying41]
theorem eqf_run (fn : Fn) (a b : Array Value) (w : World) : (binOp .eql 41 (.func fn a b) .nilFunc).run Tryd.prog w = .ok (.bool false) w := by
  simp only [binOp]
  simp [show (Op.equal 41 (.func fn a b) .nilFunc).run Tryd.prog w = .ok false w from eqf_in 9999 fn a b w]
theorem eqn_run (w : World) : (binOp .eql 41 .nilFunc .nilFunc).run Tryd.prog w = .ok (.bool true) w := by
  simp only [binOp]
  simp [show (Op.equal 41 .nilFunc .nilFunc).run Tryd.prog w = .ok true w from eqn_in 9999 w]
end Go.Proofs.YtcmdpahchbbicaaDoor
