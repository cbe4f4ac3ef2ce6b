/- Plain facts on taking all that is due by a time. -/
import Derived.Test.YtmehdhjelggkpaaLd
namespace Go.Proofs.Ytmehdhjelggkpaa

/-- What is taken, and what is left. -/
def drain (t : Int) : Nat → List Ti → List Int × List Ti
  | 0, R => ([], R)
  | k + 1, R => match nextL R with
    | none => ([], R)
    | some x => if x.due ≤ t then (x.what :: (drain t k (dropL R x.what)).1, (drain t k (dropL R x.what)).2) else ([], R)
def taken (t : Int) (R : List Ti) : List Int × List Ti := drain t R.length R
theorem taken_none {t : Int} {R : List Ti} (h : nextL R = none) : taken t R = ([], R) := by
  rw [next_none h]
  rfl
theorem taken_late {t : Int} {R : List Ti} {x : Ti} (h : nextL R = some x) (hd : t < x.due) : taken t R = ([], R) := by
  unfold taken
  cases hR : R.length with
  | zero => rfl
  | succ n =>
    unfold drain
    rw [h]
    exact if_neg (by omega)
theorem taken_due {t : Int} {R : List Ti} {x : Ti} (hn : (whats R).Nodup) (h : nextL R = some x) (hd : x.due ≤ t) : taken t R = (x.what :: (taken t (dropL R x.what)).1, (taken t (dropL R x.what)).2) := by
  have hl := drop_len hn (List.mem_map.2 ⟨x, next_mem (next_of h), rfl⟩)
  unfold taken
  rw [← hl]
  show (match nextL R with | none => ([], R) | some x => if x.due ≤ t then (x.what :: (drain t (dropL R _).length (dropL R x.what)).1, (drain t (dropL R _).length (dropL R x.what)).2) else ([], R)) = _
  rw [h]
  exact if_pos hd

/-- So far xs was taken of R0; R is left. -/
def SoFar (t : Int) (R0 : List Ti) (xs : List Int) (R : List Ti) : Prop := taken t R0 = (xs ++ (taken t R).1, (taken t R).2)
theorem far_start (t : Int) (R0 : List Ti) : SoFar t R0 [] R0 := rfl
theorem far_step {t s : Int} {R0 R : List Ti} {xs : List Int} {x : Ti} (h : SoFar t R0 xs R) (hn : (whats R).Nodup) (hx : nextL R = some x) (hd : x.due ≤ s) (hs : s ≤ t) : SoFar t R0 (xs ++ [x.what]) (dropL R x.what) := by
  unfold SoFar at *
  rw [h, taken_due hn hx (by omega)]
  simp
theorem far_none {t : Int} {R0 R : List Ti} {xs : List Int} (h : SoFar t R0 xs R) (hx : nextL R = none) : taken t R0 = (xs, R) := by
  unfold SoFar at h
  rw [h, taken_none hx]
  simp
theorem far_late {t : Int} {R0 R : List Ti} {xs : List Int} {x : Ti} (h : SoFar t R0 xs R) (hx : nextL R = some x) (hd : t < x.due) : taken t R0 = (xs, R) := by
  unfold SoFar at h
  rw [h, taken_late hx hd]
  simp
end Go.Proofs.Ytmehdhjelggkpaa
