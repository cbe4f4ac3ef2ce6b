/- The walk of the drive's Crash. -/
import Derived.Test.YtoipmpaebngppaaDWj
namespace Go.Proofs.Ytoipmpaebngppaa
open Go.RowKit Go.Maps

/-- The slice v has the numbers ks. -/
def Ints (w : World) (v : Value) (ks : List Int) : Prop := ∃ ad cap, v = .slice ad ks.length cap ∧ ks.length ≤ maxLen ∧ ∀ i (h : i < ks.length), ∃ b o, ad = some ⟨b, o, none⟩ ∧ b < w.heap.size ∧ w.cell? ⟨b, o + i, none⟩ = some (.int .i64 ks[i])
theorem Ints.on {w w' : World} {v : Value} {ks : List Int} (h : Ints w v ks) (hb : Below w.heap.size w w') : Ints w' v ks := by
  obtain ⟨ad, cap, e, hm, hc⟩ := h
  refine ⟨ad, cap, e, hm, fun i hi => ?_⟩
  obtain ⟨b, o, ea, hlt, c⟩ := hc i hi
  exact ⟨b, o, ea, Nat.lt_of_lt_of_le hlt hb.size, by rw [hb.cell (p := ⟨b, o + i, none⟩) hlt]; exact c⟩
theorem Ints.ofOwn {w : World} {B : Nat} {v : Value} {n : Nat} {ks : List Int} (h : w.ownsRow B 3 1 v n (ks.map (Value.int .i64))) (hn : n = ks.length) (hm : n ≤ maxLen) : Ints w v ks := by
  subst hn
  rcases h.2 with ⟨rfl, e⟩ | ⟨g, cap, cur, rfl, _, hg, _⟩
  · exact ⟨none, 0, by rw [e], hm, fun i hi => by omega⟩
  · refine ⟨_, cap, rfl, hm, fun i hi => ⟨g, 0, rfl, blk_lt hg, ?_⟩⟩
    rw [Nat.zero_add, h.cellAt i (by omega)]
    simp [hi]

theorem crash_at (F : List Fl) (keep : List Int) (i : Nat) (h : i < F.length) : (crashF F keep)[i]'(by rw [crash_len]; exact h) = ⟨F[i].name, F[i].data.extract 0 (kept F[i].data.size F[i].safe (keep.getD i 0)), kept F[i].data.size F[i].safe (keep.getD i 0)⟩ := crash_get F keep i h
theorem crash_put {F : List Fl} (hr : Rise F) (keep : List Int) (i : Nat) (h : i < F.length) :
    putF ((crashF F keep).take i) ⟨F[i].name, F[i].data.extract 0 (kept F[i].data.size F[i].safe (keep.getD i 0)), kept F[i].data.size F[i].safe (keep.getD i 0)⟩ = (crashF F keep).take (i + 1) := by
  rw [← crash_at F keep i h]
  exact rise_put_take (crash_rise hr keep) i (by rw [crash_len]; exact h)

section
variable {w : World} {A N : Nat} {S : Nat → Prop} {F : List Fl} {left : Int} {down : Bool} {mv : Value} {loc : ByteArray → Value} {kv : Value} {keep : List Int}
/-- Between two rounds: the new drive at B, the names' row nv. -/
structure Mid (w wr : World) (B : Nat) (F : List Fl) (keep : List Int) (nv : Value) (k : Nat) : Prop where
  dr : ∃ T, Dr wr B T k ((crashF F keep).take k) 0 false ∧ (∀ j, T j → w.heap.size ≤ j) ∧ ∀ b, nv.ownBlock = some b → ¬ T b
  row : wr.ownsRow w.heap.size 9 1 nv F.length (F.map fun f => .string f.name)
  old : Below w.heap.size w wr

/-- One file more. -/
theorem Mid.step {wr : World} {B k : Nat} {nv : Value} (hm : Mid w wr B F keep nv k) (h : Dv w A S N F left down mv loc) (hk : k < F.length) :
    (Instr.lookup 58 mv (.string F[k].name) false).run Try.prog wr = .ok (fileV (loc F[k].name) F[k].safe) wr ∧
    Calls Try.prog 37 #[fileV (loc F[k].name) F[k].safe, .int .i64 (keep.getD k 0)] wr fun e w1 => ∃ v' m, e = .returned (fileV v' m) ∧ (∃ ad ln cap, v' = .slice ad ln cap) ∧
      Calls Try.prog 36 #[.pointer (some ⟨B, 0, none⟩), .string F[k].name, fileV v' m] w1 fun e w2 => e = .returned (.tuple #[]) ∧ Mid w w2 B F keep nv (k + 1) := by
  have hd := h.stays (T := fun _ => False) (Fr.ofBelow _ hm.old) (fun _ _ q => q)
  have hmem : F[k] ∈ F := List.getElem_mem hk
  have hf := fileF_mem h.rise hmem
  have hlen := h.len
  have hfew := h.few
  refine ⟨(hd.mp.yes hf (h.nm _ hmem)).2, ?_⟩
  have hrow := hd.row _ hmem
  have hsz : F[k].data.data.toList.length = F[k].data.size := by simp
  refine (after_any (k := keep.getD k 0) hrow (by rw [hsz]; exact h.safe _ hmem) (by rw [hsz]; exact h.big _ hmem)).mono ?_
  rintro e w1 ⟨v', rfl, hr', hnew, hb⟩
  rw [hsz] at hr' ⊢
  obtain ⟨m, hmm⟩ : ∃ m, kept F[k].data.size F[k].safe (keep.getD k 0) = m := ⟨_, rfl⟩
  have hle : m ≤ F[k].data.size := by rw [← hmm]; exact kept_le (h.safe _ hmem) _
  have hput := crash_put h.rise keep k hk
  rw [hmm] at hr' hput ⊢
  refine ⟨v', m, rfl, ?_, ?_⟩
  · obtain ⟨ad, cap, e⟩ := hr'.shape
    exact ⟨ad, _, cap, e⟩
  obtain ⟨T, ⟨mv', loc', hdn⟩, hT, hTn⟩ := hm.dr
  have hd1 := (hdn.stays (T := fun _ => False) (Fr.ofBelow _ hb) (fun _ _ q => q)).wider (T := And1 T v') (fun k q => .inl q) (fun j q => by
    rcases q with q | q
    · exact Nat.lt_of_lt_of_le (hdn.lt j q) hb.size
    · obtain ⟨cur, fz, hbk⟩ := hr'.blk q
      exact blk_lt hbk)
  have hsz2 : (F[k].data.extract 0 m).size = m := by simp; omega
  have hs := set_any (x := ⟨F[k].name, F[k].data.extract 0 m, m⟩) (v := v') hd1 ⟨h.nm F[k] hmem, by
      have e : (F[k].data.extract 0 m).data.toList = F[k].data.data.toList.take m := by simp
      rw [e]
      exact hr', by rw [hsz2]; exact Nat.le_refl _, by have := h.big F[k] hmem; rw [hsz2]; omega, fun g hg hne j hj q => (by
      have h1 := hnew j hj
      have h2 := hdn.lt j (hdn.covR g hg j q)
      omega), fun j hj => .inr hj⟩ (by omega)
  refine hs.mono ?_
  rintro e w2 ⟨rfl, mv2, hd2, hf2⟩
  rw [hput] at hd2
  have hold := hm.old
  have hTn2 : ∀ b, nv.ownBlock = some b → ¬ Gro (And1 T v') w1 w2 b := by
    intro b hb1 q
    have hbl := (hm.row.lt b hb1).2
    rcases q with (q | q) | q
    · exact hTn b hb1 q
    · have := hnew b q
      omega
    · have := hb.size
      omega
  have hT1 : ∀ j, And1 T v' j → w.heap.size ≤ j := by
    intro j q
    rcases q with q | q
    · exact hT j q
    · have := hnew j q
      have := hold.size
      omega
  refine ⟨rfl, ⟨_, ⟨mv2, _, hd2⟩, ?_, hTn2⟩, ?_, ?_⟩
  · intro j q
    rcases q with q | q
    · exact hT1 j q
    · have := hold.size
      have := hb.size
      omega
  · refine own_like hm.row (fun b hb1 => ?_)
    have hbl := (hm.row.lt b hb1).2
    refine (hf2.block b (Nat.lt_of_lt_of_le hbl hb.size) (fun q => ?_)).trans (hb.block b hbl)
    exact hTn2 b hb1 (.inl q)
  · refine (hold.trans (hb.mono hold.size)).trans (hf2.toBelow (fun j hj q => by have := hT1 j q; omega) (Nat.le_trans hold.size hb.size))
end
end Go.Proofs.Ytoipmpaebngppaa
