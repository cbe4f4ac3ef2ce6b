/- The plain deal and its asks; what stays beside a block; chains of writing operations. -/
import Derived.Test.YtfokgalgdlajlaaBo
namespace Go.Proofs.Ytfokgalgdlajlaa
open Go.RowKit
theorem cell_like {w w' : World} {b : Nat} (h : w'.heap[b]? = w.heap[b]?) (i : Nat) : w'.cell? ⟨b, i, none⟩ = w.cell? ⟨b, i, none⟩ := by simp only [World.cell?, h]
def fidx {α : Type} (p : α → Bool) (L : List α) : Int := match L.findIdx? p with
  | some i => (i : Int)
  | none => -1
theorem fidx_at {α : Type} {p : α → Bool} {L : List α} {i : Nat} (h : i < L.length) (hp : p L[i] = true) (hb : ∀ j (hj : j < L.length), j < i → p L[j] = false) : fidx p L = (i : Int) := by
  unfold fidx
  have : L.findIdx? p = some i := List.findIdx?_eq_some_iff_getElem.2 ⟨h, hp, fun j hj => by
    rw [hb j (by omega) hj]
    simp⟩
  rw [this]
theorem fidx_none {α : Type} {p : α → Bool} {L : List α} (hb : ∀ j (hj : j < L.length), p L[j] = false) : fidx p L = -1 := by
  unfold fidx
  have : L.findIdx? p = none := List.findIdx?_eq_none_iff.2 fun x hx => by
    obtain ⟨i, hi, e⟩ := List.getElem_of_mem hx
    rw [← e]
    exact hb i hi
  rw [this]
theorem st_row {X : World} {Y : Nat} {T : TypeId} {cs us : Array Value} (hY : X.heap[Y]? = some (.cells cs T (0, 0))) (hl : us.size = cs.size) (hi : (Try.prog.info? T).map (·.size) = some us.size) (h1 : us.all (·.oneCell') = true) : ∃ X', (Instr.storeAt T (.pointer (some ⟨Y, 0, none⟩)) (.agg us)).run Try.prog X = .ok () X' ∧ X'.heap[Y]? = some (.cells us T (0, 0)) ∧ Fr X X' (fun k => k = Y) := by
  obtain ⟨X', e, j, f⟩ := sets_row hY us hl
  exact ⟨X', by rw [e]; exact store_row hY hl hi h1, j, f⟩
theorem own_lt {B : Nat} {e : TypeId} {k : Nat} {v : Value} {n : Nat} {xs : List Value} {w : World} (h : w.ownsRow B e k v n xs) : ∀ g, v.ownBlock = some g → g < w.heap.size := by
  intro g hg
  rcases h.2 with q | ⟨g', cap, cur, hv, h0, hg', r⟩
  · rw [q.1] at hg
    cases hg
  · rw [hv] at hg
    cases hg
    exact blk_lt hg'
/-- P holds in every world that has grown and agrees with w off the blocks of M. -/
def Reads (M : Nat → Prop) (w : World) (P : World → Prop) : Prop := ∀ V, w.heap.size ≤ V.heap.size → (∀ k, k < w.heap.size → ¬ M k → V.heap[k]? = w.heap[k]?) → P V
theorem Reads.now {M : Nat → Prop} {w : World} {P : World → Prop} (h : Reads M w P) : P w := h w (Nat.le_refl _) fun _ _ _ => rfl
theorem Reads.go {M M' : Nat → Prop} {w w' : World} {P : World → Prop} (h : Reads M w P) (hs : w.heap.size ≤ w'.heap.size) (hw : ∀ k, k < w.heap.size → ¬ M k → w'.heap[k]? = w.heap[k]?) (hM : ∀ k, k < w.heap.size → M' k → M k) : Reads M' w' P :=
  fun V h1 h2 => h V (Nat.le_trans hs h1) fun k hk hn => (h2 k (Nat.lt_of_lt_of_le hk hs) fun q => hn (hM k hk q)).trans (hw k hk hn)
theorem Reads.fr {M M' S : Nat → Prop} {w w' : World} {P : World → Prop} (h : Reads M w P) (hf : Fr w w' S) (hS : ∀ k, k < w.heap.size → S k → M k) (hM : ∀ k, k < w.heap.size → M' k → M k) : Reads M' w' P :=
  h.go hf.size (fun k hk hn => hf.block k hk fun q => hn (hS k hk q)) hM
theorem Reads.below {M : Nat → Prop} {w w' : World} {P : World → Prop} (h : Reads M w P) (hb : Below w.heap.size w w') : Reads M w' P :=
  h.go hb.size (fun k hk _ => hb.block k hk) fun _ _ q => q
theorem Reads.wk {M : Nat → Prop} {w : World} {P Q : World → Prop} (h : Reads M w P) (hi : ∀ V, P V → Q V) : Reads M w Q := fun V a b => hi V (h V a b)
/-- What holds along a chain of writing operations. -/
def Ch2 (A0 : World → Prop) (A1 A2 : Value → World → Prop) (f1 f2 : Bool) (v1 : Value) (X : World) : Prop := if f2 then A2 v1 X else if f1 then A1 v1 X else A0 X
def Ch3 (A0 : World → Prop) (A1 : Value → World → Prop) (A2 A3 : Value → Value → World → Prop) (f1 f2 f3 : Bool) (v1 v2 : Value) (X : World) : Prop := if f3 then A3 v1 v2 X else if f2 then A2 v1 v2 X else if f1 then A1 v1 X else A0 X
theorem Ch2.same {A0 : World → Prop} {A1 A2 : Value → World → Prop} {f1 f2 g1 g2 : Bool} {v1 u1 : Value} {X : World} (h : Ch2 A0 A1 A2 f1 f2 v1 X) (e1 : g1 = f1) (e2 : g2 = f2) (q1 : u1 = v1) : Ch2 A0 A1 A2 g1 g2 u1 X := by rw [e1, e2, q1]; exact h
theorem Ch3.same {A0 : World → Prop} {A1 : Value → World → Prop} {A2 A3 : Value → Value → World → Prop} {f1 f2 f3 g1 g2 g3 : Bool} {v1 v2 u1 u2 : Value} {X : World} (h : Ch3 A0 A1 A2 A3 f1 f2 f3 v1 v2 X) (e1 : g1 = f1) (e2 : g2 = f2) (e3 : g3 = f3) (q1 : u1 = v1) (q2 : u2 = v2) : Ch3 A0 A1 A2 A3 g1 g2 g3 u1 u2 X := by rw [e1, e2, e3, q1, q2]; exact h
structure Dl where
  t0 : Int
  t1 : Int
  t2 : Int
  call : Int
  ver : Int
  til : Int
  home : Int
  clr : Bool
  parts : List Gp
  phase : Int
  wait : List Gp
  high : Int
  ts : Int
  why : Int
abbrev dlA (d : Dl) (pa : Option Addr) (pc : Nat) (wa : Option Addr) (wc : Nat) : Array Value := #[.int .i64 d.t0, .int .i64 d.t1, .int .i64 d.t2, .int .i64 d.call, .int .i64 d.ver, .int .i64 d.til, .int .i64 d.home, .bool d.clr, .slice pa d.parts.length pc, .int .i64 d.phase, .slice wa d.wait.length wc, .int .i64 d.high, .int .i64 d.ts, .int .i64 d.why]
/-- What is asked of a shard. -/
structure Ak where
  sh : Int
  kd : Int
  t0 : Int
  t1 : Int
  t2 : Int
  home : Int
  r : Sv
  w : Sv
  mn : Int
  til : Int
  ts : Int
  ver : Int
  call : Int
abbrev cmL (a : Ak) : List Value := [.int .i64 a.kd, .int .i64 0, .int .i64 0, .int .i64 0, .int .i64 a.t0, .int .i64 a.t1, .int .i64 a.t2, .int .i64 a.home, .slice a.r.a a.r.n a.r.c, .slice a.w.a a.w.n a.w.c, .int .i64 a.mn, .int .i64 a.til, .int .i64 a.ts, .int .i64 a.ver, .int .i64 a.call, .int .i64 0, .string ⟨#[]⟩, .string ⟨#[]⟩, .string ⟨#[]⟩, .string ⟨#[]⟩, .bool false, .int .i64 0, .int .i64 0, .int .i64 0, .string ⟨#[]⟩, .slice none 0 0, .int .i64 0, .int .i64 0, .string ⟨#[]⟩, .int .i64 0]
abbrev cmA (a : Ak) : Array Value := #[.int .i64 a.kd, .int .i64 0, .int .i64 0, .int .i64 0, .int .i64 a.t0, .int .i64 a.t1, .int .i64 a.t2, .int .i64 a.home, .slice a.r.a a.r.n a.r.c, .slice a.w.a a.w.n a.w.c, .int .i64 a.mn, .int .i64 a.til, .int .i64 a.ts, .int .i64 a.ver, .int .i64 a.call, .int .i64 0, .string ⟨#[]⟩, .string ⟨#[]⟩, .string ⟨#[]⟩, .string ⟨#[]⟩, .bool false, .int .i64 0, .int .i64 0, .int .i64 0, .string ⟨#[]⟩, .slice none 0 0, .int .i64 0, .int .i64 0, .string ⟨#[]⟩, .int .i64 0]
abbrev akL (a : Ak) : List Value := [.int .i64 a.sh, .int .i64 a.kd, .int .i64 0, .int .i64 0, .int .i64 0, .int .i64 a.t0, .int .i64 a.t1, .int .i64 a.t2, .int .i64 a.home, .slice a.r.a a.r.n a.r.c, .slice a.w.a a.w.n a.w.c, .int .i64 a.mn, .int .i64 a.til, .int .i64 a.ts, .int .i64 a.ver, .int .i64 a.call, .int .i64 0, .string ⟨#[]⟩, .string ⟨#[]⟩, .string ⟨#[]⟩, .string ⟨#[]⟩, .bool false, .int .i64 0, .int .i64 0, .int .i64 0, .string ⟨#[]⟩, .slice none 0 0, .int .i64 0, .int .i64 0, .string ⟨#[]⟩, .int .i64 0]
abbrev akA (a : Ak) : Array Value := #[.int .i64 a.sh, .int .i64 a.kd, .int .i64 0, .int .i64 0, .int .i64 0, .int .i64 a.t0, .int .i64 a.t1, .int .i64 a.t2, .int .i64 a.home, .slice a.r.a a.r.n a.r.c, .slice a.w.a a.w.n a.w.c, .int .i64 a.mn, .int .i64 a.til, .int .i64 a.ts, .int .i64 a.ver, .int .i64 a.call, .int .i64 0, .string ⟨#[]⟩, .string ⟨#[]⟩, .string ⟨#[]⟩, .string ⟨#[]⟩, .bool false, .int .i64 0, .int .i64 0, .int .i64 0, .string ⟨#[]⟩, .slice none 0 0, .int .i64 0, .int .i64 0, .string ⟨#[]⟩, .int .i64 0]
theorem akL_len (a : Ak) : (akL a).length = 31 := rfl
def akE (_ : World) (x : Ak) (cs : List Value) : Prop := cs = akL x
theorem akE_held : Held akE := fun _ _ _ _ _ h => h
/-- A command with what all of them have. -/
def Dl.cmd (d : Dl) (sh kd : Int) : Ak := ⟨sh, kd, d.t0, d.t1, d.t2, d.home, .nil, .nil, 0, 0, 0, 0, 0⟩
def Dl.prep (d : Dl) (g : Gp) : Ak := { d.cmd g.sh 1 with til := d.til, r := g.r, w := g.w }
def Dl.reso (d : Dl) (g : Gp) : Ak := { d.cmd g.sh 4 with ts := d.ts }
def Dl.comm (d : Dl) : Ak := { d.cmd d.home 2 with mn := d.high + 1, til := d.til, ver := d.ver, call := d.call }
def Dl.asks (d : Dl) : List Ak := if d.phase = 1 then d.wait.map d.prep else if d.phase = 2 then [if d.clr then d.cmd d.home 3 else d.comm] else if d.phase = 3 then d.wait.map d.reso else []
def Dl.enter (d : Dl) (p : Int) : Dl := { d with phase := p, wait := d.parts }
def Dl.fin (d : Dl) (ts why : Int) : Dl := { d with ts := ts, why := why, phase := 3, wait := d.parts }
theorem gp_one (L : List Gp) : ∀ u ∈ L.flatMap gpL, u.oneCell' = true := fun u hu => by
  obtain ⟨x, _, hx⟩ := List.mem_flatMap.1 hu
  simp at hx
  rcases hx with rfl | rfl | rfl <;> rfl
theorem sm_one (L : List Sm) : ∀ u ∈ L.flatMap smL, u.oneCell' = true := fun u hu => by
  obtain ⟨x, _, hx⟩ := List.mem_flatMap.1 hu
  simp at hx
  rcases hx with rfl | rfl <;> rfl
theorem wr_one (L : List Wr) : ∀ u ∈ L.flatMap wrL, u.oneCell' = true := fun u hu => by
  obtain ⟨x, _, hx⟩ := List.mem_flatMap.1 hu
  simp at hx
  rcases hx with rfl | rfl | rfl <;> rfl
theorem ak_one (a : Ak) : ∀ u ∈ akL a, u.oneCell' = true := fun u hu => by
  simp only [List.mem_cons, List.not_mem_nil, or_false] at hu
  rcases hu with rfl | rfl | rfl | rfl | rfl | rfl | rfl | rfl | rfl | rfl | rfl | rfl | rfl | rfl | rfl | rfl | rfl | rfl | rfl | rfl | rfl | rfl | rfl | rfl | rfl | rfl | rfl | rfl | rfl | rfl | rfl <;> rfl
/-- A deal in memory: its block A, its parts and those that it waits for, in blocks other than A. -/
structure Dx (w : World) (A : Nat) (d : Dl) (pa : Option Addr) (pc : Nat) (wa : Option Addr) (wc : Nat) : Prop where
  blk : w.heap[A]? = some (.cells (dlA d pa pc wa wc) 82 (0, 0))
  ps : Reads (fun k => k = A) w fun V => Lr (fun _ x cs => cs = gpL x) 3 V d.parts (.slice pa d.parts.length pc)
  ws : Reads (fun k => k = A) w fun V => Lr (fun _ x cs => cs = gpL x) 3 V d.wait (.slice wa d.wait.length wc)
theorem Dx.on {w w' : World} {A : Nat} {d : Dl} {pa : Option Addr} {pc : Nat} {wa : Option Addr} {wc : Nat} (h : Dx w A d pa pc wa wc) (hb : Below w.heap.size w w') : Dx w' A d pa pc wa wc :=
  ⟨(hb.block A (blk_lt h.blk)).trans h.blk, h.ps.below hb, h.ws.below hb⟩
theorem Dx.lt {w : World} {A : Nat} {d : Dl} {pa : Option Addr} {pc : Nat} {wa : Option Addr} {wc : Nat} (h : Dx w A d pa pc wa wc) : A < w.heap.size := blk_lt h.blk
/-- A deal, wherever its lists lie. -/
def Dy (w : World) (A : Nat) (d : Dl) : Prop := ∃ pa pc wa wc, Dx w A d pa pc wa wc
end Go.Proofs.Ytfokgalgdlajlaa
