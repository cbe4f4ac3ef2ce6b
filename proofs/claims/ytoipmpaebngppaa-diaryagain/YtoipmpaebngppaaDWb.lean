/- What a drive is in memory: its map, its files' rows; New, power, count, Down, Arm. -/
import Derived.Test.YtoipmpaebngppaaDWa
namespace Go.Proofs.Ytoipmpaebngppaa
open Go.RowKit Go.Maps

/-- A map's elements are read as they are. -/
def rd (v : Value) : Option (DataW Value × List MemPlace) := some (.held v, [])
abbrev keyS (n : ByteArray) : Lit := .string n.data.toList
abbrev fileV (v : Value) (s : Nat) : Value := .agg #[v, .int .i64 s]
abbrev noV : Value := .agg #[.slice none 0 0, .int .i64 0]
theorem law9 : Keyed Try.prog 9 := string_keyed Try.underlying9
theorem key9 {n : ByteArray} (h : n.size ≤ maxLen) : keyOf Try.prog 9 (.string n) = some (keyS n) := WideMaps.keyOf_string_mk Try.underlying9 h
theorem zero64 (w : World) : (zeroValue 75).run Try.prog w = .ok noV w := by kernel_rfl
theorem isKey {n : ByteArray} : WideAt.IsKeyLit (keyS n) := by simp [WideAt.IsKeyLit]
theorem rd_inv {v u : Value} {ps : List MemPlace} (h : rd v = some (.held u, ps)) : v = u := by
  simp only [rd, Option.some.injEq, Prod.mk.injEq, DataW.held.injEq] at h
  exact h.1
theorem keyS_ne {a b : ByteArray} (h : a ≠ b) : keyS a ≠ keyS b := fun e => h (bytes_ext (by simpa [keyS] using e))

def upd (loc : ByteArray → Value) (n : ByteArray) (v : Value) : ByteArray → Value := fun m => if cmpN n m = 0 then v else loc m
theorem upd_same (loc : ByteArray → Value) (n : ByteArray) (v : Value) : upd loc n v n = v := if_pos (cmpN_self n)
theorem upd_other (loc : ByteArray → Value) {n m : ByteArray} (v : Value) (h : n ≠ m) : upd loc n v m = loc m := if_neg (fun e => h ((cmpN_zero _ _).1 e))

/-- The map mv has the files of F, their rows where loc says. -/
def Mp (w : World) (mv : Value) (N : Nat) (F : List Fl) (loc : ByteArray → Value) : Prop :=
  (mv = .map none ∧ F = []) ∨ ∃ b D, mv = .map (some b) ∧ w.ownsMap Try.prog 9 rd b N D ∧
    ∀ n : ByteArray, n.size ≤ maxLen → (∃ f, fileF F n = some f ∧ has D (keyS n) = true ∧ D.atKey (keyS n) (.held noV) = .held (fileV (loc n) f.safe)) ∨ (fileF F n = none ∧ has D (keyS n) = false)
section
variable {w w' : World} {mv : Value} {N : Nat} {F : List Fl} {loc : ByteArray → Value}
theorem Mp.mono (h : Mp w mv N F loc) {M : Nat} (hm : N ≤ M) : Mp w mv M F loc := by
  rcases h with h | ⟨b, D, rfl, ho, hk⟩
  · exact .inl h
  · exact .inr ⟨b, D, rfl, ho.mono hm, hk⟩
/-- The map stays where its block does. -/
theorem Mp.stays (h : Mp w mv N F loc) (he : ∀ b, mv = .map (some b) → w'.heap[b]? = w.heap[b]?) : Mp w' mv N F loc := by
  rcases h with h | ⟨b, D, rfl, ho, hk⟩
  · exact .inl h
  · exact .inr ⟨b, D, rfl, own_map ho (he b rfl), hk⟩
theorem Mp.lt (h : Mp w mv N F loc) {b : Nat} (e : mv = .map (some b)) : b < w.heap.size := by
  rcases h with ⟨rfl, _⟩ | ⟨b', D, rfl, ho, _⟩
  · cases e
  · cases e
    exact ho.lt
theorem Mp.block (h : Mp w mv N F loc) {b : Nat} (e : mv = .map (some b)) : ∃ es clock, w.heap[b]? = some (.map es clock) := by
  rcases h with ⟨rfl, _⟩ | ⟨b', D, rfl, ⟨es, clock, hb, _⟩, _⟩
  · cases e
  · cases e
    exact ⟨es, clock, hb⟩
theorem Mp.form (h : Mp w mv N F loc) : ∃ o, mv = .map o := by
  rcases h with ⟨rfl, _⟩ | ⟨b', D, rfl, _⟩ <;> exact ⟨_, rfl⟩
theorem Mp.yes (h : Mp w mv N F loc) {n : ByteArray} {f : Fl} (hf : fileF F n = some f) (hn : n.size ≤ maxLen) :
    (Instr.lookup 58 mv (.string n) true).run Try.prog w = .ok (.tuple #[fileV (loc n) f.safe, .bool true]) w ∧ (Instr.lookup 58 mv (.string n) false).run Try.prog w = .ok (fileV (loc n) f.safe) w := by
  rcases h with ⟨rfl, rfl⟩ | ⟨b, D, rfl, ho, hk⟩
  · cases hf
  · obtain ⟨v, ps, hrun, hv⟩ := ho.look_ok law9 Try.underlying58 (zero64 w) (zd := .held noV) (zp := []) rfl (key9 hn)
    obtain ⟨v', ps', hrun', hv'⟩ := ho.lookup law9 Try.underlying58 (zero64 w) (zd := .held noV) (zp := []) rfl (key9 hn)
    rcases hk n hn with ⟨g, hg, hh, ha⟩ | ⟨hx, _⟩
    · rw [hf] at hg
      cases hg
      rw [ha] at hv hv'
      rw [hrun, hrun', hh, rd_inv hv, rd_inv hv']
      exact ⟨rfl, rfl⟩
    · rw [hf] at hx
      cases hx
theorem Mp.no (h : Mp w mv N F loc) {n : ByteArray} (hf : fileF F n = none) (hn : n.size ≤ maxLen) :
    (Instr.lookup 58 mv (.string n) true).run Try.prog w = .ok (.tuple #[noV, .bool false]) w ∧ (Instr.lookup 58 mv (.string n) false).run Try.prog w = .ok noV w := by
  rcases h with ⟨rfl, rfl⟩ | ⟨b, D, rfl, ho, hk⟩
  · exact ⟨Maps.look_nil true law9 Try.underlying58 (zero64 w) (key9 hn), Maps.look_nil false law9 Try.underlying58 (zero64 w) (key9 hn)⟩
  · obtain ⟨v, ps, hrun, hv⟩ := ho.look_ok law9 Try.underlying58 (zero64 w) (zd := .held noV) (zp := []) rfl (key9 hn)
    obtain ⟨v', ps', hrun', hv'⟩ := ho.lookup law9 Try.underlying58 (zero64 w) (zd := .held noV) (zp := []) rfl (key9 hn)
    rcases hk n hn with ⟨g, hg, _⟩ | ⟨_, hh⟩
    · rw [hf] at hg
      cases hg
    · rw [atKey_of_not_has hh] at hv hv'
      rw [hrun, hrun', hh, rd_inv hv, rd_inv hv']
      exact ⟨rfl, rfl⟩
/-- One more, or another one. -/
theorem Mp.put {b : Nat} (h : Mp w (.map (some b)) N F loc) (hr : Rise F) (hN : N < maxLen) (x : Fl) (hx : x.name.size ≤ maxLen) (v : Value) :
    ∃ w', (Instr.mapUpdate 58 (.map (some b)) (.string x.name) (fileV v x.safe)).run Try.prog w = .ok () w' ∧ Mp w' (.map (some b)) (N + 1) (putF F x) (upd loc x.name v) ∧ w.mapTurned w' b := by
  rcases h with ⟨h, _⟩ | ⟨b', D, e, ho, hk⟩
  · cases h
  · cases e
    obtain ⟨w', hrun, ho', ht⟩ := ho.store law9 Try.underlying58 hN (key9 hx) (val := fileV v x.safe) (d := .held (fileV v x.safe)) (ps := []) rfl
    refine ⟨w', hrun, .inr ⟨b, _, rfl, ho', fun n hn => ?_⟩, ht⟩
    rw [fileF_put hr]
    by_cases e : cmpN x.name n = 0
    · rw [if_pos e]
      have e' := (cmpN_zero _ _).1 e
      subst e'
      refine .inl ⟨x, rfl, has_put_same ho.isMap isKey _, ?_⟩
      rw [atKey_put_same ho.isMap isKey, upd_same]
    · rw [if_neg e]
      have e' : x.name ≠ n := fun q => e ((cmpN_zero _ _).2 q)
      have ne : keyS n ≠ keyS x.name := keyS_ne (Ne.symm e')
      rw [has_put_other ne, atKey_put_other ne, upd_other _ _ e']
      exact hk n hn
end

abbrev drO (mv : Value) (left : Int) (down : Bool) : Obj := .cells #[mv, .int .i64 left, .bool down] 60 (0, 0)
/-- The drive at block A, whose blocks are among S: its files are F. -/
structure Dv (w : World) (A : Nat) (S : Nat → Prop) (N : Nat) (F : List Fl) (left : Int) (down : Bool) (mv : Value) (loc : ByteArray → Value) : Prop where
  ob : w.heap[A]? = some (drO mv left down)
  mp : Mp w mv N F loc
  rise : Rise F
  row : ∀ f ∈ F, Row w (loc f.name) f.data.data.toList
  safe : ∀ f ∈ F, f.safe ≤ f.data.size
  big : ∀ f ∈ F, f.data.size ≤ 140737488355328
  nm : ∀ f ∈ F, f.name.size ≤ maxLen
  sep : ∀ f ∈ F, ∀ g ∈ F, f.name ≠ g.name → ∀ k, (loc f.name).ownBlock = some k → (loc g.name).ownBlock ≠ some k
  covA : S A
  covM : ∀ b, mv = .map (some b) → S b
  covR : ∀ f ∈ F, ∀ k, (loc f.name).ownBlock = some k → S k
  lt : ∀ k, S k → k < w.heap.size
  few : N ≤ 900000
  int : -9223372036854775808 ≤ left ∧ left ≤ 9223372036854775807
def Dr (w : World) (A : Nat) (S : Nat → Prop) (N : Nat) (F : List Fl) (left : Int) (down : Bool) : Prop := ∃ mv loc, Dv w A S N F left down mv loc

section
variable {w w' : World} {A N : Nat} {S : Nat → Prop} {F : List Fl} {left : Int} {down : Bool} {mv : Value} {loc : ByteArray → Value}
/-- It stays while others change. -/
theorem Dv.stays {T : Nat → Prop} (h : Dv w A S N F left down mv loc) (k : Fr w w' T) (hd : ∀ b, S b → ¬ T b) : Dv w' A S N F left down mv loc :=
  ⟨(k.block A (h.lt A h.covA) (hd A h.covA)).trans h.ob, h.mp.stays (fun b hb => k.block b (h.mp.lt hb) (hd b (h.covM b hb))), h.rise, fun f hf => (h.row f hf).keep (fun b hb => k.block b (h.lt b (h.covR f hf b hb)) (hd b (h.covR f hf b hb))),
   h.safe, h.big, h.nm, h.sep, h.covA, h.covM, h.covR, fun b hb => Nat.lt_of_lt_of_le (h.lt b hb) k.size, h.few, h.int⟩
theorem Dr.stays {T : Nat → Prop} (h : Dr w A S N F left down) (k : Fr w w' T) (hd : ∀ b, S b → ¬ T b) : Dr w' A S N F left down := by
  obtain ⟨mv, loc, h⟩ := h
  exact ⟨mv, loc, h.stays k hd⟩
theorem Dv.wider (h : Dv w A S N F left down mv loc) {T : Nat → Prop} (hT : ∀ k, S k → T k) (hl : ∀ k, T k → k < w.heap.size) : Dv w A T N F left down mv loc :=
  ⟨h.ob, h.mp, h.rise, h.row, h.safe, h.big, h.nm, h.sep, hT A h.covA, fun b hb => hT b (h.covM b hb), fun f hf k hk => hT k (h.covR f hf k hk), hl, h.few, h.int⟩
theorem Dr.wider (h : Dr w A S N F left down) {T : Nat → Prop} (hT : ∀ k, S k → T k) (hl : ∀ k, T k → k < w.heap.size) : Dr w A T N F left down := by
  obtain ⟨mv, loc, h⟩ := h
  exact ⟨mv, loc, h.wider hT hl⟩
theorem Dv.c0 (h : Dv w A S N F left down mv loc) : w.cell? ⟨A, 0, none⟩ = some mv := by rw [cell_blk h.ob]; rfl
theorem Dv.c1 (h : Dv w A S N F left down mv loc) : w.cell? ⟨A, 1, none⟩ = some (.int .i64 left) := by rw [cell_blk h.ob]; rfl
theorem Dv.c2 (h : Dv w A S N F left down mv loc) : w.cell? ⟨A, 2, none⟩ = some (.bool down) := by rw [cell_blk h.ob]; rfl
theorem Dv.neM (h : Dv w A S N F left down mv loc) {b : Nat} (e : mv = .map (some b)) : A ≠ b := by
  obtain ⟨es, clock, hb⟩ := h.mp.block e
  exact map_ne h.ob hb
theorem Dv.neR (h : Dv w A S N F left down mv loc) {f : Fl} (hf : f ∈ F) {k : Nat} (e : (loc f.name).ownBlock = some k) : A ≠ k := by
  obtain ⟨cur, fz, hb⟩ := (h.row f hf).blk e
  exact tag_ne h.ob hb (by decide)
theorem Dv.neMR (h : Dv w A S N F left down mv loc) {b : Nat} (e : mv = .map (some b)) {f : Fl} (hf : f ∈ F) {k : Nat} (ek : (loc f.name).ownBlock = some k) : k ≠ b := by
  obtain ⟨es, clock, hb⟩ := h.mp.block e
  obtain ⟨cur, fz, hk⟩ := (h.row f hf).blk ek
  exact map_ne hk hb
/-- A number or the switch is set. -/
theorem Dv.turn (h : Dv w A S N F left down mv loc) {left' : Int} {down' : Bool} (hw : Fr w w' (fun k => k = A)) (hb : w'.heap[A]? = some (drO mv left' down')) (hi : -9223372036854775808 ≤ left' ∧ left' ≤ 9223372036854775807) : Dv w' A S N F left' down' mv loc :=
  ⟨hb, h.mp.stays (fun b e => hw.block b (h.mp.lt e) (fun q => h.neM e q.symm)), h.rise, fun f hf => (h.row f hf).keep (fun k hk => hw.block k (h.lt k (h.covR f hf k hk)) (fun q => h.neR hf hk q.symm)),
   h.safe, h.big, h.nm, h.sep, h.covA, h.covM, h.covR, fun b hb => Nat.lt_of_lt_of_le (h.lt b hb) hw.size, h.few, hi⟩
end

theorem ptr_no (a : Addr) (w : World) : (binOp .eql 25 (.pointer (some a)) (.pointer none)).run Try.prog w = .ok (.bool false) w := by kernel_rfl

set_option maxHeartbeats 1000000 in
theorem new_any (w : World) : Calls Try.prog 9 #[] w fun e w' => e = .returned (.pointer (some ⟨w.heap.size, 0, none⟩)) ∧ Dv w' w.heap.size (fun k => k = w.heap.size) 0 [] 0 false (.map none) (fun _ => .slice none 0 0) ∧ Below w.heap.size w w' ∧ w'.heap.size = w.heap.size + 1 := by
  go_enter Try.func9, Try.ntmps9
  go_wp2
  go_ret
  refine ⟨rfl, ⟨heap_alloc_new w _, .inl ⟨rfl, rfl⟩, List.Pairwise.nil, ?_, ?_, ?_, ?_, ?_, rfl, (fun b hb => by cases hb), ?_, (fun k hk => by have e : k = w.heap.size := hk; rw [e]; simp), by omega, by omega⟩, (Below.refl _ _).alloc (Nat.le_refl _) _, by simp⟩
  all_goals (intro f hf; cases hf)

/-- What power answers. -/
def pw (down : Bool) : Int := if down then 50 else 0
set_option maxHeartbeats 1000000 in
theorem power_any {w : World} {A N : Nat} {S : Nat → Prop} {F : List Fl} {left : Int} {down : Bool} {mv : Value} {loc : ByteArray → Value} (h : Dv w A S N F left down mv loc) : Calls Try.prog 34 #[.pointer (some ⟨A, 0, none⟩)] w fun e w' => e = .returned (.int .i64 (pw down)) ∧ w' = w := by
  have h2 := h.c2
  go_enter Try.func34, Try.ntmps34
  cases down
  all_goals
    go_wp2
    go_ret
    exact ⟨rfl, rfl⟩
set_option maxHeartbeats 1000000 in
theorem power_nil (w : World) : Calls Try.prog 34 #[.pointer none] w fun e w' => e = .returned (.int .i64 2) ∧ w' = w := by
  go_enter Try.func34, Try.ntmps34
  go_wp2
  go_ret
  exact ⟨rfl, rfl⟩
end Go.Proofs.Ytoipmpaebngppaa
