/- The law's world: a change of a row, by a writer. -/
import Derived.Test.YtbepekgaipipjaaRs
import Derived.Test.YtbepekgaipipjaaTa
namespace Go.Proofs.Ytbepekgaipipjaa
open Go.RowKit Go.Maps
/-- Does a key lie among the index's entries? -/
def inX (k : ByteArray) : Bool := decide (Lib.compareBytes (encS [nv 1, nv 4]) k.data.toList ≤ 0) && decide (Lib.compareBytes k.data.toList (encS [nv 1, nv 4] ++ [255]) < 0)
theorem inX_iff (k : ByteArray) : inX k = true ↔ (Lib.compareBytes (bs (encS [nv 1, nv 4])).data.toList k.data.toList ≤ 0 ∧ Lib.compareBytes k.data.toList (bs (encS [nv 1, nv 4]) ++ ⟨#[255]⟩).data.toList < 0) := by
  have e : (bs (encS [nv 1, nv 4]) ++ (⟨#[255]⟩ : ByteArray)).data.toList = encS [nv 1, nv 4] ++ [255] := by rw [app_data, bs_data]
  rw [e, bs_data]
  simp [inX]
open Classical in
noncomputable def stS (s : (ByteArray → Prop) × Nat) (x : Wr) : (ByteArray → Prop) × Nat :=
  if inX x.key = true then (if x.dead = true then (fun j => s.1 j ∧ j ≠ x.key, if s.1 x.key then s.2 - 1 else s.2) else (fun j => s.1 j ∨ j = x.key, if s.1 x.key then s.2 else s.2 + 1)) else s
noncomputable def foS (Ws : List Wr) (s : (ByteArray → Prop) × Nat) : (ByteArray → Prop) × Nat := Ws.foldl stS s
theorem foS_take {Ws : List Wr} {i : Nat} (h : i < Ws.length) (s : (ByteArray → Prop) × Nat) : foS (Ws.take (i + 1)) s = stS (foS (Ws.take i) s) Ws[i] := by
  unfold foS
  rw [List.take_succ_eq_append_getElem h, List.foldl_append]
  rfl
theorem tab_any {st : Int} (w : World) : Calls Try.prog 36 #[.int .i64 st] w fun e w' => ∃ cv iv kv, e = .returned (tbV (tab st) cv iv kv) ∧ Three w' (tab st) cv iv kv ∧ Below w.heap.size w w' := by
  by_cases h : st = 0
  · subst h; exact tab_no w
  · exact tab_yes st h w
set_option maxHeartbeats 2000000 in
set_option maxRecDepth 100000 in
theorem cells_own (k v : Int) (w : World) : Calls Try.prog 37 #[.int .i64 k, .int .i64 v] w fun e w' => ∃ u, e = .returned u ∧ w'.ownsRow w.heap.size 89 4 u (rowC k v).length ((rowC k v).flatMap ceL) ∧ Below w.heap.size w w' := by
  have ho := own_fresh w #[.int .i64 2, .int .i64 1, .int .i64 k, .string ⟨#[]⟩, .int .i64 3, .int .i64 1, .int .i64 v, .string ⟨#[]⟩] 89 4 2 rfl (by unfold maxLen; decide)
  have HL := Lib.hid ho
  clear ho
  go_enter Try.func37, Try.ntmps37
  go_wp2
  go_ret
  exact ⟨_, rfl, HL.out, bnew _ _⟩
/-- The law's world in memory: rows in the block A, entries in the map M. -/
structure Wd (X : World) (A M N m : Nat) (R : Nat → List Ce) (P : ByteArray → Prop) : Prop where
  blk : ∃ s : Nat → Value, X.heap[A]? = some (.cells #[s 0, s 1, s 2, s 3, .map (some M)] 65 (0, 0)) ∧ ∀ j, X.ownsRow 0 89 4 (s j) (R j).length ((R j).flatMap ceL)
  es : Es X M N m P
theorem Wd.stays {X Y : World} {A M N m : Nat} {R : Nat → List Ce} {P : ByteArray → Prop} (h : Wd X A M N m R P) (hb : Below X.heap.size X Y) : Wd Y A M N m R P := by
  obtain ⟨⟨s, j, ho⟩, he⟩ := h
  exact ⟨⟨s, (hb.block A (blk_lt j)).trans j, fun i => own_below (ho i) hb⟩, he.stays (hb.block M he.lt)⟩
def SmallR (R : Nat → List Ce) : Prop := ∀ j, R j = [] ∨ ∃ a b : Int, (0 ≤ a ∧ a ≤ 9) ∧ (0 ≤ b ∧ b ≤ 9) ∧ R j = rowC a b
theorem SmallR.fit {R : Nat → List Ce} (h : SmallR R) (j : Nat) : (∀ c ∈ R j, FitC c) ∧ (R j).length ≤ 2 := by
  rcases h j with e | ⟨a, b, ha, hb, e⟩
  · rw [e]; exact ⟨fun c hc => (by cases hc), by simp⟩
  · rw [e]; exact ⟨rowC_fit (fit5 ha.1 ha.2) (fit5 hb.1 hb.2), by simp [rowC]⟩
/-- What a change makes of a row. -/
def nextR (k v : Int) (gone : Bool) : List Ce := if gone = true then [] else rowC k v
def updR (R : Nat → List Ce) (k : Nat) (L : List Ce) : Nat → List Ce := fun j => if j = k then L else R j
theorem chg_keys {t : Tb} {old new : List Ce} : ∀ x ∈ changesP t old new, ∃ L : List V, x.key = bs (encS L) ∧ (L = [nv 0, nv t.id, chgK t old new] ∨ ∃ y ∈ t.ixs, L = [nv 1, nv y.id, ofP old y.col, chgK t old new] ∨ L = [nv 1, nv y.id, ofP new y.col, chgK t old new]) := by
  intro x hx
  unfold changesP at hx
  split at hx
  · unfold chgW at hx
    rcases List.mem_cons.1 hx with rfl | hx
    · exact ⟨_, rfl, .inl rfl⟩
    · obtain ⟨y, hy, hx⟩ := List.mem_flatMap.1 hx
      unfold ixW at hx
      rcases List.mem_append.1 hx with hx | hx
      · split at hx
        · obtain rfl := List.mem_singleton.1 hx
          exact ⟨_, rfl, .inr ⟨y, hy, .inl rfl⟩⟩
        · cases hx
      · split at hx
        · obtain rfl := List.mem_singleton.1 hx
          exact ⟨_, rfl, .inr ⟨y, hy, .inr rfl⟩⟩
        · cases hx
  · cases hx
theorem encS_size (L : List V) : (encS L).length ≤ 8 * 131 := by
  unfold encS
  split
  · simp
  · split
    · rename_i h8 hr
      have h : ∀ L : List V, L.all rightV = true → (encL L).length ≤ 131 * L.length := by
        intro L
        induction L with
        | nil => intro _; simp [encL]
        | cons v L ih =>
          intro h
          simp only [List.all_cons, Bool.and_eq_true] at h
          have h1 := ih h.2
          have h2 : (enc1 v).length ≤ 131 := by
            unfold enc1
            split
            · simp [be_len]
            · split
              · rename_i hk
                have hv := h.1
                unfold rightV rightB at hv
                rw [hk] at hv
                have hs : v.s.size ≤ 64 := by
                  simp only [show ((2 : Int) == 0) = false from rfl, show ((2 : Int) == 1) = false from rfl, Bool.false_eq_true, if_false, Bool.and_eq_true, decide_eq_true_eq] at hv
                  omega
                have := esc_le v.s.data.toList
                have e : v.s.data.toList.length = v.s.size := Array.length_toList
                simp only [List.length_cons, List.length_append, List.length_nil]
                omega
              · simp
          rw [encL_cons, List.length_append, List.length_cons]
          omega
      have := h L hr
      omega
    · simp
theorem chg_key_size {t : Tb} {old new : List Ce} {x : Wr} (hx : x ∈ changesP t old new) : x.key.size ≤ 1048 := by
  obtain ⟨L, e, _⟩ := chg_keys x hx
  rw [e, bs_size]
  exact encS_size L
theorem chg_len (st : Int) (old new : List Ce) : (changesP (tab st) old new).length ≤ 3 := by
  unfold changesP
  split
  · unfold chgW
    have h := ixs_len old new (chgK (tab st) old new) (tab st).ixs
    have h2 : (tab st).ixs.length ≤ 1 := by unfold tab; simp only; split <;> simp
    rw [List.length_cons]
    omega
  · simp
section
variable {ρ : Operand → Value} {X : World} {d : Option Tmp} {ty : TypeId} {ps : String} {af : Array Edge} {g : Option (Nat × Bool)}
theorem op_f65_1 {x : Operand} {B o : Nat} (e : ρ x = .pointer (some ⟨B, o, none⟩)) : (execOp ρ ⟨d, .fieldAddr 65 x 1, ty, ps, af, g⟩).run Try.prog X = .ok (.value (.pointer (some ⟨B, o + 4, none⟩))) X := by
  simp only [execOp, e]
  go_simp
theorem op_f65_0 {x : Operand} {B o : Nat} (e : ρ x = .pointer (some ⟨B, o, none⟩)) : (execOp ρ ⟨d, .fieldAddr 65 x 0, ty, ps, af, g⟩).run Try.prog X = .ok (.value (.pointer (some ⟨B, o, none⟩))) X := by
  simp only [execOp, e]
  go_simp
theorem op_i62 {x y : Operand} {B o i : Nat} (e : ρ x = .pointer (some ⟨B, o, none⟩)) (e2 : ρ y = .int .i64 (i : Int)) (h : i < 4) : (execOp ρ ⟨d, .indexAddr 62 x y, ty, ps, af, g⟩).run Try.prog X = .ok (.value (.pointer (some ⟨B, o + i, none⟩))) X := by
  have k0 : (0 : Int) ≤ (i : Int) := by omega
  have k1 : (i : Int) < 4 := by omega
  simp only [execOp, e, e2]
  go_simp
theorem op_load40 {x : Operand} {B i : Nat} {a : Option Addr} {n m : Nat} (e : ρ x = .pointer (some ⟨B, i, none⟩)) (y : X.cell? ⟨B, i, none⟩ = some (.slice a n m)) : (execOp ρ ⟨d, .load 40 x, ty, ps, af, g⟩).run Try.prog X = .ok (.value (.slice a n m)) X := by
  simp only [execOp, e]
  go_simp
theorem op_load63 {x : Operand} {B i M : Nat} (e : ρ x = .pointer (some ⟨B, i, none⟩)) (y : X.cell? ⟨B, i, none⟩ = some (.map (some M))) : (execOp ρ ⟨d, .load 63 x, ty, ps, af, g⟩).run Try.prog X = .ok (.value (.map (some M))) X := by
  simp only [execOp, e]
  go_simp
theorem op_del {x y : Operand} {v1 v2 v' : Value} {X' : World} (e : ρ x = v1) (e2 : ρ y = v2) (h : (Builtin.delete_ #[63, 9] ty #[v1, v2]).run Try.prog X = .ok v' X') : (execOp ρ ⟨d, .call { callee := .builtin .delete, args := #[x, y], argTypes := #[63, 9] }, ty, ps, af, g⟩).run Try.prog X = .ok (.value v') X' := by
  simp only [execOp, resolve, invoke, builtin, Sem.run_bind, Sem.run_pure, Result.andThen_ok, List.map_toArray, List.map_cons, List.map_nil, e, e2, h]
theorem op_upd {x y z : Operand} {v1 v2 v3 : Value} {X' : World} (e : ρ x = v1) (e2 : ρ y = v2) (e3 : ρ z = v3) (h : (Instr.mapUpdate 63 v1 v2 v3).run Try.prog X = .ok () X') : (execOp ρ ⟨d, .mapUpdate 63 x y z, ty, ps, af, g⟩).run Try.prog X = .ok .skip X' := by
  simp only [execOp, e, e2, e3, Sem.run_bind, h, Result.andThen_ok, Sem.run_pure]
end
/-- The key and the value that the law makes of numbers. -/
theorem mod_of (n : Int) (d : Int) (hd : d = 4 ∨ d = 3) : ∃ k : Nat, (k : Int) < d ∧ wrap64 ((IntKind.u64.wrap n).tmod d) = (k : Int) := by
  have h0 : 0 ≤ IntKind.u64.wrap n := by rw [IntKind.wrap_u64]; omega
  have h1 : IntKind.u64.wrap n < 18446744073709551616 := by rw [IntKind.wrap_u64]; omega
  rw [Int.tmod_eq_emod_of_nonneg h0]
  refine ⟨(IntKind.u64.wrap n % d).toNat, ?_, ?_⟩
  · rcases hd with rfl | rfl <;> omega
  · have : 0 ≤ IntKind.u64.wrap n % d := by rcases hd with rfl | rfl <;> omega
    have h2 : IntKind.u64.wrap n % d < d := by rcases hd with rfl | rfl <;> omega
    unfold wrap64
    rcases hd with rfl | rfl <;> omega
/-- A cell stays where only a map is written. -/
theorem cellM {w w' : World} {M : Nat} {a : Addr} {u : Value} (h : w.cell? a = some u) (hM : ∃ es clock, w.heap[M]? = some (.map es clock)) (f : Fr w w' (fun j => j = M)) : w'.cell? a = some u := by
  obtain ⟨es, cl, hM⟩ := hM
  by_cases e : a.block = M
  · unfold World.cell? at h
    rw [e, hM] at h
    cases h
  · by_cases hl : a.block < w.heap.size
    · unfold World.cell? at h ⊢
      rw [f.block _ hl e]
      exact h
    · unfold World.cell? at h
      rw [Array.getElem?_eq_none (by omega)] at h
      cases h
end Go.Proofs.Ytbepekgaipipjaa
