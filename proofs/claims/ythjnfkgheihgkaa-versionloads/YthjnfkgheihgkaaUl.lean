/- The walk of the document's Load. -/
import Derived.Test.YthjnfkgheihgkaaUj
import Derived.Test.YthjnfkgheihgkaaUk
namespace Go.Proofs.Ythjnfkgheihgkaa
open Go.RowKit
section
variable {ρ : Operand → Value} {X : World} {d : Option Tmp} {ty : TypeId} {ps : String} {af : Array Edge} {g : Option (Nat × Bool)}
theorem op_i48o {x y : Operand} {B o n m i : Nat} (e : ρ x = .slice (some ⟨B, o, none⟩) n m) (e2 : ρ y = .int .i64 (i : Int)) (h : i < n) : (execOp ρ ⟨d, .indexAddr 48 x y, ty, ps, af, g⟩).run Try.prog X = .ok (.value (.pointer (some ⟨B, o + i * 3, none⟩))) X := by
  have k0 : (0 : Int) ≤ (i : Int) := by omega
  have k1 : (i : Int) < (n : Int) := by omega
  simp only [execOp, e, e2]
  go_simp
theorem op_len48 {x : Operand} {a : Option Addr} {n m : Nat} (e : ρ x = .slice a n m) : (execOp ρ ⟨d, .call { callee := .builtin .len, args := #[x], argTypes := #[48] }, 3, ps, af, g⟩).run Try.prog X = .ok (.value (.int .i64 (n : Int))) X := by
  simp only [execOp]
  simp [resolve, invoke, builtin, e]
  go_simp
theorem op_eq3 {x y : Operand} {n m : Int} {b : Bool} (e : ρ x = .int .i64 n) (e2 : ρ y = .int .i64 m) (h : decide (n = m) = b) : (execOp ρ ⟨d, .binOp .eql 3 x y 3, ty, ps, af, g⟩).run Try.prog X = .ok (.value (.bool b)) X := by
  simp only [execOp, e, e2]
  cases b with
  | true => have h' := of_decide_eq_true h; go_simp
  | false => have h' := of_decide_eq_false h; go_simp
theorem op_geq3 {x y : Operand} {n m : Int} {b : Bool} (e : ρ x = .int .i64 n) (e2 : ρ y = .int .i64 m) (h : decide (m ≤ n) = b) : (execOp ρ ⟨d, .binOp .geq 3 x y 3, ty, ps, af, g⟩).run Try.prog X = .ok (.value (.bool b)) X := by
  simp only [execOp, e, e2]
  cases b with
  | true => have h' := of_decide_eq_true h; go_simp
  | false => have h' := of_decide_eq_false h; go_simp
theorem op_leq3 {x y : Operand} {n m : Int} {b : Bool} (e : ρ x = .int .i64 n) (e2 : ρ y = .int .i64 m) (h : decide (n ≤ m) = b) : (execOp ρ ⟨d, .binOp .leq 3 x y 3, ty, ps, af, g⟩).run Try.prog X = .ok (.value (.bool b)) X := by
  simp only [execOp, e, e2]
  cases b with
  | true => have h' := of_decide_eq_true h; go_simp
  | false => have h' := of_decide_eq_false h; go_simp
theorem call31 {v u : Value} : Sem.run Try.prog (callFunc 31 #[v, u]) X = .ok (.enter 31 #[v, u]) X := by go_simp
end
def LoadDAns (w : World) (L : List Rw) (e : Ending) (w' : World) : Prop := Below w.heap.size w w' ∧ ((Okr L ∧ ∃ E T lv, e = .returned (.tuple #[.pointer (some ⟨E, 0, none⟩), .bool true]) ∧ Rs w' E T (flatOf L) lv ∧ ∀ j, T j → w.heap.size ≤ j) ∨ (¬ Okr L ∧ e = .returned (.tuple #[.pointer none, .bool false])))
def LoadDNo (w : World) (L : List Rw) : Prop := ∀ X, Below w.heap.size w X → LoadDAns w L (.returned (.tuple #[.pointer none, .bool false])) X
def DJ (w : World) (L : List Rw) (E : Nat) (wr : World) (iv : Value) : Prop := ∃ (i : Nat) (T : Nat → Prop) (lv : Value), i ≤ L.length ∧ iv = .int .i64 (i : Int) ∧ GoodTo L i ∧ Rs wr E T (flatOf (L.take i)) lv ∧ (∀ j, T j → w.heap.size ≤ j) ∧ Below w.heap.size w wr
def oneOf (r : Rw) (k : Nat) : List On := (r.list.take k).map fun v => (r.key, v)
def DK (w : World) (D0 : List On) (r : Rw) (E : Nat) (wr : World) (kv : Value) : Prop := ∃ (k : Nat) (T : Nat → Prop) (lv : Value), k ≤ r.list.length ∧ kv = .int .i64 (k : Int) ∧ (∀ m, m < k → badV r.list m = false) ∧ Rs wr E T (D0 ++ oneOf r k) lv ∧ (∀ j, T j → w.heap.size ≤ j) ∧ Below w.heap.size w wr
theorem flat_len {L : List Rw} {i : Nat} (h : i < L.length) : (flatOf (L.take i)).length + L[i].list.length ≤ (flatOf L).length := by
  have e : L = L.take i ++ L[i] :: L.drop (i + 1) := by rw [← List.drop_eq_getElem_cons h, List.take_append_drop]
  have e2 : flatOf (L[i] :: L.drop (i + 1)) = (L[i].list.map fun v => (L[i].key, v)) ++ flatOf (L.drop (i + 1)) := rfl
  have e3 := congrArg (fun z => (flatOf z).length) e
  simp only [flatOf_append, e2, List.length_append, List.length_map] at e3
  omega
theorem oneOf_all {r : Rw} {k : Nat} (h : r.list.length ≤ k) : oneOf r k = r.list.map fun v => (r.key, v) := by
  unfold oneOf
  rw [List.take_of_length_le h]
theorem oneOf_next {r : Rw} {k : Nat} (h : k < r.list.length) : oneOf r (k + 1) = oneOf r k ++ [(r.key, r.list[k])] := by
  unfold oneOf
  rw [List.take_add_one, List.getElem?_eq_getElem h, List.map_append]
  rfl
theorem oneOf_len (r : Rw) (k : Nat) : (oneOf r k).length ≤ k := by
  unfold oneOf
  rw [List.length_map, List.length_take]
  omega
theorem flat_next {L : List Rw} {i : Nat} (h : i < L.length) : flatOf (L.take (i + 1)) = flatOf (L.take i) ++ (L[i].list.map fun v => (L[i].key, v)) := by
  rw [List.take_add_one, List.getElem?_eq_getElem h, flatOf_append]
  simp [flatOf]
theorem badV_pos {l : List Ve} {k : Nat} (h : k < l.length) (h0 : 0 < k) : badV l k = (decide (l[k].ts < 1) || decide (l[k].ts ≤ (l[k - 1]'(by omega)).ts)) := by
  obtain ⟨n, rfl⟩ : ∃ n, k = n + 1 := ⟨k - 1, by omega⟩
  unfold badV
  rw [List.getElem?_eq_getElem h]
  simp only [List.getElem?_eq_getElem (by omega : n < l.length)]
  rfl
theorem badV_zero {l : List Ve} {k : Nat} (h : k < l.length) (h0 : ¬ 0 < k) : badV l k = decide (l[k].ts < 1) := by
  obtain rfl : k = 0 := by omega
  unfold badV
  rw [List.getElem?_eq_getElem h]
  simp
section
variable {w : World} {L : List Rw} {v : Value}
set_option maxHeartbeats 16000000 in
set_option maxRecDepth 100000 in
theorem load_r (hL : Rd w L v) (hz : (flatOf L).length ≤ 1000) (hks : ∀ r ∈ L, r.key.size ≤ maxLen) : Calls Try.prog 21 #[v] w fun e w' => LoadDAns w L e w' := by
  obtain ⟨ad, cap, rfl, _, z1, z2, hX⟩ := hL
  have hmx : (L.length : Int) ≤ 9223372036854775807 := by unfold maxLen at z2; omega
  have HX := Lib.hid hX
  obtain ⟨W, hW⟩ : ∃ W, W = w.alloc (.cells #[.slice none 0 0] 29) := ⟨_, rfl⟩
  obtain ⟨E, hE⟩ : ∃ E, w.heap.size = E := ⟨_, rfl⟩
  have b0 : Below w.heap.size w W := by rw [hW]; exact (Below.refl _ w).alloc (Nat.le_refl _) _
  have jE : W.heap[E]? = some (.cells #[.slice none 0 0] 29 (0, 0)) := by rw [hW, ← hE]; exact heap_alloc_new w _
  have H0 : Hid (DJ w L E W (.int .i64 0)) := ⟨0, fun k => k = E, .slice none 0 0, Nat.zero_le _, rfl, fun i hi => (by omega), ⟨jE, World.ownsRow_nil _ _ _ _, fun k => ⟨.inl, fun q => q.elim id (fun z => by cases z)⟩⟩, fun j q => (by
    have q2 : j = E := q
    omega), b0⟩
  have HW := Lib.hid hW
  have HE := Lib.hid hE
  clear hX z1 z2 hW hE b0 jE
  go_enter Try.func21, Try.ntmps21
  go_upto_region 2 with fail
  rw [← HW.out, HE.out]
  go_wp2
  go_loopw [5] (fun iv wr => DJ w L E wr iv) (fun iv _ => L.length - (intOf iv).toNat)
  case atStart => exact H0.out
  case round =>
    clear H0 HW
    obtain ⟨i, T, lv0, hi, rfl, hgood, hrs, hlo, hb⟩ := hrel
    obtain ⟨V, rfl⟩ : ∃ V, V = wr := ⟨_, rfl⟩
    have HG := Lib.hid hgood
    have HB := Lib.hid hb
    have HRS := Lib.hid hrs
    have HLO := Lib.hid hlo
    by_cases hlt : i < L.length
    · obtain ⟨b, o, lv, rfl, hbl, w0, w1, hv0⟩ := HX.out i hlt
      have c0 := cell_on hb w0
      have c1 := cell_on hb w1
      have hv := hv0.on hb
      have HV0 := Lib.hid hv0
      have C0 := Lib.hid w0
      have C1 := Lib.hid w1
      obtain ⟨la, lc, rfl, hn0, x1, x2, _⟩ := hv
      have k0 : (0 : Int) ≤ i := by omega
      have k1 : (i : Int) < L.length := by omega
      have hbad := badR_at hlt
      have hpos := lowR_pos hlt
      have hzero := lowR_zero (L := L) (i := i)
      have hfl := flat_len hlt
      have hfn := flat_next hlt
      have hprev : 0 < i → ∀ X, Below V.heap.size V X → X.cell? ⟨b, o + (i - 1) * 2, none⟩ = some (.string (L[i - 1]'(by omega)).key) := fun h0 X hX => by
        obtain ⟨b', o', lv', e, _, d0, _, _⟩ := HX.out (i - 1) (by omega)
        cases e
        exact cell_on hX (cell_on hb d0)
      have hk1 : L[i].key.size ≤ maxLen := hks _ (List.getElem_mem hlt)
      have hk2 : 0 < i → ∀ h : i - 1 < L.length, (L[i - 1]'h).key.size ≤ maxLen := fun _ h => hks _ (List.getElem_mem h)
      obtain ⟨kp, hkp⟩ : ∃ kp : ByteArray, ∀ h : i - 1 < L.length, (L[i - 1]'h).key = kp := ⟨(L[i - 1]'(by omega)).key, fun _ => rfl⟩
      simp only [hkp] at hprev hpos hk2
      obtain ⟨r, hr⟩ : ∃ r, L[i] = r := ⟨_, rfl⟩
      rw [hr] at hbad hpos hfl hfn
      simp only [hr] at c0 HV0 x1 hk1 c1 C0 C1
      have hml : (r.list.length : Int) ≤ 9223372036854775807 := by unfold maxLen at x2; omega
      obtain ⟨ze, hze⟩ : ∃ ze, decide ((r.list.length : Int) = 0) = ze := ⟨_, rfl⟩
      have HZE := Lib.hid hze
      have HPV := Lib.hid hprev
      have HBD := Lib.hid hbad
      have HFL := Lib.hid hfl
      have HFN := Lib.hid hfn
      clear hbad hb hgood hkp hprev x1 x2 hn0 hfl hfn hrs hlo hr hv0 w0 w1
      go_upto_region 5 with fail
      go_cut [41] (fun v wx => v = .bool (lowR L i || ze) ∧ Below V.heap.size V wx)
      case first =>
        by_cases h0 : 0 < i
        · have hlow := hpos h0
          have hk2' := hk2 h0 (by omega)
          obtain ⟨q, hq⟩ : ∃ q, decide (cb kp r.key < 0) = q := ⟨_, rfl⟩
          rw [hq] at hlow
          have HLOW := Lib.hid hlow
          have i0 : (0 : Int) < i := by omega
          have hi0 : decide ((0 : Int) < (i : Int)) = true := decide_eq_true i0
          have him : i - 1 < L.length := by omega
          have hiM : (i : Int) ≤ 9223372036854775807 := by omega
          have hge : decide ((0 : Int) ≤ cb kp r.key) = !q := by
            rw [← hq]
            by_cases z : cb kp r.key < 0
            · rw [decide_eq_true z, decide_eq_false (by omega)]
              rfl
            · rw [decide_eq_false z, decide_eq_true (by omega)]
              rfl
          clear hpos hlow hzero hk2
          cases q with
          | false =>
            refine wp_region_fl (fun _ X9 => Below V.heap.size V X9) (fun _ _ => True) [
              fun v9 _ => v9 = .int .i64 (i : Int),
              fun v9 _ => v9 = .bool true,
              fun v9 _ => v9 = .bool true,
              fun v9 _ => v9 = (.slice (some ⟨b, o, none⟩) L.length cap),
              fun v9 _ => v9 = .int .i64 (i : Int),
              fun v9 _ => v9 = .int .i64 ((i - 1 : Nat) : Int),
              fun v9 _ => v9 = .pointer (some ⟨b, o + (i - 1) * 2, none⟩),
              fun v9 _ => v9 = .pointer (some ⟨b, o + (i - 1) * 2, none⟩),
              fun v9 _ => v9 = .string kp,
              fun v9 _ => v9 = (.slice (some ⟨b, o, none⟩) L.length cap),
              fun v9 _ => v9 = .int .i64 (i : Int),
              fun v9 _ => v9 = .pointer (some ⟨b, o + i * 2, none⟩),
              fun v9 _ => v9 = .pointer (some ⟨b, o + i * 2, none⟩),
              fun v9 _ => v9 = .string r.key,
              fun v9 _ => v9 = .int .i64 (cb kp r.key),
              fun v9 _ => v9 = .bool true,
              fun v9 _ => v9 = .bool true,
              fun v9 _ => v9 = .bool true,
              fun v9 _ => v9 = undef,
              fun v9 _ => v9 = undef,
              fun v9 _ => v9 = undef,
              fun v9 _ => v9 = undef,
              fun v9 _ => v9 = undef,
              fun v9 _ => v9 = undef,
              fun v9 _ => v9 = undef,
              fun v9 _ => v9 = .bool true]
              (by kernel_rfl) (by kernel_rfl) (by kernel_rfl) ?st ?g0 ?os ?en
            case st => exact ⟨fun _ _ _ _ h => h, fun _ _ _ _ h => h, fun _ _ _ _ h => h, fun _ _ _ _ h => h, fun _ _ _ _ h => h, fun _ _ _ _ h => h, fun _ _ _ _ h => h, fun _ _ _ _ h => h, fun _ _ _ _ h => h, fun _ _ _ _ h => h, fun _ _ _ _ h => h, fun _ _ _ _ h => h, fun _ _ _ _ h => h, fun _ _ _ _ h => h, fun _ _ _ _ h => h, fun _ _ _ _ h => h, fun _ _ _ _ h => h, fun _ _ _ _ h => h, fun _ _ _ _ h => h, fun _ _ _ _ h => h, fun _ _ _ _ h => h, fun _ _ _ _ h => h, fun _ _ _ _ h => h, fun _ _ _ _ h => h, fun _ _ _ _ h => h, fun _ _ _ _ h => h, trivial⟩
            case g0 => exact ⟨rfl, rfl, rfl, Nat.le_refl _, fun _ _ => rfl⟩
            case os =>
              refine ⟨?_, ?_, ?_, ?_, ?_, ?_, ?_, ?_, ?_, ?_, ?_, ?_, ?_, ?_, ?_, ?_, ?_, ?_, ?_, ?_, ?_, ?_, ?_, ?_, ?_, ?_, trivial⟩
              · exact fun ρ X9 fl hg hn hl hp ho hc hf hr => .inl ⟨rfl, Runs.val _ (op_move (show ρ (.tmp 5) = .int .i64 (i : Int) from ho 5 rfl)) ⟨hg, trivial, rfl⟩⟩
              · exact fun ρ X9 fl hg hn hl hp ho hc hf hr => .inl ⟨rfl, Runs.val _ (op_gtr3 (show ρ (.tmp 16) = .int .i64 (i : Int) from hr 0 16 rfl rfl) (hc _) hi0) ⟨hg, trivial, rfl⟩⟩
              · exact fun ρ X9 fl hg hn hl hp ho hc hf hr => .inl ⟨rfl, Runs.val _ (op_move (show ρ (.tmp 17) = .bool true from hr 1 17 rfl rfl)) ⟨hg, trivial, rfl⟩⟩
              · exact fun ρ X9 fl hg hn hl hp ho hc hf hr => .inr (.inl ⟨2, 18, true, fun _ => rfl, rfl, hr 2 18 rfl rfl, Runs.val _ (op_move (show ρ (.tmp 0) = (.slice (some ⟨b, o, none⟩) L.length cap) from ho 0 rfl)) ⟨hg, trivial, rfl⟩⟩)
              · exact fun ρ X9 fl hg hn hl hp ho hc hf hr => .inr (.inl ⟨2, 18, true, fun _ => rfl, rfl, hr 2 18 rfl rfl, Runs.val _ (op_move (show ρ (.tmp 5) = .int .i64 (i : Int) from ho 5 rfl)) ⟨hg, trivial, rfl⟩⟩)
              · exact fun ρ X9 fl hg hn hl hp ho hc hf hr => .inr (.inl ⟨2, 18, true, fun _ => rfl, rfl, hr 2 18 rfl rfl, Runs.val _ (op_less1 (show ρ (.tmp 20) = .int .i64 (i : Int) from hr 4 20 rfl rfl) (hc _) h0 hiM) ⟨hg, trivial, rfl⟩⟩)
              · exact fun ρ X9 fl hg hn hl hp ho hc hf hr => .inr (.inl ⟨2, 18, true, fun _ => rfl, rfl, hr 2 18 rfl rfl, Runs.val _ (op_i45o (show ρ (.tmp 19) = (.slice (some ⟨b, o, none⟩) L.length cap) from hr 3 19 rfl rfl) (show ρ (.tmp 21) = .int .i64 ((i - 1 : Nat) : Int) from hr 5 21 rfl rfl) him) ⟨hg, trivial, rfl⟩⟩)
              · exact fun ρ X9 fl hg hn hl hp ho hc hf hr => .inr (.inl ⟨2, 18, true, fun _ => rfl, rfl, hr 2 18 rfl rfl, Runs.val _ (op_f50_0 (show ρ (.tmp 22) = .pointer (some ⟨b, o + (i - 1) * 2, none⟩) from hr 6 22 rfl rfl)) ⟨hg, trivial, rfl⟩⟩)
              · exact fun ρ X9 fl hg hn hl hp ho hc hf hr => .inr (.inl ⟨2, 18, true, fun _ => rfl, rfl, hr 2 18 rfl rfl, Runs.val _ (op_load9 (show ρ (.tmp 23) = .pointer (some ⟨b, o + (i - 1) * 2, none⟩) from hr 7 23 rfl rfl) (HPV.out h0 X9 hg)) ⟨hg, trivial, rfl⟩⟩)
              · exact fun ρ X9 fl hg hn hl hp ho hc hf hr => .inr (.inl ⟨2, 18, true, fun _ => rfl, rfl, hr 2 18 rfl rfl, Runs.val _ (op_move (show ρ (.tmp 0) = (.slice (some ⟨b, o, none⟩) L.length cap) from ho 0 rfl)) ⟨hg, trivial, rfl⟩⟩)
              · exact fun ρ X9 fl hg hn hl hp ho hc hf hr => .inr (.inl ⟨2, 18, true, fun _ => rfl, rfl, hr 2 18 rfl rfl, Runs.val _ (op_move (show ρ (.tmp 5) = .int .i64 (i : Int) from ho 5 rfl)) ⟨hg, trivial, rfl⟩⟩)
              · exact fun ρ X9 fl hg hn hl hp ho hc hf hr => .inr (.inl ⟨2, 18, true, fun _ => rfl, rfl, hr 2 18 rfl rfl, Runs.val _ (op_i45o (show ρ (.tmp 25) = (.slice (some ⟨b, o, none⟩) L.length cap) from hr 9 25 rfl rfl) (show ρ (.tmp 26) = .int .i64 (i : Int) from hr 10 26 rfl rfl) hlt) ⟨hg, trivial, rfl⟩⟩)
              · exact fun ρ X9 fl hg hn hl hp ho hc hf hr => .inr (.inl ⟨2, 18, true, fun _ => rfl, rfl, hr 2 18 rfl rfl, Runs.val _ (op_f50_0 (show ρ (.tmp 27) = .pointer (some ⟨b, o + i * 2, none⟩) from hr 11 27 rfl rfl)) ⟨hg, trivial, rfl⟩⟩)
              · exact fun ρ X9 fl hg hn hl hp ho hc hf hr => .inr (.inl ⟨2, 18, true, fun _ => rfl, rfl, hr 2 18 rfl rfl, Runs.val _ (op_load9 (show ρ (.tmp 28) = .pointer (some ⟨b, o + i * 2, none⟩) from hr 12 28 rfl rfl) (cell_on hg c0)) ⟨hg, trivial, rfl⟩⟩)
              · refine fun ρ X9 fl hg hn hl hp ho hc hf hr => .inr (.inl ⟨2, 18, true, fun _ => rfl, rfl, hr 2 18 rfl rfl, ?_⟩)
                refine Runs.goes 31 #[.string kp, .string r.key] (op_call2 hf call31 (show ρ (.tmp 24) = .string kp from hr 8 24 rfl rfl) (show ρ (.tmp 29) = .string r.key from hr 13 29 rfl rfl)) ((stands_any kp r.key X9 hk2' hk1).mono ?_)
                rintro e7 w7 ⟨rfl, b7⟩
                exact ⟨_, rfl, hg.trans (b7.mono hg.size), trivial, rfl⟩
              · exact fun ρ X9 fl hg hn hl hp ho hc hf hr => .inr (.inl ⟨2, 18, true, fun _ => rfl, rfl, hr 2 18 rfl rfl, Runs.val _ (op_geq3 (show ρ (.tmp 30) = .int .i64 (cb kp r.key) from hr 14 30 rfl rfl) (hc _) hge) ⟨hg, trivial, rfl⟩⟩)
              · exact fun ρ X9 fl hg hn hl hp ho hc hf hr => .inl ⟨rfl, Runs.val _ (op_pick (show ρ (.tmp 18) = .bool true from hr 2 18 rfl rfl) (show ρ (.tmp 31) = .bool true from hr 15 31 rfl rfl)) ⟨hg, trivial, rfl⟩⟩
              · exact fun ρ X9 fl hg hn hl hp ho hc hf hr => .inl ⟨rfl, Runs.val _ (op_move (show ρ (.tmp 32) = .bool true from hr 16 32 rfl rfl)) ⟨hg, trivial, rfl⟩⟩
              · exact fun ρ X9 fl hg hn hl hp ho hc hf hr => .inr (.inr ⟨17, 33, false, fun _ => rfl, rfl, (fun q => by rw [show ρ (.tmp 33) = .bool true from hr 17 33 rfl rfl] at q; cases q), hg, trivial, rfl⟩)
              · exact fun ρ X9 fl hg hn hl hp ho hc hf hr => .inr (.inr ⟨17, 33, false, fun _ => rfl, rfl, (fun q => by rw [show ρ (.tmp 33) = .bool true from hr 17 33 rfl rfl] at q; cases q), hg, trivial, rfl⟩)
              · exact fun ρ X9 fl hg hn hl hp ho hc hf hr => .inr (.inr ⟨17, 33, false, fun _ => rfl, rfl, (fun q => by rw [show ρ (.tmp 33) = .bool true from hr 17 33 rfl rfl] at q; cases q), hg, trivial, rfl⟩)
              · exact fun ρ X9 fl hg hn hl hp ho hc hf hr => .inr (.inr ⟨17, 33, false, fun _ => rfl, rfl, (fun q => by rw [show ρ (.tmp 33) = .bool true from hr 17 33 rfl rfl] at q; cases q), hg, trivial, rfl⟩)
              · exact fun ρ X9 fl hg hn hl hp ho hc hf hr => .inr (.inr ⟨17, 33, false, fun _ => rfl, rfl, (fun q => by rw [show ρ (.tmp 33) = .bool true from hr 17 33 rfl rfl] at q; cases q), hg, trivial, rfl⟩)
              · exact fun ρ X9 fl hg hn hl hp ho hc hf hr => .inr (.inr ⟨17, 33, false, fun _ => rfl, rfl, (fun q => by rw [show ρ (.tmp 33) = .bool true from hr 17 33 rfl rfl] at q; cases q), hg, trivial, rfl⟩)
              · exact fun ρ X9 fl hg hn hl hp ho hc hf hr => .inr (.inr ⟨17, 33, false, fun _ => rfl, rfl, (fun q => by rw [show ρ (.tmp 33) = .bool true from hr 17 33 rfl rfl] at q; cases q), hg, trivial, rfl⟩)
              · exact fun ρ X9 fl hg hn hl hp ho hc hf hr => .inl ⟨rfl, Runs.val _ (op_pick (show ρ (.tmp 33) = .bool true from hr 17 33 rfl rfl) (hc _)) ⟨hg, trivial, rfl⟩⟩
            case en =>
              intro a X9 fl hfl hG hs hd ho hr
              obtain ⟨x, hx, hxt⟩ := act_put hs hd ho
              have x41 : x 41 = .bool (lowR L i || ze) := ((hxt 41).symm.trans (hr 25 41 rfl)).trans (by rw [HLOW.out]; rfl)
              change a = putAll _ x [16, 17, 18, 19, 20, 21, 22, 23, 24, 25, 26, 27, 28, 29, 30, 31, 32, 33, 34, 35, 36, 37, 38, 39, 40, 41] at hx
              simp only [putAll, Act.put, List.setIfInBounds_toArray, List.set_cons_zero, List.set_cons_succ, x41] at hx
              have HBX := Lib.hid hG
              clear hG hs hd ho hr hxt x41
              subst hx
              generalize x 16 = z16, x 17 = z17, x 18 = z18, x 19 = z19, x 20 = z20, x 21 = z21, x 22 = z22, x 23 = z23, x 24 = z24, x 25 = z25, x 26 = z26, x 27 = z27, x 28 = z28, x 29 = z29, x 30 = z30, x 31 = z31, x 32 = z32, x 33 = z33, x 34 = z34, x 35 = z35, x 36 = z36, x 37 = z37, x 38 = z38, x 39 = z39, x 40 = z40
              go_wp2_with fail
              go_meet
              exact ⟨rfl, HBX.out⟩
          | true =>
            refine wp_region_fl (fun _ X9 => Below V.heap.size V X9) (fun _ _ => True) [
              fun v9 _ => v9 = .int .i64 (i : Int),
              fun v9 _ => v9 = .bool true,
              fun v9 _ => v9 = .bool true,
              fun v9 _ => v9 = (.slice (some ⟨b, o, none⟩) L.length cap),
              fun v9 _ => v9 = .int .i64 (i : Int),
              fun v9 _ => v9 = .int .i64 ((i - 1 : Nat) : Int),
              fun v9 _ => v9 = .pointer (some ⟨b, o + (i - 1) * 2, none⟩),
              fun v9 _ => v9 = .pointer (some ⟨b, o + (i - 1) * 2, none⟩),
              fun v9 _ => v9 = .string kp,
              fun v9 _ => v9 = (.slice (some ⟨b, o, none⟩) L.length cap),
              fun v9 _ => v9 = .int .i64 (i : Int),
              fun v9 _ => v9 = .pointer (some ⟨b, o + i * 2, none⟩),
              fun v9 _ => v9 = .pointer (some ⟨b, o + i * 2, none⟩),
              fun v9 _ => v9 = .string r.key,
              fun v9 _ => v9 = .int .i64 (cb kp r.key),
              fun v9 _ => v9 = .bool false,
              fun v9 _ => v9 = .bool false,
              fun v9 _ => v9 = .bool false,
              fun v9 _ => v9 = (.slice (some ⟨b, o, none⟩) L.length cap),
              fun v9 _ => v9 = .int .i64 (i : Int),
              fun v9 _ => v9 = .pointer (some ⟨b, o + i * 2, none⟩),
              fun v9 _ => v9 = .pointer (some ⟨b, o + i * 2 + 1, none⟩),
              fun v9 _ => v9 = .slice la r.list.length lc,
              fun v9 _ => v9 = .int .i64 (r.list.length : Int),
              fun v9 _ => v9 = .bool ze,
              fun v9 _ => v9 = .bool ze]
              (by kernel_rfl) (by kernel_rfl) (by kernel_rfl) ?st ?g0 ?os ?en
            case st => exact ⟨fun _ _ _ _ h => h, fun _ _ _ _ h => h, fun _ _ _ _ h => h, fun _ _ _ _ h => h, fun _ _ _ _ h => h, fun _ _ _ _ h => h, fun _ _ _ _ h => h, fun _ _ _ _ h => h, fun _ _ _ _ h => h, fun _ _ _ _ h => h, fun _ _ _ _ h => h, fun _ _ _ _ h => h, fun _ _ _ _ h => h, fun _ _ _ _ h => h, fun _ _ _ _ h => h, fun _ _ _ _ h => h, fun _ _ _ _ h => h, fun _ _ _ _ h => h, fun _ _ _ _ h => h, fun _ _ _ _ h => h, fun _ _ _ _ h => h, fun _ _ _ _ h => h, fun _ _ _ _ h => h, fun _ _ _ _ h => h, fun _ _ _ _ h => h, fun _ _ _ _ h => h, trivial⟩
            case g0 => exact ⟨rfl, rfl, rfl, Nat.le_refl _, fun _ _ => rfl⟩
            case os =>
              refine ⟨?_, ?_, ?_, ?_, ?_, ?_, ?_, ?_, ?_, ?_, ?_, ?_, ?_, ?_, ?_, ?_, ?_, ?_, ?_, ?_, ?_, ?_, ?_, ?_, ?_, ?_, trivial⟩
              · exact fun ρ X9 fl hg hn hl hp ho hc hf hr => .inl ⟨rfl, Runs.val _ (op_move (show ρ (.tmp 5) = .int .i64 (i : Int) from ho 5 rfl)) ⟨hg, trivial, rfl⟩⟩
              · exact fun ρ X9 fl hg hn hl hp ho hc hf hr => .inl ⟨rfl, Runs.val _ (op_gtr3 (show ρ (.tmp 16) = .int .i64 (i : Int) from hr 0 16 rfl rfl) (hc _) hi0) ⟨hg, trivial, rfl⟩⟩
              · exact fun ρ X9 fl hg hn hl hp ho hc hf hr => .inl ⟨rfl, Runs.val _ (op_move (show ρ (.tmp 17) = .bool true from hr 1 17 rfl rfl)) ⟨hg, trivial, rfl⟩⟩
              · exact fun ρ X9 fl hg hn hl hp ho hc hf hr => .inr (.inl ⟨2, 18, true, fun _ => rfl, rfl, hr 2 18 rfl rfl, Runs.val _ (op_move (show ρ (.tmp 0) = (.slice (some ⟨b, o, none⟩) L.length cap) from ho 0 rfl)) ⟨hg, trivial, rfl⟩⟩)
              · exact fun ρ X9 fl hg hn hl hp ho hc hf hr => .inr (.inl ⟨2, 18, true, fun _ => rfl, rfl, hr 2 18 rfl rfl, Runs.val _ (op_move (show ρ (.tmp 5) = .int .i64 (i : Int) from ho 5 rfl)) ⟨hg, trivial, rfl⟩⟩)
              · exact fun ρ X9 fl hg hn hl hp ho hc hf hr => .inr (.inl ⟨2, 18, true, fun _ => rfl, rfl, hr 2 18 rfl rfl, Runs.val _ (op_less1 (show ρ (.tmp 20) = .int .i64 (i : Int) from hr 4 20 rfl rfl) (hc _) h0 hiM) ⟨hg, trivial, rfl⟩⟩)
              · exact fun ρ X9 fl hg hn hl hp ho hc hf hr => .inr (.inl ⟨2, 18, true, fun _ => rfl, rfl, hr 2 18 rfl rfl, Runs.val _ (op_i45o (show ρ (.tmp 19) = (.slice (some ⟨b, o, none⟩) L.length cap) from hr 3 19 rfl rfl) (show ρ (.tmp 21) = .int .i64 ((i - 1 : Nat) : Int) from hr 5 21 rfl rfl) him) ⟨hg, trivial, rfl⟩⟩)
              · exact fun ρ X9 fl hg hn hl hp ho hc hf hr => .inr (.inl ⟨2, 18, true, fun _ => rfl, rfl, hr 2 18 rfl rfl, Runs.val _ (op_f50_0 (show ρ (.tmp 22) = .pointer (some ⟨b, o + (i - 1) * 2, none⟩) from hr 6 22 rfl rfl)) ⟨hg, trivial, rfl⟩⟩)
              · exact fun ρ X9 fl hg hn hl hp ho hc hf hr => .inr (.inl ⟨2, 18, true, fun _ => rfl, rfl, hr 2 18 rfl rfl, Runs.val _ (op_load9 (show ρ (.tmp 23) = .pointer (some ⟨b, o + (i - 1) * 2, none⟩) from hr 7 23 rfl rfl) (HPV.out h0 X9 hg)) ⟨hg, trivial, rfl⟩⟩)
              · exact fun ρ X9 fl hg hn hl hp ho hc hf hr => .inr (.inl ⟨2, 18, true, fun _ => rfl, rfl, hr 2 18 rfl rfl, Runs.val _ (op_move (show ρ (.tmp 0) = (.slice (some ⟨b, o, none⟩) L.length cap) from ho 0 rfl)) ⟨hg, trivial, rfl⟩⟩)
              · exact fun ρ X9 fl hg hn hl hp ho hc hf hr => .inr (.inl ⟨2, 18, true, fun _ => rfl, rfl, hr 2 18 rfl rfl, Runs.val _ (op_move (show ρ (.tmp 5) = .int .i64 (i : Int) from ho 5 rfl)) ⟨hg, trivial, rfl⟩⟩)
              · exact fun ρ X9 fl hg hn hl hp ho hc hf hr => .inr (.inl ⟨2, 18, true, fun _ => rfl, rfl, hr 2 18 rfl rfl, Runs.val _ (op_i45o (show ρ (.tmp 25) = (.slice (some ⟨b, o, none⟩) L.length cap) from hr 9 25 rfl rfl) (show ρ (.tmp 26) = .int .i64 (i : Int) from hr 10 26 rfl rfl) hlt) ⟨hg, trivial, rfl⟩⟩)
              · exact fun ρ X9 fl hg hn hl hp ho hc hf hr => .inr (.inl ⟨2, 18, true, fun _ => rfl, rfl, hr 2 18 rfl rfl, Runs.val _ (op_f50_0 (show ρ (.tmp 27) = .pointer (some ⟨b, o + i * 2, none⟩) from hr 11 27 rfl rfl)) ⟨hg, trivial, rfl⟩⟩)
              · exact fun ρ X9 fl hg hn hl hp ho hc hf hr => .inr (.inl ⟨2, 18, true, fun _ => rfl, rfl, hr 2 18 rfl rfl, Runs.val _ (op_load9 (show ρ (.tmp 28) = .pointer (some ⟨b, o + i * 2, none⟩) from hr 12 28 rfl rfl) (cell_on hg c0)) ⟨hg, trivial, rfl⟩⟩)
              · refine fun ρ X9 fl hg hn hl hp ho hc hf hr => .inr (.inl ⟨2, 18, true, fun _ => rfl, rfl, hr 2 18 rfl rfl, ?_⟩)
                refine Runs.goes 31 #[.string kp, .string r.key] (op_call2 hf call31 (show ρ (.tmp 24) = .string kp from hr 8 24 rfl rfl) (show ρ (.tmp 29) = .string r.key from hr 13 29 rfl rfl)) ((stands_any kp r.key X9 hk2' hk1).mono ?_)
                rintro e7 w7 ⟨rfl, b7⟩
                exact ⟨_, rfl, hg.trans (b7.mono hg.size), trivial, rfl⟩
              · exact fun ρ X9 fl hg hn hl hp ho hc hf hr => .inr (.inl ⟨2, 18, true, fun _ => rfl, rfl, hr 2 18 rfl rfl, Runs.val _ (op_geq3 (show ρ (.tmp 30) = .int .i64 (cb kp r.key) from hr 14 30 rfl rfl) (hc _) hge) ⟨hg, trivial, rfl⟩⟩)
              · exact fun ρ X9 fl hg hn hl hp ho hc hf hr => .inl ⟨rfl, Runs.val _ (op_pick (show ρ (.tmp 18) = .bool true from hr 2 18 rfl rfl) (show ρ (.tmp 31) = .bool false from hr 15 31 rfl rfl)) ⟨hg, trivial, rfl⟩⟩
              · exact fun ρ X9 fl hg hn hl hp ho hc hf hr => .inl ⟨rfl, Runs.val _ (op_move (show ρ (.tmp 32) = .bool false from hr 16 32 rfl rfl)) ⟨hg, trivial, rfl⟩⟩
              · exact fun ρ X9 fl hg hn hl hp ho hc hf hr => .inr (.inl ⟨17, 33, false, fun _ => rfl, rfl, hr 17 33 rfl rfl, Runs.val _ (op_move (show ρ (.tmp 0) = (.slice (some ⟨b, o, none⟩) L.length cap) from ho 0 rfl)) ⟨hg, trivial, rfl⟩⟩)
              · exact fun ρ X9 fl hg hn hl hp ho hc hf hr => .inr (.inl ⟨17, 33, false, fun _ => rfl, rfl, hr 17 33 rfl rfl, Runs.val _ (op_move (show ρ (.tmp 5) = .int .i64 (i : Int) from ho 5 rfl)) ⟨hg, trivial, rfl⟩⟩)
              · exact fun ρ X9 fl hg hn hl hp ho hc hf hr => .inr (.inl ⟨17, 33, false, fun _ => rfl, rfl, hr 17 33 rfl rfl, Runs.val _ (op_i45o (show ρ (.tmp 34) = (.slice (some ⟨b, o, none⟩) L.length cap) from hr 18 34 rfl rfl) (show ρ (.tmp 35) = .int .i64 (i : Int) from hr 19 35 rfl rfl) hlt) ⟨hg, trivial, rfl⟩⟩)
              · exact fun ρ X9 fl hg hn hl hp ho hc hf hr => .inr (.inl ⟨17, 33, false, fun _ => rfl, rfl, hr 17 33 rfl rfl, Runs.val _ (op_f50_1 (show ρ (.tmp 36) = .pointer (some ⟨b, o + i * 2, none⟩) from hr 20 36 rfl rfl)) ⟨hg, trivial, rfl⟩⟩)
              · exact fun ρ X9 fl hg hn hl hp ho hc hf hr => .inr (.inl ⟨17, 33, false, fun _ => rfl, rfl, hr 17 33 rfl rfl, Runs.val _ (op_load48 (show ρ (.tmp 37) = .pointer (some ⟨b, o + i * 2 + 1, none⟩) from hr 21 37 rfl rfl) (cell_on hg c1)) ⟨hg, trivial, rfl⟩⟩)
              · exact fun ρ X9 fl hg hn hl hp ho hc hf hr => .inr (.inl ⟨17, 33, false, fun _ => rfl, rfl, hr 17 33 rfl rfl, Runs.val _ (op_len48 (show ρ (.tmp 38) = .slice la r.list.length lc from hr 22 38 rfl rfl)) ⟨hg, trivial, rfl⟩⟩)
              · exact fun ρ X9 fl hg hn hl hp ho hc hf hr => .inr (.inl ⟨17, 33, false, fun _ => rfl, rfl, hr 17 33 rfl rfl, Runs.val _ (op_eq3 (show ρ (.tmp 39) = .int .i64 (r.list.length : Int) from hr 23 39 rfl rfl) (hc _) HZE.out) ⟨hg, trivial, rfl⟩⟩)
              · exact fun ρ X9 fl hg hn hl hp ho hc hf hr => .inl ⟨rfl, Runs.val _ (op_pick (show ρ (.tmp 33) = .bool false from hr 17 33 rfl rfl) (show ρ (.tmp 40) = .bool ze from hr 24 40 rfl rfl)) ⟨hg, trivial, rfl⟩⟩
            case en =>
              intro a X9 fl hfl hG hs hd ho hr
              obtain ⟨x, hx, hxt⟩ := act_put hs hd ho
              have x41 : x 41 = .bool (lowR L i || ze) := ((hxt 41).symm.trans (hr 25 41 rfl)).trans (by rw [HLOW.out]; rfl)
              change a = putAll _ x [16, 17, 18, 19, 20, 21, 22, 23, 24, 25, 26, 27, 28, 29, 30, 31, 32, 33, 34, 35, 36, 37, 38, 39, 40, 41] at hx
              simp only [putAll, Act.put, List.setIfInBounds_toArray, List.set_cons_zero, List.set_cons_succ, x41] at hx
              have HBX := Lib.hid hG
              clear hG hs hd ho hr hxt x41
              subst hx
              generalize x 16 = z16, x 17 = z17, x 18 = z18, x 19 = z19, x 20 = z20, x 21 = z21, x 22 = z22, x 23 = z23, x 24 = z24, x 25 = z25, x 26 = z26, x 27 = z27, x 28 = z28, x 29 = z29, x 30 = z30, x 31 = z31, x 32 = z32, x 33 = z33, x 34 = z34, x 35 = z35, x 36 = z36, x 37 = z37, x 38 = z38, x 39 = z39, x 40 = z40
              go_wp2_with fail
              go_meet
              exact ⟨rfl, HBX.out⟩
        · have HLOW := Lib.hid (hzero h0)
          have i0 : ¬ (0 : Int) < i := by omega
          have hi0 : decide ((0 : Int) < (i : Int)) = false := decide_eq_false i0
          clear hpos hzero hk2
          refine wp_region_fl (fun _ X9 => Below V.heap.size V X9) (fun _ _ => True) [
            fun v9 _ => v9 = .int .i64 (i : Int),
            fun v9 _ => v9 = .bool false,
            fun v9 _ => v9 = .bool false,
            fun v9 _ => v9 = undef,
            fun v9 _ => v9 = undef,
            fun v9 _ => v9 = undef,
            fun v9 _ => v9 = undef,
            fun v9 _ => v9 = undef,
            fun v9 _ => v9 = undef,
            fun v9 _ => v9 = undef,
            fun v9 _ => v9 = undef,
            fun v9 _ => v9 = undef,
            fun v9 _ => v9 = undef,
            fun v9 _ => v9 = undef,
            fun v9 _ => v9 = undef,
            fun v9 _ => v9 = undef,
            fun v9 _ => v9 = .bool false,
            fun v9 _ => v9 = .bool false,
            fun v9 _ => v9 = (.slice (some ⟨b, o, none⟩) L.length cap),
            fun v9 _ => v9 = .int .i64 (i : Int),
            fun v9 _ => v9 = .pointer (some ⟨b, o + i * 2, none⟩),
            fun v9 _ => v9 = .pointer (some ⟨b, o + i * 2 + 1, none⟩),
            fun v9 _ => v9 = .slice la r.list.length lc,
            fun v9 _ => v9 = .int .i64 (r.list.length : Int),
            fun v9 _ => v9 = .bool ze,
            fun v9 _ => v9 = .bool ze]
            (by kernel_rfl) (by kernel_rfl) (by kernel_rfl) ?st ?g0 ?os ?en
          case st => exact ⟨fun _ _ _ _ h => h, fun _ _ _ _ h => h, fun _ _ _ _ h => h, fun _ _ _ _ h => h, fun _ _ _ _ h => h, fun _ _ _ _ h => h, fun _ _ _ _ h => h, fun _ _ _ _ h => h, fun _ _ _ _ h => h, fun _ _ _ _ h => h, fun _ _ _ _ h => h, fun _ _ _ _ h => h, fun _ _ _ _ h => h, fun _ _ _ _ h => h, fun _ _ _ _ h => h, fun _ _ _ _ h => h, fun _ _ _ _ h => h, fun _ _ _ _ h => h, fun _ _ _ _ h => h, fun _ _ _ _ h => h, fun _ _ _ _ h => h, fun _ _ _ _ h => h, fun _ _ _ _ h => h, fun _ _ _ _ h => h, fun _ _ _ _ h => h, fun _ _ _ _ h => h, trivial⟩
          case g0 => exact ⟨rfl, rfl, rfl, Nat.le_refl _, fun _ _ => rfl⟩
          case os =>
            refine ⟨?_, ?_, ?_, ?_, ?_, ?_, ?_, ?_, ?_, ?_, ?_, ?_, ?_, ?_, ?_, ?_, ?_, ?_, ?_, ?_, ?_, ?_, ?_, ?_, ?_, ?_, trivial⟩
            · exact fun ρ X9 fl hg hn hl hp ho hc hf hr => .inl ⟨rfl, Runs.val _ (op_move (show ρ (.tmp 5) = .int .i64 (i : Int) from ho 5 rfl)) ⟨hg, trivial, rfl⟩⟩
            · exact fun ρ X9 fl hg hn hl hp ho hc hf hr => .inl ⟨rfl, Runs.val _ (op_gtr3 (show ρ (.tmp 16) = .int .i64 (i : Int) from hr 0 16 rfl rfl) (hc _) hi0) ⟨hg, trivial, rfl⟩⟩
            · exact fun ρ X9 fl hg hn hl hp ho hc hf hr => .inl ⟨rfl, Runs.val _ (op_move (show ρ (.tmp 17) = .bool false from hr 1 17 rfl rfl)) ⟨hg, trivial, rfl⟩⟩
            · exact fun ρ X9 fl hg hn hl hp ho hc hf hr => .inr (.inr ⟨2, 18, true, fun _ => rfl, rfl, (fun q => by rw [show ρ (.tmp 18) = .bool false from hr 2 18 rfl rfl] at q; cases q), hg, trivial, rfl⟩)
            · exact fun ρ X9 fl hg hn hl hp ho hc hf hr => .inr (.inr ⟨2, 18, true, fun _ => rfl, rfl, (fun q => by rw [show ρ (.tmp 18) = .bool false from hr 2 18 rfl rfl] at q; cases q), hg, trivial, rfl⟩)
            · exact fun ρ X9 fl hg hn hl hp ho hc hf hr => .inr (.inr ⟨2, 18, true, fun _ => rfl, rfl, (fun q => by rw [show ρ (.tmp 18) = .bool false from hr 2 18 rfl rfl] at q; cases q), hg, trivial, rfl⟩)
            · exact fun ρ X9 fl hg hn hl hp ho hc hf hr => .inr (.inr ⟨2, 18, true, fun _ => rfl, rfl, (fun q => by rw [show ρ (.tmp 18) = .bool false from hr 2 18 rfl rfl] at q; cases q), hg, trivial, rfl⟩)
            · exact fun ρ X9 fl hg hn hl hp ho hc hf hr => .inr (.inr ⟨2, 18, true, fun _ => rfl, rfl, (fun q => by rw [show ρ (.tmp 18) = .bool false from hr 2 18 rfl rfl] at q; cases q), hg, trivial, rfl⟩)
            · exact fun ρ X9 fl hg hn hl hp ho hc hf hr => .inr (.inr ⟨2, 18, true, fun _ => rfl, rfl, (fun q => by rw [show ρ (.tmp 18) = .bool false from hr 2 18 rfl rfl] at q; cases q), hg, trivial, rfl⟩)
            · exact fun ρ X9 fl hg hn hl hp ho hc hf hr => .inr (.inr ⟨2, 18, true, fun _ => rfl, rfl, (fun q => by rw [show ρ (.tmp 18) = .bool false from hr 2 18 rfl rfl] at q; cases q), hg, trivial, rfl⟩)
            · exact fun ρ X9 fl hg hn hl hp ho hc hf hr => .inr (.inr ⟨2, 18, true, fun _ => rfl, rfl, (fun q => by rw [show ρ (.tmp 18) = .bool false from hr 2 18 rfl rfl] at q; cases q), hg, trivial, rfl⟩)
            · exact fun ρ X9 fl hg hn hl hp ho hc hf hr => .inr (.inr ⟨2, 18, true, fun _ => rfl, rfl, (fun q => by rw [show ρ (.tmp 18) = .bool false from hr 2 18 rfl rfl] at q; cases q), hg, trivial, rfl⟩)
            · exact fun ρ X9 fl hg hn hl hp ho hc hf hr => .inr (.inr ⟨2, 18, true, fun _ => rfl, rfl, (fun q => by rw [show ρ (.tmp 18) = .bool false from hr 2 18 rfl rfl] at q; cases q), hg, trivial, rfl⟩)
            · exact fun ρ X9 fl hg hn hl hp ho hc hf hr => .inr (.inr ⟨2, 18, true, fun _ => rfl, rfl, (fun q => by rw [show ρ (.tmp 18) = .bool false from hr 2 18 rfl rfl] at q; cases q), hg, trivial, rfl⟩)
            · exact fun ρ X9 fl hg hn hl hp ho hc hf hr => .inr (.inr ⟨2, 18, true, fun _ => rfl, rfl, (fun q => by rw [show ρ (.tmp 18) = .bool false from hr 2 18 rfl rfl] at q; cases q), hg, trivial, rfl⟩)
            · exact fun ρ X9 fl hg hn hl hp ho hc hf hr => .inr (.inr ⟨2, 18, true, fun _ => rfl, rfl, (fun q => by rw [show ρ (.tmp 18) = .bool false from hr 2 18 rfl rfl] at q; cases q), hg, trivial, rfl⟩)
            · exact fun ρ X9 fl hg hn hl hp ho hc hf hr => .inl ⟨rfl, Runs.val _ (op_pick (show ρ (.tmp 18) = .bool false from hr 2 18 rfl rfl) (hc _)) ⟨hg, trivial, rfl⟩⟩
            · exact fun ρ X9 fl hg hn hl hp ho hc hf hr => .inl ⟨rfl, Runs.val _ (op_move (show ρ (.tmp 32) = .bool false from hr 16 32 rfl rfl)) ⟨hg, trivial, rfl⟩⟩
            · exact fun ρ X9 fl hg hn hl hp ho hc hf hr => .inr (.inl ⟨17, 33, false, fun _ => rfl, rfl, hr 17 33 rfl rfl, Runs.val _ (op_move (show ρ (.tmp 0) = (.slice (some ⟨b, o, none⟩) L.length cap) from ho 0 rfl)) ⟨hg, trivial, rfl⟩⟩)
            · exact fun ρ X9 fl hg hn hl hp ho hc hf hr => .inr (.inl ⟨17, 33, false, fun _ => rfl, rfl, hr 17 33 rfl rfl, Runs.val _ (op_move (show ρ (.tmp 5) = .int .i64 (i : Int) from ho 5 rfl)) ⟨hg, trivial, rfl⟩⟩)
            · exact fun ρ X9 fl hg hn hl hp ho hc hf hr => .inr (.inl ⟨17, 33, false, fun _ => rfl, rfl, hr 17 33 rfl rfl, Runs.val _ (op_i45o (show ρ (.tmp 34) = (.slice (some ⟨b, o, none⟩) L.length cap) from hr 18 34 rfl rfl) (show ρ (.tmp 35) = .int .i64 (i : Int) from hr 19 35 rfl rfl) hlt) ⟨hg, trivial, rfl⟩⟩)
            · exact fun ρ X9 fl hg hn hl hp ho hc hf hr => .inr (.inl ⟨17, 33, false, fun _ => rfl, rfl, hr 17 33 rfl rfl, Runs.val _ (op_f50_1 (show ρ (.tmp 36) = .pointer (some ⟨b, o + i * 2, none⟩) from hr 20 36 rfl rfl)) ⟨hg, trivial, rfl⟩⟩)
            · exact fun ρ X9 fl hg hn hl hp ho hc hf hr => .inr (.inl ⟨17, 33, false, fun _ => rfl, rfl, hr 17 33 rfl rfl, Runs.val _ (op_load48 (show ρ (.tmp 37) = .pointer (some ⟨b, o + i * 2 + 1, none⟩) from hr 21 37 rfl rfl) (cell_on hg c1)) ⟨hg, trivial, rfl⟩⟩)
            · exact fun ρ X9 fl hg hn hl hp ho hc hf hr => .inr (.inl ⟨17, 33, false, fun _ => rfl, rfl, hr 17 33 rfl rfl, Runs.val _ (op_len48 (show ρ (.tmp 38) = .slice la r.list.length lc from hr 22 38 rfl rfl)) ⟨hg, trivial, rfl⟩⟩)
            · exact fun ρ X9 fl hg hn hl hp ho hc hf hr => .inr (.inl ⟨17, 33, false, fun _ => rfl, rfl, hr 17 33 rfl rfl, Runs.val _ (op_eq3 (show ρ (.tmp 39) = .int .i64 (r.list.length : Int) from hr 23 39 rfl rfl) (hc _) HZE.out) ⟨hg, trivial, rfl⟩⟩)
            · exact fun ρ X9 fl hg hn hl hp ho hc hf hr => .inl ⟨rfl, Runs.val _ (op_pick (show ρ (.tmp 33) = .bool false from hr 17 33 rfl rfl) (show ρ (.tmp 40) = .bool ze from hr 24 40 rfl rfl)) ⟨hg, trivial, rfl⟩⟩
          case en =>
            intro a X9 fl hfl hG hs hd ho hr
            obtain ⟨x, hx, hxt⟩ := act_put hs hd ho
            have x41 : x 41 = .bool (lowR L i || ze) := ((hxt 41).symm.trans (hr 25 41 rfl)).trans (by rw [HLOW.out]; rfl)
            change a = putAll _ x [16, 17, 18, 19, 20, 21, 22, 23, 24, 25, 26, 27, 28, 29, 30, 31, 32, 33, 34, 35, 36, 37, 38, 39, 40, 41] at hx
            simp only [putAll, Act.put, List.setIfInBounds_toArray, List.set_cons_zero, List.set_cons_succ, x41] at hx
            have HBX := Lib.hid hG
            clear hG hs hd ho hr hxt x41
            subst hx
            generalize x 16 = z16, x 17 = z17, x 18 = z18, x 19 = z19, x 20 = z20, x 21 = z21, x 22 = z22, x 23 = z23, x 24 = z24, x 25 = z25, x 26 = z26, x 27 = z27, x 28 = z28, x 29 = z29, x 30 = z30, x 31 = z31, x 32 = z32, x 33 = z33, x 34 = z34, x 35 = z35, x 36 = z36, x 37 = z37, x 38 = z38, x 39 = z39, x 40 = z40
            go_wp2_with fail
            go_meet
            exact ⟨rfl, HBX.out⟩
      case rest =>
        obtain ⟨rfl, hbc⟩ := hcut
        obtain ⟨U, rfl⟩ : ∃ U, U = wc := ⟨_, rfl⟩
        have HBU := Lib.hid (HB.out.trans (hbc.mono HB.out.size))
        cases hlz : (lowR L i || ze) with
        | true =>
          have HR : Hid (LoadDNo w L) := fun X hX => ⟨hX, .inr ⟨bad_not hlt (by
            rw [HBD.out]
            cases hlw : lowR L i with
            | true => rfl
            | false =>
              rw [hlw] at hlz
              have hz1 : ze = true := hlz
              rw [← HZE.out] at hz1
              have hz2 := of_decide_eq_true hz1
              have : r.list = [] := List.eq_nil_of_length_eq_zero (by omega)
              rw [this]
              rfl), rfl⟩⟩
          clear hpos hzero hk2 hlz
          go_wp2
          refine bodyPost_ret (v := .tuple #[.pointer none, .bool false]) (by simp [results, Try.results21, go_sem]) rfl ?_
          exact HR.out _ HBU.out
        | false =>
          obtain ⟨hlw, hzf⟩ := Bool.or_eq_false_iff.1 hlz
          have hne : r.list ≠ [] := fun e => by
            rw [← HZE.out, e] at hzf
            simp at hzf
          have HBD2 : Hid (badR L i = !mayB r.list) := by show _ = _; rw [HBD.out, hlw]; rfl
          have HK0 : Hid (DK w (flatOf (L.take i)) r E U (.int .i64 0)) := ⟨0, T, lv0, Nat.zero_le _, rfl, fun m hm => (by omega), (by
            have e : oneOf r 0 = [] := rfl
            rw [e, List.append_nil]
            exact HRS.out.on hbc), HLO.out, HBU.out⟩
          clear hpos hzero hk2 hlz hlw hzf hbc
          go_wp2
          go_loopw [6] (fun kv wr => DK w (flatOf (L.take i)) r E wr kv) (fun kv _ => r.list.length - (intOf kv).toNat)
          case atStart => exact HK0.out
          case round =>
            clear HK0 HRS HLO T lv0
            obtain ⟨k, T, lv0, hk, rfl, hgv, hrs, hlo, hbw⟩ := hrel
            obtain ⟨U1, rfl⟩ : ∃ U1, U1 = wr := ⟨_, rfl⟩
            have HKN := Lib.hid hgv
            have HBW := Lib.hid hbw
            have HRS := Lib.hid hrs
            have HLO := Lib.hid hlo
            have c0 := cell_on hbw C0.out
            have c1 := cell_on hbw C1.out
            obtain ⟨la', lc', e', _, _, _, hvc⟩ := HV0.out
            cases e'
            by_cases hlk : k < r.list.length
            · obtain ⟨vb, vo, rfl, hvl, w0, w1, w2⟩ := hvc k hlk
              have d0 := cell_on hbw w0
              have d1 := cell_on hbw w1
              have d2 := cell_on hbw w2
              have hpv : 0 < k → ∀ X, Below U1.heap.size U1 X → X.cell? ⟨vb, vo + (k - 1) * 3, none⟩ = some (.int .i64 (r.list[k - 1]'(by omega)).ts) := fun h0 X hX => by
                obtain ⟨b', o', e, _, d0, _, _⟩ := hvc (k - 1) (by omega)
                cases e
                exact cell_on hX (cell_on hbw d0)
              have j0 : (0 : Int) ≤ k := by omega
              have j1 : (k : Int) < r.list.length := by omega
              have hbp := badV_pos hlk
              have hbz := badV_zero hlk
              have hon := oneOf_next hlk
              obtain ⟨tp, htp⟩ : ∃ tp : Int, ∀ h : k - 1 < r.list.length, (r.list[k - 1]'h).ts = tp := ⟨(r.list[k - 1]'(by omega)).ts, fun _ => rfl⟩
              simp only [htp] at hpv hbp
              obtain ⟨u, hu⟩ : ∃ u, r.list[k] = u := ⟨_, rfl⟩
              rw [hu] at d0 d1 d2 hbp hbz hon
              obtain ⟨V3, hV3⟩ : ∃ V3, V3 = U1.alloc (.cells #[.int .i64 u.ts, .string u.val, .bool u.dead] 31) := ⟨_, rfl⟩
              obtain ⟨Z, hZ⟩ : ∃ Z, U1.heap.size = Z := ⟨_, rfl⟩
              have b3 : Below U1.heap.size U1 V3 := by rw [hV3]; exact (Below.refl _ U1).alloc (Nat.le_refl _) _
              have jZ : V3.heap[Z]? = some (.cells #[.int .i64 u.ts, .string u.val, .bool u.dead] 31 (0, 0)) := by rw [hV3, ← hZ]; exact heap_alloc_new U1 _
              have s0 : V3.cell? ⟨Z, 0, none⟩ = some (.int .i64 u.ts) := cell_blk jZ 0
              have e0 := cell_on b3 c0
              have e1 := cell_on b3 c1
              have HJZ := Lib.hid jZ
              have HV3 := Lib.hid hV3
              have HZ := Lib.hid hZ
              have HB3 := Lib.hid b3
              have HPV2 := Lib.hid hpv
              have HON := Lib.hid hon
              clear hV3 hZ b3 jZ hpv hon hu htp w0 w1 w2 hvc hrs hlo hbw hgv
              go_upto_region 11 with fail
              rw [← HV3.out, HZ.out]
              go_cut [81] (fun v wx => v = .bool (badV r.list k) ∧ Below V3.heap.size V3 wx)
              case first =>
                clear HKN HRS HLO HBD HBD2 HFL HFN HG HON
                by_cases ht : u.ts < 1
                · have hBV : Hid (badV r.list k = true) := by
                    show _ = _
                    by_cases h0 : 0 < k
                    · rw [hbp h0, decide_eq_true ht]; rfl
                    · rw [hbz h0, decide_eq_true ht]
                  have ht1 : decide (u.ts < 1) = true := decide_eq_true ht
                  clear hbp hbz
                  refine wp_region_fl (fun _ X9 => Below V3.heap.size V3 X9) (fun _ _ => True) [
                    fun v9 _ => v9 = .pointer (some ⟨Z, 0, none⟩),
                    fun v9 _ => v9 = .int .i64 u.ts,
                    fun v9 _ => v9 = .bool true,
                    fun v9 _ => v9 = .bool true,
                    fun v9 _ => v9 = undef,
                    fun v9 _ => v9 = undef,
                    fun v9 _ => v9 = undef,
                    fun v9 _ => v9 = undef,
                    fun v9 _ => v9 = undef,
                    fun v9 _ => v9 = undef,
                    fun v9 _ => v9 = undef,
                    fun v9 _ => v9 = undef,
                    fun v9 _ => v9 = undef,
                    fun v9 _ => v9 = undef,
                    fun v9 _ => v9 = undef,
                    fun v9 _ => v9 = undef,
                    fun v9 _ => v9 = undef,
                    fun v9 _ => v9 = undef,
                    fun v9 _ => v9 = undef,
                    fun v9 _ => v9 = undef,
                    fun v9 _ => v9 = undef,
                    fun v9 _ => v9 = .bool true]
                    (by kernel_rfl) (by kernel_rfl) (by kernel_rfl) ?st ?g0 ?os ?en
                  case st => exact ⟨fun _ _ _ _ h => h, fun _ _ _ _ h => h, fun _ _ _ _ h => h, fun _ _ _ _ h => h, fun _ _ _ _ h => h, fun _ _ _ _ h => h, fun _ _ _ _ h => h, fun _ _ _ _ h => h, fun _ _ _ _ h => h, fun _ _ _ _ h => h, fun _ _ _ _ h => h, fun _ _ _ _ h => h, fun _ _ _ _ h => h, fun _ _ _ _ h => h, fun _ _ _ _ h => h, fun _ _ _ _ h => h, fun _ _ _ _ h => h, fun _ _ _ _ h => h, fun _ _ _ _ h => h, fun _ _ _ _ h => h, fun _ _ _ _ h => h, fun _ _ _ _ h => h, trivial⟩
                  case g0 => exact ⟨rfl, rfl, rfl, Nat.le_refl _, fun _ _ => rfl⟩
                  case os =>
                    refine ⟨?_, ?_, ?_, ?_, ?_, ?_, ?_, ?_, ?_, ?_, ?_, ?_, ?_, ?_, ?_, ?_, ?_, ?_, ?_, ?_, ?_, ?_, trivial⟩
                    · exact fun ρ X9 fl hg hn hl hp ho hc hf hr => .inl ⟨rfl, Runs.val _ (op_f31_0 (show ρ (.tmp 7) = .pointer (some ⟨Z, 0, none⟩) from ho 7 rfl)) ⟨hg, trivial, rfl⟩⟩
                    · exact fun ρ X9 fl hg hn hl hp ho hc hf hr => .inl ⟨rfl, Runs.val _ (op_load3 (show ρ (.tmp 60) = .pointer (some ⟨Z, 0, none⟩) from hr 0 60 rfl rfl) (cell_on hg s0)) ⟨hg, trivial, rfl⟩⟩
                    · exact fun ρ X9 fl hg hn hl hp ho hc hf hr => .inl ⟨rfl, Runs.val _ (op_lss3 (show ρ (.tmp 61) = .int .i64 u.ts from hr 1 61 rfl rfl) (hc _) ht1) ⟨hg, trivial, rfl⟩⟩
                    · exact fun ρ X9 fl hg hn hl hp ho hc hf hr => .inl ⟨rfl, Runs.val _ (op_move (show ρ (.tmp 62) = .bool true from hr 2 62 rfl rfl)) ⟨hg, trivial, rfl⟩⟩
                    · exact fun ρ X9 fl hg hn hl hp ho hc hf hr => .inr (.inr ⟨3, 63, false, fun _ => rfl, rfl, (fun q => by rw [show ρ (.tmp 63) = .bool true from hr 3 63 rfl rfl] at q; cases q), hg, trivial, rfl⟩)
                    · exact fun ρ X9 fl hg hn hl hp ho hc hf hr => .inr (.inr ⟨3, 63, false, fun _ => rfl, rfl, (fun q => by rw [show ρ (.tmp 63) = .bool true from hr 3 63 rfl rfl] at q; cases q), hg, trivial, rfl⟩)
                    · exact fun ρ X9 fl hg hn hl hp ho hc hf hr => .inr (.inr ⟨3, 63, false, fun _ => rfl, rfl, (fun q => by rw [show ρ (.tmp 63) = .bool true from hr 3 63 rfl rfl] at q; cases q), hg, trivial, rfl⟩)
                    · exact fun ρ X9 fl hg hn hl hp ho hc hf hr => .inr (.inr ⟨6, 66, true, fun _ => rfl, rfl, (fun q => by rw [show ρ (.tmp 66) = undef from hr 6 66 rfl rfl] at q; cases q), hg, trivial, rfl⟩)
                    · exact fun ρ X9 fl hg hn hl hp ho hc hf hr => .inr (.inr ⟨6, 66, true, fun _ => rfl, rfl, (fun q => by rw [show ρ (.tmp 66) = undef from hr 6 66 rfl rfl] at q; cases q), hg, trivial, rfl⟩)
                    · exact fun ρ X9 fl hg hn hl hp ho hc hf hr => .inr (.inr ⟨6, 66, true, fun _ => rfl, rfl, (fun q => by rw [show ρ (.tmp 66) = undef from hr 6 66 rfl rfl] at q; cases q), hg, trivial, rfl⟩)
                    · exact fun ρ X9 fl hg hn hl hp ho hc hf hr => .inr (.inr ⟨6, 66, true, fun _ => rfl, rfl, (fun q => by rw [show ρ (.tmp 66) = undef from hr 6 66 rfl rfl] at q; cases q), hg, trivial, rfl⟩)
                    · exact fun ρ X9 fl hg hn hl hp ho hc hf hr => .inr (.inr ⟨6, 66, true, fun _ => rfl, rfl, (fun q => by rw [show ρ (.tmp 66) = undef from hr 6 66 rfl rfl] at q; cases q), hg, trivial, rfl⟩)
                    · exact fun ρ X9 fl hg hn hl hp ho hc hf hr => .inr (.inr ⟨6, 66, true, fun _ => rfl, rfl, (fun q => by rw [show ρ (.tmp 66) = undef from hr 6 66 rfl rfl] at q; cases q), hg, trivial, rfl⟩)
                    · exact fun ρ X9 fl hg hn hl hp ho hc hf hr => .inr (.inr ⟨6, 66, true, fun _ => rfl, rfl, (fun q => by rw [show ρ (.tmp 66) = undef from hr 6 66 rfl rfl] at q; cases q), hg, trivial, rfl⟩)
                    · exact fun ρ X9 fl hg hn hl hp ho hc hf hr => .inr (.inr ⟨6, 66, true, fun _ => rfl, rfl, (fun q => by rw [show ρ (.tmp 66) = undef from hr 6 66 rfl rfl] at q; cases q), hg, trivial, rfl⟩)
                    · exact fun ρ X9 fl hg hn hl hp ho hc hf hr => .inr (.inr ⟨6, 66, true, fun _ => rfl, rfl, (fun q => by rw [show ρ (.tmp 66) = undef from hr 6 66 rfl rfl] at q; cases q), hg, trivial, rfl⟩)
                    · exact fun ρ X9 fl hg hn hl hp ho hc hf hr => .inr (.inr ⟨6, 66, true, fun _ => rfl, rfl, (fun q => by rw [show ρ (.tmp 66) = undef from hr 6 66 rfl rfl] at q; cases q), hg, trivial, rfl⟩)
                    · exact fun ρ X9 fl hg hn hl hp ho hc hf hr => .inr (.inr ⟨6, 66, true, fun _ => rfl, rfl, (fun q => by rw [show ρ (.tmp 66) = undef from hr 6 66 rfl rfl] at q; cases q), hg, trivial, rfl⟩)
                    · exact fun ρ X9 fl hg hn hl hp ho hc hf hr => .inr (.inr ⟨6, 66, true, fun _ => rfl, rfl, (fun q => by rw [show ρ (.tmp 66) = undef from hr 6 66 rfl rfl] at q; cases q), hg, trivial, rfl⟩)
                    · exact fun ρ X9 fl hg hn hl hp ho hc hf hr => .inr (.inr ⟨6, 66, true, fun _ => rfl, rfl, (fun q => by rw [show ρ (.tmp 66) = undef from hr 6 66 rfl rfl] at q; cases q), hg, trivial, rfl⟩)
                    · exact fun ρ X9 fl hg hn hl hp ho hc hf hr => .inr (.inr ⟨3, 63, false, fun _ => rfl, rfl, (fun q => by rw [show ρ (.tmp 63) = .bool true from hr 3 63 rfl rfl] at q; cases q), hg, trivial, rfl⟩)
                    · exact fun ρ X9 fl hg hn hl hp ho hc hf hr => .inl ⟨rfl, Runs.val _ (op_pick (show ρ (.tmp 63) = .bool true from hr 3 63 rfl rfl) (hc _)) ⟨hg, trivial, rfl⟩⟩
                  case en =>
                    intro a X9 fl hfl hG hs hd ho hr
                    obtain ⟨x, hx, hxt⟩ := act_put hs hd ho
                    have x81 : x 81 = .bool (badV r.list k) := ((hxt 81).symm.trans (hr 21 81 rfl)).trans (by rw [hBV.out])
                    change a = putAll _ x [60, 61, 62, 63, 64, 65, 66, 67, 68, 69, 70, 71, 72, 73, 74, 75, 76, 77, 78, 79, 80, 81] at hx
                    simp only [putAll, Act.put, List.setIfInBounds_toArray, List.set_cons_zero, List.set_cons_succ, x81] at hx
                    have HBX := Lib.hid hG
                    clear hG hs hd ho hr hxt x81
                    subst hx
                    generalize x 60 = z60, x 61 = z61, x 62 = z62, x 63 = z63, x 64 = z64, x 65 = z65, x 66 = z66, x 67 = z67, x 68 = z68, x 69 = z69, x 70 = z70, x 71 = z71, x 72 = z72, x 73 = z73, x 74 = z74, x 75 = z75, x 76 = z76, x 77 = z77, x 78 = z78, x 79 = z79, x 80 = z80
                    go_wp2_with fail
                    go_meet
                    exact ⟨rfl, HBX.out⟩
                · have ht1 : decide (u.ts < 1) = false := decide_eq_false ht
                  by_cases h0 : 0 < k
                  · have hBV : Hid (badV r.list k = decide (u.ts ≤ tp)) := by
                      show _ = _
                      rw [hbp h0, ht1]; rfl
                    have hk0 : decide ((0 : Int) < (k : Int)) = true := decide_eq_true (by omega)
                    have hkm : k - 1 < r.list.length := by omega
                    have hkM : (k : Int) ≤ 9223372036854775807 := by omega
                    obtain ⟨q, hq⟩ : ∃ q, decide (u.ts ≤ tp) = q := ⟨_, rfl⟩
                    rw [hq] at hBV
                    clear hbp hbz
                    refine wp_region_fl (fun _ X9 => Below V3.heap.size V3 X9) (fun _ _ => True) [
                      fun v9 _ => v9 = .pointer (some ⟨Z, 0, none⟩),
                      fun v9 _ => v9 = .int .i64 u.ts,
                      fun v9 _ => v9 = .bool false,
                      fun v9 _ => v9 = .bool false,
                      fun v9 _ => v9 = .int .i64 (k : Int),
                      fun v9 _ => v9 = .bool true,
                      fun v9 _ => v9 = .bool true,
                      fun v9 _ => v9 = .pointer (some ⟨Z, 0, none⟩),
                      fun v9 _ => v9 = .int .i64 u.ts,
                      fun v9 _ => v9 = (.slice (some ⟨b, o, none⟩) L.length cap),
                      fun v9 _ => v9 = .int .i64 (i : Int),
                      fun v9 _ => v9 = .pointer (some ⟨b, o + i * 2, none⟩),
                      fun v9 _ => v9 = .pointer (some ⟨b, o + i * 2 + 1, none⟩),
                      fun v9 _ => v9 = (.slice (some ⟨vb, vo, none⟩) r.list.length lc),
                      fun v9 _ => v9 = .int .i64 (k : Int),
                      fun v9 _ => v9 = .int .i64 ((k - 1 : Nat) : Int),
                      fun v9 _ => v9 = .pointer (some ⟨vb, vo + (k - 1) * 3, none⟩),
                      fun v9 _ => v9 = .pointer (some ⟨vb, vo + (k - 1) * 3, none⟩),
                      fun v9 _ => v9 = .int .i64 tp,
                      fun v9 _ => v9 = .bool q,
                      fun v9 _ => v9 = .bool q,
                      fun v9 _ => v9 = .bool q]
                      (by kernel_rfl) (by kernel_rfl) (by kernel_rfl) ?st ?g0 ?os ?en
                    case st => exact ⟨fun _ _ _ _ h => h, fun _ _ _ _ h => h, fun _ _ _ _ h => h, fun _ _ _ _ h => h, fun _ _ _ _ h => h, fun _ _ _ _ h => h, fun _ _ _ _ h => h, fun _ _ _ _ h => h, fun _ _ _ _ h => h, fun _ _ _ _ h => h, fun _ _ _ _ h => h, fun _ _ _ _ h => h, fun _ _ _ _ h => h, fun _ _ _ _ h => h, fun _ _ _ _ h => h, fun _ _ _ _ h => h, fun _ _ _ _ h => h, fun _ _ _ _ h => h, fun _ _ _ _ h => h, fun _ _ _ _ h => h, fun _ _ _ _ h => h, fun _ _ _ _ h => h, trivial⟩
                    case g0 => exact ⟨rfl, rfl, rfl, Nat.le_refl _, fun _ _ => rfl⟩
                    case os =>
                      refine ⟨?_, ?_, ?_, ?_, ?_, ?_, ?_, ?_, ?_, ?_, ?_, ?_, ?_, ?_, ?_, ?_, ?_, ?_, ?_, ?_, ?_, ?_, trivial⟩
                      · exact fun ρ X9 fl hg hn hl hp ho hc hf hr => .inl ⟨rfl, Runs.val _ (op_f31_0 (show ρ (.tmp 7) = .pointer (some ⟨Z, 0, none⟩) from ho 7 rfl)) ⟨hg, trivial, rfl⟩⟩
                      · exact fun ρ X9 fl hg hn hl hp ho hc hf hr => .inl ⟨rfl, Runs.val _ (op_load3 (show ρ (.tmp 60) = .pointer (some ⟨Z, 0, none⟩) from hr 0 60 rfl rfl) (cell_on hg s0)) ⟨hg, trivial, rfl⟩⟩
                      · exact fun ρ X9 fl hg hn hl hp ho hc hf hr => .inl ⟨rfl, Runs.val _ (op_lss3 (show ρ (.tmp 61) = .int .i64 u.ts from hr 1 61 rfl rfl) (hc _) ht1) ⟨hg, trivial, rfl⟩⟩
                      · exact fun ρ X9 fl hg hn hl hp ho hc hf hr => .inl ⟨rfl, Runs.val _ (op_move (show ρ (.tmp 62) = .bool false from hr 2 62 rfl rfl)) ⟨hg, trivial, rfl⟩⟩
                      · exact fun ρ X9 fl hg hn hl hp ho hc hf hr => .inr (.inl ⟨3, 63, false, fun _ => rfl, rfl, hr 3 63 rfl rfl, Runs.val _ (op_move (show ρ (.tmp 6) = .int .i64 (k : Int) from ho 6 rfl)) ⟨hg, trivial, rfl⟩⟩)
                      · exact fun ρ X9 fl hg hn hl hp ho hc hf hr => .inr (.inl ⟨3, 63, false, fun _ => rfl, rfl, hr 3 63 rfl rfl, Runs.val _ (op_gtr3 (show ρ (.tmp 64) = .int .i64 (k : Int) from hr 4 64 rfl rfl) (hc _) hk0) ⟨hg, trivial, rfl⟩⟩)
                      · exact fun ρ X9 fl hg hn hl hp ho hc hf hr => .inr (.inl ⟨3, 63, false, fun _ => rfl, rfl, hr 3 63 rfl rfl, Runs.val _ (op_move (show ρ (.tmp 65) = .bool true from hr 5 65 rfl rfl)) ⟨hg, trivial, rfl⟩⟩)
                      · exact fun ρ X9 fl hg hn hl hp ho hc hf hr => .inr (.inl ⟨6, 66, true, fun _ => rfl, rfl, hr 6 66 rfl rfl, Runs.val _ (op_f31_0 (show ρ (.tmp 7) = .pointer (some ⟨Z, 0, none⟩) from ho 7 rfl)) ⟨hg, trivial, rfl⟩⟩)
                      · exact fun ρ X9 fl hg hn hl hp ho hc hf hr => .inr (.inl ⟨6, 66, true, fun _ => rfl, rfl, hr 6 66 rfl rfl, Runs.val _ (op_load3 (show ρ (.tmp 67) = .pointer (some ⟨Z, 0, none⟩) from hr 7 67 rfl rfl) (cell_on hg s0)) ⟨hg, trivial, rfl⟩⟩)
                      · exact fun ρ X9 fl hg hn hl hp ho hc hf hr => .inr (.inl ⟨6, 66, true, fun _ => rfl, rfl, hr 6 66 rfl rfl, Runs.val _ (op_move (show ρ (.tmp 0) = (.slice (some ⟨b, o, none⟩) L.length cap) from ho 0 rfl)) ⟨hg, trivial, rfl⟩⟩)
                      · exact fun ρ X9 fl hg hn hl hp ho hc hf hr => .inr (.inl ⟨6, 66, true, fun _ => rfl, rfl, hr 6 66 rfl rfl, Runs.val _ (op_move (show ρ (.tmp 5) = .int .i64 (i : Int) from ho 5 rfl)) ⟨hg, trivial, rfl⟩⟩)
                      · exact fun ρ X9 fl hg hn hl hp ho hc hf hr => .inr (.inl ⟨6, 66, true, fun _ => rfl, rfl, hr 6 66 rfl rfl, Runs.val _ (op_i45o (show ρ (.tmp 69) = (.slice (some ⟨b, o, none⟩) L.length cap) from hr 9 69 rfl rfl) (show ρ (.tmp 70) = .int .i64 (i : Int) from hr 10 70 rfl rfl) hlt) ⟨hg, trivial, rfl⟩⟩)
                      · exact fun ρ X9 fl hg hn hl hp ho hc hf hr => .inr (.inl ⟨6, 66, true, fun _ => rfl, rfl, hr 6 66 rfl rfl, Runs.val _ (op_f50_1 (show ρ (.tmp 71) = .pointer (some ⟨b, o + i * 2, none⟩) from hr 11 71 rfl rfl)) ⟨hg, trivial, rfl⟩⟩)
                      · exact fun ρ X9 fl hg hn hl hp ho hc hf hr => .inr (.inl ⟨6, 66, true, fun _ => rfl, rfl, hr 6 66 rfl rfl, Runs.val _ (op_load48 (show ρ (.tmp 72) = .pointer (some ⟨b, o + i * 2 + 1, none⟩) from hr 12 72 rfl rfl) (cell_on hg e1)) ⟨hg, trivial, rfl⟩⟩)
                      · exact fun ρ X9 fl hg hn hl hp ho hc hf hr => .inr (.inl ⟨6, 66, true, fun _ => rfl, rfl, hr 6 66 rfl rfl, Runs.val _ (op_move (show ρ (.tmp 6) = .int .i64 (k : Int) from ho 6 rfl)) ⟨hg, trivial, rfl⟩⟩)
                      · exact fun ρ X9 fl hg hn hl hp ho hc hf hr => .inr (.inl ⟨6, 66, true, fun _ => rfl, rfl, hr 6 66 rfl rfl, Runs.val _ (op_less1 (show ρ (.tmp 74) = .int .i64 (k : Int) from hr 14 74 rfl rfl) (hc _) h0 hkM) ⟨hg, trivial, rfl⟩⟩)
                      · exact fun ρ X9 fl hg hn hl hp ho hc hf hr => .inr (.inl ⟨6, 66, true, fun _ => rfl, rfl, hr 6 66 rfl rfl, Runs.val _ (op_i48o (show ρ (.tmp 73) = (.slice (some ⟨vb, vo, none⟩) r.list.length lc) from hr 13 73 rfl rfl) (show ρ (.tmp 75) = .int .i64 ((k - 1 : Nat) : Int) from hr 15 75 rfl rfl) hkm) ⟨hg, trivial, rfl⟩⟩)
                      · exact fun ρ X9 fl hg hn hl hp ho hc hf hr => .inr (.inl ⟨6, 66, true, fun _ => rfl, rfl, hr 6 66 rfl rfl, Runs.val _ (op_f31_0 (show ρ (.tmp 76) = .pointer (some ⟨vb, vo + (k - 1) * 3, none⟩) from hr 16 76 rfl rfl)) ⟨hg, trivial, rfl⟩⟩)
                      · exact fun ρ X9 fl hg hn hl hp ho hc hf hr => .inr (.inl ⟨6, 66, true, fun _ => rfl, rfl, hr 6 66 rfl rfl, Runs.val _ (op_load3 (show ρ (.tmp 77) = .pointer (some ⟨vb, vo + (k - 1) * 3, none⟩) from hr 17 77 rfl rfl) (HPV2.out h0 X9 (HB3.out.trans (hg.mono HB3.out.size)))) ⟨hg, trivial, rfl⟩⟩)
                      · exact fun ρ X9 fl hg hn hl hp ho hc hf hr => .inr (.inl ⟨6, 66, true, fun _ => rfl, rfl, hr 6 66 rfl rfl, Runs.val _ (op_leq3 (show ρ (.tmp 68) = .int .i64 u.ts from hr 8 68 rfl rfl) (show ρ (.tmp 78) = .int .i64 tp from hr 18 78 rfl rfl) hq) ⟨hg, trivial, rfl⟩⟩)
                      · exact fun ρ X9 fl hg hn hl hp ho hc hf hr => .inr (.inl ⟨3, 63, false, fun _ => rfl, rfl, hr 3 63 rfl rfl, Runs.val _ (op_pick (show ρ (.tmp 66) = .bool true from hr 6 66 rfl rfl) (show ρ (.tmp 79) = .bool q from hr 19 79 rfl rfl)) ⟨hg, trivial, rfl⟩⟩)
                      · exact fun ρ X9 fl hg hn hl hp ho hc hf hr => .inl ⟨rfl, Runs.val _ (op_pick (show ρ (.tmp 63) = .bool false from hr 3 63 rfl rfl) (show ρ (.tmp 80) = .bool q from hr 20 80 rfl rfl)) ⟨hg, trivial, rfl⟩⟩
                    case en =>
                      intro a X9 fl hfl hG hs hd ho hr
                      obtain ⟨x, hx, hxt⟩ := act_put hs hd ho
                      have x81 : x 81 = .bool (badV r.list k) := ((hxt 81).symm.trans (hr 21 81 rfl)).trans (by rw [hBV.out])
                      change a = putAll _ x [60, 61, 62, 63, 64, 65, 66, 67, 68, 69, 70, 71, 72, 73, 74, 75, 76, 77, 78, 79, 80, 81] at hx
                      simp only [putAll, Act.put, List.setIfInBounds_toArray, List.set_cons_zero, List.set_cons_succ, x81] at hx
                      have HBX := Lib.hid hG
                      clear hG hs hd ho hr hxt x81
                      subst hx
                      generalize x 60 = z60, x 61 = z61, x 62 = z62, x 63 = z63, x 64 = z64, x 65 = z65, x 66 = z66, x 67 = z67, x 68 = z68, x 69 = z69, x 70 = z70, x 71 = z71, x 72 = z72, x 73 = z73, x 74 = z74, x 75 = z75, x 76 = z76, x 77 = z77, x 78 = z78, x 79 = z79, x 80 = z80
                      go_wp2_with fail
                      go_meet
                      exact ⟨rfl, HBX.out⟩
                  · have hBV : Hid (badV r.list k = false) := by
                      show _ = _
                      rw [hbz h0, ht1]
                    have hk0 : decide ((0 : Int) < (k : Int)) = false := decide_eq_false (by omega)
                    clear hbp hbz
                    refine wp_region_fl (fun _ X9 => Below V3.heap.size V3 X9) (fun _ _ => True) [
                      fun v9 _ => v9 = .pointer (some ⟨Z, 0, none⟩),
                      fun v9 _ => v9 = .int .i64 u.ts,
                      fun v9 _ => v9 = .bool false,
                      fun v9 _ => v9 = .bool false,
                      fun v9 _ => v9 = .int .i64 (k : Int),
                      fun v9 _ => v9 = .bool false,
                      fun v9 _ => v9 = .bool false,
                      fun v9 _ => v9 = undef,
                      fun v9 _ => v9 = undef,
                      fun v9 _ => v9 = undef,
                      fun v9 _ => v9 = undef,
                      fun v9 _ => v9 = undef,
                      fun v9 _ => v9 = undef,
                      fun v9 _ => v9 = undef,
                      fun v9 _ => v9 = undef,
                      fun v9 _ => v9 = undef,
                      fun v9 _ => v9 = undef,
                      fun v9 _ => v9 = undef,
                      fun v9 _ => v9 = undef,
                      fun v9 _ => v9 = undef,
                      fun v9 _ => v9 = .bool false,
                      fun v9 _ => v9 = .bool false]
                      (by kernel_rfl) (by kernel_rfl) (by kernel_rfl) ?st ?g0 ?os ?en
                    case st => exact ⟨fun _ _ _ _ h => h, fun _ _ _ _ h => h, fun _ _ _ _ h => h, fun _ _ _ _ h => h, fun _ _ _ _ h => h, fun _ _ _ _ h => h, fun _ _ _ _ h => h, fun _ _ _ _ h => h, fun _ _ _ _ h => h, fun _ _ _ _ h => h, fun _ _ _ _ h => h, fun _ _ _ _ h => h, fun _ _ _ _ h => h, fun _ _ _ _ h => h, fun _ _ _ _ h => h, fun _ _ _ _ h => h, fun _ _ _ _ h => h, fun _ _ _ _ h => h, fun _ _ _ _ h => h, fun _ _ _ _ h => h, fun _ _ _ _ h => h, fun _ _ _ _ h => h, trivial⟩
                    case g0 => exact ⟨rfl, rfl, rfl, Nat.le_refl _, fun _ _ => rfl⟩
                    case os =>
                      refine ⟨?_, ?_, ?_, ?_, ?_, ?_, ?_, ?_, ?_, ?_, ?_, ?_, ?_, ?_, ?_, ?_, ?_, ?_, ?_, ?_, ?_, ?_, trivial⟩
                      · exact fun ρ X9 fl hg hn hl hp ho hc hf hr => .inl ⟨rfl, Runs.val _ (op_f31_0 (show ρ (.tmp 7) = .pointer (some ⟨Z, 0, none⟩) from ho 7 rfl)) ⟨hg, trivial, rfl⟩⟩
                      · exact fun ρ X9 fl hg hn hl hp ho hc hf hr => .inl ⟨rfl, Runs.val _ (op_load3 (show ρ (.tmp 60) = .pointer (some ⟨Z, 0, none⟩) from hr 0 60 rfl rfl) (cell_on hg s0)) ⟨hg, trivial, rfl⟩⟩
                      · exact fun ρ X9 fl hg hn hl hp ho hc hf hr => .inl ⟨rfl, Runs.val _ (op_lss3 (show ρ (.tmp 61) = .int .i64 u.ts from hr 1 61 rfl rfl) (hc _) ht1) ⟨hg, trivial, rfl⟩⟩
                      · exact fun ρ X9 fl hg hn hl hp ho hc hf hr => .inl ⟨rfl, Runs.val _ (op_move (show ρ (.tmp 62) = .bool false from hr 2 62 rfl rfl)) ⟨hg, trivial, rfl⟩⟩
                      · exact fun ρ X9 fl hg hn hl hp ho hc hf hr => .inr (.inl ⟨3, 63, false, fun _ => rfl, rfl, hr 3 63 rfl rfl, Runs.val _ (op_move (show ρ (.tmp 6) = .int .i64 (k : Int) from ho 6 rfl)) ⟨hg, trivial, rfl⟩⟩)
                      · exact fun ρ X9 fl hg hn hl hp ho hc hf hr => .inr (.inl ⟨3, 63, false, fun _ => rfl, rfl, hr 3 63 rfl rfl, Runs.val _ (op_gtr3 (show ρ (.tmp 64) = .int .i64 (k : Int) from hr 4 64 rfl rfl) (hc _) hk0) ⟨hg, trivial, rfl⟩⟩)
                      · exact fun ρ X9 fl hg hn hl hp ho hc hf hr => .inr (.inl ⟨3, 63, false, fun _ => rfl, rfl, hr 3 63 rfl rfl, Runs.val _ (op_move (show ρ (.tmp 65) = .bool false from hr 5 65 rfl rfl)) ⟨hg, trivial, rfl⟩⟩)
                      · exact fun ρ X9 fl hg hn hl hp ho hc hf hr => .inr (.inr ⟨6, 66, true, fun _ => rfl, rfl, (fun q => by rw [show ρ (.tmp 66) = .bool false from hr 6 66 rfl rfl] at q; cases q), hg, trivial, rfl⟩)
                      · exact fun ρ X9 fl hg hn hl hp ho hc hf hr => .inr (.inr ⟨6, 66, true, fun _ => rfl, rfl, (fun q => by rw [show ρ (.tmp 66) = .bool false from hr 6 66 rfl rfl] at q; cases q), hg, trivial, rfl⟩)
                      · exact fun ρ X9 fl hg hn hl hp ho hc hf hr => .inr (.inr ⟨6, 66, true, fun _ => rfl, rfl, (fun q => by rw [show ρ (.tmp 66) = .bool false from hr 6 66 rfl rfl] at q; cases q), hg, trivial, rfl⟩)
                      · exact fun ρ X9 fl hg hn hl hp ho hc hf hr => .inr (.inr ⟨6, 66, true, fun _ => rfl, rfl, (fun q => by rw [show ρ (.tmp 66) = .bool false from hr 6 66 rfl rfl] at q; cases q), hg, trivial, rfl⟩)
                      · exact fun ρ X9 fl hg hn hl hp ho hc hf hr => .inr (.inr ⟨6, 66, true, fun _ => rfl, rfl, (fun q => by rw [show ρ (.tmp 66) = .bool false from hr 6 66 rfl rfl] at q; cases q), hg, trivial, rfl⟩)
                      · exact fun ρ X9 fl hg hn hl hp ho hc hf hr => .inr (.inr ⟨6, 66, true, fun _ => rfl, rfl, (fun q => by rw [show ρ (.tmp 66) = .bool false from hr 6 66 rfl rfl] at q; cases q), hg, trivial, rfl⟩)
                      · exact fun ρ X9 fl hg hn hl hp ho hc hf hr => .inr (.inr ⟨6, 66, true, fun _ => rfl, rfl, (fun q => by rw [show ρ (.tmp 66) = .bool false from hr 6 66 rfl rfl] at q; cases q), hg, trivial, rfl⟩)
                      · exact fun ρ X9 fl hg hn hl hp ho hc hf hr => .inr (.inr ⟨6, 66, true, fun _ => rfl, rfl, (fun q => by rw [show ρ (.tmp 66) = .bool false from hr 6 66 rfl rfl] at q; cases q), hg, trivial, rfl⟩)
                      · exact fun ρ X9 fl hg hn hl hp ho hc hf hr => .inr (.inr ⟨6, 66, true, fun _ => rfl, rfl, (fun q => by rw [show ρ (.tmp 66) = .bool false from hr 6 66 rfl rfl] at q; cases q), hg, trivial, rfl⟩)
                      · exact fun ρ X9 fl hg hn hl hp ho hc hf hr => .inr (.inr ⟨6, 66, true, fun _ => rfl, rfl, (fun q => by rw [show ρ (.tmp 66) = .bool false from hr 6 66 rfl rfl] at q; cases q), hg, trivial, rfl⟩)
                      · exact fun ρ X9 fl hg hn hl hp ho hc hf hr => .inr (.inr ⟨6, 66, true, fun _ => rfl, rfl, (fun q => by rw [show ρ (.tmp 66) = .bool false from hr 6 66 rfl rfl] at q; cases q), hg, trivial, rfl⟩)
                      · exact fun ρ X9 fl hg hn hl hp ho hc hf hr => .inr (.inr ⟨6, 66, true, fun _ => rfl, rfl, (fun q => by rw [show ρ (.tmp 66) = .bool false from hr 6 66 rfl rfl] at q; cases q), hg, trivial, rfl⟩)
                      · exact fun ρ X9 fl hg hn hl hp ho hc hf hr => .inr (.inr ⟨6, 66, true, fun _ => rfl, rfl, (fun q => by rw [show ρ (.tmp 66) = .bool false from hr 6 66 rfl rfl] at q; cases q), hg, trivial, rfl⟩)
                      · exact fun ρ X9 fl hg hn hl hp ho hc hf hr => .inr (.inl ⟨3, 63, false, fun _ => rfl, rfl, hr 3 63 rfl rfl, Runs.val _ (op_pick (show ρ (.tmp 66) = .bool false from hr 6 66 rfl rfl) (hc _)) ⟨hg, trivial, rfl⟩⟩)
                      · exact fun ρ X9 fl hg hn hl hp ho hc hf hr => .inl ⟨rfl, Runs.val _ (op_pick (show ρ (.tmp 63) = .bool false from hr 3 63 rfl rfl) (show ρ (.tmp 80) = .bool false from hr 20 80 rfl rfl)) ⟨hg, trivial, rfl⟩⟩
                    case en =>
                      intro a X9 fl hfl hG hs hd ho hr
                      obtain ⟨x, hx, hxt⟩ := act_put hs hd ho
                      have x81 : x 81 = .bool (badV r.list k) := ((hxt 81).symm.trans (hr 21 81 rfl)).trans (by rw [hBV.out])
                      change a = putAll _ x [60, 61, 62, 63, 64, 65, 66, 67, 68, 69, 70, 71, 72, 73, 74, 75, 76, 77, 78, 79, 80, 81] at hx
                      simp only [putAll, Act.put, List.setIfInBounds_toArray, List.set_cons_zero, List.set_cons_succ, x81] at hx
                      have HBX := Lib.hid hG
                      clear hG hs hd ho hr hxt x81
                      subst hx
                      generalize x 60 = z60, x 61 = z61, x 62 = z62, x 63 = z63, x 64 = z64, x 65 = z65, x 66 = z66, x 67 = z67, x 68 = z68, x 69 = z69, x 70 = z70, x 71 = z71, x 72 = z72, x 73 = z73, x 74 = z74, x 75 = z75, x 76 = z76, x 77 = z77, x 78 = z78, x 79 = z79, x 80 = z80
                      go_wp2_with fail
                      go_meet
                      exact ⟨rfl, HBX.out⟩
              case rest =>
                obtain ⟨rfl, hbc⟩ := hcut
                obtain ⟨VD, rfl⟩ : ∃ VD, VD = wc := ⟨_, rfl⟩
                have hbVD : Below w.heap.size w VD := HBW.out.trans ((HB3.out.trans (hbc.mono HB3.out.size)).mono HBW.out.size)
                clear hbp hbz
                cases hbv : badV r.list k with
                | true =>
                  have HR : Hid (LoadDNo w L) := fun X hX => ⟨hX, .inr ⟨bad_not hlt (by rw [HBD2.out, badV_not hbv]; rfl), rfl⟩⟩
                  have HBV := Lib.hid hbVD
                  clear hbv hbc hbVD
                  go_wp2
                  refine bodyPost_ret (v := .tuple #[.pointer none, .bool false]) (by simp [results, Try.results21, go_sem]) rfl ?_
                  exact HR.out _ HBV.out
                | false =>
                  have HKN1 : Hid (∀ m, m < k + 1 → badV r.list m = false) := fun m hm => by
                    by_cases e : m = k
                    · rw [e]; exact hbv
                    · exact HKN.out m (by omega)
                  have hbb : Below U1.heap.size U1 VD := HB3.out.trans (hbc.mono HB3.out.size)
                  have hrs := HRS.out.on hbb
                  have hrl : ∀ j, T j → j < U1.heap.size := HRS.out.lt
                  have jZ := (hbc.block Z (blk_lt HJZ.out)).trans HJZ.out
                  have m0 : VD.cell? ⟨Z, 0, none⟩ = some (.int .i64 u.ts) := cell_blk jZ 0
                  have m1 : VD.cell? ⟨Z, 1, none⟩ = some (.string u.val) := cell_blk jZ 1
                  have m2 : VD.cell? ⟨Z, 2, none⟩ = some (.bool u.dead) := cell_blk jZ 2
                  have m3 := cell_on hbVD C0.out
                  obtain ⟨D, hD⟩ : ∃ D, flatOf (L.take i) ++ oneOf r k = D := ⟨_, rfl⟩
                  rw [hD] at hrs
                  have hDl : D.length < 800000 := by
                    rw [← hD, List.length_append]
                    have q1 := oneOf_len r k
                    have q2 := HFL.out
                    omega
                  have HDN : Hid (D ++ [(r.key, u)] = flatOf (L.take i) ++ oneOf r (k + 1)) := by
                    show _ = _
                    rw [HON.out, ← hD, List.append_assoc]
                  obtain ⟨lad, lcap, rfl, z1, z2⟩ := hrs.shape
                  have a0 : VD.cell? ⟨E, 0, none⟩ = some (.slice lad D.length lcap) := cell_blk hrs.ob 0
                  have hT : ∀ j, (Value.slice lad D.length lcap).ownBlock = some j → T j := fun j e => (hrs.mem j).2 (.inr e)
                  have hnE : ¬ (Value.slice lad D.length lcap).ownBlock = some E := fun e => by
                    obtain ⟨cs, t⟩ := own_tag hrs.own E e
                    exact tag_ne t hrs.ob (by decide) rfl
                  have hnZ : ¬ (Value.slice lad D.length lcap).ownBlock = some Z := fun e => by
                    have q1 := hrl Z (hT Z e)
                    have q2 := HZ.out
                    omega
                  have hnb : ¬ (Value.slice lad D.length lcap).ownBlock = some b := fun e => by
                    have := HLO.out b (hT b e)
                    omega
                  have HOW := Lib.hid hrs.own
                  have HOB := Lib.hid hrs.ob
                  have HRD := Lib.hid hrs
                  have HBVD := Lib.hid hbVD
                  clear hbv hbc hbVD hbb hrs hrl jZ hD z1 z2 hT HRS HKN HON HBD HFL
                  go_upto_region 13 with fail
                  refine wp_region_once 13 (fun d X9 => Fr VD X9 (fun j => (Value.slice lad D.length lcap).ownBlock = some j) ∧ (d = false → Below VD.heap.size VD X9)) (fun X9 X' => Below X9.heap.size X9 X') (fun X9 X' => Fr X9 X' (fun j => (Value.slice lad D.length lcap).ownBlock = some j)) [
                    fun v9 _ => v9 = .pointer (some ⟨E, 0, none⟩),
                    fun v9 _ => v9 = .pointer (some ⟨E, 0, none⟩),
                    fun v9 _ => v9 = .pointer (some ⟨E, 0, none⟩),
                    fun v9 _ => v9 = .pointer (some ⟨E, 0, none⟩),
                    fun v9 _ => v9 = (.slice lad D.length lcap),
                    fun v9 _ => v9 = (.slice (some ⟨b, o, none⟩) L.length cap),
                    fun v9 _ => v9 = .int .i64 (i : Int),
                    fun v9 _ => v9 = .pointer (some ⟨b, o + i * 2, none⟩),
                    fun v9 _ => v9 = .pointer (some ⟨b, o + i * 2, none⟩),
                    fun v9 _ => v9 = .string r.key,
                    fun v9 _ => v9 = .agg #[.int .i64 u.ts, .string u.val, .bool u.dead],
                    fun v9 _ => v9 = .agg #[.string r.key, .int .i64 u.ts, .string u.val, .bool u.dead],
                    fun v9 X9 => ∃ Z1, v9 = lv1 Z1 ∧ VD.heap.size ≤ Z1 ∧ X9.heap[Z1]? = some (.cells #[.string r.key, .int .i64 u.ts, .string u.val, .bool u.dead] 70 (0, 0)),
                    fun v9 X9 => ∃ ad9 cap9, v9 = .slice ad9 (D.length + 1) cap9 ∧ X9.ownsRow 0 70 4 v9 (D.length + 1) (onC (D ++ [(r.key, u)])) ∧ (∀ j, (v9).ownBlock = some j → (Value.slice lad D.length lcap).ownBlock = some j ∨ VD.heap.size ≤ j) ∧ Fr VD X9 (fun j => (Value.slice lad D.length lcap).ownBlock = some j),
                    fun v9 _ => v9 = .pointer (some ⟨E, 0, none⟩),
                    fun v9 _ => v9 = .pointer (some ⟨E, 0, none⟩)]
                    (fun _ X8 => ∃ ad9 cap9 X9, X8 = X9.setCell ⟨E, 0, none⟩ (.slice ad9 (D.length + 1) cap9) ∧ X9.ownsRow 0 70 4 (.slice ad9 (D.length + 1) cap9) (D.length + 1) (onC (D ++ [(r.key, u)])) ∧ (∀ j, (Value.slice ad9 (D.length + 1) cap9).ownBlock = some j → (Value.slice lad D.length lcap).ownBlock = some j ∨ VD.heap.size ≤ j) ∧ Fr VD X9 (fun j => (Value.slice lad D.length lcap).ownBlock = some j)) rfl (by kernel_rfl) (by kernel_rfl) (by kernel_rfl) (by kernel_rfl) ?st ?stm ?g0 (by decide) ?os ?la ?en
                  case st => exact ⟨fun _ _ _ _ h => h, fun _ _ _ _ h => h, fun _ _ _ _ h => h, fun _ _ _ _ h => h, fun _ _ _ _ h => h, fun _ _ _ _ h => h, fun _ _ _ _ h => h, fun _ _ _ _ h => h, fun _ _ _ _ h => h, fun _ _ _ _ h => h, fun _ _ _ _ h => h, fun _ _ _ _ h => h, fun _ _ _ hs ⟨Z1, e, z1, z2⟩ => ⟨Z1, e, z1, (hs.block _ (blk_lt z2)).trans z2⟩, fun _ _ _ hs ⟨x1, x2, e, o1, o2, o3⟩ => ⟨x1, x2, e, own_below o1 hs, o2, o3.below hs⟩, fun _ _ _ _ h => h, fun _ _ _ _ h => h, trivial⟩
                  case stm => exact ⟨fun _ _ _ _ h => h, fun _ _ _ _ h => h, fun _ _ _ _ h => h, fun _ _ _ _ h => h, fun _ _ _ _ h => h, fun _ _ _ _ h => h, fun _ _ _ _ h => h, fun _ _ _ _ h => h, fun _ _ _ _ h => h, fun _ _ _ _ h => h, fun _ _ _ _ h => h, fun _ _ _ _ h => h, fun _ _ _ hs ⟨Z1, e, z1, z2⟩ => ⟨Z1, e, z1, (hs.block _ (blk_lt z2) (fun e => by have z9 := (HOW.out.lt _ e).2; omega)).trans z2⟩, fun _ _ _ _ h => h, fun _ _ _ _ h => h, fun _ _ _ _ h => h, trivial⟩
                  case g0 => exact ⟨⟨rfl, rfl, rfl, Nat.le_refl _, fun _ _ _ => rfl⟩, fun _ => ⟨rfl, rfl, rfl, Nat.le_refl _, fun _ _ => rfl⟩⟩
                  case os =>
                    refine ⟨?_, ?_, ?_, ?_, ?_, ?_, ?_, ?_, ?_, ?_, ?_, ?_, ?_, ?_, ?_, ?_, trivial⟩
                    · exact ⟨rfl, fun _ ρ X9 d hg ho hc hf hr => Runs.val _ (op_move (show ρ (.tmp 4) = .pointer (some ⟨E, 0, none⟩) from ho 4 rfl)) ⟨hg, Below.refl _ _, rfl⟩, fun e => absurd e (by decide)⟩
                    · exact ⟨rfl, fun _ ρ X9 d hg ho hc hf hr => Runs.val _ (op_move (show ρ (.tmp 4) = .pointer (some ⟨E, 0, none⟩) from ho 4 rfl)) ⟨hg, Below.refl _ _, rfl⟩, fun e => absurd e (by decide)⟩
                    · exact ⟨rfl, fun _ ρ X9 d hg ho hc hf hr => Runs.val _ (op_nil (show ρ (.tmp 83) = .pointer (some ⟨E, 0, none⟩) from hr 1 83 rfl rfl)) ⟨hg, Below.refl _ _, rfl⟩, fun e => absurd e (by decide)⟩
                    · exact ⟨rfl, fun _ ρ X9 d hg ho hc hf hr => Runs.val _ (op_f29_0 (show ρ (.tmp 84) = .pointer (some ⟨E, 0, none⟩) from hr 2 84 rfl rfl)) ⟨hg, Below.refl _ _, rfl⟩, fun e => absurd e (by decide)⟩
                    · exact ⟨rfl, fun _ ρ X9 d hg ho hc hf hr => Runs.val _ (op_load27 (show ρ (.tmp 85) = .pointer (some ⟨E, 0, none⟩) from hr 3 85 rfl rfl) (cell_fr hg.1 hnE a0)) ⟨hg, Below.refl _ _, rfl⟩, fun e => absurd e (by decide)⟩
                    · exact ⟨rfl, fun _ ρ X9 d hg ho hc hf hr => Runs.val _ (op_move (show ρ (.tmp 0) = (.slice (some ⟨b, o, none⟩) L.length cap) from ho 0 rfl)) ⟨hg, Below.refl _ _, rfl⟩, fun e => absurd e (by decide)⟩
                    · exact ⟨rfl, fun _ ρ X9 d hg ho hc hf hr => Runs.val _ (op_move (show ρ (.tmp 5) = .int .i64 (i : Int) from ho 5 rfl)) ⟨hg, Below.refl _ _, rfl⟩, fun e => absurd e (by decide)⟩
                    · exact ⟨rfl, fun _ ρ X9 d hg ho hc hf hr => Runs.val _ (op_i45o (show ρ (.tmp 87) = (.slice (some ⟨b, o, none⟩) L.length cap) from hr 5 87 rfl rfl) (show ρ (.tmp 88) = .int .i64 (i : Int) from hr 6 88 rfl rfl) hlt) ⟨hg, Below.refl _ _, rfl⟩, fun e => absurd e (by decide)⟩
                    · exact ⟨rfl, fun _ ρ X9 d hg ho hc hf hr => Runs.val _ (op_f50_0 (show ρ (.tmp 89) = .pointer (some ⟨b, o + i * 2, none⟩) from hr 7 89 rfl rfl)) ⟨hg, Below.refl _ _, rfl⟩, fun e => absurd e (by decide)⟩
                    · exact ⟨rfl, fun _ ρ X9 d hg ho hc hf hr => Runs.val _ (op_load9 (show ρ (.tmp 90) = .pointer (some ⟨b, o + i * 2, none⟩) from hr 8 90 rfl rfl) (cell_fr hg.1 hnb m3)) ⟨hg, Below.refl _ _, rfl⟩, fun e => absurd e (by decide)⟩
                    · exact ⟨rfl, fun _ ρ X9 d hg ho hc hf hr => Runs.val _ (op_load31 (show ρ (.tmp 7) = .pointer (some ⟨Z, 0, none⟩) from ho 7 rfl) (cell_fr hg.1 hnZ m0) (cell_fr hg.1 hnZ m1) (cell_fr hg.1 hnZ m2)) ⟨hg, Below.refl _ _, rfl⟩, fun e => absurd e (by decide)⟩
                    · exact ⟨rfl, fun _ ρ X9 d hg ho hc hf hr => Runs.val _ (op_b70 (show ρ (.tmp 91) = .string r.key from hr 9 91 rfl rfl) (show ρ (.tmp 92) = .agg #[.int .i64 u.ts, .string u.val, .bool u.dead] from hr 10 92 rfl rfl)) ⟨hg, Below.refl _ _, rfl⟩, fun e => absurd e (by decide)⟩
                    · refine ⟨rfl, fun _ ρ X9 d hg ho hc hf hr => ?_, fun e => absurd e (by decide)⟩
                      have hb7 : Below X9.heap.size X9 (X9.alloc (.cells #[.string r.key, .int .i64 u.ts, .string u.val, .bool u.dead] 70)) := (Below.refl _ X9).alloc (Nat.le_refl _) _
                      exact Runs.val _ (op_s27 (show ρ (.tmp 93) = .agg #[.string r.key, .int .i64 u.ts, .string u.val, .bool u.dead] from hr 11 93 rfl rfl)) ⟨⟨hg.1.below hb7, fun z => (hg.2 z).trans (hb7.mono (hg.2 z).size)⟩, hb7, X9.heap.size, rfl, hg.1.size, heap_alloc_new X9 _⟩
                    · refine ⟨rfl, fun e => absurd rfl e, fun _ ρ X9 hg ho hc hf hr => ?_⟩
                      obtain ⟨Z1, e, z1, z2⟩ : ∃ Z1, (ρ (.tmp 94)) = lv1 Z1 ∧ VD.heap.size ≤ Z1 ∧ X9.heap[Z1]? = some (.cells #[.string r.key, .int .i64 u.ts, .string u.val, .bool u.dead] 70 (0, 0)) := hr 12 94 rfl rfl
                      have hbX := hg.2 rfl
                      obtain ⟨ad9, cap9, w9, hrun, o9, g9, t9⟩ := run_on (m := 1) (c := 1) (news := onC [(r.key, u)]) (own_below HOW.out hbX) (Nat.zero_le _) (.inr ⟨⟨Z1, 0, none⟩, rfl, rfl, fun j u hu => by
                        rw [add_at, Nat.zero_add, cell_blk z2]
                        simpa [onC] using hu⟩) (onC_one _) (by omega)
                      have f9 : Fr X9 w9 (fun j => (Value.slice lad D.length lcap).ownBlock = some j) := Fr.grown (Fr.refl X9 _) g9 (fun j hj => .inl hj)
                      exact Runs.val _ (op_append27 (show ρ (.tmp 86) = (.slice lad D.length lcap) from hr 4 86 rfl rfl) e hrun) ⟨⟨hg.1.trans f9, fun z => by cases z⟩, f9, ad9, cap9, rfl, by rw [onC_append]; exact o9, fun j e => (by
                        rcases t9 with t9 | t9
                        · rw [t9] at e; exact .inl e
                        · rw [t9] at e; cases e; exact .inr hbX.size), hg.1.trans f9⟩
                    · exact ⟨rfl, fun _ ρ X9 d hg ho hc hf hr => Runs.val _ (op_nil (show ρ (.tmp 82) = .pointer (some ⟨E, 0, none⟩) from hr 0 82 rfl rfl)) ⟨hg, Below.refl _ _, rfl⟩, fun e => absurd e (by decide)⟩
                    · exact ⟨rfl, fun _ ρ X9 d hg ho hc hf hr => Runs.val _ (op_f29_0 (show ρ (.tmp 96) = .pointer (some ⟨E, 0, none⟩) from hr 14 96 rfl rfl)) ⟨hg, Below.refl _ _, rfl⟩, fun e => absurd e (by decide)⟩
                  case la =>
                    refine ⟨rfl, fun ρ X9 hg ho hc hf hr => ?_⟩
                    obtain ⟨ad9, cap9, e, o1, o2, o3⟩ : ∃ ad9 cap9, (ρ (.tmp 95)) = .slice ad9 (D.length + 1) cap9 ∧ X9.ownsRow 0 70 4 (ρ (.tmp 95)) (D.length + 1) (onC (D ++ [(r.key, u)])) ∧ (∀ j, ((ρ (.tmp 95))).ownBlock = some j → (Value.slice lad D.length lcap).ownBlock = some j ∨ VD.heap.size ≤ j) ∧ Fr VD X9 (fun j => (Value.slice lad D.length lcap).ownBlock = some j) := hr 13 95 (by decide) rfl
                    rw [e] at o1 o2
                    have hA9 := (o3.block E (blk_lt HOB.out) hnE).trans HOB.out
                    exact Runs.skips (op_store27 (show ρ (.tmp 97) = .pointer (some ⟨E, 0, none⟩) from hr 15 97 (by decide) rfl) e (cell_blk hA9 0) (frozen_blk hA9 0)) ⟨ad9, cap9, X9, rfl, o1, o2, o3⟩
                  case en =>
                    intro a X9 Xb v9 hF hs hd ho hv9 hr
                    obtain ⟨x, hx, hxt⟩ := act_put hs hd ho
                    change a = putAll _ x [82, 83, 84, 85, 86, 87, 88, 89, 90, 91, 92, 93, 94, 95, 96, 97] at hx
                    simp only [putAll, Act.put, List.setIfInBounds_toArray, List.set_cons_zero, List.set_cons_succ] at hx
                    obtain ⟨ad9, cap9, X8, rfl, o1, o2, o3⟩ := hF
                    obtain ⟨q1, q2, q3⟩ := HRD.out.add o3 o1 o2
                    have HA : Hid (DK w (flatOf (L.take i)) r E (X8.setCell ⟨E, 0, none⟩ (.slice ad9 (D.length + 1) cap9)) (.int .i64 ((k + 1 : Nat) : Int))) := by
                      refine ⟨k + 1, _, .slice ad9 (D.length + 1) cap9, hlk, rfl, HKN1.out, ?_, fun j q => gro_fresh HLO.out HBVD.out.size j (q2 j q), fr_below HLO.out HBVD.out q3⟩
                      rw [← HDN.out]
                      exact q1
                    clear hs hd ho hr hv9 hxt o1 o2 o3 q1 q2 q3
                    subst hx
                    go_wp2
                    go_roundw
                    case rel => exact HA.out
                    case measure => simp [intOf]; omega
            · have j1 : ¬ ((k : Int) < r.list.length) := by omega
              have hmay : mayB r.list = true := badV_all hne (fun m hm => hgv m (by omega))
              have HNX : Hid (DJ w L E U1 (.int .i64 ((i + 1 : Nat) : Int))) := by
                refine ⟨i + 1, T, lv0, hlt, rfl, good_next HG.out (by rw [HBD2.out, hmay]; rfl), ?_, HLO.out, HBW.out⟩
                rw [HFN.out, ← oneOf_all (r := r) (k := k) (by omega)]
                exact hrs
              clear hmay hrs hlo hbw hgv hvc
              go_wp2
              go_roundw
              case rel => exact HNX.out
              case measure => simp [intOf]; omega
    · have k1 : ¬ ((i : Int) < L.length) := by omega
      have e : i = L.length := by omega
      have hok : Okr L := good_ok (by rw [← e]; exact HG.out)
      have HA : Hid (LoadDAns w L (.returned (.tuple #[.pointer (some ⟨E, 0, none⟩), .bool true])) V) := by
        refine ⟨HB.out, .inl ⟨hok, E, T, lv0, rfl, ?_, HLO.out⟩⟩
        have e2 : L.take i = L := by rw [e, List.take_length]
        rw [e2] at hrs
        exact hrs
      clear hb hgood e hok hrs hlo
      go_wp2
      refine bodyPost_ret (v := .tuple #[.pointer (some ⟨E, 0, none⟩), .bool true]) (by simp [results, Try.results21, go_sem]) rfl ?_
      exact HA.out
end
end Go.Proofs.Ythjnfkgheihgkaa
