/- Hits in memory of their own; the walk of Span. -/
import Derived.Test.YtcoaahlakkghhaaVj
namespace Go.Proofs.Ytcoaahlakkghhaa
open Go.RowKit

theorem span_stop {R : List Rw} (hs : Sorted R) {x y : ByteArray} {t : Int} {p j : Nat} (hp : place R x = p) (h1 : ∀ i (h : i < R.length), p ≤ i → i < p + j → cb R[i].key y < 0) (h2 : ∀ h : p + j < R.length, ¬ cb R[p + j].key y < 0) : span R x y t = ((R.drop p).take j).filterMap (hit t) := by
  unfold span
  have e0 : R = R.take p ++ ((R.drop p).take j ++ (R.drop p).drop j) := by rw [List.take_append_drop, List.take_append_drop]
  have a1 : (R.take p).filter (fun r => inSpan x y r.key) = [] := by
    refine List.filter_eq_nil_iff.2 (fun r hr => ?_)
    obtain ⟨i, hi, e⟩ := List.getElem_of_mem hr
    rw [List.length_take] at hi
    rw [List.getElem_take] at e
    have := place_lt (R := R) (k := x) (i := i) (by omega) (by omega)
    rw [e] at this
    have := cb_turn r.key x
    unfold inSpan
    simp only [Bool.and_eq_true, decide_eq_true_eq]
    omega
  have a2 : ((R.drop p).take j).filter (fun r => inSpan x y r.key) = (R.drop p).take j := by
    refine List.filter_eq_self.2 (fun r hr => ?_)
    obtain ⟨i, hi, e⟩ := List.getElem_of_mem hr
    rw [List.length_take, List.length_drop] at hi
    rw [List.getElem_take, List.getElem_drop] at e
    have q1 := place_ge (R := R) (k := x) hs (i := p + i) (by omega) (by omega)
    have q2 := h1 (p + i) (by omega) (by omega) (by omega)
    rw [e] at q1 q2
    have := cb_turn r.key x
    unfold inSpan
    simp only [Bool.and_eq_true, decide_eq_true_eq]
    omega
  have a3 : ((R.drop p).drop j).filter (fun r => inSpan x y r.key) = [] := by
    refine List.filter_eq_nil_iff.2 (fun r hr => ?_)
    obtain ⟨i, hi, e⟩ := List.getElem_of_mem hr
    rw [List.drop_drop] at hi
    rw [List.length_drop] at hi
    simp only [List.drop_drop, List.getElem_drop] at e
    have q0 := h2 (by omega)
    have q1 : ¬ cb R[p + j + i].key y < 0 := by
      by_cases z : i = 0
      · subst z
        exact q0
      · have q3 := List.pairwise_iff_getElem.1 hs (p + j) (p + j + i) (by omega) (by omega) (by omega)
        intro q
        exact q0 (cb_lt q3 (by omega))
    rw [e] at q1
    unfold inSpan
    simp only [Bool.and_eq_true, decide_eq_true_eq]
    omega
  rw [e0, List.filter_append, List.filter_append, ← e0, a1, a2, a3, List.nil_append, List.append_nil]
def hitO (k : ByteArray) : Option Ve → Option Hi
  | some v => if v.dead then none else some ⟨k, v.ts, v.val⟩
  | none => none
theorem hit_is (t : Int) (r : Rw) : hit t r = hitO r.key (tops r.list t) := by
  unfold hit hitO
  cases tops r.list t <;> rfl
def hiC (H : List Hi) : List Value := H.flatMap fun h => [.string h.key, .int .i64 h.ts, .string h.val]
theorem hiC_append (a b : List Hi) : hiC (a ++ b) = hiC a ++ hiC b := by simp [hiC]
theorem hiC_len (H : List Hi) : (hiC H).length = H.length * 3 := by
  induction H with
  | nil => rfl
  | cons p P ih =>
    have e : hiC (p :: P) = hiC [p] ++ hiC P := by simp [hiC]
    rw [e, List.length_append, ih]
    simp [hiC]
    omega
theorem hiC_get (H : List Hi) : ∀ (k : Nat) (h : k < H.length), (hiC H)[k * 3]? = some (.string H[k].key) ∧ (hiC H)[k * 3 + 1]? = some (.int .i64 H[k].ts) ∧ (hiC H)[k * 3 + 2]? = some (.string H[k].val) := by
  induction H with
  | nil => intro k h; simp at h
  | cons p P ih =>
    intro k h
    have e0 : hiC (p :: P) = .string p.key :: .int .i64 p.ts :: .string p.val :: hiC P := by simp [hiC]
    rw [e0]
    cases k with
    | zero => simp
    | succ k =>
      have := ih k (by simpa using h)
      have e : (k + 1) * 3 = k * 3 + 3 := by omega
      rw [e]
      simpa using this
theorem hiC_one (H : List Hi) : ∀ u ∈ hiC H, u.oneCell' = true := by
  intro u hu
  obtain ⟨f, _, hf⟩ := List.mem_flatMap.1 hu
  simp at hf
  rcases hf with rfl | rfl | rfl <;> rfl
section
variable {ρ : Operand → Value} {X : World} {d : Option Tmp} {ty : TypeId} {ps : String} {af : Array Edge} {g : Option (Nat × Bool)}
theorem op_f57_0 {x : Operand} {B o : Nat} (e : ρ x = .pointer (some ⟨B, o, none⟩)) : (execOp ρ ⟨d, .fieldAddr 57 x 0, ty, ps, af, g⟩).run Try.prog X = .ok (.value (.pointer (some ⟨B, o, none⟩))) X := by
  simp only [execOp, e]
  go_simp
theorem op_len114 {x : Operand} {a : Option Addr} {n m : Nat} (e : ρ x = .slice a n m) : (execOp ρ ⟨d, .call { callee := .builtin .len, args := #[x], argTypes := #[114] }, 3, ps, af, g⟩).run Try.prog X = .ok (.value (.int .i64 (n : Int))) X := by
  simp only [execOp]
  simp [resolve, invoke, builtin, e]
  go_simp
theorem op_slice114 {x y : Operand} {v1 v2 v' : Value} (hx : ρ x = v1) (hy : ρ y = v2) (hrun : ∀ X : World, (Instr.sliceAt 114 v1 (some v2) none none).run Try.prog X = .ok v' X) : (execOp ρ ⟨d, .slice 114 x (some y) none none, ty, ps, af, g⟩).run Try.prog X = .ok (.value v') X := by
  simp only [execOp, Option.map_some, Option.map_none, hx, hy, Sem.run_bind, hrun, Result.andThen_ok, Sem.run_pure]
theorem op_call2 {f : FuncId} {x0 x1 : Operand} {v0 v1 : Value} {at' : Array TypeId} (hf : ∀ f, ρ (.func f) = .func (.func f) #[] #[]) (hc : Sem.run Try.prog (callFunc f #[v0, v1]) X = .ok (.enter f #[v0, v1]) X) (e0 : ρ x0 = v0) (e1 : ρ x1 = v1) : (execOp ρ ⟨d, .call { callee := .value (.func f), args := #[x0, x1], argTypes := at' }, ty, ps, af, g⟩).run Try.prog X = .ok (.enter f #[v0, v1]) X := by
  simp only [execOp]
  simp [resolve, hf, e0, e1, Deferred.ofValue, invoke, hc]
theorem call80 {v u : Value} : Sem.run Try.prog (callFunc 80 #[v, u]) X = .ok (.enter 80 #[v, u]) X := by go_simp
end
section
variable {w w' W V : World} {A : Nat} {S T : Nat → Prop} {G : List Gw} {rv : Value} {R : List Rw} {B : Nat} {H : List Hi} {v : Value}
/-- rows[p:] -/
theorem rows_drop (h : Sv w A S G rv) {ad : Option Addr} {cap p : Nat} (e : rv = .slice ad G.length cap) (hp : p ≤ G.length) : ∃ ad' cap', (∀ X : World, (Instr.sliceAt 114 (.slice ad G.length cap) (some (.int .i64 (p : Int))) none none).run Try.prog X = .ok (.slice ad' (G.length - p) cap') X) ∧ G.length - p ≤ cap' ∧ cap' ≤ maxLen ∧
    (p < G.length → ∃ g, ad = some ⟨g, 0, none⟩ ∧ ad' = some ⟨g, p, none⟩) := by
  obtain ⟨ad0, cap0, e0, hlc, hcm, hnil⟩ := h.shape
  rw [e] at e0
  cases e0
  have hm : (cap : Int) ≤ 9223372036854775807 := by unfold maxLen at hcm; omega
  have i0 : (0 : Int) ≤ (p : Int) := by omega
  have i1 : (p : Int) ≤ (G.length : Int) := by omega
  have i2 : p ≤ cap := by omega
  have i3 : (p : Int) ≤ (cap : Int) := by omega
  have i4 : (G.length : Int) ≤ (cap : Int) := by omega
  rcases h.rows.2 with ⟨hv, h0⟩ | ⟨g, cap', cur, hv, hg, hc, h1, h2, hr⟩
  · rw [e] at hv
    simp only [Value.slice.injEq] at hv
    obtain ⟨rfl, _, rfl⟩ := hv
    have hp0 : p = 0 := by omega
    subst hp0
    refine ⟨none, 0, fun X => ?_, by omega, Nat.zero_le _, fun q => by omega⟩
    rw [h0]
    go_simp
  · rw [e] at hv
    cases hv
    by_cases hpc : cap = p
    · have hpl : p = G.length := by omega
      refine ⟨some ⟨g, 0, none⟩, 0, fun X => ?_, by omega, Nat.zero_le _, fun q => by omega⟩
      have z1 : G.length - p = 0 := by omega
      rw [z1, hpc, ← hpl]
      go_simp
    · refine ⟨some ((⟨g, 0, none⟩ : Addr).add p), cap - p, fun X => ?_, by omega, by omega, fun q => ⟨g, rfl, by rw [add_at, Nat.zero_add]⟩⟩
      have z2 : ¬ cap = p := hpc
      go_simp
/-- One hit more. -/
theorem hits_snoc (h : w.ownsRow B 80 3 v H.length (hiC H)) (hB : B ≤ w.heap.size) {x : Hi} {Y : Nat} (hY : w.heap[Y]? = some (.cells #[.string x.key, .int .i64 x.ts, .string x.val] 80 (0, 0))) (hf : H.length < 900000) :
    ∃ ad cap w', (Builtin.append_ #[77, 77] 77 #[v, .slice (some ⟨Y, 0, none⟩) 1 1]).run Try.prog w = .ok (.slice ad (H.length + 1) cap) w' ∧ w'.ownsRow B 80 3 (.slice ad (H.length + 1) cap) (H ++ [x]).length (hiC (H ++ [x])) ∧ Fr w w' (fun k => v.ownBlock = some k) := by
  obtain ⟨ad, cap, w', hrun, ho, hg, hat⟩ := run_hi (m := 1) (c := 1) (news := hiC [x]) h hB (.inr ⟨⟨Y, 0, none⟩, rfl, rfl, fun j u hu => by
    rw [add_at, Nat.zero_add, cell_blk hY]
    simpa [hiC] using hu⟩) (hiC_one _) (by omega)
  exact ⟨ad, cap, w', hrun, by rw [List.length_append, hiC_append]; exact ho, Fr.grown (Fr.refl w _) hg (fun k hk => .inl hk)⟩
def HJ (R : List Rw) (w wr : World) (p : Nat) (y : ByteArray) (t : Int) (Y : Nat) (x : ByteArray) (n : Nat) (lv iv : Value) : Prop := ∃ (j : Nat) (H : List Hi), j ≤ n ∧ iv = .int .i64 (j : Int) ∧ H = ((R.drop p).take j).filterMap (hit t) ∧ wr.ownsRow (Y + 1) 80 3 lv H.length (hiC H) ∧ wr.heap[Y]? = some (.cells #[.string x, .string y] 57 (0, 0)) ∧ (∀ i (h : i < R.length), p ≤ i → i < p + j → cb R[i].key y < 0) ∧ Below w.heap.size w wr ∧ Y + 1 ≤ wr.heap.size
def SpanAns (w : World) (H : List Hi) (e : Ending) (w' : World) : Prop := ∃ ad cap, e = .returned (.slice ad H.length cap) ∧ w'.ownsRow w.heap.size 80 3 (.slice ad H.length cap) H.length (hiC H) ∧ Below w.heap.size w w'
theorem hit_take {R : List Rw} {p j : Nat} {t : Int} (h : p + j < R.length) : ((R.drop p).take (j + 1)).filterMap (hit t) = ((R.drop p).take j).filterMap (hit t) ++ (match hit t R[p + j] with | some x => [x] | none => []) := by
  rw [List.take_add_one, List.filterMap_append, List.getElem?_drop, List.getElem?_eq_getElem h]
  congr 1
  cases hq : hit t R[p + j] <;> simp [hq]
set_option maxHeartbeats 8000000 in
set_option maxRecDepth 100000 in
theorem span_any (h : Sv w A S G rv) (x y : ByteArray) (t : Int) : Calls Try.prog 49 #[.pointer (some ⟨A, 0, none⟩), .agg #[.string x, .string y], .int .i64 t] w fun e w' => SpanAns w (span (G.map Gw.r) x y t) e w' := by
  obtain ⟨W, hW⟩ : ∃ W, W = w.alloc (.cells #[.string x, .string y] 57) := ⟨_, rfl⟩
  have hb : Below w.heap.size w W := by rw [hW]; exact (Below.refl _ w).alloc (Nat.le_refl _) _
  obtain ⟨Y, hY⟩ : ∃ Y, w.heap.size = Y := ⟨_, rfl⟩
  have jY : W.heap[Y]? = some (.cells #[.string x, .string y] 57 (0, 0)) := by rw [hW, ← hY]; exact heap_alloc_new w _
  have hv := h.on hb
  obtain ⟨ad, cap, hrv, hc1, hc2, _⟩ := hv.shape
  have hpl := place_le (G.map Gw.r) x
  rw [List.length_map] at hpl
  have hpp := fun V (hV : Below W.heap.size W V) => place_any (hv.on hV) x
  obtain ⟨p, hp⟩ : ∃ p, place (G.map Gw.r) x = p := ⟨_, rfl⟩
  rw [hp] at hpl hpp
  obtain ⟨ad', cap', hsl, hsl1, hsl2, hsl3⟩ := rows_drop hv hrv hpl
  have a0 : W.cell? ⟨A, 0, none⟩ = some (.slice ad G.length cap) := by rw [← hrv]; exact cell_blk hv.ob 0
  have y0 : W.cell? ⟨Y, 0, none⟩ = some (.string x) := cell_blk jY 0
  have hfew := h.few
  have hmc : (cap' : Int) ≤ 9223372036854775807 := by unfold maxLen at hsl2; omega
  have hnl : ((G.length - p : Nat) : Int) ≤ 9223372036854775807 := by omega
  have hYl := blk_lt jY
  have HH := Lib.hid h
  have HW := Lib.hid hW
  have HB := Lib.hid hb
  have HYY := Lib.hid hY
  have HJY := Lib.hid jY
  have HPP := Lib.hid hpp
  have HP := Lib.hid hp
  have HS3 := Lib.hid hsl3
  have HRV := Lib.hid hrv
  obtain ⟨n, hn⟩ : ∃ n, G.length - p = n := ⟨_, rfl⟩
  rw [hn] at hsl hnl hsl1
  have HN := Lib.hid hn
  clear hv h hW hb hY jY hpp hp hsl3 hrv hn
  go_enter Try.func49, Try.ntmps49
  go_upto_region 1 with fail
  rw [← HW.out, HYY.out]
  go_upto_region 4 with fail
  refine wp_region_kept (fun X9 => Below W.heap.size W X9) (fun X9 X' => Below X9.heap.size X9 X') [
    fun v _ => v = .pointer (some ⟨A, 0, none⟩),
    fun v _ => v = .pointer (some ⟨A, 0, none⟩),
    fun v _ => v = .pointer (some ⟨A, 0, none⟩),
    fun v _ => v = .slice ad G.length cap,
    fun v _ => v = .pointer (some ⟨A, 0, none⟩),
    fun v _ => v = .pointer (some ⟨Y, 0, none⟩),
    fun v _ => v = .string x,
    fun v _ => v = .int .i64 (p : Int),
    fun v _ => v = .slice ad' n cap',
    fun v _ => v = .int .i64 (n : Int),
    fun v _ => v = .int .i64 0]
    (by kernel_rfl) (by kernel_rfl) (by kernel_rfl) ?st ?g0 ?os ?en
  case st => exact ⟨fun _ _ _ _ h => h, fun _ _ _ _ h => h, fun _ _ _ _ h => h, fun _ _ _ _ h => h, fun _ _ _ _ h => h, fun _ _ _ _ h => h, fun _ _ _ _ h => h, fun _ _ _ _ h => h, fun _ _ _ _ h => h, fun _ _ _ _ h => h, fun _ _ _ _ h => h, trivial⟩
  case g0 => exact ⟨rfl, rfl, rfl, Nat.le_refl _, fun _ _ => rfl⟩
  case os =>
    refine ⟨?_, ?_, ?_, ?_, ?_, ?_, ?_, ?_, ?_, ?_, ?_, trivial⟩
    · exact ⟨rfl, fun ρ X9 hg ho hc hf hr => Runs.val _ (op_move (show ρ (.tmp 0) = .pointer (some ⟨A, 0, none⟩) from ho 0 rfl)) ⟨hg, Below.refl _ _, rfl⟩⟩
    · exact ⟨rfl, fun ρ X9 hg ho hc hf hr => Runs.val _ (op_nil (show ρ (.tmp 14) = .pointer (some ⟨A, 0, none⟩) from hr 0 14 rfl rfl)) ⟨hg, Below.refl _ _, rfl⟩⟩
    · exact ⟨rfl, fun ρ X9 hg ho hc hf hr => Runs.val _ (op_f116_0 (show ρ (.tmp 15) = .pointer (some ⟨A, 0, none⟩) from hr 1 15 rfl rfl)) ⟨hg, Below.refl _ _, rfl⟩⟩
    · exact ⟨rfl, fun ρ X9 hg ho hc hf hr => Runs.val _ (op_load114 (show ρ (.tmp 16) = .pointer (some ⟨A, 0, none⟩) from hr 2 16 rfl rfl) (cell_on hg a0)) ⟨hg, Below.refl _ _, rfl⟩⟩
    · exact ⟨rfl, fun ρ X9 hg ho hc hf hr => Runs.val _ (op_move (show ρ (.tmp 0) = .pointer (some ⟨A, 0, none⟩) from ho 0 rfl)) ⟨hg, Below.refl _ _, rfl⟩⟩
    · exact ⟨rfl, fun ρ X9 hg ho hc hf hr => Runs.val _ (op_f57_0 (show ρ (.tmp 4) = .pointer (some ⟨Y, 0, none⟩) from ho 4 rfl)) ⟨hg, Below.refl _ _, rfl⟩⟩
    · exact ⟨rfl, fun ρ X9 hg ho hc hf hr => Runs.val _ (op_load9 (show ρ (.tmp 19) = .pointer (some ⟨Y, 0, none⟩) from hr 5 19 rfl rfl) (cell_on hg y0)) ⟨hg, Below.refl _ _, rfl⟩⟩
    · refine ⟨rfl, fun ρ X9 hg ho hc hf hr => ?_⟩
      refine Runs.goes 80 #[.pointer (some ⟨A, 0, none⟩), .string x] (op_call2 hf call80 (show ρ (.tmp 18) = .pointer (some ⟨A, 0, none⟩) from hr 4 18 rfl rfl) (show ρ (.tmp 20) = .string x from hr 6 20 rfl rfl)) ((HPP.out X9 hg).mono ?_)
      rintro e7 w7 ⟨rfl, hb7⟩
      exact ⟨_, rfl, hg.trans (hb7.mono hg.size), hb7, rfl⟩
    · exact ⟨rfl, fun ρ X9 hg ho hc hf hr => Runs.val _ (op_slice114 (show ρ (.tmp 17) = .slice ad G.length cap from hr 3 17 rfl rfl) (show ρ (.tmp 21) = .int .i64 (p : Int) from hr 7 21 rfl rfl) hsl) ⟨hg, Below.refl _ _, rfl⟩⟩
    · exact ⟨rfl, fun ρ X9 hg ho hc hf hr => Runs.val _ (op_len114 (show ρ (.tmp 22) = (.slice ad' n cap') from hr 8 22 rfl rfl)) ⟨hg, Below.refl _ _, rfl⟩⟩
    · exact ⟨rfl, fun ρ X9 hg ho hc hf hr => Runs.val _ (op_move (hc _)) ⟨hg, Below.refl _ _, rfl⟩⟩
  case en =>
    intro a X9 hg hs hd ho hr
    obtain ⟨x9, hx, hxt⟩ := act_put hs hd ho
    have e22 : x9 22 = .slice ad' n cap' := (hxt 22).symm.trans (hr 8 22 rfl)
    have e23 : x9 23 = .int .i64 (n : Int) := (hxt 23).symm.trans (hr 9 23 rfl)
    have e24 : x9 24 = .int .i64 0 := (hxt 24).symm.trans (hr 10 24 rfl)
    change a = putAll _ x9 [14, 15, 16, 17, 18, 19, 20, 21, 22, 23, 24] at hx
    simp only [putAll, Act.put, List.setIfInBounds_toArray, List.set_cons_zero, List.set_cons_succ, e22, e23, e24] at hx
    have HG := Lib.hid hg
    clear hg hs hd ho hr hxt e22 e23 e24
    subst hx
    generalize x9 14 = z14, x9 15 = z15, x9 16 = z16, x9 17 = z17, x9 18 = z18, x9 19 = z19, x9 20 = z20, x9 21 = z21
    have hbX : Below w.heap.size w X9 := HB.out.trans (HG.out.mono HB.out.size)
    have jX : X9.heap[Y]? = _ := (HG.out.block Y (blk_lt HJY.out)).trans HJY.out
    have hX1 : Y + 1 ≤ X9.heap.size := blk_lt jX
    have HBX := Lib.hid hbX
    have HJX := Lib.hid jX
    clear hbX jX HG a0 y0
    go_wp2
    go_loopw [7, 24] (fun lv iv wr => HJ (G.map Gw.r) w wr p y t Y x n lv iv) (fun _ iv _ => n - (intOf iv).toNat)
    case atStart => exact ⟨0, [], Nat.zero_le _, rfl, by simp, World.ownsRow_nil _ _ _ _, HJX.out, fun i _ h1 h2 => by omega, HBX.out, hX1⟩
    case round =>
      clear HBX HJX hX1
      obtain ⟨j, H, hj, rfl, hH, hHm, hjY, hlo, hbw, hYs⟩ := hrel
      obtain ⟨V, rfl⟩ : ∃ V, V = wr := ⟨_, rfl⟩
      have y1 : V.cell? ⟨Y, 1, none⟩ = some (.string y) := cell_blk hjY 1
      obtain ⟨oad, ocap, rfl⟩ := own_shape hHm
      have hHl : H.length ≤ j := by rw [hH]; exact Nat.le_trans (List.length_filterMap_le _ _) (by rw [List.length_take]; omega)
      have hhm0 : V.ownsRow w.heap.size 80 3 (.slice oad H.length ocap) H.length (hiC H) := own_mono hHm (by have := HYY.out; omega)
      by_cases hlt : j < n
      · have hpj : p + j < G.length := by have := HN.out; omega
        have j0 : (0 : Int) ≤ (j : Int) := by omega
        have j1 : (j : Int) < (n : Int) := by omega
        have hv := HH.out.on hbw
        have hq9 := HS3.out (by omega)
        obtain ⟨g, e1, e2⟩ := hq9
        subst e2
        obtain ⟨g', cap9, e, _, _, hp0⟩ := hv.ptr hpj
        rw [HRV.out, e1] at e
        cases e
        have hp1 : V.cell? ⟨g, p + j, none⟩ = some (.pointer (some ⟨G[p + j].ptr, 0, none⟩)) := hp0
        clear hp0
        have hat := hv.at' _ (List.getElem_mem hpj)
        have hls := hv.ls _ (List.getElem_mem hpj)
        have hqS := HH.out.lt _ (HH.out.covp _ (List.getElem_mem hpj))
        have hlS := fun k hk => HH.out.lt _ (HH.out.covl _ (List.getElem_mem hpj) k hk)
        have hll := HH.out.less _ (List.getElem_mem hpj)
        have hri := (HH.out.ok.rise G[p + j].r (List.mem_map_of_mem (List.getElem_mem hpj))).up
        have hht := hit_take (R := G.map Gw.r) (p := p) (j := j) (t := t) (by rw [List.length_map]; exact hpj)
        rw [List.getElem_map] at hht
        have hky : ∀ i (h : i < (G.map Gw.r).length), i = p + j → (G.map Gw.r)[i].key = G[p + j].r.key := fun i h e => by subst e; rw [List.getElem_map]
        obtain ⟨z, hz⟩ : ∃ z, G[p + j] = z := ⟨_, rfl⟩
        rw [hz] at hp1 hat hls hqS hlS hll hri hht hky
        obtain ⟨r, q, lv⟩ := z
        simp only at hp1 hat hls hqS hlS hll hri hht hky
        obtain ⟨lad, lcap, rfl⟩ := own_shape hls
        have r0 : V.cell? ⟨q, 0, none⟩ = some (.string r.key) := cell_blk hat 0
        have r1 : V.cell? ⟨q, 1, none⟩ = some (.slice lad r.list.length lcap) := cell_blk hat 1
        have hle := less_eq r.key y
        have HLE := Lib.hid hle
        by_cases hky2 : cb r.key y < 0
        · have hdk : (!Op.bytesLess r.key.toList y.toList) = false := by rw [HLE.out, decide_eq_true hky2]; rfl
          have hlo2 : ∀ i (h : i < (G.map Gw.r).length), p ≤ i → i < p + (j + 1) → cb (G.map Gw.r)[i].key y < 0 := fun i h h1 h2 => by
            by_cases z : i < p + j
            · exact hlo i h h1 z
            · rw [hky i h (by omega)]
              exact hky2
          have hatc := fun X (hX : Below V.heap.size V X) => at_any (own_below hls hX) hri (by omega) t
          have HLO := Lib.hid hlo2
          have HHM := Lib.hid hHm
          have HAT := Lib.hid hatc
          have HHT := Lib.hid hht
          have HHH := Lib.hid hH
          have HBW := Lib.hid hbw
          have HJV := Lib.hid hjY
          have HHAT := Lib.hid hat
          clear hz hle hv hat hls hlo hlo2 hHm hhm0 hatc hht hH hbw hjY hky hri e1
          go_wp2
          go_quiet (fail)
          have bq := below_draw (Below.refl V.heap.size V) nq
          have r1' := cell_on bq r1
          have hatq := HAT.out _ bq
          have HBQ := Lib.hid bq
          obtain ⟨V2, hV2⟩ : ∃ V2, V.drewN nq = V2 := ⟨_, rfl⟩
          rw [hV2] at r1' hatq HBQ ⊢
          clear bq hV2 r0 y1
          obtain ⟨tp, htp⟩ : ∃ tp, tops r.list t = tp := ⟨_, rfl⟩
          rw [htp] at hatq
          have hhr : hit t r = hitO r.key tp := by rw [hit_is, htp]
          have HHR := Lib.hid hhr
          clear htp hhr
          cases tp with
          | none =>
            have hatn : Calls Try.prog 81 #[.slice lad r.list.length lcap, .int .i64 t] V2 fun e w' => e = .returned (.tuple #[.agg #[.int .i64 0, .string noT, .bool false], .bool false]) ∧ Below V2.heap.size V2 w' := hatq
            have HNX : Hid (H = (((G.map Gw.r).drop p).take (j + 1)).filterMap (hit t)) := by
              have e1 := HHT.out
              rw [HHR.out, ← HHH.out] at e1
              exact ((List.append_nil H).symm.trans e1.symm)
            clear hatq HHR
            go_wp2_with fail
            refine hatn.mono ?_
            rintro e w8 ⟨rfl, hb8⟩
            have b18 := HBQ.out.trans (hb8.mono HBQ.out.size)
            have bal : Below w8.heap.size w8 (w8.alloc (.cells #[.int .i64 0, .string noT, .bool false] 125)) := (Below.refl _ w8).alloc (Nat.le_refl _) _
            have b19 := b18.trans (bal.mono b18.size)
            have HZ1 := Lib.hid (own_below HHM.out b19)
            have HZ2 := Lib.hid ((b19.block Y (blk_lt HJV.out)).trans HJV.out)
            have HZ3 := Lib.hid (HBW.out.trans (b19.mono HBW.out.size))
            have z4 : Y + 1 ≤ (w8.alloc (.cells #[.int .i64 0, .string noT, .bool false] 125)).heap.size := Nat.le_trans hYs b19.size
            have HZ4 := Lib.hid z4
            clear hatn hb8 b18 bal b19 z4 r1'
            go_wp2
            go_roundw
            case rel => exact ⟨j + 1, H, hlt, by go_num, HNX.out, HZ1.out, HZ2.out, HLO.out, HZ3.out, HZ4.out⟩
            case measure => simp [intOf]; omega
          | some u =>
            have hatn : Calls Try.prog 81 #[.slice lad r.list.length lcap, .int .i64 t] V2 fun e w' => e = .returned (.tuple #[.agg #[.int .i64 u.ts, .string u.val, .bool u.dead], .bool true]) ∧ Below V2.heap.size V2 w' := hatq
            clear hatq
            cases hdd : u.dead with
            | true =>
              rw [hdd] at hatn
              have HNX : Hid (H = (((G.map Gw.r).drop p).take (j + 1)).filterMap (hit t)) := by
                have e1 := HHT.out
                have e2 := HHR.out
                simp only [hitO, hdd, if_true] at e2
                rw [e2, ← HHH.out] at e1
                exact ((List.append_nil H).symm.trans e1.symm)
              clear HHR
              go_wp2_with fail
              refine hatn.mono ?_
              rintro e w8 ⟨rfl, hb8⟩
              have b18 := HBQ.out.trans (hb8.mono HBQ.out.size)
              have bal : Below w8.heap.size w8 (w8.alloc (.cells #[.int .i64 u.ts, .string u.val, .bool true] 125)) := (Below.refl _ w8).alloc (Nat.le_refl _) _
              have b19 := b18.trans (bal.mono b18.size)
              have HZ1 := Lib.hid (own_below HHM.out b19)
              have HZ2 := Lib.hid ((b19.block Y (blk_lt HJV.out)).trans HJV.out)
              have HZ3 := Lib.hid (HBW.out.trans (b19.mono HBW.out.size))
              have z4 : Y + 1 ≤ (w8.alloc (.cells #[.int .i64 u.ts, .string u.val, .bool true] 125)).heap.size := Nat.le_trans hYs b19.size
              have HZ4 := Lib.hid z4
              clear hatn hb8 b18 bal b19 z4 r1' hdd
              go_wp2
              go_roundw
              case rel => exact ⟨j + 1, H, hlt, by go_num, HNX.out, HZ1.out, HZ2.out, HLO.out, HZ3.out, HZ4.out⟩
              case measure => simp [intOf]; omega
            | false =>
              rw [hdd] at hatn
              have HNX : Hid (H ++ [⟨r.key, u.ts, u.val⟩] = (((G.map Gw.r).drop p).take (j + 1)).filterMap (hit t)) := by
                have e1 := HHT.out
                have e2 := HHR.out
                simp only [hitO, hdd, Bool.false_eq_true, if_false] at e2
                rw [e2, ← HHH.out] at e1
                exact e1.symm
              clear HHR
              go_wp2_with fail
              refine hatn.mono ?_
              rintro e w8 ⟨rfl, hb8⟩
              obtain ⟨V3, hV3⟩ : ∃ V3, V3 = w8.alloc (.cells #[.int .i64 u.ts, .string u.val, .bool false] 125) := ⟨_, rfl⟩
              obtain ⟨Z, hZ⟩ : ∃ Z, w8.heap.size = Z := ⟨_, rfl⟩
              have b18 := HBQ.out.trans (hb8.mono HBQ.out.size)
              have bal : Below w8.heap.size w8 V3 := by rw [hV3]; exact (Below.refl _ w8).alloc (Nat.le_refl _) _
              have jZ : V3.heap[Z]? = some (.cells #[.int .i64 u.ts, .string u.val, .bool false] 125 (0, 0)) := by rw [hV3, ← hZ]; exact heap_alloc_new w8 _
              have b19 := b18.trans (bal.mono b18.size)
              have HM3 := Lib.hid (own_below HHM.out b19)
              have hob : ∀ k, (Value.slice oad H.length ocap).ownBlock = some k → Y + 1 ≤ k ∧ k < V.heap.size := HHM.out.lt
              have HOB := Lib.hid (fun k e => (⟨(hob k e).1, Nat.lt_of_lt_of_le (hob k e).2 b19.size⟩ : Y + 1 ≤ k ∧ k < V3.heap.size))
              have hnz : ¬ (Value.slice oad H.length ocap).ownBlock = some Z := fun e => by have z3 := hob Z e; have z4 := b18.size; omega
              have hnq : ¬ (Value.slice oad H.length ocap).ownBlock = some q := fun e => by have z3 := hob q e; have z4 := HYY.out; omega
              have HJ3 := Lib.hid ((b19.block Y (blk_lt HJV.out)).trans HJV.out)
              have HB3 := Lib.hid (HBW.out.trans (b19.mono HBW.out.size))
              have hYV3 : Y + 1 ≤ V3.heap.size := Nat.le_trans hYs b19.size
              have s0 : V3.cell? ⟨q, 0, none⟩ = some (.string r.key) := cell_blk ((b19.block q (blk_lt HHAT.out)).trans HHAT.out) 0
              have m0 : V3.cell? ⟨Z, 0, none⟩ = some (.int .i64 u.ts) := cell_blk jZ 0
              have m1 : V3.cell? ⟨Z, 1, none⟩ = some (.string u.val) := cell_blk jZ 1
              have m2 : V3.cell? ⟨Z, 2, none⟩ = some (.bool false) := cell_blk jZ 2
              have HV3 := Lib.hid hV3
              have HZZ := Lib.hid hZ
              clear hatn hb8 b18 bal b19 r1' hdd hob jZ hV3 hZ
              go_upto_region 9 with fail
              rw [← HV3.out, HZZ.out]
              go_upto_region 10 with fail
              refine wp_region_once 11 (fun d X9 => Fr V3 X9 (fun k => (Value.slice oad H.length ocap).ownBlock = some k) ∧ (d = false → Below V3.heap.size V3 X9)) (fun X9 X' => Below X9.heap.size X9 X') (fun X9 X' => Fr X9 X' (fun k => (Value.slice oad H.length ocap).ownBlock = some k)) [
                fun v _ => v = (.slice oad H.length ocap),
                fun v _ => v = .pointer (some ⟨q, 0, none⟩),
                fun v _ => v = .pointer (some ⟨q, 0, none⟩),
                fun v _ => v = .pointer (some ⟨q, 0, none⟩),
                fun v _ => v = .string r.key,
                fun v _ => v = .pointer (some ⟨Z, 0, none⟩),
                fun v _ => v = .int .i64 u.ts,
                fun v _ => v = .pointer (some ⟨Z, 1, none⟩),
                fun v _ => v = .string u.val,
                fun v _ => v = .agg #[.string r.key, .int .i64 u.ts, .string u.val],
                fun v X9 => ∃ K, v = .slice (some ⟨K, 0, none⟩) 1 1 ∧ V3.heap.size ≤ K ∧ X9.heap[K]? = some (.cells #[.string r.key, .int .i64 u.ts, .string u.val] 80 (0, 0)),
                fun v X9 => ∃ ad9 cap9, v = .slice ad9 (H.length + 1) cap9 ∧ X9.ownsRow (Y + 1) 80 3 v (H ++ [(⟨r.key, u.ts, u.val⟩ : Hi)]).length (hiC (H ++ [(⟨r.key, u.ts, u.val⟩ : Hi)])) ∧ X9.heap[Y]? = some (.cells #[.string x, .string y] 57 (0, 0)) ∧ Below w.heap.size w X9 ∧ Y + 1 ≤ X9.heap.size]
                (fun v X9 => ∃ ad9 cap9, v = .slice ad9 (H.length + 1) cap9 ∧ X9.ownsRow (Y + 1) 80 3 v (H ++ [(⟨r.key, u.ts, u.val⟩ : Hi)]).length (hiC (H ++ [(⟨r.key, u.ts, u.val⟩ : Hi)])) ∧ X9.heap[Y]? = some (.cells #[.string x, .string y] 57 (0, 0)) ∧ Below w.heap.size w X9 ∧ Y + 1 ≤ X9.heap.size) rfl (by kernel_rfl) (by kernel_rfl) (by kernel_rfl) (by kernel_rfl) ?st ?stm ?g0 (by decide) ?os ?la ?en
              case st => exact ⟨fun _ _ _ _ h => h, fun _ _ _ _ h => h, fun _ _ _ _ h => h, fun _ _ _ _ h => h, fun _ _ _ _ h => h, fun _ _ _ _ h => h, fun _ _ _ _ h => h, fun _ _ _ _ h => h, fun _ _ _ _ h => h, fun _ _ _ _ h => h, fun _ _ _ hs ⟨K, e, z1, z2⟩ => ⟨K, e, z1, (hs.block K (blk_lt z2)).trans z2⟩, fun _ _ _ hs ⟨x1, x2, e, z1, z2, z3, z4⟩ => ⟨x1, x2, e, own_below z1 hs, (hs.block Y (blk_lt z2)).trans z2, z3.trans (hs.mono z3.size), Nat.le_trans z4 hs.size⟩, trivial⟩
              case stm => exact ⟨fun _ _ _ _ h => h, fun _ _ _ _ h => h, fun _ _ _ _ h => h, fun _ _ _ _ h => h, fun _ _ _ _ h => h, fun _ _ _ _ h => h, fun _ _ _ _ h => h, fun _ _ _ _ h => h, fun _ _ _ _ h => h, fun _ _ _ _ h => h, fun _ _ _ hs ⟨K, e, z1, z2⟩ => ⟨K, e, z1, (hs.block K (blk_lt z2) (fun e => by have z3 := HOB.out K e; omega)).trans z2⟩, fun _ _ _ _ h => h, trivial⟩
              case g0 => exact ⟨⟨rfl, rfl, rfl, Nat.le_refl _, fun _ _ _ => rfl⟩, fun _ => ⟨rfl, rfl, rfl, Nat.le_refl _, fun _ _ => rfl⟩⟩
              case os =>
                refine ⟨?_, ?_, ?_, ?_, ?_, ?_, ?_, ?_, ?_, ?_, ?_, ?_, trivial⟩
                · exact ⟨rfl, fun _ ρ X9 d hg ho hc hf hr => Runs.val _ (op_move (show ρ (.tmp 7) = (.slice oad H.length ocap) from ho 7 rfl)) ⟨hg, Below.refl _ _, rfl⟩, fun e => absurd e (by decide)⟩
                · exact ⟨rfl, fun _ ρ X9 d hg ho hc hf hr => Runs.val _ (op_move (show ρ (.tmp 9) = .pointer (some ⟨q, 0, none⟩) from ho 9 rfl)) ⟨hg, Below.refl _ _, rfl⟩, fun e => absurd e (by decide)⟩
                · exact ⟨rfl, fun _ ρ X9 d hg ho hc hf hr => Runs.val _ (op_nil (show ρ (.tmp 51) = .pointer (some ⟨q, 0, none⟩) from hr 1 51 rfl rfl)) ⟨hg, Below.refl _ _, rfl⟩, fun e => absurd e (by decide)⟩
                · exact ⟨rfl, fun _ ρ X9 d hg ho hc hf hr => Runs.val _ (op_f129_0 (show ρ (.tmp 52) = .pointer (some ⟨q, 0, none⟩) from hr 2 52 rfl rfl)) ⟨hg, Below.refl _ _, rfl⟩, fun e => absurd e (by decide)⟩
                · exact ⟨rfl, fun _ ρ X9 d hg ho hc hf hr => Runs.val _ (op_load9 (show ρ (.tmp 53) = .pointer (some ⟨q, 0, none⟩) from hr 3 53 rfl rfl) (cell_fr hg.1 hnq s0)) ⟨hg, Below.refl _ _, rfl⟩, fun e => absurd e (by decide)⟩
                · exact ⟨rfl, fun _ ρ X9 d hg ho hc hf hr => Runs.val _ (op_f125_0 (show ρ (.tmp 10) = .pointer (some ⟨Z, 0, none⟩) from ho 10 rfl)) ⟨hg, Below.refl _ _, rfl⟩, fun e => absurd e (by decide)⟩
                · exact ⟨rfl, fun _ ρ X9 d hg ho hc hf hr => Runs.val _ (op_load3 (show ρ (.tmp 55) = .pointer (some ⟨Z, 0, none⟩) from hr 5 55 rfl rfl) (cell_fr hg.1 hnz m0)) ⟨hg, Below.refl _ _, rfl⟩, fun e => absurd e (by decide)⟩
                · exact ⟨rfl, fun _ ρ X9 d hg ho hc hf hr => Runs.val _ (op_f125_1 (show ρ (.tmp 10) = .pointer (some ⟨Z, 0, none⟩) from ho 10 rfl)) ⟨hg, Below.refl _ _, rfl⟩, fun e => absurd e (by decide)⟩
                · exact ⟨rfl, fun _ ρ X9 d hg ho hc hf hr => Runs.val _ (op_load9 (show ρ (.tmp 57) = .pointer (some ⟨Z, 1, none⟩) from hr 7 57 rfl rfl) (cell_fr hg.1 hnz m1)) ⟨hg, Below.refl _ _, rfl⟩, fun e => absurd e (by decide)⟩
                · exact ⟨rfl, fun _ ρ X9 d hg ho hc hf hr => Runs.val _ (op_b80 (show ρ (.tmp 54) = .string r.key from hr 4 54 rfl rfl) (show ρ (.tmp 56) = .int .i64 u.ts from hr 6 56 rfl rfl) (show ρ (.tmp 58) = .string u.val from hr 8 58 rfl rfl)) ⟨hg, Below.refl _ _, rfl⟩, fun e => absurd e (by decide)⟩
                · refine ⟨rfl, fun _ ρ X9 d hg ho hc hf hr => ?_, fun e => absurd e (by decide)⟩
                  have hb7 : Below X9.heap.size X9 (X9.alloc (.cells #[.string r.key, .int .i64 u.ts, .string u.val] 80)) := (Below.refl _ X9).alloc (Nat.le_refl _) _
                  exact Runs.val _ (op_s77 (show ρ (.tmp 59) = .agg #[.string r.key, .int .i64 u.ts, .string u.val] from hr 9 59 rfl rfl)) ⟨⟨hg.1.below hb7, fun z => (hg.2 z).trans (hb7.mono (hg.2 z).size)⟩, hb7, X9.heap.size, rfl, hg.1.size, heap_alloc_new X9 _⟩
                · refine ⟨rfl, fun e => absurd rfl e, fun _ ρ X9 hg ho hc hf hr => ?_⟩
                  obtain ⟨K, e, z1, z2⟩ : ∃ K, ρ (.tmp 60) = .slice (some ⟨K, 0, none⟩) 1 1 ∧ V3.heap.size ≤ K ∧ X9.heap[K]? = some (.cells #[.string r.key, .int .i64 u.ts, .string u.val] 80 (0, 0)) := hr 10 60 rfl rfl
                  have hbX := hg.2 rfl
                  have hzX := hbX.size
                  obtain ⟨ad9, cap9, w9, hrun, hR9, hf9⟩ := hits_snoc (x := ⟨r.key, u.ts, u.val⟩) (own_below HM3.out hbX) (by omega) z2 (by omega)
                  have hB9 : Below w.heap.size w w9 := (HB3.out.trans (hbX.mono HB3.out.size)).trans (hf9.toBelow (fun k hk e => by have z3 := HOB.out k e; have z4 := HYY.out; omega) (by have := HB3.out.size; omega))
                  have jY9 : w9.heap[Y]? = _ := (hf9.block Y (by have := blk_lt HJ3.out; omega) (fun e => by have z3 := HOB.out Y e; omega)).trans ((hbX.block Y (blk_lt HJ3.out)).trans HJ3.out)
                  exact Runs.val _ (op_append77 (show ρ (.tmp 50) = (.slice oad H.length ocap) from hr 0 50 rfl rfl) e hrun) ⟨⟨hg.1.trans hf9, fun z => by cases z⟩, hf9, ad9, cap9, rfl, hR9, jY9, hB9, blk_lt jY9⟩
              case la =>
                refine ⟨rfl, fun ρ X9 hg ho hc hf hr => ?_⟩
                obtain ⟨ad9, cap9, e, z1, z2, z3, z4⟩ : ∃ ad9 cap9, (ρ (.tmp 61)) = .slice ad9 (H.length + 1) cap9 ∧ X9.ownsRow (Y + 1) 80 3 (ρ (.tmp 61)) (H ++ [(⟨r.key, u.ts, u.val⟩ : Hi)]).length (hiC (H ++ [(⟨r.key, u.ts, u.val⟩ : Hi)])) ∧ X9.heap[Y]? = some (.cells #[.string x, .string y] 57 (0, 0)) ∧ Below w.heap.size w X9 ∧ Y + 1 ≤ X9.heap.size := hr 11 61 (by decide) rfl
                rw [e] at z1
                exact Runs.val _ (op_assign e) ⟨ad9, cap9, rfl, z1, z2, z3, z4⟩
              case en =>
                intro a X9 Xb v hF hs hd ho hv hr
                obtain ⟨x9, hx, hxt⟩ := act_put hs hd ho
                have x7 : x9 7 = v := (hxt 7).symm.trans (hv 7 rfl)
                change a = putAll _ x9 [50, 51, 52, 53, 54, 55, 56, 57, 58, 59, 60, 61, 7] at hx
                simp only [putAll, Act.put, List.setIfInBounds_toArray, List.set_cons_zero, List.set_cons_succ, x7] at hx
                have HG := Lib.hid hF
                clear hF hs hd ho hr hv hxt x7
                subst hx
                obtain ⟨ad9, cap9, rfl, z1, z2, z3, z4⟩ := HG.out
                have HZ1 := Lib.hid z1
                have HZ2 := Lib.hid z2
                have HZ3 := Lib.hid z3
                clear z1 z2 z3 HG
                go_wp2
                go_roundw
                case rel => exact ⟨j + 1, H ++ [⟨r.key, u.ts, u.val⟩], hlt, by go_num, HNX.out, HZ1.out, HZ2.out, HLO.out, HZ3.out, z4⟩
                case measure => simp [intOf]; omega
        · have hdk : (!Op.bytesLess r.key.toList y.toList) = true := by rw [HLE.out, decide_eq_false hky2]; rfl
          have hsp : span (G.map Gw.r) x y t = H := by
            rw [hH]
            refine span_stop HH.out.ok.sorted HP.out hlo (fun h => ?_)
            rw [hky (p + j) h rfl]
            exact hky2
          have HA : Hid (∀ m, SpanAns w (span (G.map Gw.r) x y t) (.returned (.slice oad H.length ocap)) (V.drewN m)) := by
            intro m
            rw [hsp]
            exact ⟨oad, ocap, rfl, own_below hhm0 (below_draw (Below.refl _ V) m), below_draw hbw m⟩
          clear hz hle hv hat hls hlo hHm hhm0 hht hbw hjY hky hri hsp hH e1 hlS hqS hll
          go_wp2
          go_quiet (fail)
          go_wp2
          go_ret
          exact HA.out _
      · have j1 : ¬ (j : Int) < (n : Int) := by omega
        have hsp : span (G.map Gw.r) x y t = H := by
          rw [hH]
          refine span_stop HH.out.ok.sorted HP.out hlo (fun h => ?_)
          rw [List.length_map] at h
          have := HN.out
          omega
        have HA : Hid (SpanAns w (span (G.map Gw.r) x y t) (.returned (.slice oad H.length ocap)) V) := by rw [hsp]; exact ⟨oad, ocap, rfl, hhm0, hbw⟩
        clear hsp hhm0 hHm hlo hbw hjY hH y1
        go_wp2
        go_ret
        exact HA.out
end
end Go.Proofs.Ytcoaahlakkghhaa
