/- Asks. -/
import Derived.Test.YtfokgalgdlajlaaCi
import Derived.Test.YtfokgalgdlajlaaCj
namespace Go.Proofs.Ytfokgalgdlajlaa
open Go.RowKit
theorem fl_set {α : Type} {f : α → List Value} {c : Nat} (hc : ∀ x, (f x).length = c) : ∀ (K : List α) (i : Nat) (hi : i < K.length) (k : Nat) (u : Value) (y : α), k < c → f y = (f K[i]).set k u → (K.flatMap f).set (i * c + k) u = (K.set i y).flatMap f
  | [], _, hi, _, _, _, _, _ => absurd hi (by simp)
  | x :: K, 0, _, k, u, y, hk, e => by
    rw [List.set_cons_zero, List.flatMap_cons, List.flatMap_cons, Nat.zero_mul, Nat.zero_add, List.set_append_left _ _ (by rw [hc]; exact hk), e]
    rfl
  | x :: K, i + 1, hi, k, u, y, hk, e => by
    have hi' : i < K.length := by simpa using hi
    have h := fl_set hc K i hi' k u y hk e
    rw [List.set_cons_succ, List.flatMap_cons, List.flatMap_cons, ← h, List.set_append_right _ _ (by rw [hc, Nat.succ_mul]; omega), hc]
    have e2 : (i + 1) * c + k - c = i * c + k := by rw [Nat.succ_mul]; omega
    rw [e2]
theorem RdRow.fr {B g : Nat} {w w' : World} {R : List Rd} {v : Value} (h : RdRow B w R v) (hf : Fr w w' (fun k => k = g)) (hg : g < B) : RdRow B w' R v := by
  obtain ⟨K, h1, h2, h3⟩ := h
  have kp : ∀ {e : TypeId} {m n : Nat} {v : Value} {xs : List Value}, w.ownsRow B e m v n xs → w'.ownsRow B e m v n xs := fun hr => row_keep hr hf (fun j hj q => by
    have := (hr.lt j hj).1
    have q' : j = g := q
    omega)
  exact ⟨K, h1, kp h2, fun g hg => kp (h3 g hg)⟩
/-- What is asked, with the reads and writes that its lists hold. -/
structure Aq where
  a : Ak
  R : List Rd
  W : List Wr
abbrev aqL (q : Aq) : List Value := akL q.a
theorem aqL_len (q : Aq) : (aqL q).length = 31 := rfl
structure AqIn (w : World) (q : Aq) : Prop where
  r : Lr rdE 3 w q.R (.slice q.a.r.a q.a.r.n q.a.r.c)
  w : Lr wrE 3 w q.W (.slice q.a.w.a q.a.w.n q.a.w.c)
  zr : q.R.length ≤ 900000
  zs : ∀ x ∈ q.R, x.seen.length ≤ 900000
  zw : q.W.length ≤ 900000
theorem AqIn.on {w w' : World} {q : Aq} (h : AqIn w q) (hb : Below w.heap.size w w') : AqIn w' q := ⟨h.r.on rdE_held hb, h.w.on wrE_held hb, h.zr, h.zs, h.zw⟩
/-- Both lists lie in memory of their own, from B on. -/
def AqOwn (B : Nat) (w : World) (q : Aq) : Prop := RdRow B w q.R (.slice q.a.r.a q.a.r.n q.a.r.c) ∧ w.ownsRow B 69 3 (.slice q.a.w.a q.a.w.n q.a.w.c) q.W.length (q.W.flatMap wrL)
def Aq.with (q : Aq) (r w : Sv) : Aq := { q with a := { q.a with r := r, w := w } }
structure Aa (w : World) (v : Value) (Q : List Aq) (V : World) (j : Nat) (Q' : List Aq) : Prop where
  ln : Q'.length = Q.length
  row : V.ownsRow w.heap.size 78 31 v Q.length (Q'.flatMap aqL)
  pl : ∀ i (h : i < Q.length) (h' : i < Q'.length), ∃ r w, Q'[i] = Q[i].with r w
  dn : ∀ i (h : i < Q'.length), i < j → AqOwn w.heap.size V Q'[i]
  td : ∀ i (h : i < Q.length) (h' : i < Q'.length), j ≤ i → Q'[i] = Q[i]
  lw : Below w.heap.size w V
/-- Amid one round: its two lists may be laid anew. -/
def Ag (w : World) (V : World) (g n cap : Nat) (Q' : List Aq) (j : Nat) (q : Aq) (f1 f2 : Bool) (X : World) : Prop := ∃ r' w' : Sv, Fr V X (fun k => k = g) ∧ X.ownsRow w.heap.size 78 31 (.slice (some ⟨g, 0, none⟩) n cap) n ((Q'.set j (q.with r' w')).flatMap aqL) ∧ (f1 = false → r' = q.a.r) ∧ (f1 = true → RdRow V.heap.size X q.R (.slice r'.a r'.n r'.c)) ∧ (f2 = false → w' = q.a.w) ∧ (f2 = true → X.ownsRow V.heap.size 69 3 (.slice w'.a w'.n w'.c) q.W.length (q.W.flatMap wrL))
section
variable {w V X : World} {g n cap j : Nat} {Q' : List Aq} {q : Aq} {f1 f2 : Bool}
theorem Ag.below {X' : World} (h : Ag w V g n cap Q' j q f1 f2 X) (hb : Below X.heap.size X X') : Ag w V g n cap Q' j q f1 f2 X' := by
  obtain ⟨r', w', h1, h2, h3, h4, h5, h6⟩ := h
  exact ⟨r', w', h1.trans (Fr.ofBelow _ hb), own_below h2 hb, h3, fun e => (h4 e).on hb, h5, fun e => own_below (h6 e) hb⟩
theorem Ag.cell (h : Ag w V g n cap Q' j q f1 f2 X) (hj : j < Q'.length) (hn : Q'.length = n) : ∃ r' w' : Sv, (f1 = false → r' = q.a.r) ∧ (f2 = false → w' = q.a.w) ∧ X.cell? ⟨g, j * 31 + 1 + 8, none⟩ = some (.slice r'.a r'.n r'.c) ∧ X.cell? ⟨g, j * 31 + 1 + 9, none⟩ = some (.slice w'.a w'.n w'.c) ∧ ∀ k, X.frozen? ⟨g, k, none⟩ = false := by
  obtain ⟨r', w', h1, h2, h3, h4, h5, h6⟩ := h
  have hs : j < (Q'.set j (q.with r' w')).length := by rw [List.length_set]; exact hj
  have hc : ∀ k, k < 31 → X.cell? ⟨g, j * 31 + k, none⟩ = (aqL (q.with r' w'))[k]? := fun k hk => by
    rw [(own_mono h2 (Nat.zero_le _)).cellAt (j * 31 + k) (by
      have : (j + 1) * 31 ≤ n * 31 := Nat.mul_le_mul_right 31 (by omega)
      omega), fl_get aqL_len _ j hs k hk, List.getElem_set_self]
  obtain ⟨cs, t⟩ := own_tag h2 g rfl
  exact ⟨r', w', h3, h5, hc 9 (by decide), hc 10 (by decide), fun k => frozen_blk t _⟩
theorem Ag.gt (h : Ag w V g n cap Q' j q f1 f2 X) : V.heap.size ≤ X.heap.size := by
  obtain ⟨r', w', h1, _⟩ := h
  exact h1.size
theorem Ag.st1 (h : Ag w V g n cap Q' j q false f2 X) (hj : j < Q'.length) (hg : g < V.heap.size) (u : Sv) (hr : RdRow V.heap.size X q.R (.slice u.a u.n u.c)) : Ag w V g n cap Q' j q true f2 (X.setCell ⟨g, j * 31 + 1 + 8, none⟩ (.slice u.a u.n u.c)) := by
  obtain ⟨r', w', h1, h2, h3, h4, h5, h6⟩ := h
  have hf : Fr X (X.setCell ⟨g, j * 31 + 1 + 8, none⟩ (.slice u.a u.n u.c)) (fun k => k = g) := (Fr.refl X (fun k => k = g)).set (a := ⟨g, j * 31 + 1 + 8, none⟩) (.inl rfl) _
  refine ⟨u, w', h1.trans hf, ?_, fun e => (by cases e), fun _ => hr.fr hf hg, h5, fun e => row_keep (h6 e) hf (fun i hi q => by
    have := ((h6 e).lt i hi).1
    have q' : i = g := q
    omega)⟩
  have h9 := row_setc h2 (j * 31 + 9) (.slice u.a u.n u.c)
  rw [fl_set aqL_len _ j (by rw [List.length_set]; exact hj) 9 _ (q.with u w') (by decide) (by rw [List.getElem_set_self]; rfl), List.set_set] at h9
  exact h9
theorem Ag.st2 (h : Ag w V g n cap Q' j q f1 false X) (hj : j < Q'.length) (hg : g < V.heap.size) (u : Sv) (hr : X.ownsRow V.heap.size 69 3 (.slice u.a u.n u.c) q.W.length (q.W.flatMap wrL)) : Ag w V g n cap Q' j q f1 true (X.setCell ⟨g, j * 31 + 1 + 9, none⟩ (.slice u.a u.n u.c)) := by
  obtain ⟨r', w', h1, h2, h3, h4, h5, h6⟩ := h
  have hf : Fr X (X.setCell ⟨g, j * 31 + 1 + 9, none⟩ (.slice u.a u.n u.c)) (fun k => k = g) := (Fr.refl X (fun k => k = g)).set (a := ⟨g, j * 31 + 1 + 9, none⟩) (.inl rfl) _
  refine ⟨r', u, h1.trans hf, ?_, h3, fun e => (h4 e).fr hf hg, fun e => (by cases e), fun _ => row_keep hr hf (fun i hi q => by
    have := (hr.lt i hi).1
    have q' : i = g := q
    omega)⟩
  have h9 := row_setc h2 (j * 31 + 10) (.slice u.a u.n u.c)
  rw [fl_set aqL_len _ j (by rw [List.length_set]; exact hj) 10 _ (q.with r' u) (by decide) (by rw [List.getElem_set_self]; rfl), List.set_set] at h9
  exact h9
end
theorem Aa.next {w V X : World} {g n cap j : Nat} {Q Q' : List Aq} (h : Aa w (.slice (some ⟨g, 0, none⟩) n cap) Q V j Q') (hj : j < Q.length) (hg : w.heap.size ≤ g) (hX : Ag w V g n cap Q' j Q[j] true true X) : ∃ Q2, Aa w (.slice (some ⟨g, 0, none⟩) n cap) Q X (j + 1) Q2 := by
  obtain ⟨r', w', h1, h2, _, h4, _, h6⟩ := hX
  have en : Q.length = n := by
    obtain ⟨_, _, q⟩ := own_shape h.row
    cases q
    rfl
  subst en
  have hgt : ∃ cs, V.heap[g]? = some (.cells cs 78 (0, 0)) := own_tag h.row g rfl
  have tag : ∀ {e : TypeId}, e ≠ 78 → ∀ k, k = g → ∀ cs, V.heap[k]? ≠ some (.cells cs e (0, 0)) := by
    rintro e he k rfl cs hk
    obtain ⟨cs', t⟩ := hgt
    rw [t] at hk
    simp only [Option.some.injEq, Obj.cells.injEq] at hk
    exact he hk.2.1.symm
  have kp : ∀ {e : TypeId} {m n : Nat} {v : Value} {xs : List Value}, e ≠ 78 → V.ownsRow w.heap.size e m v n xs → X.ownsRow w.heap.size e m v n xs := fun he hr => keep_rowB hr h1 (tag he)
  refine ⟨Q'.set j (Q[j].with r' w'), ⟨by rw [List.length_set]; exact h.ln, h2, fun i hi hi' => ?_, fun i hi hij => ?_, fun i hi hi' hij => ?_, ?_⟩⟩
  · rw [List.length_set] at hi'
    by_cases e : i = j
    · subst e
      rw [List.getElem_set_self]
      exact ⟨_, _, rfl⟩
    · rw [List.getElem_set_ne (fun q => e q.symm)]
      exact h.pl i hi hi'
  · rw [List.length_set] at hi
    by_cases e : i = j
    · subst e
      rw [List.getElem_set_self]
      exact ⟨(h4 rfl).mono h.lw.size, own_mono (h6 rfl) h.lw.size⟩
    · rw [List.getElem_set_ne (fun q => e q.symm)]
      obtain ⟨⟨K, k1, k2, k3⟩, k4⟩ := h.dn i hi (by omega)
      exact ⟨⟨K, k1, kp (by decide) k2, fun g hg => kp (by decide) (k3 g hg)⟩, kp (by decide) k4⟩
  · rw [List.length_set] at hi'
    rw [List.getElem_set_ne (by omega)]
    exact h.td i hi hi' (by omega)
  · exact below_put h.lw (Nat.le_refl _) h1 hg
/-- What Asks answers. -/
def AksAns (w : World) (Q : List Aq) (e : Ending) (w' : World) : Prop := ∃ (ad : Option Addr) (cap : Nat) (Q' : List Aq), e = .returned (.slice ad Q.length cap) ∧ Q'.length = Q.length ∧ w'.ownsRow w.heap.size 78 31 (.slice ad Q.length cap) Q.length (Q'.flatMap aqL) ∧ (∀ i (h : i < Q.length) (h' : i < Q'.length), ∃ r w, Q'[i] = Q[i].with r w) ∧ (∀ q ∈ Q', AqOwn w.heap.size w' q) ∧ Below w.heap.size w w'
set_option maxRecDepth 100000 in
theorem asks_nil (w : World) : Calls Try.prog 17 #[.pointer none] w fun e w' => e = .returned (.slice none 0 0) ∧ w' = w := by
  have hn := now_nil w
  go_enter Try.func17, Try.ntmps17
  go_wp2_with (go_at_call 30; refine hn.mono ?_; rintro e w1 ⟨rfl, hw1⟩; subst w1; refine Hid.out ?_)
  refine Lib.hid ?_
  go_wp2
  go_loopw [10] (fun iv wr => iv = .int .i64 0 ∧ wr = w) (fun _ _ => 0)
  case atStart => exact ⟨rfl, rfl⟩
  case round =>
    obtain ⟨rfl, rfl⟩ := hrel
    go_wp2
    refine bodyPost_ret (v := .slice none 0 0) (by simp [results, Try.results17, go_sem]) rfl ?_
    exact ⟨rfl, rfl⟩
theorem Ag.fr {w V X : World} {g n cap j : Nat} {Q' : List Aq} {q : Aq} {f1 f2 : Bool} (h : Ag w V g n cap Q' j q f1 f2 X) : Fr V X (fun k => k = g) := by
  obtain ⟨r', w', h1, _⟩ := h
  exact h1
section
variable {w : World} {A : Nat} {d : Dl} {pa wa : Option Addr} {pc wc : Nat}
set_option maxHeartbeats 4000000 in
set_option maxRecDepth 100000 in
theorem asks_any (h : Dx w A d pa pc wa wc) (hd : DOk d) {Q : List Aq} (hQ : Q.map (·.a) = d.asks) (hin : ∀ q ∈ Q, AqIn w q) : Calls Try.prog 17 #[.pointer (some ⟨A, 0, none⟩)] w (AksAns w Q) := by
  have hc := now_any h hd
  have hl : d.asks.length = Q.length := by rw [← hQ, List.length_map]
  have hfm : d.asks.flatMap akL = Q.flatMap aqL := by rw [← hQ, List.flatMap_map]
  have HC := Lib.hid hc
  have HL := Lib.hid hl
  have HFM := Lib.hid hfm
  have HIN := Lib.hid hin
  clear h hd hQ hin hc hl hfm
  go_enter Try.func17, Try.ntmps17
  go_wp2_with fail
  refine HC.out.mono ?_
  rintro e v1 ⟨ca, cc, rfl, o1, b1⟩
  rw [HFM.out] at o1
  rw [HL.out] at o1 ⊢
  have hmx : (Q.length : Int) ≤ 9223372036854775807 := by
    rcases o1.2 with ⟨_, q⟩ | ⟨_, _, _, q, _, _, h1, h2, _⟩
    · omega
    · unfold maxLen at h2
      omega
  have HI : Hid (Aa w (.slice ca Q.length cc) Q v1 0 Q) := Lib.hid ⟨rfl, o1, fun i hi hi' => ⟨_, _, rfl⟩, fun i _ hi => (by omega), fun i _ _ _ => rfl, b1⟩
  clear o1 b1
  go_wp2
  go_loopw [10] (fun iv wr => ∃ (j : Nat) (Q' : List Aq), j ≤ Q.length ∧ iv = .int .i64 (j : Int) ∧ Aa w (.slice ca Q.length cc) Q wr j Q') (fun iv _ => Q.length - (intOf iv).toNat)
  case atStart => exact ⟨0, Q, Nat.zero_le _, rfl, HI.out⟩
  case round =>
    obtain ⟨j, Q', hi, rfl, haa⟩ := hrel
    obtain ⟨V, rfl⟩ : ∃ V, V = wr := ⟨_, rfl⟩
    by_cases hlt : j < Q.length
    · obtain ⟨g, rfl, hgw⟩ : ∃ g, ca = some ⟨g, 0, none⟩ ∧ w.heap.size ≤ g := by
        rcases haa.row.2 with ⟨_, q0⟩ | ⟨g, cap, cur, q, h0, _⟩
        · omega
        · cases q
          exact ⟨g, rfl, h0⟩
      have hgl : g < V.heap.size := by
        obtain ⟨cs, t⟩ := own_tag haa.row g rfl
        exact blk_lt t
      have hq : j < Q'.length := by rw [haa.ln]; exact hlt
      have e9 : Q'[j] = Q[j] := haa.td j hlt hq (Nat.le_refl _)
      have hqi := HIN.out Q[j] (List.getElem_mem hlt)
      have hag : Ag w V g Q.length cc Q' j Q[j] false false V := by
        refine ⟨Q[j].a.r, Q[j].a.w, Fr.refl _ _, ?_, fun _ => rfl, fun e => (by cases e), fun _ => rfl, fun e => (by cases e)⟩
        have e8 : Q'.set j (Q[j].with Q[j].a.r Q[j].a.w) = Q' := by
          have : Q[j].with Q[j].a.r Q[j].a.w = Q'[j] := e9.symm
          rw [this, List.set_getElem_self]
        rw [e8]
        exact haa.row
      have hnx := fun X (hX : Ag w V g Q.length cc Q' j Q[j] true true X) => haa.next hlt hgw hX
      have hln := haa.ln
      have hlw := haa.lw
      generalize Q[j] = q at hqi hag hnx
      have HQI := Lib.hid hqi
      have HAG := Lib.hid hag
      have HNX := Lib.hid hnx
      have HG := Lib.hid (And.intro hgw hgl)
      have HLN : Hid (Q'.length = Q.length ∧ j < Q'.length) := Lib.hid ⟨hln, hq⟩
      have HLW := Lib.hid hlw
      have k0 : (0 : Int) ≤ j := by omega
      have k1 : (j : Int) < Q.length := by omega
      clear haa hgw hgl hq e9 hqi hag hnx hln hlw
      go_upto_region 6 with fail
      refine wp_region_fb (fun fl X9 => Ag w V g Q.length cc Q' j q (fl 14) (fl 17) X9) (fun X9 X8 => Fr X9 X8 (fun k => k = g)) [
        fun v9 _ => v9 = .pointer (some ⟨g, j * 31 + 1, none⟩),
        fun v9 _ => v9 = .pointer (some ⟨g, j * 31 + 1, none⟩),
        fun v9 _ => v9 = .pointer (some ⟨g, j * 31 + 1, none⟩),
        fun v9 _ => v9 = .pointer (some ⟨g, j * 31 + 1, none⟩),
        fun v9 _ => v9 = .pointer (some ⟨g, j * 31 + 1 + 8, none⟩),
        fun v9 _ => v9 = .slice q.a.r.a q.a.r.n q.a.r.c,
        fun v9 X9 => ∃ u : Sv, v9 = .slice u.a u.n u.c ∧ RdRow V.heap.size X9 q.R (.slice u.a u.n u.c),
        fun v9 _ => v9 = .pointer (some ⟨g, j * 31 + 1, none⟩),
        fun v9 _ => v9 = .pointer (some ⟨g, j * 31 + 1, none⟩),
        fun v9 _ => v9 = .pointer (some ⟨g, j * 31 + 1 + 9, none⟩),
        fun v9 _ => v9 = .slice q.a.w.a q.a.w.n q.a.w.c,
        fun v9 X9 => ∃ u : Sv, v9 = .slice u.a u.n u.c ∧ X9.ownsRow V.heap.size 69 3 (.slice u.a u.n u.c) q.W.length (q.W.flatMap wrL),
        fun v9 _ => v9 = .pointer (some ⟨g, j * 31 + 1, none⟩),
        fun v9 _ => v9 = .pointer (some ⟨g, j * 31 + 1 + 8, none⟩),
        fun _ _ => True,
        fun v9 _ => v9 = .pointer (some ⟨g, j * 31 + 1, none⟩),
        fun v9 _ => v9 = .pointer (some ⟨g, j * 31 + 1 + 9, none⟩),
        fun _ _ => True]
        (by kernel_rfl) (by kernel_rfl) (by kernel_rfl) ?st ?g0 ?os ?en
      case st => exact ⟨fun _ _ _ _ h => h, fun _ _ _ _ h => h, fun _ _ _ _ h => h, fun _ _ _ _ h => h, fun _ _ _ _ h => h, fun _ _ _ _ h => h, (fun _ _ _ hb h => by obtain ⟨u, e9, h1⟩ := h; exact ⟨u, e9, h1.fr hb HG.out.2⟩), fun _ _ _ _ h => h, fun _ _ _ _ h => h, fun _ _ _ _ h => h, fun _ _ _ _ h => h, (fun _ _ _ hb h => by
  obtain ⟨u, e9, h1⟩ := h
  exact ⟨u, e9, row_keep h1 hb (fun i hi q => by
    have := (h1.lt i hi).1
    have h2 := HG.out.2
    have q' : i = g := q
    omega)⟩), fun _ _ _ _ h => h, fun _ _ _ _ h => h, fun _ _ _ _ h => h, fun _ _ _ _ h => h, fun _ _ _ _ h => h, fun _ _ _ _ h => h, trivial⟩
      case g0 => exact HAG.out.below ⟨rfl, rfl, rfl, Nat.le_refl _, fun _ _ => rfl⟩
      case os =>
        refine ⟨?_, ?_, ?_, ?_, ?_, ?_, ?_, ?_, ?_, ?_, ?_, ?_, ?_, ?_, ?_, ?_, ?_, ?_, trivial⟩
        · exact fun ρ X9 fl hg hn hl hp ho hc hf hr => .inl ⟨rfl, Runs.val _ (op_move (show ρ (.tmp 5) = .pointer (some ⟨g, j * 31 + 1, none⟩) from ho 5 rfl)) ⟨hg, Fr.refl _ _, rfl⟩⟩
        · exact fun ρ X9 fl hg hn hl hp ho hc hf hr => .inl ⟨rfl, Runs.val _ (op_move (show ρ (.tmp 5) = .pointer (some ⟨g, j * 31 + 1, none⟩) from ho 5 rfl)) ⟨hg, Fr.refl _ _, rfl⟩⟩
        · exact fun ρ X9 fl hg hn hl hp ho hc hf hr => .inl ⟨rfl, Runs.val _ (op_move (show ρ (.tmp 5) = .pointer (some ⟨g, j * 31 + 1, none⟩) from ho 5 rfl)) ⟨hg, Fr.refl _ _, rfl⟩⟩
        · exact fun ρ X9 fl hg hn hl hp ho hc hf hr => .inl ⟨rfl, Runs.val _ (op_nil (show ρ (.tmp 19) = .pointer (some ⟨g, j * 31 + 1, none⟩) from hr 2 19 rfl rfl)) ⟨hg, Fr.refl _ _, rfl⟩⟩
        · exact fun ρ X9 fl hg hn hl hp ho hc hf hr => .inl ⟨rfl, Runs.val _ (op_f76_4 (show ρ (.tmp 20) = .pointer (some ⟨g, j * 31 + 1, none⟩) from hr 3 20 rfl rfl)) ⟨hg, Fr.refl _ _, rfl⟩⟩
        · intro ρ X9 fl hg hn hl hp ho hc hf hr
          have n6 : fl 6 = false := by
            cases h9 : fl 6 with
            | false => rfl
            | true => exact absurd (hl 6 _ 5 rfl rfl h9) (by rw [hn]; decide)
          have n14 : fl 14 = false := by
            cases h9 : fl 14 with
            | false => rfl
            | true => exact absurd (hl 14 _ 6 rfl rfl h9) (by rw [n6]; decide)
          have hG : Ag w V g Q.length cc Q' j q (fl 14) (fl 17) X9 := hg
          obtain ⟨r1, w1, e1, e2, c1, c2, _⟩ := hG.cell HLN.out.2 HLN.out.1
          have e3 : r1 = q.a.r := e1 n14
          rw [e3] at c1
          exact .inl ⟨rfl, Runs.val _ (op_load22 (show ρ (.tmp 21) = .pointer (some ⟨g, j * 31 + 1 + 8, none⟩) from hr 4 21 rfl rfl) c1) ⟨hg, Fr.refl _ _, rfl⟩⟩
        · intro ρ X9 fl hg hn hl hp ho hc hf hr
          have hG : Ag w V g Q.length cc Q' j q (fl 14) (fl 17) X9 := hg
          have hF : Fr V X9 (fun k => k = g) := (show Ag w V g Q.length cc Q' j q (fl 14) (fl 17) X9 from hg).fr
          have hX : AqIn X9 q := HQI.out.on (below_put HLW.out (Nat.le_refl _) hF HG.out.1)
          refine .inl ⟨rfl, ?_⟩
          refine Runs.goes 36 #[.slice q.a.r.a q.a.r.n q.a.r.c] (op_call1 hf (by go_simp) (show ρ (.tmp 22) = .slice q.a.r.a q.a.r.n q.a.r.c from hr 5 22 rfl rfl)) ((cloneReads_any hX.r hX.zr hX.zs).mono ?_)
          rintro e7 w7 ⟨ad, cap, rfl, h7, b7⟩
          exact ⟨_, rfl, hG.below b7, Fr.ofBelow _ b7, ⟨ad, _, cap⟩, rfl, h7.mono hF.size⟩
        · exact fun ρ X9 fl hg hn hl hp ho hc hf hr => .inl ⟨rfl, Runs.val _ (op_move (show ρ (.tmp 5) = .pointer (some ⟨g, j * 31 + 1, none⟩) from ho 5 rfl)) ⟨hg, Fr.refl _ _, rfl⟩⟩
        · exact fun ρ X9 fl hg hn hl hp ho hc hf hr => .inl ⟨rfl, Runs.val _ (op_nil (show ρ (.tmp 24) = .pointer (some ⟨g, j * 31 + 1, none⟩) from hr 7 24 rfl rfl)) ⟨hg, Fr.refl _ _, rfl⟩⟩
        · exact fun ρ X9 fl hg hn hl hp ho hc hf hr => .inl ⟨rfl, Runs.val _ (op_f76_5 (show ρ (.tmp 25) = .pointer (some ⟨g, j * 31 + 1, none⟩) from hr 8 25 rfl rfl)) ⟨hg, Fr.refl _ _, rfl⟩⟩
        · intro ρ X9 fl hg hn hl hp ho hc hf hr
          have n11 : fl 11 = false := by
            cases h9 : fl 11 with
            | false => rfl
            | true => exact absurd (hl 11 _ 10 rfl rfl h9) (by rw [hn]; decide)
          have n17 : fl 17 = false := by
            cases h9 : fl 17 with
            | false => rfl
            | true => exact absurd (hl 17 _ 11 rfl rfl h9) (by rw [n11]; decide)
          have hG : Ag w V g Q.length cc Q' j q (fl 14) (fl 17) X9 := hg
          obtain ⟨r1, w1, e1, e2, c1, c2, _⟩ := hG.cell HLN.out.2 HLN.out.1
          have e3 : w1 = q.a.w := e2 n17
          rw [e3] at c2
          exact .inl ⟨rfl, Runs.val _ (op_load23 (show ρ (.tmp 26) = .pointer (some ⟨g, j * 31 + 1 + 9, none⟩) from hr 9 26 rfl rfl) c2) ⟨hg, Fr.refl _ _, rfl⟩⟩
        · intro ρ X9 fl hg hn hl hp ho hc hf hr
          have hG : Ag w V g Q.length cc Q' j q (fl 14) (fl 17) X9 := hg
          have hF : Fr V X9 (fun k => k = g) := (show Ag w V g Q.length cc Q' j q (fl 14) (fl 17) X9 from hg).fr
          have hX : AqIn X9 q := HQI.out.on (below_put HLW.out (Nat.le_refl _) hF HG.out.1)
          refine .inl ⟨rfl, ?_⟩
          refine Runs.goes 37 #[.slice q.a.w.a q.a.w.n q.a.w.c] (op_call1 hf (by go_simp) (show ρ (.tmp 27) = .slice q.a.w.a q.a.w.n q.a.w.c from hr 10 27 rfl rfl)) ((cloneW_any hX.w hX.zw).mono ?_)
          rintro e7 w7 ⟨ad, cap, rfl, h7, b7⟩
          exact ⟨_, rfl, hG.below b7, Fr.ofBelow _ b7, ⟨ad, _, cap⟩, rfl, own_mono h7 hF.size⟩
        · exact fun ρ X9 fl hg hn hl hp ho hc hf hr => .inl ⟨rfl, Runs.val _ (op_nil (show ρ (.tmp 17) = .pointer (some ⟨g, j * 31 + 1, none⟩) from hr 0 17 rfl rfl)) ⟨hg, Fr.refl _ _, rfl⟩⟩
        · exact fun ρ X9 fl hg hn hl hp ho hc hf hr => .inl ⟨rfl, Runs.val _ (op_f76_4 (show ρ (.tmp 29) = .pointer (some ⟨g, j * 31 + 1, none⟩) from hr 12 29 rfl rfl)) ⟨hg, Fr.refl _ _, rfl⟩⟩
        · intro ρ X9 fl hg hn hl hp ho hc hf hr
          have hG : Ag w V g Q.length cc Q' j q (fl 14) (fl 17) X9 := hg
          rw [show fl 14 = false from hn] at hG
          obtain ⟨u, e9, h1⟩ : ∃ u : Sv, ρ (.tmp 23) = .slice u.a u.n u.c ∧ RdRow V.heap.size X9 q.R (.slice u.a u.n u.c) := hr 6 23 rfl rfl
          obtain ⟨r1, w1, _, _, c1, c2, zf⟩ := hG.cell HLN.out.2 HLN.out.1
          refine .inl ⟨rfl, Runs.skips (op_store22 (show ρ (.tmp 30) = .pointer (some ⟨g, j * 31 + 1 + 8, none⟩) from hr 13 30 rfl rfl) e9 c1 (zf _)) ⟨?_, Fr.set (a := ⟨g, j * 31 + 1 + 8, none⟩) (Fr.refl X9 (fun k => k = g)) (.inl rfl) _, trivial⟩⟩
          exact hG.st1 HLN.out.2 HG.out.2 u h1
        · exact fun ρ X9 fl hg hn hl hp ho hc hf hr => .inl ⟨rfl, Runs.val _ (op_nil (show ρ (.tmp 18) = .pointer (some ⟨g, j * 31 + 1, none⟩) from hr 1 18 rfl rfl)) ⟨hg, Fr.refl _ _, rfl⟩⟩
        · exact fun ρ X9 fl hg hn hl hp ho hc hf hr => .inl ⟨rfl, Runs.val _ (op_f76_5 (show ρ (.tmp 31) = .pointer (some ⟨g, j * 31 + 1, none⟩) from hr 15 31 rfl rfl)) ⟨hg, Fr.refl _ _, rfl⟩⟩
        · intro ρ X9 fl hg hn hl hp ho hc hf hr
          have hG : Ag w V g Q.length cc Q' j q (fl 14) (fl 17) X9 := hg
          rw [show fl 17 = false from hn] at hG
          obtain ⟨u, e9, h1⟩ : ∃ u : Sv, ρ (.tmp 28) = .slice u.a u.n u.c ∧ X9.ownsRow V.heap.size 69 3 (.slice u.a u.n u.c) q.W.length (q.W.flatMap wrL) := hr 11 28 rfl rfl
          obtain ⟨r1, w1, _, _, c1, c2, zf⟩ := hG.cell HLN.out.2 HLN.out.1
          refine .inl ⟨rfl, Runs.skips (op_store23 (show ρ (.tmp 32) = .pointer (some ⟨g, j * 31 + 1 + 9, none⟩) from hr 16 32 rfl rfl) e9 c2 (zf _)) ⟨?_, Fr.set (a := ⟨g, j * 31 + 1 + 9, none⟩) (Fr.refl X9 (fun k => k = g)) (.inl rfl) _, trivial⟩⟩
          exact hG.st2 HLN.out.2 HG.out.2 u h1
      case en =>
        intro a9 w6 fl hfl hG9 hs9 hd9 ho9 hr9
        obtain ⟨x9, hx, hxt⟩ := act_put hs9 hd9 ho9
        change a9 = putAll _ x9 [17, 18, 19, 20, 21, 22, 23, 24, 25, 26, 27, 28, 29, 30, 31, 32] at hx
        simp only [putAll, Act.put, List.setIfInBounds_toArray, List.set_cons_zero, List.set_cons_succ] at hx
        subst hx
        clear hs9 hd9 ho9 hr9 hxt 
        generalize x9 17 = z17, x9 18 = z18, x9 19 = z19, x9 20 = z20, x9 21 = z21, x9 22 = z22, x9 23 = z23, x9 24 = z24, x9 25 = z25, x9 26 = z26, x9 27 = z27, x9 28 = z28, x9 29 = z29, x9 30 = z30, x9 31 = z31, x9 32 = z32
        have H6 : Hid (Ag w V g Q.length cc Q' j q true true w6) := Lib.hid (by
          have h9 := hG9
          rw [hfl 14 (by decide), hfl 17 (by decide)] at h9
          exact h9)
        clear hG9 hfl
        go_wp2
        go_roundw
        case rel =>
          obtain ⟨Q2, h2⟩ := HNX.out _ H6.out
          exact ⟨j + 1, Q2, hlt, by go_num, h2⟩
        case measure => simp [intOf]; omega
    · obtain rfl : j = Q.length := by omega
      have k1 : ¬ (Q.length : Int) < Q.length := by omega
      have HAA := Lib.hid haa
      clear haa
      go_wp2
      refine bodyPost_ret (v := .slice ca Q.length cc) (by simp [results, Try.results17, go_sem]) rfl ?_
      have h := HAA.out
      refine ⟨ca, cc, Q', rfl, h.ln, h.row, h.pl, fun q hq => ?_, h.lw⟩
      obtain ⟨i, hi9, rfl⟩ := List.getElem_of_mem hq
      exact h.dn i hi9 (by rw [← h.ln]; exact hi9)
end
end Go.Proofs.Ytfokgalgdlajlaa
