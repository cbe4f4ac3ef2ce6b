/- Arguments opened, by how much they hold together. -/
import Derived.Test.YtcoaahlakkghhaaGp
import Derived.Test.YtcoaahlakkghhaaGq
namespace Go.Proofs.Ytcoaahlakkghhaa
open Go.ChangeShapes Go.WideShapes Go.ChangeAt Go.WideMaps Go.WideElems Go.RowKit Go.Joins Go.Deep
def wrB (x : Wr) : Nat := 2 + x.key.size + x.val.size
def smB (x : Sm) : Nat := 1 + x.1.size
def rnB (r : Rn) : Nat := 2 + r.span.lo.size + r.span.hi.size + (r.seen.map smB).sum
def cmB (c : Cm) : Nat := 1 + (c.writes.map wrB).sum + (c.reads.map rnB).sum
def totB (L : List Oq) : Nat := (L.map fun q => cmB q.2).sum
theorem sum_ge {α : Type} {f : α → Nat} (h : ∀ x, 1 ≤ f x) : ∀ l : List α, l.length ≤ (l.map f).sum
  | [] => Nat.le_refl _
  | x :: l => by
    have := sum_ge h l
    have := h x
    simp
    omega
theorem sum_le {α : Type} {f g : α → Nat} (h : ∀ x, f x ≤ g x) : ∀ l : List α, (l.map f).sum ≤ (l.map g).sum
  | [] => Nat.le_refl _
  | x :: l => by
    have := sum_le h l
    have := h x
    simp
    omega
theorem sum_two {α : Type} {f g : α → Nat} : ∀ l : List α, (l.map fun x => f x + g x).sum = (l.map f).sum + (l.map g).sum
  | [] => rfl
  | x :: l => by
    have := sum_two (f := f) (g := g) l
    simp
    omega
theorem sum_mem {α : Type} {f : α → Nat} : ∀ {l : List α} {x : α}, x ∈ l → f x ≤ (l.map f).sum
  | y :: l, x, h => by
    simp only [List.map_cons, List.sum_cons]
    rcases List.mem_cons.1 h with rfl | h
    · omega
    · have := sum_mem (f := f) h
      omega
theorem one_sum {α : Type} : ∀ l : List α, (l.map fun _ => 1).sum = l.length
  | [] => rfl
  | x :: l => by
    have := one_sum l
    rw [List.map_cons, List.sum_cons, List.length_cons, this]
    omega
theorem gsz_cmB (c : Cm) : gsz c ≤ cmB c := by
  unfold gsz cmB seenN
  have h1 := sum_ge (f := wrB) (fun x => by unfold wrB; omega) c.writes
  have h2 := sum_le (f := fun r : Rn => 1 + r.seen.length) (g := rnB) (fun r => by
    have := sum_ge (f := smB) (fun x => by unfold smB; omega) r.seen
    unfold rnB
    omega) c.reads
  have h3 := sum_two (f := fun _ : Rn => 1) (g := fun r : Rn => r.seen.length) c.reads
  have h4 := one_sum c.reads
  omega
theorem tot_totB (L : List Oq) : tot L ≤ totB L := sum_le (f := fun q : Oq => gsz q.2) (g := fun q : Oq => cmB q.2) (fun q => gsz_cmB q.2) L
theorem cmB_sz {c : Cm} (h : cmB c ≤ 1048576) : CmSz c := by
  have hg := gsz_cmB c
  unfold gsz at hg
  refine ⟨by omega, by omega, fun r hr => ?_⟩
  have h1 : r.seen.length ≤ seenN c.reads := sum_mem (f := fun r : Rn => r.seen.length) hr
  omega
/-- Its numbers are the machine's. -/
structure CmIn (c : Cm) : Prop where
  hm : I64 c.home
  mn : I64 c.mn
  til : I64 c.til
  ts : I64 c.ts
theorem bulk_one {H : Type} (d : DataW H) : 1 ≤ Rows.uptoBulk d := by
  cases d with
  | lit l => cases l <;> simp [Rows.uptoBulk]
  | nil => simp [Rows.uptoBulk]
  | ptr d => simp [Rows.uptoBulk]
  | slice elems spare => simp [Rows.uptoBulk]
  | agg parts => simp [Rows.uptoBulk]
  | iface t d => simp [Rows.uptoBulk]
  | map entries => simp [Rows.uptoBulk]
  | held h => simp [Rows.uptoBulk]
theorem bulk_text {H : Type} {y : DataW H} {s : ByteArray} (e : y = .lit (.string s.data.toList)) : Rows.uptoBulk y = s.size + 1 := by
  rw [e]
  simp only [Rows.uptoBulk]
  rw [Array.length_toList]
  rfl
theorem bulk_map {H : Type} {α : Type} {q : Nat → α} {D : Nat → DataW H} {f : α → Nat} : ∀ l : List Nat, (∀ i ∈ l, f (q i) ≤ Rows.uptoBulk (D i)) → ((l.map q).map f).sum ≤ Rows.uptoBulkAll (l.map D)
  | [], _ => by simp
  | i :: l, h => by
    have h1 := bulk_map l (fun j hj => h j (List.mem_cons_of_mem _ hj))
    have h2 := h i List.mem_cons_self
    simp only [List.map_cons, List.sum_cons, Rows.uptoBulkAll]
    omega
section
variable {H : Type} {enc : TypeId × Value → H} {W : World} {fuel : Nat} {cs : List Value} {x : DataW H × List MemPlace}
set_option maxRecDepth 100000 in
set_option maxHeartbeats 1000000 in
/-- A list, opened: each of its things is opened by 'each'. -/
theorem list_trodB {α : Type} (hinh : Inhabited α) {E : World → α → List Value → Prop} {f : α → Nat} {st et : TypeId} {c : Nat} (hu : Try.prog.underlying st = some (.slice et)) (hcs : Try.prog.cellsOf et = c) (hc0 : 0 < c)
    (each0 : ∀ (cs' : List Value) (fuel : Nat) (x' : DataW H × List MemPlace), cs'.length = c → DataW.trod enc Try.prog W 0 (fun _ => true) true fuel et cs' = some x' → ∃ q : α, E W q cs' ∧ f q ≤ Rows.uptoBulk x'.1)
    (hf : DataW.trod enc Try.prog W 0 (fun _ => true) true fuel st cs = some x) : ∃ (l : List α) (v : Value), cs = [v] ∧ Lr E c W l v ∧ (l.map f).sum + 1 ≤ Rows.uptoBulk x.1 := by
  rcases open_slice hu hf with ⟨hcs', hx⟩ | ⟨a, len, cap, m, n, D, Pl, hcs', _, hl, hm, hmm, hx, hel⟩
  · exact ⟨[], .slice none 0 0, hcs', ⟨none, 0, rfl, fun _ => rfl, Nat.le_refl _, Nat.zero_le _, fun i hi => by simp at hi⟩, bulk_one _⟩
  · simp only [if_true] at hmm
    subst hmm
    have each : ∀ i, i < len → ∃ q : α, (∃ cs', E W q cs' ∧ cs'.length = c ∧ ∀ j u, cs'[j]? = some u → W.cell? (a.add (i * c + j)) = some u) ∧ f q ≤ Rows.uptoBulk (D i) := by
      intro i hi
      obtain ⟨cs', h1, h2⟩ := hel i (by omega)
      rw [hcs] at h1
      obtain ⟨_, hlen, hcell⟩ := World.cells?_some h1
      obtain ⟨o, e, hz⟩ := each0 cs' _ _ hlen h2
      refine ⟨o, ⟨cs', e, hlen, fun j u hu => ?_⟩, hz⟩
      have hj : j < cs'.length := by
        rw [List.getElem?_eq_some_iff] at hu
        exact hu.1
      have z := hcell j (by omega)
      rw [add_add] at z
      rw [z]
      exact hu
    obtain ⟨q, hq⟩ := choose_lt each
    have hlen : ((List.range len).map q).length = len := by simp
    refine ⟨(List.range len).map q, _, hcs', ⟨some a, m, by rw [hlen], fun z => (by cases z), by rw [hlen]; exact hl, hm, fun i hi => ?cl⟩, ?sz⟩
    case sz =>
      have hd : x.1 = _ := congrArg Prod.fst hx
      have h1 := bulk_map (f := f) (q := q) (D := D) (List.range len) (fun i hi => (hq i (List.mem_range.1 hi)).2)
      rw [hd]
      simp only [Rows.uptoBulk]
      omega
    case cl =>
      rw [hlen] at hi
      obtain ⟨⟨cs', e1, e2, e3⟩, _⟩ := hq i hi
      obtain ⟨b, o, sp⟩ := a
      have hw0 : ∃ u, W.cell? ((⟨b, o, sp⟩ : Addr).add (i * c + 0)) = some u := ⟨_, e3 0 _ (List.getElem?_eq_getElem (by omega))⟩
      have hsp : sp = none := by
        obtain ⟨⟨cs0, _, l0, c0⟩, _⟩ := hq 0 (by omega)
        have := World.cell?_spot (c0 0 _ (List.getElem?_eq_getElem (by omega)))
        simpa [Addr.add] using this
      subst hsp
      have e : ((List.range len).map q)[i]'(by rw [hlen]; exact hi) = q i := by simp
      rw [e]
      have hbl : b < W.heap.size := by
        obtain ⟨u, z⟩ := hw0
        rw [add_at] at z
        exact cell_lt z
      exact ⟨b, o, cs', rfl, hbl, e1, e2, fun j u hu => by
        have z := e3 j u hu
        rw [add_at] at z
        rw [Nat.add_assoc]
        exact z⟩
set_option maxRecDepth 100000 in
theorem wr_trodB (hl : cs.length = 3) (hf : DataW.trod enc Try.prog W 0 (fun _ => true) true fuel 55 cs = some x) : ∃ v : Wr, wrE W v cs ∧ wrB v ≤ Rows.uptoBulk x.1 := by
  obtain ⟨xs, k, hk, hxy, _, hxl, hfl⟩ := DataW.trod_struct Try.underlying55 hf
  match xs, hxl, cs, hl with
  | [y0, y1, y2], _, [v0, v1, v2], _ =>
    have g0 := hfl 0 _ rfl
    have g1 := hfl 1 _ rfl
    have g2 := hfl 2 _ rfl
    simp [cells9, cells4] at g0 g1 g2
    obtain ⟨s, f0, e0, _⟩ := DataW.trod_string Try.underlying9 g0
    obtain ⟨t, f1, e1, _⟩ := DataW.trod_string Try.underlying9 g1
    obtain ⟨k2, f2, _⟩ := DataW.trod_bool Try.underlying4 g2
    simp at f0 f1 f2
    subst f0 f1 f2
    have b0 := bulk_text (congrArg Prod.fst e0)
    have b1 := bulk_text (congrArg Prod.fst e1)
    have hx : x.1 = .agg [y0.1, y1.1, y2.1] := by rw [hxy]; rfl
    refine ⟨⟨s, t, k2⟩, rfl, ?_⟩
    rw [hx]
    simp only [Rows.uptoBulk, Rows.uptoBulkAll, wrB]
    omega
set_option maxRecDepth 100000 in
theorem sm_trodB (hl : cs.length = 2) (hf : DataW.trod enc Try.prog W 0 (fun _ => true) true fuel 82 cs = some x) : ∃ v : Sm, smE W v cs ∧ smB v ≤ Rows.uptoBulk x.1 := by
  obtain ⟨xs, k, hk, hxy, _, hxl, hfl⟩ := DataW.trod_struct Try.underlying82 hf
  match xs, hxl, cs, hl with
  | [y0, y1], _, [v0, v1], _ =>
    have g0 := hfl 0 _ rfl
    have g1 := hfl 1 _ rfl
    simp [cells9, cells3] at g0 g1
    obtain ⟨s, f0, e0, _⟩ := DataW.trod_string Try.underlying9 g0
    obtain ⟨k1, f1, _, _⟩ := DataW.trod_int Try.underlying3 g1
    simp at f0 f1
    subst f0 f1
    have b0 := bulk_text (congrArg Prod.fst e0)
    have hx : x.1 = .agg [y0.1, y1.1] := by rw [hxy]; rfl
    refine ⟨(s, k1), rfl, ?_⟩
    rw [hx]
    simp only [Rows.uptoBulk, Rows.uptoBulkAll, smB]
    omega
theorem sml_trodB (hf : DataW.trod enc Try.prog W 0 (fun _ => true) true fuel 58 cs = some x) : ∃ (l : List Sm) (v : Value), cs = [v] ∧ Lr smE 2 W l v ∧ (l.map smB).sum + 1 ≤ Rows.uptoBulk x.1 :=
  list_trodB ⟨(⟨#[]⟩, 0)⟩ Try.underlying58 cells82 (by decide) (fun _ _ _ h1 h2 => sm_trodB h1 h2) hf
theorem wrl_trodB (hf : DataW.trod enc Try.prog W 0 (fun _ => true) true fuel 39 cs = some x) : ∃ (l : List Wr) (v : Value), cs = [v] ∧ Lr wrE 3 W l v ∧ (l.map wrB).sum + 1 ≤ Rows.uptoBulk x.1 :=
  list_trodB ⟨⟨⟨#[]⟩, ⟨#[]⟩, false⟩⟩ Try.underlying39 cells55 (by decide) (fun _ _ _ h1 h2 => wr_trodB h1 h2) hf
set_option maxRecDepth 100000 in
theorem sn_trodB (hl : cs.length = 2) (hf : DataW.trod enc Try.prog W 0 (fun _ => true) true fuel 57 cs = some x) : ∃ p : Sn, cs = snL p ∧ p.lo.size + p.hi.size + 3 ≤ Rows.uptoBulk x.1 ∧ p.lo.size ≤ maxLen ∧ p.hi.size ≤ maxLen := by
  obtain ⟨xs, k, hk, hxy, _, hxl, hfl⟩ := DataW.trod_struct Try.underlying57 hf
  match xs, hxl, cs, hl with
  | [y0, y1], _, [v0, v1], _ =>
    have g0 := hfl 0 _ rfl
    have g1 := hfl 1 _ rfl
    simp [cells9] at g0 g1
    obtain ⟨s, f0, e0, z0⟩ := DataW.trod_string Try.underlying9 g0
    obtain ⟨t, f1, e1, z1⟩ := DataW.trod_string Try.underlying9 g1
    simp at f0 f1
    subst f0 f1
    have b0 := bulk_text (congrArg Prod.fst e0)
    have b1 := bulk_text (congrArg Prod.fst e1)
    have hx : x.1 = .agg [y0.1, y1.1] := by rw [hxy]; rfl
    refine ⟨⟨s, t⟩, rfl, ?_, z0, z1⟩
    rw [hx]
    simp only [Rows.uptoBulk, Rows.uptoBulkAll]
    omega
set_option maxRecDepth 100000 in
theorem rn_trodB (hl : cs.length = 3) (hf : DataW.trod enc Try.prog W 0 (fun _ => true) true fuel 60 cs = some x) : ∃ r : Rn, rnE W r cs ∧ rnB r ≤ Rows.uptoBulk x.1 := by
  obtain ⟨xs, k, hk, hxy, _, hxl, hfl⟩ := DataW.trod_struct Try.underlying60 hf
  match xs, hxl, cs, hl with
  | [y0, y1], _, [v0, v1, v2], _ =>
    have g0 := hfl 0 _ rfl
    have g1 := hfl 1 _ rfl
    simp [cells57, cells58] at g0 g1
    obtain ⟨p, f0, b0, _⟩ := sn_trodB (cs := [v0, v1]) rfl g0
    obtain ⟨l, v, f1, h1, b1⟩ := sml_trodB g1
    simp at f0 f1
    obtain ⟨rfl, rfl⟩ := f0
    subst f1
    have hx : x.1 = .agg [y0.1, y1.1] := by rw [hxy]; rfl
    obtain ⟨sa, sc, e, h1⟩ := h1
    subst e
    refine ⟨⟨p, l⟩, ⟨sa, sc, rfl, sa, sc, rfl, h1⟩, ?_⟩
    rw [hx]
    simp only [Rows.uptoBulk, Rows.uptoBulkAll, rnB]
    omega
theorem rnl_trodB (hf : DataW.trod enc Try.prog W 0 (fun _ => true) true fuel 38 cs = some x) : ∃ (l : List Rn) (v : Value), cs = [v] ∧ Lr rnE 3 W l v ∧ (l.map rnB).sum + 1 ≤ Rows.uptoBulk x.1 :=
  list_trodB ⟨⟨⟨⟨#[]⟩, ⟨#[]⟩⟩, []⟩⟩ Try.underlying38 cells60 (by decide) (fun _ _ _ h1 h2 => rn_trodB h1 h2) hf
set_option maxHeartbeats 2000000 in
set_option maxRecDepth 100000 in
theorem cm_trodB (hl : cs.length = 30) (hf : DataW.trod enc Try.prog W 0 (fun _ => true) true fuel 47 cs = some x) : ∃ (c : Cm) (ra : Option Addr) (rc : Nat) (wa : Option Addr) (wc : Nat), CmOk W c cs.toArray ra rc wa wc ∧ CmIn c ∧ cmB c ≤ Rows.uptoBulk x.1 := by
  obtain ⟨xs, k, hk, hxy, _, hxl, hfl⟩ := DataW.trod_struct Try.underlying47 hf
  match xs, hxl with
  | [y0, y1, y2, y3, y4, y5, y6, y7, y8, y9, y10, y11, y12, y13, y14, y15], _ =>
    have g0 : DataW.trod enc Try.prog W 0 (fun _ => true) true k 3 ((cs.drop 0).take (Try.prog.cellsOf 3)) = some y0 := hfl 0 _ rfl
    rw [cells3] at g0
    have g1 : DataW.trod enc Try.prog W 0 (fun _ => true) true k 37 ((cs.drop 1).take (Try.prog.cellsOf 37)) = some y1 := hfl 1 _ rfl
    rw [cells37] at g1
    have g2 : DataW.trod enc Try.prog W 0 (fun _ => true) true k 37 ((cs.drop 4).take (Try.prog.cellsOf 37)) = some y2 := hfl 2 _ rfl
    rw [cells37] at g2
    have g3 : DataW.trod enc Try.prog W 0 (fun _ => true) true k 3 ((cs.drop 7).take (Try.prog.cellsOf 3)) = some y3 := hfl 3 _ rfl
    rw [cells3] at g3
    have g4 : DataW.trod enc Try.prog W 0 (fun _ => true) true k 38 ((cs.drop 8).take (Try.prog.cellsOf 38)) = some y4 := hfl 4 _ rfl
    rw [cells38] at g4
    have g5 : DataW.trod enc Try.prog W 0 (fun _ => true) true k 39 ((cs.drop 9).take (Try.prog.cellsOf 39)) = some y5 := hfl 5 _ rfl
    rw [cells39] at g5
    have g6 : DataW.trod enc Try.prog W 0 (fun _ => true) true k 3 ((cs.drop 10).take (Try.prog.cellsOf 3)) = some y6 := hfl 6 _ rfl
    rw [cells3] at g6
    have g7 : DataW.trod enc Try.prog W 0 (fun _ => true) true k 3 ((cs.drop 11).take (Try.prog.cellsOf 3)) = some y7 := hfl 7 _ rfl
    rw [cells3] at g7
    have g8 : DataW.trod enc Try.prog W 0 (fun _ => true) true k 3 ((cs.drop 12).take (Try.prog.cellsOf 3)) = some y8 := hfl 8 _ rfl
    rw [cells3] at g8
    have g9 : DataW.trod enc Try.prog W 0 (fun _ => true) true k 3 ((cs.drop 13).take (Try.prog.cellsOf 3)) = some y9 := hfl 9 _ rfl
    rw [cells3] at g9
    have g10 : DataW.trod enc Try.prog W 0 (fun _ => true) true k 3 ((cs.drop 14).take (Try.prog.cellsOf 3)) = some y10 := hfl 10 _ rfl
    rw [cells3] at g10
    have g11 : DataW.trod enc Try.prog W 0 (fun _ => true) true k 44 ((cs.drop 15).take (Try.prog.cellsOf 44)) = some y11 := hfl 11 _ rfl
    rw [cells44] at g11
    have g12 : DataW.trod enc Try.prog W 0 (fun _ => true) true k 3 ((cs.drop 26).take (Try.prog.cellsOf 3)) = some y12 := hfl 12 _ rfl
    rw [cells3] at g12
    have g13 : DataW.trod enc Try.prog W 0 (fun _ => true) true k 3 ((cs.drop 27).take (Try.prog.cellsOf 3)) = some y13 := hfl 13 _ rfl
    rw [cells3] at g13
    have g14 : DataW.trod enc Try.prog W 0 (fun _ => true) true k 9 ((cs.drop 28).take (Try.prog.cellsOf 9)) = some y14 := hfl 14 _ rfl
    rw [cells9] at g14
    have g15 : DataW.trod enc Try.prog W 0 (fun _ => true) true k 45 ((cs.drop 29).take (Try.prog.cellsOf 45)) = some y15 := hfl 15 _ rfl
    rw [cells45] at g15
    obtain ⟨k0, f0, _, b0⟩ := DataW.trod_int Try.underlying3 g0
    obtain ⟨t1, f1, _⟩ := td_trod (by simp [hl]) g1
    obtain ⟨t, f2, ht⟩ := td_trod (by simp [hl]) g2
    obtain ⟨k3, f3, _, b3⟩ := DataW.trod_int Try.underlying3 g3
    obtain ⟨R, rv, f4, hR, zR⟩ := rnl_trodB g4
    obtain ⟨Ws, wv, f5, hWs, zW⟩ := wrl_trodB g5
    obtain ⟨k6, f6, _, b6⟩ := DataW.trod_int Try.underlying3 g6
    obtain ⟨k7, f7, _, b7⟩ := DataW.trod_int Try.underlying3 g7
    obtain ⟨k8, f8, _, b8⟩ := DataW.trod_int Try.underlying3 g8
    have hend : ∀ u ∈ cs.drop 30, u.oneCell' = true := fun u hu => by
      rw [List.drop_of_length_le (by omega)] at hu
      cases hu
    have one : ∀ u ∈ cs.drop 0, u.oneCell' = true := cut_one (o := 0) (n := 1) (in_one Try.underlying3 g0) (cut_one (o := 1) (n := 3) ((fun u hu => td_one (td_trod (by simp [hl]) g1) u hu)) (cut_one (o := 4) (n := 3) ((fun u hu => td_one (td_trod (by simp [hl]) g2) u hu)) (cut_one (o := 7) (n := 1) (in_one Try.underlying3 g3) (cut_one (o := 8) (n := 1) (sl_one Try.underlying38 g4) (cut_one (o := 9) (n := 1) (sl_one Try.underlying39 g5) (cut_one (o := 10) (n := 1) (in_one Try.underlying3 g6) (cut_one (o := 11) (n := 1) (in_one Try.underlying3 g7) (cut_one (o := 12) (n := 1) (in_one Try.underlying3 g8) (cut_one (o := 13) (n := 1) (in_one Try.underlying3 g9) (cut_one (o := 14) (n := 1) (in_one Try.underlying3 g10) (cut_one (o := 15) (n := 11) (dd_trod (by simp [hl]) g11) (cut_one (o := 26) (n := 1) (in_one Try.underlying3 g12) (cut_one (o := 27) (n := 1) (in_one Try.underlying3 g13) (cut_one (o := 28) (n := 1) (st_one' g14) (cut_one (o := 29) (n := 1) (in_one Try.underlying45 g15) (hend))))))))))))))))
    obtain ⟨ra, rc, er, hr⟩ := hR
    obtain ⟨wa, wc, ew, hw⟩ := hWs
    subst er ew
    have at' : ∀ j, cs.toArray[j]? = cs[j]? := fun j => List.getElem?_toArray
    refine ⟨⟨k0, t, k3, R, Ws, k6, k7, k8⟩, ra, rc, wa, wc, ⟨{
      sz := by simp [hl]
      one := by
        rw [List.all_toArray, List.all_eq_true]
        simpa using one
      k := (at' 0).trans (cut_get f0 0 (by decide))
      t0 := (at' 4).trans (cut_get f2 0 (by decide))
      t1 := (at' 5).trans (cut_get f2 1 (by decide))
      t2 := (at' 6).trans (cut_get f2 2 (by decide))
      hm := (at' 7).trans (cut_get f3 0 (by decide))
      rs := (at' 8).trans (cut_get f4 0 (by decide))
      ws := (at' 9).trans (cut_get f5 0 (by decide))
      mn := (at' 10).trans (cut_get f6 0 (by decide))
      til := (at' 11).trans (cut_get f7 0 (by decide))
      ts := (at' 12).trans (cut_get f8 0 (by decide))
      rl := ⟨ra, rc, rfl, hr⟩
      wl := ⟨wa, wc, rfl, hw⟩ }, bounds_i64 b0, ht⟩, ⟨bounds_i64 b3, bounds_i64 b6, bounds_i64 b7, bounds_i64 b8⟩, ?_⟩
    have hx : x.1 = .agg [y0.1, y1.1, y2.1, y3.1, y4.1, y5.1, y6.1, y7.1, y8.1, y9.1, y10.1, y11.1, y12.1, y13.1, y14.1, y15.1] := by rw [hxy]; rfl
    rw [hx]
    simp only [Rows.uptoBulk, Rows.uptoBulkAll, cmB]
    omega
/-- A command of a list, with what it holds. -/
def opF (w : World) (q : Oq) (cs : List Value) : Prop := opE w q cs ∧ CmIn q.2
set_option maxRecDepth 100000 in
theorem op_trodB (hl : cs.length = 31) (hf : DataW.trod enc Try.prog W 0 (fun _ => true) true fuel 49 cs = some x) : ∃ q : Oq, opF W q cs ∧ cmB q.2 ≤ Rows.uptoBulk x.1 := by
  obtain ⟨xs, k, hk, hxy, _, hxl, hfl⟩ := DataW.trod_struct Try.underlying49 hf
  match xs, hxl with
  | [y0, y1], _ =>
    have g0 : DataW.trod enc Try.prog W 0 (fun _ => true) true k 3 ((cs.drop 0).take (Try.prog.cellsOf 3)) = some y0 := hfl 0 _ rfl
    have g1 : DataW.trod enc Try.prog W 0 (fun _ => true) true k 47 ((cs.drop 1).take (Try.prog.cellsOf 47)) = some y1 := hfl 1 _ rfl
    rw [cells3] at g0
    rw [cells47] at g1
    obtain ⟨a, f0, _, b0⟩ := DataW.trod_int Try.underlying3 g0
    rw [List.take_of_length_le (by simp [hl])] at g1
    obtain ⟨c, ra, rc, wa, wc, hok, hin, hz⟩ := cm_trodB (by simp [hl]) g1
    refine ⟨(a, c), ⟨⟨hl, cut_get f0 0 (by decide), bounds_i64 b0, ra, rc, wa, wc, hok⟩, hin⟩, ?_⟩
    have hx : x.1 = .agg [y0.1, y1.1] := by rw [hxy]; rfl
    rw [hx]
    simp only [Rows.uptoBulk, Rows.uptoBulkAll]
    omega
theorem opl_trodB (hf : DataW.trod enc Try.prog W 0 (fun _ => true) true fuel 22 cs = some x) : ∃ (l : List Oq) (v : Value), cs = [v] ∧ Lr opF 31 W l v ∧ (l.map fun q => cmB q.2).sum + 1 ≤ Rows.uptoBulk x.1 :=
  list_trodB ⟨(0, ⟨0, (0, 0, 0), 0, [], [], 0, 0, 0⟩)⟩ Try.underlying22 cells49 (by decide) (fun _ _ _ h1 h2 => op_trodB h1 h2) hf
end
theorem Lr.both {W : World} {L : List Oq} {v : Value} (h : Lr opF 31 W L v) : Lr opE 31 W L v ∧ ∀ q ∈ L, CmIn q.2 := by
  obtain ⟨ad, cap, e, h0, h1, h2, h3⟩ := h
  refine ⟨⟨ad, cap, e, h0, h1, h2, fun i hi => ?_⟩, fun q hq => ?_⟩
  · obtain ⟨b, o, cs, a1, a2, a3, a4⟩ := h3 i hi
    exact ⟨b, o, cs, a1, a2, a3.1, a4⟩
  · obtain ⟨i, hi, rfl⟩ := List.getElem_of_mem hq
    obtain ⟨b, o, cs, a1, a2, a3, a4⟩ := h3 i hi
    exact a3.2
section
variable {H : Type} {enc : TypeId × Value → H}
set_option maxRecDepth 100000 in
theorem open_opsB {W : World} {base : Nat} {v : Value} {d : DataW H} {p : List MemPlace} (hv : Value.okWide Try.prog W .any base 22 v) (h : DataW.Trod enc Try.prog W 0 (fun _ => true) true 22 v d p) : ∃ L : List Oq, Lr opE 31 W L v ∧ (∀ q ∈ L, CmIn q.2) ∧ totB L ≤ Rows.uptoBulk d := by
  obtain ⟨a0, len, cap, rfl⟩ := okWide_slice Try.underlying22 hv
  obtain ⟨fuel, hf⟩ := h
  obtain ⟨L, u, e, h1, h2⟩ := opl_trodB hf
  simp [Value.cells] at e
  subst e
  have h3 : (L.map fun q => cmB q.2).sum + 1 ≤ Rows.uptoBulk d := h2
  exact ⟨L, h1.both.1, h1.both.2, by unfold totB; omega⟩
set_option maxRecDepth 100000 in
theorem open_opB {W : World} {base : Nat} {v : Value} {d : DataW H} {p : List MemPlace} (hv : Value.okWide Try.prog W .any base 49 v) (h : DataW.Trod enc Try.prog W 0 (fun _ => true) true 49 v d p) :
    ∃ (os : Array Value) (q : Oq) (cs : Array Value) (ra : Option Addr) (rc : Nat) (wa : Option Addr) (wc : Nat), v = .agg os ∧ os.size = 31 ∧ os.all (·.oneCell') = true ∧ os[0]? = some (.int .i64 q.1) ∧ (∀ j, os[j + 1]? = cs[j]?) ∧ CmOk W q.2 cs ra rc wa wc ∧ CmIn q.2 ∧ I64 q.1 ∧ cmB q.2 ≤ Rows.uptoBulk d := by
  obtain ⟨cs, rfl, hsz⟩ := okWide_struct Try.underlying49 hv
  obtain ⟨fuel, hf⟩ := h
  obtain ⟨l⟩ := cs
  have hl : l.length = 31 := hsz.trans cells49
  obtain ⟨q, ⟨⟨_, h0, h64, ra, rc, wa, wc, hok⟩, hin⟩, hz⟩ := op_trodB (cs := l) hl hf
  refine ⟨⟨l⟩, q, (l.drop 1).toArray, ra, rc, wa, wc, rfl, by simpa using hl, ?_, by simpa using h0, fun j => by simp, hok, hin, h64, hz⟩
  have z := hok.cc.one
  rw [List.all_toArray, List.all_eq_true] at z ⊢
  intro u hu
  rcases l with _ | ⟨x, l⟩
  · cases h0
  · simp only [List.getElem?_cons_zero, Option.some.injEq] at h0
    rcases List.mem_cons.1 hu with rfl | hu
    · rw [h0]
      rfl
    · exact z u (by simpa using hu)
set_option maxRecDepth 100000 in
theorem open_spanB {W : World} {base : Nat} {v : Value} {d : DataW H} {p : List MemPlace} (hv : Value.okWide Try.prog W .any base 57 v) (h : DataW.Trod enc Try.prog W 0 (fun _ => true) true 57 v d p) : ∃ q : Sn, v = snV q ∧ q.lo.size + q.hi.size ≤ Rows.uptoBulk d := by
  obtain ⟨cs, rfl, hsz⟩ := okWide_struct Try.underlying57 hv
  obtain ⟨fuel, hf⟩ := h
  obtain ⟨l⟩ := cs
  obtain ⟨q, e, h1, _⟩ := sn_trodB (cs := l) (hsz.trans cells57) hf
  subst e
  have h3 : q.lo.size + q.hi.size + 3 ≤ Rows.uptoBulk d := h1
  exact ⟨q, rfl, by omega⟩
set_option maxRecDepth 100000 in
theorem open_tdB {W : World} {base : Nat} {v : Value} {d : DataW H} {p : List MemPlace} (hv : Value.okWide Try.prog W .any base 37 v) (h : DataW.Trod enc Try.prog W 0 (fun _ => true) true 37 v d p) : ∃ t : Td, v = tdV t ∧ TdOk t := by
  obtain ⟨cs, rfl, hsz⟩ := okWide_struct Try.underlying37 hv
  obtain ⟨fuel, hf⟩ := h
  obtain ⟨l⟩ := cs
  obtain ⟨t, e, h1⟩ := td_trod (cs := l) (hsz.trans cells37) hf
  subst e
  exact ⟨t, rfl, h1⟩
theorem again_td {W W' : World} {v : Value} {d : DataW H} {p : List MemPlace} (h : DataW.Trod enc Try.prog W 0 (fun _ => true) true 37 v d p) (hb : Below W.heap.size W W') (hlt : ∀ x ∈ p, x.block < W.heap.size) : DataW.Trod enc Try.prog W' 0 (fun b => decide (b < W.heap.size)) true 37 v d p :=
  Below.trod laidOut (by kernel_rfl) (of_decide_eq_true (by kernel_rfl)) h hb hlt
end
end Go.Proofs.Ytcoaahlakkghhaa
/- How much a shard holds, texts and all. -/
namespace Go.Proofs.Ytcoaahlakkghhaa
def veB (v : Ve) : Nat := 1 + v.val.size
def rwB (r : Rw) : Nat := 1 + r.key.size + (r.list.map veB).sum
def spB (p : Sn) : Nat := 1 + p.lo.size + p.hi.size
def lkB (l : Lk) : Nat := 1 + (l.spans.map spB).sum + 2 * (l.writes.map wrB).sum
def rowsB (R : List Rw) : Nat := (R.map rwB).sum
def locksB (L : List Lk) : Nat := (L.map lkB).sum
def shB (s : Sh) : Nat := rowsB s.rows + locksB s.locks + s.recs.length + s.over.length
theorem sum_app {α : Type} (f : α → Nat) (a b : List α) : ((a ++ b).map f).sum = (a.map f).sum + (b.map f).sum := by
  rw [List.map_append, List.sum_append]
theorem sum_split {α : Type} (f : α → Nat) (l : List α) (i : Nat) : (l.map f).sum = ((l.take i).map f).sum + ((l.drop i).map f).sum := by
  rw [← sum_app, List.take_append_drop]
theorem sum_at {α : Type} (f : α → Nat) {l : List α} {i : Nat} (h : i < l.length) : (l.map f).sum = ((l.take i).map f).sum + f l[i] + ((l.drop (i + 1)).map f).sum := by
  rw [sum_split f l i, List.drop_eq_getElem_cons h, List.map_cons, List.sum_cons]
  omega
theorem sum_inn {α : Type} (f : α → Nat) (l : List α) (i : Nat) (x : α) : ((inn l i x).map f).sum = (l.map f).sum + f x := by
  unfold inn
  rw [sum_app, List.map_cons, List.sum_cons, sum_split f l i]
  omega
theorem rowsB_put (R : List Rw) (k : ByteArray) (v : Ve) : rowsB (putR R k v) ≤ rowsB R + (2 + k.size + v.val.size) := by
  have hin : ∀ i, rowsB (inn R i ⟨k, [v]⟩) ≤ rowsB R + (2 + k.size + v.val.size) := fun i => by
    unfold rowsB
    rw [sum_inn]
    simp [rwB, veB]
    omega
  unfold putR
  split
  · omega
  · split
    · rename_i r hr
      split
      · rename_i hk
        split
        · omega
        · obtain ⟨hi, e⟩ := List.getElem?_eq_some_iff.1 hr
          unfold rowsB
          rw [List.set_eq_take_append_cons_drop, if_pos hi, sum_app, List.map_cons, List.sum_cons, sum_at rwB hi, e]
          have h1 : rwB ⟨k, r.list ++ [v]⟩ = rwB r + veB v := by
            unfold rwB
            simp only [List.map_append, List.sum_append, List.map_cons, List.map_nil, List.sum_cons, List.sum_nil]
            rw [hk]
            omega
          rw [h1]
          unfold veB
          omega
      · exact hin _
    · exact hin _
theorem rowsB_puts : ∀ (L : List Wr) (R : List Rw) (ts : Int), rowsB (puts R L ts) ≤ rowsB R + 2 * (L.map wrB).sum
  | [], R, ts => Nat.le_refl _
  | x :: L, R, ts => by
    have h1 := rowsB_puts L (putW R x ts) ts
    have h2 : rowsB (putW R x ts) ≤ rowsB R + (2 + x.key.size + x.val.size) := rowsB_put R x.key ⟨ts, x.val, x.dead⟩
    have e : puts R (x :: L) ts = puts (putW R x ts) L ts := rfl
    rw [e, List.map_cons, List.sum_cons]
    unfold wrB at h1 ⊢
    omega
theorem spB_le (c : Cm) : ((c.reads.map Rn.span).map spB).sum ≤ (c.reads.map rnB).sum := by
  rw [List.map_map]
  refine sum_le (f := spB ∘ Rn.span) (g := rnB) (fun r => ?_) c.reads
  show spB r.span ≤ rnB r
  unfold spB rnB
  omega
theorem shB_act (s : Sh) (a : Int) (c : Cm) : shB (s.act a c).1 ≤ shB s + 2 * cmB c := by
  have hc : 1 ≤ cmB c := by unfold cmB; omega
  have hent : ∀ r, shB (s.enter r) ≤ shB s + 2 * cmB c := fun r => by
    unfold shB Sh.enter
    simp only [List.length_append, List.length_cons, List.length_nil]
    omega
  unfold Sh.act
  split
  · unfold Sh.prepare
    split
    · show shB s ≤ _
      omega
    · split
      · show shB s ≤ _
        omega
      · split
        · show shB s ≤ _
          omega
        · show shB (s.lock (newL c)) ≤ _
          have h1 := spB_le c
          have h2 : lkB (newL c) = 1 + ((c.reads.map Rn.span).map spB).sum + 2 * (c.writes.map wrB).sum := rfl
          have h3 : locksB (s.locks ++ [newL c]) = locksB s.locks + lkB (newL c) := by
            unfold locksB
            rw [sum_app]
            simp
          have h4 : shB (s.lock (newL c)) = rowsB s.rows + locksB (s.locks ++ [newL c]) + s.recs.length + s.over.length := rfl
          rw [h4, h3, h2]
          unfold shB cmB
          omega
  · split
    · unfold Sh.commit
      split
      · show shB s ≤ _
        omega
      · split
        · exact hent _
        · exact hent _
    · split
      · unfold Sh.abort
        split
        · show shB s ≤ _
          omega
        · exact hent _
      · split
        · unfold Sh.resolve
          split
          · show shB s ≤ _
            omega
          · have key : ∀ x : Sh, x = (if 0 < c.ts then (((s.ended c.txn).unlock c.txn).1.puts ((s.ended c.txn).unlock c.txn).2 c.ts).raise c.ts else ((s.ended c.txn).unlock c.txn).1) → shB x ≤ rowsB s.rows + 2 * (((s.ended c.txn).unlock c.txn).2.map wrB).sum + locksB ((s.ended c.txn).unlock c.txn).1.locks + ((s.ended c.txn).unlock c.txn).1.recs.length + ((s.ended c.txn).unlock c.txn).1.over.length := by
              intro x hx
              have hr0 := unlock_rows (s.ended c.txn) c.txn
              split at hx
              · have := rowsB_puts ((s.ended c.txn).unlock c.txn).2 ((s.ended c.txn).unlock c.txn).1.rows c.ts
                rw [hr0] at this
                have e : shB x = rowsB (puts ((s.ended c.txn).unlock c.txn).1.rows ((s.ended c.txn).unlock c.txn).2 c.ts) + locksB ((s.ended c.txn).unlock c.txn).1.locks + ((s.ended c.txn).unlock c.txn).1.recs.length + ((s.ended c.txn).unlock c.txn).1.over.length := by rw [hx]; rfl
                rw [e, hr0]
                have e2 : (s.ended c.txn).rows = s.rows := rfl
                rw [e2] at this ⊢
                omega
              · have e : shB x = rowsB ((s.ended c.txn).unlock c.txn).1.rows + locksB ((s.ended c.txn).unlock c.txn).1.locks + ((s.ended c.txn).unlock c.txn).1.recs.length + ((s.ended c.txn).unlock c.txn).1.over.length := by rw [hx]; rfl
                rw [e, hr0]
                have e2 : (s.ended c.txn).rows = s.rows := rfl
                rw [e2]
                omega
            have hk := key _ rfl
            refine Nat.le_trans hk ?_
            have e1 : (s.ended c.txn).over.length = s.over.length + 1 := by unfold Sh.ended; simp
            have e2 : (s.ended c.txn).recs.length = s.recs.length := rfl
            have e3 : (s.ended c.txn).locks = s.locks := rfl
            rcases unlock_cases (s.ended c.txn) c.txn with ⟨e, _⟩ | ⟨i, hi, _, e⟩
            · rw [e]
              simp only [List.map_nil, List.sum_nil]
              rw [e1, e2, e3]
              unfold shB
              omega
            · rw [e]
              have h5 : locksB ((s.ended c.txn).cut i).locks + lkB s.locks[i] = locksB s.locks := by
                show locksB (s.locks.eraseIdx i) + _ = _
                unfold locksB
                rw [sum_at lkB (show i < s.locks.length from hi), List.eraseIdx_eq_take_drop_succ, sum_app]
                omega
              have h6 : 2 * ((s.locks[i]).writes.map wrB).sum ≤ lkB s.locks[i] := by unfold lkB; omega
              have e7 : ((s.ended c.txn).cut i).recs.length = s.recs.length := rfl
              have e8 : ((s.ended c.txn).cut i).over.length = s.over.length + 1 := e1
              show rowsB s.rows + 2 * ((s.locks[i]).writes.map wrB).sum + locksB ((s.ended c.txn).cut i).locks + ((s.ended c.txn).cut i).recs.length + ((s.ended c.txn).cut i).over.length ≤ _
              rw [e7, e8]
              unfold shB
              omega
        · show shB s ≤ _
          omega
theorem shB_acts (s : Sh) : ∀ L : List Oq, shB (s.acts L) ≤ shB s + 2 * totB L := by
  intro L
  induction L generalizing s with
  | nil => exact Nat.le_add_right _ _
  | cons q L ih =>
    have h1 := ih (s.act q.1 q.2).1
    have h2 := shB_act s q.1 q.2
    have e : totB (q :: L) = cmB q.2 + totB L := by simp [totB]
    rw [e]
    exact Nat.le_trans h1 (by omega)
theorem totB_take (L : List Oq) (i : Nat) : totB (L.take i) ≤ totB L := by
  unfold totB
  rw [sum_split (fun q : Oq => cmB q.2) L i]
  omega
theorem lk_in {s : Sh} {l : Lk} (h : l ∈ s.locks) : lkB l ≤ shB s := by
  have := sum_mem (f := lkB) h
  unfold shB locksB
  omega
theorem wr_in {l : Lk} {x : Wr} (h : x ∈ l.writes) : x.key.size ≤ lkB l ∧ x.val.size ≤ lkB l := by
  have := sum_mem (f := wrB) h
  unfold lkB
  unfold wrB at this
  unfold wrB
  omega
theorem sp_in {l : Lk} {p : Sn} (h : p ∈ l.spans) : p.lo.size ≤ lkB l ∧ p.hi.size ≤ lkB l := by
  have := sum_mem (f := spB) h
  unfold lkB
  unfold spB at this
  unfold spB
  omega
theorem lens_in (l : Lk) : l.spans.length ≤ lkB l ∧ l.writes.length ≤ lkB l := by
  have h1 := sum_ge (f := spB) (fun x => by unfold spB; omega) l.spans
  have h2 := sum_ge (f := wrB) (fun x => by unfold wrB; omega) l.writes
  unfold lkB
  omega
end Go.Proofs.Ytcoaahlakkghhaa
