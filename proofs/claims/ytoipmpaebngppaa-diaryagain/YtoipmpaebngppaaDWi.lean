/- The walks of strings.Compare, slices.SortedFunc and the drive's Names. -/
import Derived.Test.YtoipmpaebngppaaDWh
import Derived.Test.YtoipmpaebngppaaDWg
import Derived.Test.YtoipmpaebngppaaDSh
namespace Go.Proofs.Ytoipmpaebngppaa
open Go.RowKit Go.Maps Go.Sort Go.Shelf
open Go.Proofs (encStr)

theorem pw_mono {α : Type} {R T : α → α → Prop} (h : ∀ a b, R a b → T a b) {l : List α} (hl : l.Pairwise R) : l.Pairwise T := by
  induction l with
  | nil => exact List.Pairwise.nil
  | cons a l ih =>
    have hc := List.pairwise_cons.1 hl
    exact List.pairwise_cons.2 ⟨fun b hb => h a b (hc.1 b hb), ih hc.2⟩
theorem bytealg_any (a b : ByteArray) (w : World) :
    Calls Try.prog 62 #[.string a, .string b] w fun e w' => e = .returned (.int .i64 (Lib.compareBytes a.data.toList b.data.toList)) ∧ w' = w := by
  go_enter Try.func62, Try.ntmps62
  go_wp2
  rw [run_callFunc_extern Try.func68 (by kernel_rfl) (by kernel_rfl) (by kernel_rfl) (e := Extern.BytealgCompare.compare) (by kernel_rfl), Lib.run_compareString]
  simp only [Result.andThen]
  rw [Oper.upon_value]
  go_wp2
  go_ret
  exact ⟨rfl, rfl⟩
theorem cmp_any (a b : ByteArray) (w : World) :
    Calls Try.prog 50 #[.string a, .string b] w fun e w' => e = .returned (.int .i64 (Lib.compareBytes a.data.toList b.data.toList)) ∧ w' = w := by
  go_enter Try.func50, Try.ntmps50
  go_wp2_with fail
  refine (bytealg_any a b w).mono ?_
  rintro e w' ⟨rfl, rfl⟩
  go_wp2
  go_ret
  exact ⟨rfl, rfl⟩
theorem cmp_reads (blk off size : Nat) (w : World) : CmpReads Try.prog 50 #[] encStr Lib.compareBytes blk off size w := by
  intro m os dk _ x y
  have h := cmp_any ⟨x.toArray⟩ ⟨y.toArray⟩ (sortWorld encStr w blk off m dk os)
  refine h.mono ?_
  rintro e w' ⟨rfl, rfl⟩
  exact ⟨rfl, 0, rfl⟩
theorem cmp_lt (x y : List UInt8) : ltOf Lib.compareBytes x y = decide (Lib.compareBytes x y < 0) := rfl
theorem cmp_swo : SWO (ltOf Lib.compareBytes) where
  irrefl x := by
    have := (cb_zero x x).2 rfl
    rw [cmp_lt]
    simp [this]
  trans x y z h1 h2 := by
    rw [cmp_lt] at *
    simp only [decide_eq_true_eq] at *
    have h3 := cb_tr x y z (by omega) (by omega)
    have h4 : Lib.compareBytes x z ≠ 0 := by
      intro e
      have e' := (cb_zero x z).1 e
      subst e'
      have := cb_anti x y
      omega
    omega
  ntrans x y z h1 h2 := by
    rw [cmp_lt] at *
    simp only [decide_eq_false_iff_not] at *
    have a1 := cb_anti x y
    have a2 := cb_anti y z
    have a3 := cb_anti x z
    have := cb_tr z y x (by omega) (by omega)
    omega

/-- What sorts what an iterator gives. -/
theorem sorted_any {w : World} {N : Nat} {Q : List (List UInt8) → Prop} {lb : Array Value} (hN : N ≤ 900000) (hseq : SeqGives Fence.wide 3 Try.prog 61 lb encStr Q N w) :
    Calls Try.prog 48 #[.func (.func 61) #[] lb, .func (.func 50) #[] #[]] w fun e w' => ∃ (v : Value) (ss ts : List (List UInt8)), e = .returned v ∧ Q ss ∧ ts.Perm ss ∧ ts.Pairwise (fun x y => Lib.compareBytes x y ≤ 0) ∧ w'.ownsRow w.heap.size 9 1 v ts.length (ts.map encStr) ∧ Below w.heap.size w w' := by
  have cC := callsIn_wide.1 (AnyZ.collect_in Try.collL Fence.wide 5 trivial trivial rfl (by omega) 61 lb trivial (enters_of Try.func61 (by kernel_rfl) rfl) _ N (by unfold maxLen; omega) (by omega) w hseq.bounded)
  change Calls Try.prog 59 _ _ _ at cC
  go_enter Try.func48, Try.ntmps48
  go_wp2_with fail
  refine cC.mono ?_
  rintro e W ⟨v, ss, rfl, ⟨hQ, hlen⟩, hrow, hnil, hb⟩
  change World.ownsRow _ _ 9 _ _ _ _ at hrow
  rcases hrow.2 with ⟨rfl, hz⟩ | ⟨gb, cap, cur, rfl, hbase, hgb, r1, r2, r3, r4⟩
  · have hss : ss = [] := List.eq_nil_of_length_eq_zero hz
    subst hss
    have cS := AnyF.slices_SortFunc_none (P := Try.prog) (ρ := Try.sortL_ren) { Try.sortL with } none 0 (.func (.func 50) #[] #[]) W
    change Calls Try.prog 60 _ _ _ at cS
    go_wp2_with fail
    refine cS.mono ?_
    rintro e w' ⟨rfl, rfl⟩
    go_wp2
    go_ret
    exact ⟨_, [], [], rfl, hQ, List.Perm.nil, List.Pairwise.nil, by simpa using hrow, hb⟩
  · have hH : Holds encStr W gb 0 ss.toArray := holds_of_block hgb (by simpa using r4)
    have hgl : gb < W.heap.size := (Array.getElem?_eq_some_iff.1 hgb).1
    have cS := Any.slices_SortFunc Try.sortL encStr (fun _ => rfl) Lib.compareBytes cmp_swo 50 #[] gb 0 cap ss.toArray W (enters_of Try.func50 (by kernel_rfl) rfl) (cmp_reads gb 0 _ W).lays hH hgl (by simp; omega)
    change Calls Try.prog 60 _ _ _ at cS
    simp only [List.size_toArray] at cS
    go_wp2_with fail
    refine cS.mono ?_
    rintro e w' ⟨rfl, d, n, os, hp, hs, rfl⟩
    go_wp2
    go_ret
    have hd : d.size = ss.length := by simpa using hp.1
    have hp2 : d.toList.Perm ss := by
      have h2 := hp.2.2
      have e1 : d.extract 0 ss.length = d := by rw [← hd]; simp
      have e2 : ss.toArray.extract 0 ss.length = ss.toArray := by simp
      rw [e1, e2] at h2
      exact h2
    refine ⟨_, ss, d.toList, rfl, hQ, hp2, ?_, ?_, hb.grown (grownBy_sorted _) hb.size (fun j hj => by cases hj; exact hbase)⟩
    · rw [List.pairwise_iff_getElem]
      intro i j hi hj hij
      have h1 := hs i j (Nat.zero_le _) hij (by simpa [hd] using hj)
      rw [cmp_lt] at h1
      simp only [decide_eq_false_iff_not] at h1
      have hi' : i < d.size := by simpa using hi
      have hj' : j < d.size := by simpa using hj
      rw [getElem!_pos d i hi', getElem!_pos d j hj'] at h1
      have := cb_anti d[j] d[i]
      simp only [Array.getElem_toList]
      omega
    · have := ownsRow_sorted (w := W) (base := w.heap.size) (g := gb) (cap := cap) (n := n) (e := 9) (os := os) (cur := cur) (ss := ss) (ts := d.toList) (by simp [hd]) hbase hgb r1 r2 r3
      simp only [Array.toArray_toList] at this
      simp only [Array.length_toList, hd]
      exact this

theorem names_nd {F : List Fl} (hr : Rise F) : ((namesF F).map (fun n => n.data.toList)).Nodup := by
  unfold List.Nodup
  rw [List.pairwise_map]
  refine pw_mono ?_ (rise_names hr)
  intro a b hab e
  have e' := bytes_ext e
  subst e'
  rw [cmpN_self] at hab
  omega
/-- The map's keys are the files' names. -/
theorem names_perm {w : World} {N b : Nat} {F : List Fl} {D : DataW Value} {loc : ByteArray → Value} (hr : Rise F) (hn : ∀ f ∈ F, f.name.size ≤ maxLen) (ho : w.ownsMap Try.prog 9 rd b N D)
    (hk : ∀ n : ByteArray, n.size ≤ maxLen → (∃ f, fileF F n = some f ∧ has D (keyS n) = true ∧ D.atKey (keyS n) (.held noV) = .held (fileV (loc n) f.safe)) ∨ (fileF F n = none ∧ has D (keyS n) = false)) :
    ((namesF F).map (fun n => n.data.toList)).Perm (strKeys D) := by
  have hle := strKeys_le ho Try.underlying9
  obtain ⟨es, rfl, hpw, _⟩ := ho.entries law9
  obtain ⟨es', ee, hkeys⟩ := ho.keysOf
  cases ee
  have hstr : ∀ p ∈ es, ∃ x, p.1 = Lit.string x := by
    intro p hpe
    obtain ⟨key, hkey⟩ := hkeys p hpe
    obtain ⟨x, _, e, _⟩ := Maps.keyOf_str Try.underlying9 hkey
    exact ⟨x, e⟩
  have hmem : ∀ x, x ∈ (namesF F).map (fun n => n.data.toList) ↔ has (.map es) (.string x) = true := by
    intro x
    constructor
    · intro hx
      obtain ⟨n, hn1, rfl⟩ := List.mem_map.1 hx
      obtain ⟨f, hf⟩ := (mem_names hr n).1 hn1
      obtain ⟨e, hfm⟩ := fileF_name hf
      rcases hk n (by rw [← e]; exact hn f hfm) with ⟨g, _, hh, _⟩ | ⟨hx, _⟩
      · exact hh
      · rw [hf] at hx
        cases hx
    · intro hx
      have hxk : x ∈ strKeys (.map es) := by
        obtain ⟨p, hpe, hsame⟩ := List.any_eq_true.1 hx
        obtain ⟨y, ey⟩ := hstr p hpe
        refine List.mem_map.2 ⟨p, hpe, ?_⟩
        rw [ey] at hsame ⊢
        simpa [Lit.sameKey, strOf] using hsame
      have hl := hle x hxk
      have hk' := hk ⟨x.toArray⟩ (by simpa [ByteArray.size] using hl)
      rcases hk' with ⟨f, hf, _⟩ | ⟨_, hh⟩
      · exact List.mem_map.2 ⟨⟨x.toArray⟩, (mem_names hr _).2 ⟨f, hf⟩, by simp⟩
      · rw [show keyS ⟨x.toArray⟩ = Lit.string x by simp [keyS]] at hh
        rw [hh] at hx
        cases hx
  exact perm_strKeys hpw hstr (names_nd hr) hmem
theorem names_of {F : List Fl} {D : DataW Value} (hr : Rise F) (hpm : ((namesF F).map (fun n => n.data.toList)).Perm (strKeys D)) {ts : List (List UInt8)} (hp : ts.Perm (strKeys D)) (hs : ts.Pairwise (fun x y => Lib.compareBytes x y ≤ 0)) :
    ts.map encStr = F.map (fun f => Value.string f.name) := by
  have hnd2 := names_nd hr
  have hp2 : ts.Perm ((namesF F).map (fun n => n.data.toList)) := hp.trans hpm.symm
  have hL : ts.map (fun x => (⟨x.toArray⟩ : ByteArray)) = namesF F := by
    refine names_sorted hr ?_ ?_ ?_
    · rw [List.pairwise_map]
      refine pw_mono ?_ hs
      intro x y hxy
      exact hxy
    · have := hp2.symm.nodup hnd2
      unfold List.Nodup at this ⊢
      rw [List.pairwise_map]
      refine pw_mono ?_ this
      intro x y hxy e
      apply hxy
      have := congrArg (fun b : ByteArray => b.data.toList) e
      simpa using this
    · intro n
      rw [← mem_names hr]
      constructor
      · intro hn1
        obtain ⟨x, hx, rfl⟩ := List.mem_map.1 hn1
        obtain ⟨m, hm, e⟩ := List.mem_map.1 (hp2.mem_iff.1 hx)
        have : (⟨x.toArray⟩ : ByteArray) = m := bytes_ext (by rw [e])
        rw [this]
        exact hm
      · intro hn1
        have : n.data.toList ∈ ts := hp2.mem_iff.2 (List.mem_map.2 ⟨n, hn1, rfl⟩)
        exact List.mem_map.2 ⟨n.data.toList, this, by simp⟩
  have e1 : ts.map encStr = (ts.map (fun x => (⟨x.toArray⟩ : ByteArray))).map Value.string := by
    rw [List.map_map]
    rfl
  rw [e1, hL]
  unfold namesF
  rw [List.map_map]
  rfl

theorem Dv.len {w : World} {A N : Nat} {S : Nat → Prop} {F : List Fl} {left : Int} {down : Bool} {mv : Value} {loc : ByteArray → Value} (h : Dv w A S N F left down mv loc) : F.length ≤ N := by
  rcases h.mp with ⟨_, rfl⟩ | ⟨b, D, _, ho, hk⟩
  · exact Nat.zero_le _
  · have hp := (names_perm h.rise h.nm ho hk).length_eq
    have hs := ho.size_le
    obtain ⟨es, rfl⟩ := ho.isMap
    simp only [namesF, List.length_map, strKeys] at hp
    simp only [Maps.size] at hs
    omega

set_option maxHeartbeats 1000000 in
theorem names_any {w : World} {A N : Nat} {S : Nat → Prop} {F : List Fl} {left : Int} {down : Bool} {mv : Value} {loc : ByteArray → Value} (h : Dv w A S N F left down mv loc) :
    Calls Try.prog 35 #[.pointer (some ⟨A, 0, none⟩)] w fun e w' => ∃ v, e = .returned v ∧ w'.ownsRow w.heap.size 9 1 v F.length (F.map fun f => .string f.name) ∧ Below w.heap.size w w' := by
  have c0 := h.c0
  have cK : ∀ mb W, Calls Try.prog 49 #[.map mb] W fun e w' => e = .returned (.func (.func 61) #[] #[.pointer (some ⟨W.heap.size, 0, none⟩)]) ∧ w' = W.alloc (.cells #[.map mb] 58) := fun mb W => callsIn_wide.1 (AnyZ.keys_in Try.keysL Fence.wide 5 trivial rfl mb W)
  have hal : Below w.heap.size w (w.alloc (.cells #[mv] 58)) := (Below.refl _ w).alloc (Nat.le_refl _) _
  have hmain : Calls Try.prog 48 #[.func (.func 61) #[] #[.pointer (some ⟨w.heap.size, 0, none⟩)], .func (.func 50) #[] #[]] (w.alloc (.cells #[mv] 58)) fun e w' => ∃ v, e = .returned v ∧ w'.ownsRow (w.alloc (.cells #[mv] 58)).heap.size 9 1 v F.length (F.map fun f => .string f.name) ∧ Below (w.alloc (.cells #[mv] 58)).heap.size (w.alloc (.cells #[mv] 58)) w' := by
    rcases h.mp with ⟨rfl, rfl⟩ | ⟨b, D, rfl, ho, hk⟩
    · have hseq : SeqGives Fence.wide 3 Try.prog 61 #[.pointer (some ⟨w.heap.size, 0, none⟩)] encStr (fun ss : List (List UInt8) => ss = []) 0 (w.alloc (.cells #[.map none] 58)) :=
        AnyZ.keys_gives_nil (ρ := Try.keysL_ren) { Try.keysL with } Fence.wide _ trivial rfl w.heap.size _ (by simp) (by simp)
      refine (sorted_any (by omega) hseq).mono ?_
      rintro e w' ⟨v, ss, ts, rfl, rfl, hp, hs, hrow, hb⟩
      have := List.Perm.eq_nil hp
      subst this
      exact ⟨v, rfl, by simpa using hrow, hb⟩
    · have hseq : SeqGives Fence.wide 3 Try.prog 61 #[.pointer (some ⟨w.heap.size, 0, none⟩)] encStr (fun ss => ss.Perm (strKeys D)) (Maps.size D) (w.alloc (.cells #[.map (some b)] 58)) :=
        AnyZ.keys_gives (ρ := Try.keysL_ren) { Try.keysL with } Fence.wide _ trivial rfl (by omega) w.heap.size b N D _ (by simp) (by simp) (own_map ho (Below.heap_alloc _ _ b ho.lt))
      refine (sorted_any (by have := ho.size_le; have := h.few; omega) hseq).mono ?_
      rintro e w' ⟨v, ss, ts, rfl, hq, hp, hs, hrow, hb⟩
      have e1 := names_of h.rise (names_perm h.rise h.nm ho hk) (hp.trans hq) hs
      have e2 : ts.length = F.length := by
        have := congrArg List.length e1
        simpa using this
      rw [e1, e2] at hrow
      exact ⟨v, rfl, hrow, hb⟩
  obtain ⟨mb, rfl⟩ := h.mp.form
  have hpn := ptr_no ⟨A, 0, none⟩
  go_enter Try.func35, Try.ntmps35
  go_wp2_with fail
  refine (cK mb w).mono ?_
  rintro e w1 ⟨rfl, rfl⟩
  go_wp2_with fail
  refine hmain.mono ?_
  rintro e w2 ⟨v, rfl, hrow, hb⟩
  go_wp2
  go_ret
  exact ⟨v, rfl, ownsRow_base_a hrow (by simp), hal.trans (hb.mono (by simp))⟩
theorem names_nil (w : World) : Calls Try.prog 35 #[.pointer none] w fun e w' => e = .returned (.slice none 0 0) ∧ w' = w := by
  go_enter Try.func35, Try.ntmps35
  go_wp2
  go_ret
  exact ⟨rfl, rfl⟩
end Go.Proofs.Ytoipmpaebngppaa
