import Derived.Test.YtongmhfpoopebaaGreatPBh
namespace Go.Proofs.YtongmhfpoopebaaGreat
open Go.RowKit
abbrev tbC (t:Tb) (l:List Col):Tb:=⟨t.id,t.nm,l,t.ixs,t.fks⟩
abbrev tbI (t:Tb) (l:List Ix):Tb:=⟨t.id,t.nm,t.cols,l,t.fks⟩
abbrev tbK (t:Tb) (l:List Fk):Tb:=⟨t.id,t.nm,t.cols,t.ixs,l⟩
abbrev Gt:=Tb × Value × Value × Value
abbrev gL (g:Gt):List Value:=tbL g.1 g.2.1 g.2.2.1 g.2.2.2
theorem gL_len (g:Gt):(gL g).length=5:=rfl
theorem own_base {w:World} {B:Nat} {e:TypeId} {c n:Nat} {v:Value} {xs:List Value} (h:w.ownsRow 0 e c v n xs) (hb:∀ k,v.ownBlock=some k→B≤k):w.ownsRow B e c v n xs:=by
 rcases h.2 with q | ⟨g,cap,cur,hv,_,rest⟩
 ·exact ⟨h.1,.inl q⟩
 ·exact ⟨h.1,.inr ⟨g,cap,cur,hv,hb g (by rw [hv];rfl),rest⟩⟩
theorem own_ge {w:World} {B:Nat} {e:TypeId} {c n:Nat} {v:Value} {xs:List Value} (h:w.ownsRow B e c v n xs):∀ k,v.ownBlock=some k→B≤k∧k<w.heap.size:=by
 intro k hk
 exact h.lt k hk
structure Dr (w:World) (B:Nat) (G:List Gt) (tv:Value):Prop where
 row:w.ownsRow B 35 5 tv G.length (G.flatMap gL)
 c:∀ g ∈ G,w.ownsRow B 50 7 g.2.1 g.1.cols.length (g.1.cols.flatMap colL)
 i:∀ g ∈ G,w.ownsRow B 71 5 g.2.2.1 g.1.ixs.length (g.1.ixs.flatMap ixL)
 k:∀ g ∈ G,w.ownsRow B 74 5 g.2.2.2 g.1.fks.length (g.1.fks.flatMap fkL)
 apc:∀ i j (hi:i<G.length) (hj:j<G.length),i≠j→∀ b,G[i].2.1.ownBlock=some b→G[j].2.1.ownBlock≠some b
 api:∀ i j (hi:i<G.length) (hj:j<G.length),i≠j→∀ b,G[i].2.2.1.ownBlock=some b→G[j].2.2.1.ownBlock≠some b
 apk:∀ i j (hi:i<G.length) (hj:j<G.length),i≠j→∀ b,G[i].2.2.2.ownBlock=some b→G[j].2.2.2.ownBlock≠some b
theorem Dr.nil (w:World) (B:Nat):Dr w B [] (.slice none 0 0):=⟨World.ownsRow_nil _ _ 35 5,by simp,by simp,by simp,fun i _ hi=>by simp at hi,fun i _ hi=>by simp at hi,fun i _ hi=>by simp at hi⟩
theorem Dr.three {w:World} {B:Nat} {G:List Gt} {tv:Value} (h:Dr w B G tv) {g:Gt} (hg:g ∈ G):Three w g.1 g.2.1 g.2.2.1 g.2.2.2:=⟨Lr.own colL_len (h.c g hg),Lr.own ixL_len (h.i g hg),Lr.own fkL_len (h.k g hg)⟩
theorem Dr.reads {w:World} {B:Nat} {G:List Gt} {tv:Value} (h:Dr w B G tv):Lr tbE 5 w (G.map Prod.fst) tv:=by
 obtain ⟨ad,cap,e,h0,h1,h2,h3⟩:=Lr.own gL_len h.row
 refine ⟨ad,cap,by rw [List.length_map];exact e,h0,by rw [List.length_map];exact h1,h2,fun i hi=>?_⟩
 rw [List.length_map] at hi
 obtain ⟨b,o,cs,ha,hl,hE,hc,hh⟩:=h3 i hi
 refine ⟨b,o,cs,ha,hl,?_,hc,hh⟩
 rw [List.getElem_map]
 exact ⟨_,_,_,hE,h.three (List.getElem_mem hi)⟩
theorem Dr.keep {w w':World} {B:Nat} {G:List Gt} {tv:Value} {T:Nat→Prop} (h:Dr w B G tv) (hf:Fr w w' T) (ht:∀ k,T k→k<B∨∀ cs e,w.heap[k]?=some (.cells cs e (0,0))→e≠35∧e≠50∧e≠71∧e≠74):Dr w' B G tv:=by
 have key:∀ {e:TypeId} {c n:Nat} {v:Value} {xs:List Value},w.ownsRow B e c v n xs→(e=35∨e=50∨e=71∨e=74)→w'.ownsRow B e c v n xs:=fun hr he=>row_keep hr hf (fun j hj q=>by
  obtain ⟨cs,t⟩:=own_tag hr j hj
  have hB:=own_ge hr j hj
  rcases ht j q with z | z
  ·omega
  ·obtain ⟨z1,z2,z3,z4⟩:=z cs _ t
   rcases he with rfl | rfl | rfl | rfl
   ·exact z1 rfl
   ·exact z2 rfl
   ·exact z3 rfl
   ·exact z4 rfl)
 exact ⟨key h.row (.inl rfl),fun g hg=>key (h.c g hg) (.inr (.inl rfl)),fun g hg=>key (h.i g hg) (.inr (.inr (.inl rfl))),fun g hg=>key (h.k g hg) (.inr (.inr (.inr rfl))),h.apc,h.api,h.apk⟩
theorem Dr.below {w w':World} {B:Nat} {G:List Gt} {tv:Value} (h:Dr w B G tv) (hb:Below w.heap.size w w'):Dr w' B G tv:=h.keep (T:=fun _=>False) (Fr.ofBelow _ hb) (fun _ q=>q.elim)
theorem Dr.mono {w:World} {B B':Nat} {G:List Gt} {tv:Value} (h:Dr w B G tv) (hB:B'≤B):Dr w B' G tv:=⟨own_mono h.row hB,fun g hg=>own_mono (h.c g hg) hB,fun g hg=>own_mono (h.i g hg) hB,fun g hg=>own_mono (h.k g hg) hB,h.apc,h.api,h.apk⟩
theorem Dr.setC {w w':World} {B A:Nat} {G:List Gt} {tv:Value} {T:Nat→Prop} {cA:Array Value} (h:Dr w B G tv) {i:Nat} (hi:i<G.length) (hA:w.heap[A]?=some (.cells cA 24 (0,0))) (hB:B≤w.heap.size) {l':List Col} {v':Value} (hf:Fr w w' T) (hT:∀ k,T k→k=A∨tv.ownBlock=some k∨G[i].2.1.ownBlock=some k)
  (hrow:w'.ownsRow 0 35 5 tv G.length ((G.set i (tbC G[i].1 l',v',G[i].2.2.1,G[i].2.2.2)).flatMap gL)) (hc:w'.ownsRow 0 50 7 v' l'.length (l'.flatMap colL)) (hb:∀ k,v'.ownBlock=some k→G[i].2.1.ownBlock=some k∨w.heap.size≤k):Dr w' B (G.set i (tbC G[i].1 l',v',G[i].2.2.1,G[i].2.2.2)) tv:=by
 have keep:∀ {e:TypeId} {c n:Nat} {v:Value} {xs:List Value},w.ownsRow B e c v n xs→e≠24→e≠35→e≠50→w'.ownsRow B e c v n xs:=fun hr h1 h2 h3=>row_keep hr hf (fun b hb' z=>by
  obtain ⟨cs,t⟩:=own_tag hr b hb'
  rcases hT b z with z | z | z
  ·rw [z,hA] at t
   simp only [Option.some.injEq,Obj.cells.injEq] at t
   exact h1 t.2.1.symm
  ·obtain ⟨cs2,t2⟩:=own_tag h.row b z
   rw [t2] at t
   simp only [Option.some.injEq,Obj.cells.injEq] at t
   exact h2 t.2.1.symm
  ·obtain ⟨cs2,t2⟩:=own_tag (h.c G[i] (List.getElem_mem hi)) b z
   rw [t2] at t
   simp only [Option.some.injEq,Obj.cells.injEq] at t
   exact h3 t.2.1.symm)
 refine ⟨by rw [List.length_set];exact own_base hrow (fun k hk=>(own_ge h.row k hk).1),?_,?_,?_,?_,?_,?_⟩
 ·exact fun x hx=>by
    obtain ⟨j,hj,ej⟩:=List.getElem_of_mem hx
    rw [List.length_set] at hj
    by_cases q:i=j
    ·subst q
     rw [List.getElem_set_self] at ej
     subst ej
     exact own_base hc (fun b hb'=>by
      rcases hb b hb' with z | z
      ·exact (own_ge (h.c G[i] (List.getElem_mem hi)) b z).1
      ·exact Nat.le_trans hB z)
    ·rw [List.getElem_set_ne q] at ej
     subst ej
     refine row_keep (h.c G[j] (List.getElem_mem hj)) hf (fun b hb' z=>?_)
     rcases hT b z with z | z | z
     ·rw [z] at hb'
      obtain ⟨cs,t⟩:=own_tag (h.c G[j] (List.getElem_mem hj)) A hb'
      rw [hA] at t
      simp only [Option.some.injEq,Obj.cells.injEq] at t
      exact absurd t.2.1 (by decide)
     ·obtain ⟨cs,t⟩:=own_tag (h.c G[j] (List.getElem_mem hj)) b hb'
      obtain ⟨cs2,t2⟩:=own_tag h.row b z
      rw [t2] at t
      simp only [Option.some.injEq,Obj.cells.injEq] at t
      exact absurd t.2.1 (by decide)
     ·exact h.apc i j hi hj q b z hb'
 ·exact fun x hx=>by
    rcases List.mem_or_eq_of_mem_set hx with q | q
    ·exact keep (h.i x q) (by decide) (by decide) (by decide)
    ·subst q
     exact keep (h.i G[i] (List.getElem_mem hi)) (by decide) (by decide) (by decide)
 ·exact fun x hx=>by
    rcases List.mem_or_eq_of_mem_set hx with q | q
    ·exact keep (h.k x q) (by decide) (by decide) (by decide)
    ·subst q
     exact keep (h.k G[i] (List.getElem_mem hi)) (by decide) (by decide) (by decide)
 ·exact fun a b ha hb2 hne k hk=>by
    rw [List.length_set] at ha hb2
    rw [List.getElem_set] at hk
    rw [List.getElem_set]
    by_cases q1:i=a
    ·subst q1
     rw [if_pos rfl] at hk
     rw [if_neg hne]
     rcases hb k hk with z | z
     ·exact h.apc i b hi hb2 hne k z
     ·intro q
      have:=(own_ge (h.c G[b] (List.getElem_mem hb2)) k q).2
      omega
    ·rw [if_neg q1] at hk
     by_cases q2:i=b
     ·subst q2
      rw [if_pos rfl]
      intro q
      rcases hb k q with z | z
      ·exact h.apc i a hi ha q1 k z hk
      ·have:=(own_ge (h.c G[a] (List.getElem_mem ha)) k hk).2
       omega
     ·rw [if_neg q2]
      exact h.apc a b ha hb2 hne k hk
 ·exact fun a b ha hb2 hne k hk=>by
    rw [List.length_set] at ha hb2
    have hk':G[a].2.2.1.ownBlock=some k:=by
     rw [List.getElem_set] at hk
     split at hk
     ·rename_i q;subst q;exact hk
     ·exact hk
    have:=h.api a b ha hb2 hne k hk'
    rw [List.getElem_set]
    split
    ·rename_i q;subst q;exact this
    ·exact this
 ·exact fun a b ha hb2 hne k hk=>by
    rw [List.length_set] at ha hb2
    have hk':G[a].2.2.2.ownBlock=some k:=by
     rw [List.getElem_set] at hk
     split at hk
     ·rename_i q;subst q;exact hk
     ·exact hk
    have:=h.apk a b ha hb2 hne k hk'
    rw [List.getElem_set]
    split
    ·rename_i q;subst q;exact this
    ·exact this
theorem Dr.setI {w w':World} {B A:Nat} {G:List Gt} {tv:Value} {T:Nat→Prop} {cA:Array Value} (h:Dr w B G tv) {i:Nat} (hi:i<G.length) (hA:w.heap[A]?=some (.cells cA 24 (0,0))) (hB:B≤w.heap.size) {l':List Ix} {v':Value} (hf:Fr w w' T) (hT:∀ k,T k→k=A∨tv.ownBlock=some k∨G[i].2.2.1.ownBlock=some k)
  (hrow:w'.ownsRow 0 35 5 tv G.length ((G.set i (tbI G[i].1 l',G[i].2.1,v',G[i].2.2.2)).flatMap gL)) (hc:w'.ownsRow 0 71 5 v' l'.length (l'.flatMap ixL)) (hb:∀ k,v'.ownBlock=some k→G[i].2.2.1.ownBlock=some k∨w.heap.size≤k):Dr w' B (G.set i (tbI G[i].1 l',G[i].2.1,v',G[i].2.2.2)) tv:=by
 have keep:∀ {e:TypeId} {c n:Nat} {v:Value} {xs:List Value},w.ownsRow B e c v n xs→e≠24→e≠35→e≠71→w'.ownsRow B e c v n xs:=fun hr h1 h2 h3=>row_keep hr hf (fun b hb' z=>by
  obtain ⟨cs,t⟩:=own_tag hr b hb'
  rcases hT b z with z | z | z
  ·rw [z,hA] at t
   simp only [Option.some.injEq,Obj.cells.injEq] at t
   exact h1 t.2.1.symm
  ·obtain ⟨cs2,t2⟩:=own_tag h.row b z
   rw [t2] at t
   simp only [Option.some.injEq,Obj.cells.injEq] at t
   exact h2 t.2.1.symm
  ·obtain ⟨cs2,t2⟩:=own_tag (h.i G[i] (List.getElem_mem hi)) b z
   rw [t2] at t
   simp only [Option.some.injEq,Obj.cells.injEq] at t
   exact h3 t.2.1.symm)
 refine ⟨by rw [List.length_set];exact own_base hrow (fun k hk=>(own_ge h.row k hk).1),?_,?_,?_,?_,?_,?_⟩
 ·exact fun x hx=>by
    rcases List.mem_or_eq_of_mem_set hx with q | q
    ·exact keep (h.c x q) (by decide) (by decide) (by decide)
    ·subst q
     exact keep (h.c G[i] (List.getElem_mem hi)) (by decide) (by decide) (by decide)
 ·exact fun x hx=>by
    obtain ⟨j,hj,ej⟩:=List.getElem_of_mem hx
    rw [List.length_set] at hj
    by_cases q:i=j
    ·subst q
     rw [List.getElem_set_self] at ej
     subst ej
     exact own_base hc (fun b hb'=>by
      rcases hb b hb' with z | z
      ·exact (own_ge (h.i G[i] (List.getElem_mem hi)) b z).1
      ·exact Nat.le_trans hB z)
    ·rw [List.getElem_set_ne q] at ej
     subst ej
     refine row_keep (h.i G[j] (List.getElem_mem hj)) hf (fun b hb' z=>?_)
     rcases hT b z with z | z | z
     ·rw [z] at hb'
      obtain ⟨cs,t⟩:=own_tag (h.i G[j] (List.getElem_mem hj)) A hb'
      rw [hA] at t
      simp only [Option.some.injEq,Obj.cells.injEq] at t
      exact absurd t.2.1 (by decide)
     ·obtain ⟨cs,t⟩:=own_tag (h.i G[j] (List.getElem_mem hj)) b hb'
      obtain ⟨cs2,t2⟩:=own_tag h.row b z
      rw [t2] at t
      simp only [Option.some.injEq,Obj.cells.injEq] at t
      exact absurd t.2.1 (by decide)
     ·exact h.api i j hi hj q b z hb'
 ·exact fun x hx=>by
    rcases List.mem_or_eq_of_mem_set hx with q | q
    ·exact keep (h.k x q) (by decide) (by decide) (by decide)
    ·subst q
     exact keep (h.k G[i] (List.getElem_mem hi)) (by decide) (by decide) (by decide)
 ·exact fun a b ha hb2 hne k hk=>by
    rw [List.length_set] at ha hb2
    have hk':G[a].2.1.ownBlock=some k:=by
     rw [List.getElem_set] at hk
     split at hk
     ·rename_i q;subst q;exact hk
     ·exact hk
    have:=h.apc a b ha hb2 hne k hk'
    rw [List.getElem_set]
    split
    ·rename_i q;subst q;exact this
    ·exact this
 ·exact fun a b ha hb2 hne k hk=>by
    rw [List.length_set] at ha hb2
    rw [List.getElem_set] at hk
    rw [List.getElem_set]
    by_cases q1:i=a
    ·subst q1
     rw [if_pos rfl] at hk
     rw [if_neg hne]
     rcases hb k hk with z | z
     ·exact h.api i b hi hb2 hne k z
     ·intro q
      have:=(own_ge (h.i G[b] (List.getElem_mem hb2)) k q).2
      omega
    ·rw [if_neg q1] at hk
     by_cases q2:i=b
     ·subst q2
      rw [if_pos rfl]
      intro q
      rcases hb k q with z | z
      ·exact h.api i a hi ha q1 k z hk
      ·have:=(own_ge (h.i G[a] (List.getElem_mem ha)) k hk).2
       omega
     ·rw [if_neg q2]
      exact h.api a b ha hb2 hne k hk
 ·exact fun a b ha hb2 hne k hk=>by
    rw [List.length_set] at ha hb2
    have hk':G[a].2.2.2.ownBlock=some k:=by
     rw [List.getElem_set] at hk
     split at hk
     ·rename_i q;subst q;exact hk
     ·exact hk
    have:=h.apk a b ha hb2 hne k hk'
    rw [List.getElem_set]
    split
    ·rename_i q;subst q;exact this
    ·exact this
theorem Dr.setK {w w':World} {B A:Nat} {G:List Gt} {tv:Value} {T:Nat→Prop} {cA:Array Value} (h:Dr w B G tv) {i:Nat} (hi:i<G.length) (hA:w.heap[A]?=some (.cells cA 24 (0,0))) (hB:B≤w.heap.size) {l':List Fk} {v':Value} (hf:Fr w w' T) (hT:∀ k,T k→k=A∨tv.ownBlock=some k∨G[i].2.2.2.ownBlock=some k)
  (hrow:w'.ownsRow 0 35 5 tv G.length ((G.set i (tbK G[i].1 l',G[i].2.1,G[i].2.2.1,v')).flatMap gL)) (hc:w'.ownsRow 0 74 5 v' l'.length (l'.flatMap fkL)) (hb:∀ k,v'.ownBlock=some k→G[i].2.2.2.ownBlock=some k∨w.heap.size≤k):Dr w' B (G.set i (tbK G[i].1 l',G[i].2.1,G[i].2.2.1,v')) tv:=by
 have keep:∀ {e:TypeId} {c n:Nat} {v:Value} {xs:List Value},w.ownsRow B e c v n xs→e≠24→e≠35→e≠74→w'.ownsRow B e c v n xs:=fun hr h1 h2 h3=>row_keep hr hf (fun b hb' z=>by
  obtain ⟨cs,t⟩:=own_tag hr b hb'
  rcases hT b z with z | z | z
  ·rw [z,hA] at t
   simp only [Option.some.injEq,Obj.cells.injEq] at t
   exact h1 t.2.1.symm
  ·obtain ⟨cs2,t2⟩:=own_tag h.row b z
   rw [t2] at t
   simp only [Option.some.injEq,Obj.cells.injEq] at t
   exact h2 t.2.1.symm
  ·obtain ⟨cs2,t2⟩:=own_tag (h.k G[i] (List.getElem_mem hi)) b z
   rw [t2] at t
   simp only [Option.some.injEq,Obj.cells.injEq] at t
   exact h3 t.2.1.symm)
 refine ⟨by rw [List.length_set];exact own_base hrow (fun k hk=>(own_ge h.row k hk).1),?_,?_,?_,?_,?_,?_⟩
 ·exact fun x hx=>by
    rcases List.mem_or_eq_of_mem_set hx with q | q
    ·exact keep (h.c x q) (by decide) (by decide) (by decide)
    ·subst q
     exact keep (h.c G[i] (List.getElem_mem hi)) (by decide) (by decide) (by decide)
 ·exact fun x hx=>by
    rcases List.mem_or_eq_of_mem_set hx with q | q
    ·exact keep (h.i x q) (by decide) (by decide) (by decide)
    ·subst q
     exact keep (h.i G[i] (List.getElem_mem hi)) (by decide) (by decide) (by decide)
 ·exact fun x hx=>by
    obtain ⟨j,hj,ej⟩:=List.getElem_of_mem hx
    rw [List.length_set] at hj
    by_cases q:i=j
    ·subst q
     rw [List.getElem_set_self] at ej
     subst ej
     exact own_base hc (fun b hb'=>by
      rcases hb b hb' with z | z
      ·exact (own_ge (h.k G[i] (List.getElem_mem hi)) b z).1
      ·exact Nat.le_trans hB z)
    ·rw [List.getElem_set_ne q] at ej
     subst ej
     refine row_keep (h.k G[j] (List.getElem_mem hj)) hf (fun b hb' z=>?_)
     rcases hT b z with z | z | z
     ·rw [z] at hb'
      obtain ⟨cs,t⟩:=own_tag (h.k G[j] (List.getElem_mem hj)) A hb'
      rw [hA] at t
      simp only [Option.some.injEq,Obj.cells.injEq] at t
      exact absurd t.2.1 (by decide)
     ·obtain ⟨cs,t⟩:=own_tag (h.k G[j] (List.getElem_mem hj)) b hb'
      obtain ⟨cs2,t2⟩:=own_tag h.row b z
      rw [t2] at t
      simp only [Option.some.injEq,Obj.cells.injEq] at t
      exact absurd t.2.1 (by decide)
     ·exact h.apk i j hi hj q b z hb'
 ·exact fun a b ha hb2 hne k hk=>by
    rw [List.length_set] at ha hb2
    have hk':G[a].2.1.ownBlock=some k:=by
     rw [List.getElem_set] at hk
     split at hk
     ·rename_i q;subst q;exact hk
     ·exact hk
    have:=h.apc a b ha hb2 hne k hk'
    rw [List.getElem_set]
    split
    ·rename_i q;subst q;exact this
    ·exact this
 ·exact fun a b ha hb2 hne k hk=>by
    rw [List.length_set] at ha hb2
    have hk':G[a].2.2.1.ownBlock=some k:=by
     rw [List.getElem_set] at hk
     split at hk
     ·rename_i q;subst q;exact hk
     ·exact hk
    have:=h.api a b ha hb2 hne k hk'
    rw [List.getElem_set]
    split
    ·rename_i q;subst q;exact this
    ·exact this
 ·exact fun a b ha hb2 hne k hk=>by
    rw [List.length_set] at ha hb2
    rw [List.getElem_set] at hk
    rw [List.getElem_set]
    by_cases q1:i=a
    ·subst q1
     rw [if_pos rfl] at hk
     rw [if_neg hne]
     rcases hb k hk with z | z
     ·exact h.apk i b hi hb2 hne k z
     ·intro q
      have:=(own_ge (h.k G[b] (List.getElem_mem hb2)) k q).2
      omega
    ·rw [if_neg q1] at hk
     by_cases q2:i=b
     ·subst q2
      rw [if_pos rfl]
      intro q
      rcases hb k q with z | z
      ·exact h.apk i a hi ha q1 k z hk
      ·have:=(own_ge (h.k G[a] (List.getElem_mem ha)) k hk).2
       omega
     ·rw [if_neg q2]
      exact h.apk a b ha hb2 hne k hk
theorem Dr.push {w w':World} {B:Nat} {G:List Gt} {tv tv':Value} {T:Nat→Prop} (h:Dr w B G tv) (hB:B≤w.heap.size) (hf:Fr w w' T) (hT:∀ k,T k→k<B∨tv.ownBlock=some k∨∀ cs e,w.heap[k]?=some (.cells cs e (0,0))→e≠35∧e≠50∧e≠71∧e≠74) (g:Gt)
  (hrow:w'.ownsRow 0 35 5 tv' (G ++ [g]).length ((G ++ [g]).flatMap gL)) (hb:∀ k,tv'.ownBlock=some k→tv.ownBlock=some k∨w.heap.size≤k)
  (hc:w'.ownsRow w.heap.size 50 7 g.2.1 g.1.cols.length (g.1.cols.flatMap colL)) (hi:w'.ownsRow w.heap.size 71 5 g.2.2.1 g.1.ixs.length (g.1.ixs.flatMap ixL)) (hk:w'.ownsRow w.heap.size 74 5 g.2.2.2 g.1.fks.length (g.1.fks.flatMap fkL)):Dr w' B (G ++ [g]) tv':=by
 have keep:∀ {e:TypeId} {c n:Nat} {v:Value} {xs:List Value},w.ownsRow B e c v n xs→(e=50∨e=71∨e=74)→w'.ownsRow B e c v n xs:=fun hr he=>row_keep hr hf (fun j hj q=>by
  obtain ⟨cs,t⟩:=own_tag hr j hj
  have hB':=own_ge hr j hj
  rcases hT j q with z | z | z
  ·omega
  ·obtain ⟨cs2,t2⟩:=own_tag h.row j z
   rw [t2] at t
   simp only [Option.some.injEq,Obj.cells.injEq] at t
   have t3:=t.2.1
   rcases he with rfl | rfl | rfl <;> exact absurd t3 (by decide)
  ·obtain ⟨z1,z2,z3,z4⟩:=z cs _ t
   rcases he with rfl | rfl | rfl
   ·exact z2 rfl
   ·exact z3 rfl
   ·exact z4 rfl)
 refine ⟨own_base hrow (fun k q=>by
   rcases hb k q with z | z
   ·exact (own_ge h.row k z).1
   ·exact Nat.le_trans hB z),?_,?_,?_,?_,?_,?_⟩
 ·intro x hx
  rcases List.mem_append.1 hx with q | q
  ·exact keep (h.c x q) (.inl rfl)
  ·rw [List.mem_singleton.1 q]
   exact own_mono hc hB
 ·intro x hx
  rcases List.mem_append.1 hx with q | q
  ·exact keep (h.i x q) (.inr (.inl rfl))
  ·rw [List.mem_singleton.1 q]
   exact own_mono hi hB
 ·intro x hx
  rcases List.mem_append.1 hx with q | q
  ·exact keep (h.k x q) (.inr (.inr rfl))
  ·rw [List.mem_singleton.1 q]
   exact own_mono hk hB
 ·intro a b ha hb2 hne k q
  rw [List.length_append,List.length_cons,List.length_nil] at ha hb2
  by_cases ea:a<G.length
  ·rw [List.getElem_append_left ea] at q
   by_cases eb:b<G.length
   ·rw [List.getElem_append_left eb]
    exact h.apc a b ea eb hne k q
   ·have hb3:b=G.length:=by omega
    subst hb3
    rw [List.getElem_concat_length rfl]
    intro z
    have z1:=(own_ge hc k z).1
    have z2:=(own_ge (h.c G[a] (List.getElem_mem ea)) k q).2
    omega
  ·have ha3:a=G.length:=by omega
   subst ha3
   rw [List.getElem_concat_length rfl] at q
   have eb:b<G.length:=by omega
   rw [List.getElem_append_left eb]
   intro z
   have z1:=(own_ge hc k q).1
   have z2:=(own_ge (h.c G[b] (List.getElem_mem eb)) k z).2
   omega
 ·intro a b ha hb2 hne k q
  rw [List.length_append,List.length_cons,List.length_nil] at ha hb2
  by_cases ea:a<G.length
  ·rw [List.getElem_append_left ea] at q
   by_cases eb:b<G.length
   ·rw [List.getElem_append_left eb]
    exact h.api a b ea eb hne k q
   ·have hb3:b=G.length:=by omega
    subst hb3
    rw [List.getElem_concat_length rfl]
    intro z
    have z1:=(own_ge hi k z).1
    have z2:=(own_ge (h.i G[a] (List.getElem_mem ea)) k q).2
    omega
  ·have ha3:a=G.length:=by omega
   subst ha3
   rw [List.getElem_concat_length rfl] at q
   have eb:b<G.length:=by omega
   rw [List.getElem_append_left eb]
   intro z
   have z1:=(own_ge hi k q).1
   have z2:=(own_ge (h.i G[b] (List.getElem_mem eb)) k z).2
   omega
 ·intro a b ha hb2 hne k q
  rw [List.length_append,List.length_cons,List.length_nil] at ha hb2
  by_cases ea:a<G.length
  ·rw [List.getElem_append_left ea] at q
   by_cases eb:b<G.length
   ·rw [List.getElem_append_left eb]
    exact h.apk a b ea eb hne k q
   ·have hb3:b=G.length:=by omega
    subst hb3
    rw [List.getElem_concat_length rfl]
    intro z
    have z1:=(own_ge hk k z).1
    have z2:=(own_ge (h.k G[a] (List.getElem_mem ea)) k q).2
    omega
  ·have ha3:a=G.length:=by omega
   subst ha3
   rw [List.getElem_concat_length rfl] at q
   have eb:b<G.length:=by omega
   rw [List.getElem_append_left eb]
   intro z
   have z1:=(own_ge hk k q).1
   have z2:=(own_ge (h.k G[b] (List.getElem_mem eb)) k z).2
   omega
end Go.Proofs.YtongmhfpoopebaaGreat
namespace Go.Proofs.YtongmhfpoopebaaGreat
open Go.RowKit
section
variable {w : World}
def Tb.few (t:Tb):Prop:=t.cols.length≤1000000∧t.ixs.length≤1000000∧t.fks.length≤1000000
theorem own_off {B Y0:Nat} {X:World} {e:TypeId} {c n:Nat} {v:Value} {xs:List Value} {u:Value} {j:Nat} {cs:Array Value} (he:e≠35) (hj:X.heap[Y0]?=some (.cells cs 35 (0,0))) (q:X.ownsRow B e c v n xs):(X.setCell ⟨Y0,j,none⟩ u).ownsRow B e c v n xs :=
 own_like q (fun k hk=>set_other _ (fun z=>by
  obtain ⟨cs,tg⟩:=own_tag q k hk
  rw [z] at tg
  rw [hj] at tg
  simp only [Option.some.injEq,Obj.cells.injEq] at tg
  exact he tg.2.1.symm))
set_option maxHeartbeats 2000000 in
set_option maxRecDepth 100000 in
theorem cloneT_any {t:Tb} {cv iv kv:Value} (h:Three w t cv iv kv) (hz:t.few):Calls Tryz.prog 23 #[tbV t cv iv kv] w fun e w'=>∃ cv' iv' kv',e=.returned (tbV t cv' iv' kv')∧w'.ownsRow w.heap.size 50 7 cv' t.cols.length (t.cols.flatMap colL)∧w'.ownsRow w.heap.size 71 5 iv' t.ixs.length (t.ixs.flatMap ixL)∧w'.ownsRow w.heap.size 74 5 kv' t.fks.length (t.fks.flatMap fkL)∧Below w.heap.size w w':=by
 obtain ⟨hc,hi,hk⟩:=h
 obtain ⟨z1,z2,z3⟩:=hz
 obtain ⟨ca,cc,rfl,rc⟩:=hc
 obtain ⟨ia,ic,rfl,ri⟩:=hi
 obtain ⟨ka,kc,rfl,rk⟩:=hk
 have hc:Lr colE 7 w t.cols (.slice ca t.cols.length cc):=⟨ca,cc,rfl,rc⟩
 have hi:Lr ixE 5 w t.ixs (.slice ia t.ixs.length ic):=⟨ia,ic,rfl,ri⟩
 have hk:Lr fkE 5 w t.fks (.slice ka t.fks.length kc):=⟨ka,kc,rfl,rk⟩
 obtain ⟨W,hW⟩:∃ W,W=(w.alloc (.cells #[.int .i64 t.id,.string t.nm,.slice ca t.cols.length cc,.slice ia t.ixs.length ic,.slice ka t.fks.length kc] 35)).alloc (.cells #[.int .i64 0,.string ⟨#[]⟩,.slice none 0 0,.slice none 0 0,.slice none 0 0] 35):=⟨_,rfl⟩
 have hbW:Below w.heap.size w W:=by rw [hW];exact ((Below.refl _ w).alloc (Nat.le_refl _) _).alloc (by simp) _
 obtain ⟨Y0,hY0⟩:∃ Y0,w.heap.size=Y0:=⟨_,rfl⟩
 obtain ⟨Y1,hY1⟩:∃ Y1,Y0+1=Y1:=⟨_,rfl⟩
 have jY0:W.heap[Y0]?=some (.cells #[.int .i64 t.id,.string t.nm,.slice ca t.cols.length cc,.slice ia t.ixs.length ic,.slice ka t.fks.length kc] 35 (0,0)):=by
  have:=heap_alloc_new w (.cells #[.int .i64 t.id,.string t.nm,.slice ca t.cols.length cc,.slice ia t.ixs.length ic,.slice ka t.fks.length kc] 35)
  rw [hW,←hY0]
  rw [Below.heap_alloc _ _ _ (by simp only [World.size_alloc];omega)]
  exact this
 have jY1:W.heap[Y1]?=some (.cells #[.int .i64 0,.string ⟨#[]⟩,.slice none 0 0,.slice none 0 0,.slice none 0 0] 35 (0,0)):=by
  have:=heap_alloc_new (w.alloc (.cells #[.int .i64 t.id,.string t.nm,.slice ca t.cols.length cc,.slice ia t.ixs.length ic,.slice ka t.fks.length kc] 35)) (.cells #[.int .i64 0,.string ⟨#[]⟩,.slice none 0 0,.slice none 0 0,.slice none 0 0] 35)
  simp only [World.size_alloc] at this
  rw [hW,←hY1,←hY0]
  exact this
 have hge0:w.heap.size≤Y0:=by omega
 have hge1:w.heap.size≤Y1:=by omega
 have hne:Y0≠Y1:=by omega
 have h1:=ownC_any (hc.on colE_held hbW) z1
 have HI:=lh hi
 have HK:=lh hk
 have d2:W.cell? ⟨Y0,2,none⟩=some (.slice ca t.cols.length cc):=cell_blk jY0 2
 have J0:=lh jY0
 have J1:=lh jY1
 have GE:=lh (And.intro hge0 (And.intro hge1 hne))
 have Z:=lh (And.intro z2 z3)
 have HW:=lh hW
 have HBW:=lh hbW
 have HY0:=lh hY0
 have HY1:=lh hY1
 clear hW hbW hY0 hY1
 clear jY0 jY1 hc hi hk rc ri rk z1 z2 z3 hge0 hge1 hne
 go_enter Tryz.func23,Tryz.ntmps23
 go_upto_region 1 with fail
 rw [←HW.out,HY0.out,HY1.out]
 go_wp2_with fail
 refine h1.mono ?_
 rintro e w1 ⟨ca',cc',rfl,o1,b1⟩
 have j0:=(b1.block Y0 (blk_lt J0.out)).trans J0.out
 have j1:=(b1.block Y1 (blk_lt J1.out)).trans J1.out
 have e2:w1.cell? ⟨Y0,2,none⟩=some (.slice ca t.cols.length cc):=cell_blk j0 2
 have f2:w1.frozen? ⟨Y0,2,none⟩=false:=frozen_blk j0 2
 obtain ⟨X1,hX1⟩:∃ X1,X1=w1.setCell ⟨Y0,2,none⟩ (.slice ca' t.cols.length cc'):=⟨_,rfl⟩
 have BX1:Below w.heap.size w X1:=by rw [hX1];exact (bgo HBW.out b1).setCell GE.out.1 _
 have jX0:X1.heap[Y0]?=some (.cells #[.int .i64 t.id,.string t.nm,.slice ca' t.cols.length cc',.slice ia t.ixs.length ic,.slice ka t.fks.length kc] 35 (0,0)):=by rw [hX1];exact set_blk j0 _
 have jX1:X1.heap[Y1]?=some (.cells #[.int .i64 0,.string ⟨#[]⟩,.slice none 0 0,.slice none 0 0,.slice none 0 0] 35 (0,0)):=by rw [hX1,set_other _ (fun q=>GE.out.2.2 q.symm)];exact j1
 have oX1:X1.ownsRow w.heap.size 50 7 (.slice ca' t.cols.length cc') t.cols.length (t.cols.flatMap colL):=by
  have q:=own_mono o1 HBW.out.size
  rw [hX1]
  refine own_like q (fun k hk=>set_other _ ?_)
  intro z
  have z1:=(own_ge o1 k hk).1
  rw [z] at z1
  have:=blk_lt J0.out
  simp only at z1
  omega
 have h2:=ownI_any (HI.out.on ixE_held BX1) Z.out.1
 have d3:X1.cell? ⟨Y0,3,none⟩=some (.slice ia t.ixs.length ic):=cell_blk jX0 3
 have O1:=lh oX1
 have BX:=lh BX1
 have J0':=lh jX0
 have J1':=lh jX1
 have HX1:=lh hX1
 clear h1 b1 o1 j0 j1 hX1 BX1 jX0 jX1 oX1 d2
 go_upto_region 2 with fail
 rw [←HX1.out]
 go_wp2_with fail
 refine h2.mono ?_
 rintro e w2 ⟨ia',ic',rfl,o2,b2⟩
 have j0:=(b2.block Y0 (blk_lt J0'.out)).trans J0'.out
 have j1:=(b2.block Y1 (blk_lt J1'.out)).trans J1'.out
 have e3:w2.cell? ⟨Y0,3,none⟩=some (.slice ia t.ixs.length ic):=cell_blk j0 3
 have f3:w2.frozen? ⟨Y0,3,none⟩=false:=frozen_blk j0 3
 obtain ⟨X2,hX2⟩:∃ X2,X2=w2.setCell ⟨Y0,3,none⟩ (.slice ia' t.ixs.length ic'):=⟨_,rfl⟩
 have BX2:Below w.heap.size w X2:=by rw [hX2];exact (bgo BX.out b2).setCell GE.out.1 _
 have jX0:X2.heap[Y0]?=some (.cells #[.int .i64 t.id,.string t.nm,.slice ca' t.cols.length cc',.slice ia' t.ixs.length ic',.slice ka t.fks.length kc] 35 (0,0)):=by rw [hX2];exact set_blk j0 _
 have jX1:X2.heap[Y1]?=some (.cells #[.int .i64 0,.string ⟨#[]⟩,.slice none 0 0,.slice none 0 0,.slice none 0 0] 35 (0,0)):=by rw [hX2,set_other _ (fun q=>GE.out.2.2 q.symm)];exact j1
 have oX1:X2.ownsRow w.heap.size 50 7 (.slice ca' t.cols.length cc') t.cols.length (t.cols.flatMap colL):=by
  rw [hX2]
  exact own_off (by decide) j0 (own_below O1.out b2)
 have oX2:X2.ownsRow w.heap.size 71 5 (.slice ia' t.ixs.length ic') t.ixs.length (t.ixs.flatMap ixL):=by
  rw [hX2]
  exact own_off (by decide) j0 (own_mono o2 BX.out.size)
 have h3:=ownK_any (HK.out.on fkE_held BX2) Z.out.2
 have d4:X2.cell? ⟨Y0,4,none⟩=some (.slice ka t.fks.length kc):=cell_blk jX0 4
 have P1:=lh oX1
 have P2:=lh oX2
 have CX:=lh BX2
 have K0:=lh jX0
 have K1:=lh jX1
 have HX2:=lh hX2
 clear h2 b2 o2 j0 j1 hX2 BX2 jX0 jX1 oX1 oX2 d3 e2 f2
 go_upto_region 3 with fail
 rw [←HX2.out]
 clear e3 f3
 go_wp2_with fail
 refine h3.mono ?_
 rintro e w3 ⟨ka',kc',rfl,o3,b3⟩
 have j0:=(b3.block Y0 (blk_lt K0.out)).trans K0.out
 have j1:=(b3.block Y1 (blk_lt K1.out)).trans K1.out
 have e4:w3.cell? ⟨Y0,4,none⟩=some (.slice ka t.fks.length kc):=cell_blk j0 4
 have f4:w3.frozen? ⟨Y0,4,none⟩=false:=frozen_blk j0 4
 obtain ⟨X3,hX3⟩:∃ X3,X3=w3.setCell ⟨Y0,4,none⟩ (.slice ka' t.fks.length kc'):=⟨_,rfl⟩
 have BX3:Below w.heap.size w X3:=by rw [hX3];exact (bgo CX.out b3).setCell GE.out.1 _
 have jX0:X3.heap[Y0]?=some (.cells (tbA t (.slice ca' t.cols.length cc') (.slice ia' t.ixs.length ic') (.slice ka' t.fks.length kc')) 35 (0,0)):=by rw [hX3];exact set_blk j0 _
 have jX1:X3.heap[Y1]?=some (.cells #[.int .i64 0,.string ⟨#[]⟩,.slice none 0 0,.slice none 0 0,.slice none 0 0] 35 (0,0)):=by rw [hX3,set_other _ (fun q=>GE.out.2.2 q.symm)];exact j1
 have oX1:X3.ownsRow w.heap.size 50 7 (.slice ca' t.cols.length cc') t.cols.length (t.cols.flatMap colL):=by
  rw [hX3]
  exact own_off (by decide) j0 (own_below P1.out b3)
 have oX2:X3.ownsRow w.heap.size 71 5 (.slice ia' t.ixs.length ic') t.ixs.length (t.ixs.flatMap ixL):=by
  rw [hX3]
  exact own_off (by decide) j0 (own_below P2.out b3)
 have oX3:X3.ownsRow w.heap.size 74 5 (.slice ka' t.fks.length kc') t.fks.length (t.fks.flatMap fkL):=by
  rw [hX3]
  exact own_off (by decide) j0 (own_mono o3 CX.out.size)
 have hld:=load_row jX0 Tryz.underlying35 rfl size35
 obtain ⟨X4,e4',j4,f4'⟩:=sets_row jX1 (tbA t (.slice ca' t.cols.length cc') (.slice ia' t.ixs.length ic') (.slice ka' t.fks.length kc')) rfl
 have hst:(Instr.storeAt 35 (.pointer (some ⟨Y1,0,none⟩)) (.agg (tbA t (.slice ca' t.cols.length cc') (.slice ia' t.ixs.length ic') (.slice ka' t.fks.length kc')))).run Tryz.prog X3=.ok () X4:=by
  rw [e4']
  exact store_row jX1 rfl size35 (by simp [Value.oneCell'])
 have kp:∀ {e:TypeId} {c n:Nat} {v:Value} {xs:List Value},e≠35→X3.ownsRow w.heap.size e c v n xs→X4.ownsRow w.heap.size e c v n xs:=fun he q=>keep_rowB q f4' (fun k hk cs tg=>by
  rw [hk,jX1] at tg
  simp only [Option.some.injEq,Obj.cells.injEq] at tg
  exact he tg.2.1.symm)
 have R1:=lh (kp (by decide) oX1)
 have R2:=lh (kp (by decide) oX2)
 have R3:=lh (kp (by decide) oX3)
 have BE:Hid (Below w.heap.size w X4):=BX3.trans (f4'.toBelow (fun k hk q=>by rw [q] at hk;exact absurd GE.out.2.1 (by omega)) BX3.size)
 have J4:=lh j4
 have HX3:=lh hX3
 clear h3 b3 o3 j0 j1 hX3 BX3 jX0 jX1 oX1 oX2 oX3 d4 e4' f4' kp j4
 go_upto_region 4 with fail
 rw [←HX3.out]
 go_wp2_with (first | (refine wpl_load _ rfl (by simp [Act.eval]) hld ?_) | (refine wpl_store _ _ rfl (by simp [Act.eval,Act.put]) (by simp [Act.eval,Act.put]) hst ?_))
 refine bodyPost_ret (results_one rfl rfl (load_var J4.out Tryz.underlying35 rfl size35)) rfl ?_
 exact ⟨_,_,_,rfl,R1.out,R2.out,R3.out,BE.out⟩
end
end Go.Proofs.YtongmhfpoopebaaGreat
