import Derived.Test.YtkhehikaemdnnaaGreatQBh
import Derived.StringKeys
import Derived.Maps.OwnSet
import Derived.Maps.Keyed
namespace Go.Proofs.YtkhehikaemdnnaaGreat
open Go.RowKit
abbrev tbC(t:Tb)(l:List Col):Tb:=⟨t.id,t.nm,l,t.ixs,t.fks⟩
abbrev tbI(t:Tb)(l:List Ix):Tb:=⟨t.id,t.nm,t.cols,l,t.fks⟩
abbrev tbK(t:Tb)(l:List Fk):Tb:=⟨t.id,t.nm,t.cols,t.ixs,l⟩
abbrev Gt:=Tb × Value × Value × Value
abbrev gL(g:Gt):List Value:=tbL g.1 g.2.1 g.2.2.1 g.2.2.2
theorem gL_len(g:Gt):(gL g).length=5:=rfl
theorem own_base{w:World}{B:Nat}{e:TypeId}{c n:Nat}{v:Value}{xs:List Value}(h:w.ownsRow 0 e c v n xs)(hb:∀ k,v.ownBlock=some k->B<=k):w.ownsRow B e c v n xs:=by
 rcases h.2 with q | ⟨g,cap,cur,hv,_,rest⟩
 ·exact⟨h.1,.inl q⟩
 ·exact⟨h.1,.inr ⟨g,cap,cur,hv,hb g (by rw [hv];rfl),rest⟩⟩
theorem own_ge{w:World}{B:Nat}{e:TypeId}{c n:Nat}{v:Value}{xs:List Value}(h:w.ownsRow B e c v n xs):∀ k,v.ownBlock=some k->B<=k/\k<w.heap.size:=by
 intro k hk;exact h.lt k hk
structure Dr (w:World) (B:Nat) (G:List Gt) (tv:Value):Prop where
 row:w.ownsRow B 64 5 tv G.length (G.flatMap gL)
 c:∀ g ∈ G,w.ownsRow B 56 7 g.2.1 g.1.cols.length (g.1.cols.flatMap colL)
 i:∀ g ∈ G,w.ownsRow B 138 5 g.2.2.1 g.1.ixs.length (g.1.ixs.flatMap ixL)
 k:∀ g ∈ G,w.ownsRow B 141 5 g.2.2.2 g.1.fks.length (g.1.fks.flatMap fkL)
 apc:∀ i j (hi:i<G.length) (hj:j<G.length),i≠j->∀ b,G[i].2.1.ownBlock=some b->G[j].2.1.ownBlock≠some b
 api:∀ i j (hi:i<G.length) (hj:j<G.length),i≠j->∀ b,G[i].2.2.1.ownBlock=some b->G[j].2.2.1.ownBlock≠some b
 apk:∀ i j (hi:i<G.length) (hj:j<G.length),i≠j->∀ b,G[i].2.2.2.ownBlock=some b->G[j].2.2.2.ownBlock≠some b
theorem Dr.nil(w:World)(B:Nat):Dr w B [] (.slice none 0 0):=⟨World.ownsRow_nil _ _ 64 5,by simp,by simp,by simp,fun i _ hi=>by simp at hi,fun i _ hi=>by simp at hi,fun i _ hi=>by simp at hi⟩
theorem Dr.three{w:World}{B:Nat}{G:List Gt}{tv:Value}(h:Dr w B G tv){g:Gt}(hg:g ∈ G):Three w g.1 g.2.1 g.2.2.1 g.2.2.2:=⟨Lr.own colL_len (h.c g hg),Lr.own ixL_len (h.i g hg),Lr.own fkL_len (h.k g hg)⟩
theorem Dr.reads{w:World}{B:Nat}{G:List Gt}{tv:Value}(h:Dr w B G tv):Lr tbE 5 w (G.map Prod.fst) tv:=by
 obtain⟨ad,cap,e,h0,h1,h2,h3⟩:=Lr.own gL_len h.row;refine⟨ad,cap,by rw [List.length_map];exact e,h0,by rw [List.length_map];exact h1,h2,fun i hi=>?_⟩;rw [List.length_map]at hi;obtain⟨b,o,cs,ha,hl,hE,hc,hh⟩:=h3 i hi;refine⟨b,o,cs,ha,hl,?_,hc,hh⟩;rw [List.getElem_map];exact⟨_,_,_,hE,h.three (List.getElem_mem hi)⟩
theorem Dr.keep{w w':World}{B:Nat}{G:List Gt}{tv:Value}{T:Nat->Prop}(h:Dr w B G tv)(hf:Fr w w' T)(ht:∀ k,T k->k<B\/∀ cs e,w.heap[k]?=some (.cells cs e (0,0))->e≠64/\e≠56/\e≠138/\e≠141):Dr w' B G tv:=by
 have key:∀ {e:TypeId} {c n:Nat} {v:Value} {xs:List Value},w.ownsRow B e c v n xs->(e=64\/e=56\/e=138\/e=141)->w'.ownsRow B e c v n xs:=fun hr he=>row_keep hr hf (fun j hj q=>by
  obtain⟨cs,t⟩:=own_tag hr j hj;have hB:=own_ge hr j hj;rcases ht j q with z | z
  ·omega
  ·obtain⟨z1,z2,z3,z4⟩:=z cs _ t;rcases he with rfl | rfl | rfl | rfl
   ·exact z1 rfl
   ·exact z2 rfl
   ·exact z3 rfl
   ·exact z4 rfl)
 exact⟨key h.row (.inl rfl),fun g hg=>key (h.c g hg) (.inr (.inl rfl)),fun g hg=>key (h.i g hg) (.inr (.inr (.inl rfl))),fun g hg=>key (h.k g hg) (.inr (.inr (.inr rfl))),h.apc,h.api,h.apk⟩
theorem Dr.below{w w':World}{B:Nat}{G:List Gt}{tv:Value}(h:Dr w B G tv)(hb:Below w.heap.size w w'):Dr w' B G tv:=h.keep (T:=fun _=>False) (Fr.ofBelow _ hb) (fun _ q=>q.elim)
theorem Dr.mono{w:World}{B B':Nat}{G:List Gt}{tv:Value}(h:Dr w B G tv)(hB:B'<=B):Dr w B' G tv:=⟨own_mono h.row hB,fun g hg=>own_mono (h.c g hg) hB,fun g hg=>own_mono (h.i g hg) hB,fun g hg=>own_mono (h.k g hg) hB,h.apc,h.api,h.apk⟩
theorem Dr.setC{w w':World}{B A:Nat}{G:List Gt}{tv:Value}{T:Nat->Prop}{cA:Array Value}(h:Dr w B G tv){i:Nat}(hi:i<G.length)(hA:w.heap[A]?=some (.cells cA 30 (0,0)))(hB:B<=w.heap.size){l':List Col}{v':Value}(hf:Fr w w' T)(hT:∀ k,T k->k=A\/tv.ownBlock=some k\/G[i].2.1.ownBlock=some k)
  (hrow:w'.ownsRow 0 64 5 tv G.length ((G.set i (tbC G[i].1 l',v',G[i].2.2.1,G[i].2.2.2)).flatMap gL)) (hc:w'.ownsRow 0 56 7 v' l'.length (l'.flatMap colL)) (hb:∀ k,v'.ownBlock=some k->G[i].2.1.ownBlock=some k\/w.heap.size<=k):Dr w' B (G.set i (tbC G[i].1 l',v',G[i].2.2.1,G[i].2.2.2)) tv:=by
 have keep:∀ {e:TypeId} {c n:Nat} {v:Value} {xs:List Value},w.ownsRow B e c v n xs->e≠30->e≠64->e≠56->w'.ownsRow B e c v n xs:=fun hr h1 h2 h3=>row_keep hr hf (fun b hb' z=>by
  obtain⟨cs,t⟩:=own_tag hr b hb';rcases hT b z with z | z | z
  ·rw [z,hA]at t;simp only [Option.some.injEq,Obj.cells.injEq]at t;exact h1 t.2.1.symm
  ·obtain⟨cs2,t2⟩:=own_tag h.row b z;rw [t2]at t;simp only [Option.some.injEq,Obj.cells.injEq]at t;exact h2 t.2.1.symm
  ·obtain⟨cs2,t2⟩:=own_tag (h.c G[i] (List.getElem_mem hi)) b z;rw [t2]at t;simp only [Option.some.injEq,Obj.cells.injEq]at t;exact h3 t.2.1.symm)
 refine⟨by rw [List.length_set];exact own_base hrow (fun k hk=>(own_ge h.row k hk).1),?_,?_,?_,?_,?_,?_⟩
 ·exact fun x hx=>by
    obtain⟨j,hj,ej⟩:=List.getElem_of_mem hx;rw [List.length_set]at hj;by_cases q:i=j
    ·subst q;rw [List.getElem_set_self]at ej;subst ej;exact own_base hc (fun b hb'=>by
      rcases hb b hb' with z | z
      ·exact(own_ge (h.c G[i] (List.getElem_mem hi)) b z).1
      ·exact Nat.le_trans hB z)
    ·rw [List.getElem_set_ne q]at ej;subst ej;refine row_keep (h.c G[j] (List.getElem_mem hj)) hf (fun b hb' z=>?_);rcases hT b z with z | z | z
     ·rw [z]at hb';obtain⟨cs,t⟩:=own_tag (h.c G[j] (List.getElem_mem hj)) A hb';rw [hA]at t;simp only [Option.some.injEq,Obj.cells.injEq]at t;exact absurd t.2.1 (by decide)
     ·obtain⟨cs,t⟩:=own_tag (h.c G[j] (List.getElem_mem hj)) b hb';obtain⟨cs2,t2⟩:=own_tag h.row b z;rw [t2]at t;simp only [Option.some.injEq,Obj.cells.injEq]at t;exact absurd t.2.1 (by decide)
     ·exact h.apc i j hi hj q b z hb'
 ·exact fun x hx=>by
    rcases List.mem_or_eq_of_mem_set hx with q | q
    ·exact keep (h.i x q) (by decide) (by decide) (by decide)
    ·subst q;exact keep (h.i G[i] (List.getElem_mem hi)) (by decide) (by decide) (by decide)
 ·exact fun x hx=>by
    rcases List.mem_or_eq_of_mem_set hx with q | q
    ·exact keep (h.k x q) (by decide) (by decide) (by decide)
    ·subst q;exact keep (h.k G[i] (List.getElem_mem hi)) (by decide) (by decide) (by decide)
 ·exact fun a b ha hb2 hne k hk=>by
    rw [List.length_set]at ha hb2;rw [List.getElem_set]at hk;rw [List.getElem_set];by_cases q1:i=a
    ·subst q1;rw [if_pos rfl]at hk;rw [if_neg hne];rcases hb k hk with z | z
     ·exact h.apc i b hi hb2 hne k z
     ·intro q;have:=(own_ge (h.c G[b] (List.getElem_mem hb2)) k q).2;omega
    ·rw [if_neg q1]at hk;by_cases q2:i=b
     ·subst q2;rw [if_pos rfl];intro q;rcases hb k q with z | z
      ·exact h.apc i a hi ha q1 k z hk
      ·have:=(own_ge (h.c G[a] (List.getElem_mem ha)) k hk).2;omega
     ·rw [if_neg q2];exact h.apc a b ha hb2 hne k hk
 ·exact fun a b ha hb2 hne k hk=>by
    rw [List.length_set]at ha hb2;have hk':G[a].2.2.1.ownBlock=some k:=by
     rw [List.getElem_set]at hk
     split at hk
     ·rename_i q;subst q;exact hk
     ·exact hk
    have:=h.api a b ha hb2 hne k hk';rw [List.getElem_set]
    split
    ·rename_i q;subst q;exact this
    ·exact this
 ·exact fun a b ha hb2 hne k hk=>by
    rw [List.length_set]at ha hb2;have hk':G[a].2.2.2.ownBlock=some k:=by
     rw [List.getElem_set]at hk
     split at hk
     ·rename_i q;subst q;exact hk
     ·exact hk
    have:=h.apk a b ha hb2 hne k hk';rw [List.getElem_set]
    split
    ·rename_i q;subst q;exact this
    ·exact this
theorem Dr.setI{w w':World}{B A:Nat}{G:List Gt}{tv:Value}{T:Nat->Prop}{cA:Array Value}(h:Dr w B G tv){i:Nat}(hi:i<G.length)(hA:w.heap[A]?=some (.cells cA 30 (0,0)))(hB:B<=w.heap.size){l':List Ix}{v':Value}(hf:Fr w w' T)(hT:∀ k,T k->k=A\/tv.ownBlock=some k\/G[i].2.2.1.ownBlock=some k)
  (hrow:w'.ownsRow 0 64 5 tv G.length ((G.set i (tbI G[i].1 l',G[i].2.1,v',G[i].2.2.2)).flatMap gL)) (hc:w'.ownsRow 0 138 5 v' l'.length (l'.flatMap ixL)) (hb:∀ k,v'.ownBlock=some k->G[i].2.2.1.ownBlock=some k\/w.heap.size<=k):Dr w' B (G.set i (tbI G[i].1 l',G[i].2.1,v',G[i].2.2.2)) tv:=by
 have keep:∀ {e:TypeId} {c n:Nat} {v:Value} {xs:List Value},w.ownsRow B e c v n xs->e≠30->e≠64->e≠138->w'.ownsRow B e c v n xs:=fun hr h1 h2 h3=>row_keep hr hf (fun b hb' z=>by
  obtain⟨cs,t⟩:=own_tag hr b hb';rcases hT b z with z | z | z
  ·rw [z,hA]at t;simp only [Option.some.injEq,Obj.cells.injEq]at t;exact h1 t.2.1.symm
  ·obtain⟨cs2,t2⟩:=own_tag h.row b z;rw [t2]at t;simp only [Option.some.injEq,Obj.cells.injEq]at t;exact h2 t.2.1.symm
  ·obtain⟨cs2,t2⟩:=own_tag (h.i G[i] (List.getElem_mem hi)) b z;rw [t2]at t;simp only [Option.some.injEq,Obj.cells.injEq]at t;exact h3 t.2.1.symm)
 refine⟨by rw [List.length_set];exact own_base hrow (fun k hk=>(own_ge h.row k hk).1),?_,?_,?_,?_,?_,?_⟩
 ·exact fun x hx=>by
    rcases List.mem_or_eq_of_mem_set hx with q | q
    ·exact keep (h.c x q) (by decide) (by decide) (by decide)
    ·subst q;exact keep (h.c G[i] (List.getElem_mem hi)) (by decide) (by decide) (by decide)
 ·exact fun x hx=>by
    obtain⟨j,hj,ej⟩:=List.getElem_of_mem hx;rw [List.length_set]at hj;by_cases q:i=j
    ·subst q;rw [List.getElem_set_self]at ej;subst ej;exact own_base hc (fun b hb'=>by
      rcases hb b hb' with z | z
      ·exact(own_ge (h.i G[i] (List.getElem_mem hi)) b z).1
      ·exact Nat.le_trans hB z)
    ·rw [List.getElem_set_ne q]at ej;subst ej;refine row_keep (h.i G[j] (List.getElem_mem hj)) hf (fun b hb' z=>?_);rcases hT b z with z | z | z
     ·rw [z]at hb';obtain⟨cs,t⟩:=own_tag (h.i G[j] (List.getElem_mem hj)) A hb';rw [hA]at t;simp only [Option.some.injEq,Obj.cells.injEq]at t;exact absurd t.2.1 (by decide)
     ·obtain⟨cs,t⟩:=own_tag (h.i G[j] (List.getElem_mem hj)) b hb';obtain⟨cs2,t2⟩:=own_tag h.row b z;rw [t2]at t;simp only [Option.some.injEq,Obj.cells.injEq]at t;exact absurd t.2.1 (by decide)
     ·exact h.api i j hi hj q b z hb'
 ·exact fun x hx=>by
    rcases List.mem_or_eq_of_mem_set hx with q | q
    ·exact keep (h.k x q) (by decide) (by decide) (by decide)
    ·subst q;exact keep (h.k G[i] (List.getElem_mem hi)) (by decide) (by decide) (by decide)
 ·exact fun a b ha hb2 hne k hk=>by
    rw [List.length_set]at ha hb2;have hk':G[a].2.1.ownBlock=some k:=by
     rw [List.getElem_set]at hk
     split at hk
     ·rename_i q;subst q;exact hk
     ·exact hk
    have:=h.apc a b ha hb2 hne k hk';rw [List.getElem_set]
    split
    ·rename_i q;subst q;exact this
    ·exact this
 ·exact fun a b ha hb2 hne k hk=>by
    rw [List.length_set]at ha hb2;rw [List.getElem_set]at hk;rw [List.getElem_set];by_cases q1:i=a
    ·subst q1;rw [if_pos rfl]at hk;rw [if_neg hne];rcases hb k hk with z | z
     ·exact h.api i b hi hb2 hne k z
     ·intro q;have:=(own_ge (h.i G[b] (List.getElem_mem hb2)) k q).2;omega
    ·rw [if_neg q1]at hk;by_cases q2:i=b
     ·subst q2;rw [if_pos rfl];intro q;rcases hb k q with z | z
      ·exact h.api i a hi ha q1 k z hk
      ·have:=(own_ge (h.i G[a] (List.getElem_mem ha)) k hk).2;omega
     ·rw [if_neg q2];exact h.api a b ha hb2 hne k hk
 ·exact fun a b ha hb2 hne k hk=>by
    rw [List.length_set]at ha hb2;have hk':G[a].2.2.2.ownBlock=some k:=by
     rw [List.getElem_set]at hk
     split at hk
     ·rename_i q;subst q;exact hk
     ·exact hk
    have:=h.apk a b ha hb2 hne k hk';rw [List.getElem_set]
    split
    ·rename_i q;subst q;exact this
    ·exact this
theorem Dr.setK{w w':World}{B A:Nat}{G:List Gt}{tv:Value}{T:Nat->Prop}{cA:Array Value}(h:Dr w B G tv){i:Nat}(hi:i<G.length)(hA:w.heap[A]?=some (.cells cA 30 (0,0)))(hB:B<=w.heap.size){l':List Fk}{v':Value}(hf:Fr w w' T)(hT:∀ k,T k->k=A\/tv.ownBlock=some k\/G[i].2.2.2.ownBlock=some k)
  (hrow:w'.ownsRow 0 64 5 tv G.length ((G.set i (tbK G[i].1 l',G[i].2.1,G[i].2.2.1,v')).flatMap gL)) (hc:w'.ownsRow 0 141 5 v' l'.length (l'.flatMap fkL)) (hb:∀ k,v'.ownBlock=some k->G[i].2.2.2.ownBlock=some k\/w.heap.size<=k):Dr w' B (G.set i (tbK G[i].1 l',G[i].2.1,G[i].2.2.1,v')) tv:=by
 have keep:∀ {e:TypeId} {c n:Nat} {v:Value} {xs:List Value},w.ownsRow B e c v n xs->e≠30->e≠64->e≠141->w'.ownsRow B e c v n xs:=fun hr h1 h2 h3=>row_keep hr hf (fun b hb' z=>by
  obtain⟨cs,t⟩:=own_tag hr b hb';rcases hT b z with z | z | z
  ·rw [z,hA]at t;simp only [Option.some.injEq,Obj.cells.injEq]at t;exact h1 t.2.1.symm
  ·obtain⟨cs2,t2⟩:=own_tag h.row b z;rw [t2]at t;simp only [Option.some.injEq,Obj.cells.injEq]at t;exact h2 t.2.1.symm
  ·obtain⟨cs2,t2⟩:=own_tag (h.k G[i] (List.getElem_mem hi)) b z;rw [t2]at t;simp only [Option.some.injEq,Obj.cells.injEq]at t;exact h3 t.2.1.symm)
 refine⟨by rw [List.length_set];exact own_base hrow (fun k hk=>(own_ge h.row k hk).1),?_,?_,?_,?_,?_,?_⟩
 ·exact fun x hx=>by
    rcases List.mem_or_eq_of_mem_set hx with q | q
    ·exact keep (h.c x q) (by decide) (by decide) (by decide)
    ·subst q;exact keep (h.c G[i] (List.getElem_mem hi)) (by decide) (by decide) (by decide)
 ·exact fun x hx=>by
    rcases List.mem_or_eq_of_mem_set hx with q | q
    ·exact keep (h.i x q) (by decide) (by decide) (by decide)
    ·subst q;exact keep (h.i G[i] (List.getElem_mem hi)) (by decide) (by decide) (by decide)
 ·exact fun x hx=>by
    obtain⟨j,hj,ej⟩:=List.getElem_of_mem hx;rw [List.length_set]at hj;by_cases q:i=j
    ·subst q;rw [List.getElem_set_self]at ej;subst ej;exact own_base hc (fun b hb'=>by
      rcases hb b hb' with z | z
      ·exact(own_ge (h.k G[i] (List.getElem_mem hi)) b z).1
      ·exact Nat.le_trans hB z)
    ·rw [List.getElem_set_ne q]at ej;subst ej;refine row_keep (h.k G[j] (List.getElem_mem hj)) hf (fun b hb' z=>?_);rcases hT b z with z | z | z
     ·rw [z]at hb';obtain⟨cs,t⟩:=own_tag (h.k G[j] (List.getElem_mem hj)) A hb';rw [hA]at t;simp only [Option.some.injEq,Obj.cells.injEq]at t;exact absurd t.2.1 (by decide)
     ·obtain⟨cs,t⟩:=own_tag (h.k G[j] (List.getElem_mem hj)) b hb';obtain⟨cs2,t2⟩:=own_tag h.row b z;rw [t2]at t;simp only [Option.some.injEq,Obj.cells.injEq]at t;exact absurd t.2.1 (by decide)
     ·exact h.apk i j hi hj q b z hb'
 ·exact fun a b ha hb2 hne k hk=>by
    rw [List.length_set]at ha hb2;have hk':G[a].2.1.ownBlock=some k:=by
     rw [List.getElem_set]at hk
     split at hk
     ·rename_i q;subst q;exact hk
     ·exact hk
    have:=h.apc a b ha hb2 hne k hk';rw [List.getElem_set]
    split
    ·rename_i q;subst q;exact this
    ·exact this
 ·exact fun a b ha hb2 hne k hk=>by
    rw [List.length_set]at ha hb2;have hk':G[a].2.2.1.ownBlock=some k:=by
     rw [List.getElem_set]at hk
     split at hk
     ·rename_i q;subst q;exact hk
     ·exact hk
    have:=h.api a b ha hb2 hne k hk';rw [List.getElem_set]
    split
    ·rename_i q;subst q;exact this
    ·exact this
 ·exact fun a b ha hb2 hne k hk=>by
    rw [List.length_set]at ha hb2;rw [List.getElem_set]at hk;rw [List.getElem_set];by_cases q1:i=a
    ·subst q1;rw [if_pos rfl]at hk;rw [if_neg hne];rcases hb k hk with z | z
     ·exact h.apk i b hi hb2 hne k z
     ·intro q;have:=(own_ge (h.k G[b] (List.getElem_mem hb2)) k q).2;omega
    ·rw [if_neg q1]at hk;by_cases q2:i=b
     ·subst q2;rw [if_pos rfl];intro q;rcases hb k q with z | z
      ·exact h.apk i a hi ha q1 k z hk
      ·have:=(own_ge (h.k G[a] (List.getElem_mem ha)) k hk).2;omega
     ·rw [if_neg q2];exact h.apk a b ha hb2 hne k hk
theorem Dr.push{w w':World}{B:Nat}{G:List Gt}{tv tv':Value}{T:Nat->Prop}(h:Dr w B G tv)(hB:B<=w.heap.size)(hf:Fr w w' T)(hT:∀ k,T k->k<B\/tv.ownBlock=some k\/∀ cs e,w.heap[k]?=some (.cells cs e (0,0))->e≠64/\e≠56/\e≠138/\e≠141)(g:Gt)
  (hrow:w'.ownsRow 0 64 5 tv' (G ++ [g]).length ((G ++ [g]).flatMap gL)) (hb:∀ k,tv'.ownBlock=some k->tv.ownBlock=some k\/w.heap.size<=k)
  (hc:w'.ownsRow w.heap.size 56 7 g.2.1 g.1.cols.length (g.1.cols.flatMap colL)) (hi:w'.ownsRow w.heap.size 138 5 g.2.2.1 g.1.ixs.length (g.1.ixs.flatMap ixL)) (hk:w'.ownsRow w.heap.size 141 5 g.2.2.2 g.1.fks.length (g.1.fks.flatMap fkL)):Dr w' B (G ++ [g]) tv':=by
 have keep:∀ {e:TypeId} {c n:Nat} {v:Value} {xs:List Value},w.ownsRow B e c v n xs->(e=56\/e=138\/e=141)->w'.ownsRow B e c v n xs:=fun hr he=>row_keep hr hf (fun j hj q=>by
  obtain⟨cs,t⟩:=own_tag hr j hj;have hB':=own_ge hr j hj;rcases hT j q with z | z | z
  ·omega
  ·obtain⟨cs2,t2⟩:=own_tag h.row j z;rw [t2]at t;simp only [Option.some.injEq,Obj.cells.injEq]at t;have t3:=t.2.1;rcases he with rfl | rfl | rfl <;> exact absurd t3 (by decide)
  ·obtain⟨z1,z2,z3,z4⟩:=z cs _ t;rcases he with rfl | rfl | rfl
   ·exact z2 rfl
   ·exact z3 rfl
   ·exact z4 rfl)
 refine⟨own_base hrow (fun k q=>by
   rcases hb k q with z | z
   ·exact(own_ge h.row k z).1
   ·exact Nat.le_trans hB z),?_,?_,?_,?_,?_,?_⟩
 ·intro x hx;rcases List.mem_append.1 hx with q | q
  ·exact keep (h.c x q) (.inl rfl)
  ·rw [List.mem_singleton.1 q];exact own_mono hc hB
 ·intro x hx;rcases List.mem_append.1 hx with q | q
  ·exact keep (h.i x q) (.inr (.inl rfl))
  ·rw [List.mem_singleton.1 q];exact own_mono hi hB
 ·intro x hx;rcases List.mem_append.1 hx with q | q
  ·exact keep (h.k x q) (.inr (.inr rfl))
  ·rw [List.mem_singleton.1 q];exact own_mono hk hB
 ·intro a b ha hb2 hne k q;rw [List.length_append,List.length_cons,List.length_nil]at ha hb2;by_cases ea:a<G.length
  ·rw [List.getElem_append_left ea]at q;by_cases eb:b<G.length
   ·rw [List.getElem_append_left eb];exact h.apc a b ea eb hne k q
   ·have hb3:b=G.length:=by omega
    subst hb3;rw [List.getElem_concat_length rfl];intro z;have z1:=(own_ge hc k z).1;have z2:=(own_ge (h.c G[a] (List.getElem_mem ea)) k q).2;omega
  ·have ha3:a=G.length:=by omega
   subst ha3;rw [List.getElem_concat_length rfl]at q;have eb:b<G.length:=by omega
   rw [List.getElem_append_left eb];intro z;have z1:=(own_ge hc k q).1;have z2:=(own_ge (h.c G[b] (List.getElem_mem eb)) k z).2;omega
 ·intro a b ha hb2 hne k q;rw [List.length_append,List.length_cons,List.length_nil]at ha hb2;by_cases ea:a<G.length
  ·rw [List.getElem_append_left ea]at q;by_cases eb:b<G.length
   ·rw [List.getElem_append_left eb];exact h.api a b ea eb hne k q
   ·have hb3:b=G.length:=by omega
    subst hb3;rw [List.getElem_concat_length rfl];intro z;have z1:=(own_ge hi k z).1;have z2:=(own_ge (h.i G[a] (List.getElem_mem ea)) k q).2;omega
  ·have ha3:a=G.length:=by omega
   subst ha3;rw [List.getElem_concat_length rfl]at q;have eb:b<G.length:=by omega
   rw [List.getElem_append_left eb];intro z;have z1:=(own_ge hi k q).1;have z2:=(own_ge (h.i G[b] (List.getElem_mem eb)) k z).2;omega
 ·intro a b ha hb2 hne k q;rw [List.length_append,List.length_cons,List.length_nil]at ha hb2;by_cases ea:a<G.length
  ·rw [List.getElem_append_left ea]at q;by_cases eb:b<G.length
   ·rw [List.getElem_append_left eb];exact h.apk a b ea eb hne k q
   ·have hb3:b=G.length:=by omega
    subst hb3;rw [List.getElem_concat_length rfl];intro z;have z1:=(own_ge hk k z).1;have z2:=(own_ge (h.k G[a] (List.getElem_mem ea)) k q).2;omega
  ·have ha3:a=G.length:=by omega
   subst ha3;rw [List.getElem_concat_length rfl]at q;have eb:b<G.length:=by omega
   rw [List.getElem_append_left eb];intro z;have z1:=(own_ge hk k q).1;have z2:=(own_ge (h.k G[b] (List.getElem_mem eb)) k z).2;omega
end Go.Proofs.YtkhehikaemdnnaaGreat
namespace Go.Proofs.YtkhehikaemdnnaaGreat
set_option maxRecDepth 100000
set_option maxHeartbeats 2000000
open Go.RowKit
section
variable {w : World}
def Tb.few(t:Tb):Prop:=t.cols.length<=1000000/\t.ixs.length<=1000000/\t.fks.length<=1000000
theorem own_off{B Y0:Nat}{X:World}{e:TypeId}{c n:Nat}{v:Value}{xs:List Value}{u:Value}{j:Nat}{cs:Array Value}(he:e≠64)(hj:X.heap[Y0]?=some (.cells cs 64 (0,0)))(q:X.ownsRow B e c v n xs):(X.setCell ⟨Y0,j,none⟩ u).ownsRow B e c v n xs :=
 own_like q (fun k hk=>set_other _ (fun z=>by
  obtain⟨cs,tg⟩:=own_tag q k hk;rw [z]at tg;rw [hj]at tg;simp only [Option.some.injEq,Obj.cells.injEq]at tg;exact he tg.2.1.symm))
theorem cloneT_any{t:Tb}{cv iv kv:Value}(h:Three w t cv iv kv)(hz:t.few):Calls Tryz.prog 98 #[tbV t cv iv kv] w fun e w'=>∃ cv' iv' kv',e=.returned (tbV t cv' iv' kv')/\w'.ownsRow w.heap.size 56 7 cv' t.cols.length (t.cols.flatMap colL)/\w'.ownsRow w.heap.size 138 5 iv' t.ixs.length (t.ixs.flatMap ixL)/\w'.ownsRow w.heap.size 141 5 kv' t.fks.length (t.fks.flatMap fkL)/\Below w.heap.size w w':=by
 obtain⟨hc,hi,hk⟩:=h;obtain⟨z1,z2,z3⟩:=hz;obtain⟨ca,cc,rfl,rc⟩:=hc;obtain⟨ia,ic,rfl,ri⟩:=hi;obtain⟨ka,kc,rfl,rk⟩:=hk;have hc:Lr colE 7 w t.cols (.slice ca t.cols.length cc):=⟨ca,cc,rfl,rc⟩
 have hi:Lr ixE 5 w t.ixs (.slice ia t.ixs.length ic):=⟨ia,ic,rfl,ri⟩
 have hk:Lr fkE 5 w t.fks (.slice ka t.fks.length kc):=⟨ka,kc,rfl,rk⟩
 obtain⟨W,hW⟩:∃ W,W=(w.alloc (.cells #[.int .i64 t.id,.string t.nm,.slice ca t.cols.length cc,.slice ia t.ixs.length ic,.slice ka t.fks.length kc] 64)).alloc (.cells #[.int .i64 0,.string ⟨#[]⟩,.slice none 0 0,.slice none 0 0,.slice none 0 0] 64):=⟨_,rfl⟩
 have hbW:=bw2 hW;obtain⟨Y0,hY0⟩:∃ Y0,w.heap.size=Y0:=⟨_,rfl⟩
 obtain⟨Y1,hY1⟩:∃ Y1,Y0+1=Y1:=⟨_,rfl⟩
 have jY0:W.heap[Y0]?=some (.cells #[.int .i64 t.id,.string t.nm,.slice ca t.cols.length cc,.slice ia t.ixs.length ic,.slice ka t.fks.length kc] 64 (0,0)):=nw21 hW hY0;have jY1:W.heap[Y1]?=some (.cells #[.int .i64 0,.string ⟨#[]⟩,.slice none 0 0,.slice none 0 0,.slice none 0 0] 64 (0,0)):=nw22 hW hY0 hY1;have hge0:w.heap.size<=Y0:=by omega
 have hge1:w.heap.size<=Y1:=by omega
 have hne:Y0≠Y1:=by omega
 have h1:=ownC_any (hc.on colE_held hbW) z1;have HI:=lh hi;have HK:=lh hk;have d2:W.cell? ⟨Y0,2,none⟩=some (.slice ca t.cols.length cc):=cell_blk jY0 2;have J0:=lh jY0;have J1:=lh jY1;have GE:=lh (And.intro hge0 (And.intro hge1 hne));have Z:=lh (And.intro z2 z3);have HW:=lh hW;have HBW:=lh hbW;have HY0:=lh hY0;have HY1:=lh hY1;clear hW hbW hY0 hY1;clear jY0 jY1 hc hi hk rc ri rk z1 z2 z3 hge0 hge1 hne;go_enter Tryz.func98,Tryz.ntmps98;go_upto_region 1 with fail
 rw [<-HW.out,HY0.out,HY1.out];go_wp2_with fail
 refine h1.mono ?_;rintro e w1 ⟨ca',cc',rfl,o1,b1⟩;have j0:=(b1.block Y0 (blk_lt J0.out)).trans J0.out;have j1:=(b1.block Y1 (blk_lt J1.out)).trans J1.out;have e2:w1.cell? ⟨Y0,2,none⟩=some (.slice ca t.cols.length cc):=cell_blk j0 2;have f2:w1.frozen? ⟨Y0,2,none⟩=false:=frozen_blk j0 2;obtain⟨X1,hX1⟩:∃ X1,X1=w1.setCell ⟨Y0,2,none⟩ (.slice ca' t.cols.length cc'):=⟨_,rfl⟩
 have BX1:Below w.heap.size w X1:=by rw [hX1];exact(bgo HBW.out b1).setCell GE.out.1 _
 have jX0:X1.heap[Y0]?=some (.cells #[.int .i64 t.id,.string t.nm,.slice ca' t.cols.length cc',.slice ia t.ixs.length ic,.slice ka t.fks.length kc] 64 (0,0)):=by rw [hX1];exact set_blk j0 _
 have jX1:X1.heap[Y1]?=some (.cells #[.int .i64 0,.string ⟨#[]⟩,.slice none 0 0,.slice none 0 0,.slice none 0 0] 64 (0,0)):=by rw [hX1,set_other _ (fun q=>GE.out.2.2 q.symm)];exact j1
 have oX1:X1.ownsRow w.heap.size 56 7 (.slice ca' t.cols.length cc') t.cols.length (t.cols.flatMap colL):=by
  have q:=own_mono o1 HBW.out.size;rw [hX1];refine own_like q (fun k hk=>set_other _ ?_);intro z;have z1:=(own_ge o1 k hk).1;rw [z]at z1;have:=blk_lt J0.out;simp only at z1;omega
 have h2:=ownI_any (HI.out.on ixE_held BX1) Z.out.1;have d3:X1.cell? ⟨Y0,3,none⟩=some (.slice ia t.ixs.length ic):=cell_blk jX0 3;have O1:=lh oX1;have BX:=lh BX1;have J0':=lh jX0;have J1':=lh jX1;have HX1:=lh hX1;clear h1 b1 o1 j0 j1 hX1 BX1 jX0 jX1 oX1 d2;go_upto_region 2 with fail
 rw [<-HX1.out];go_wp2_with fail
 refine h2.mono ?_;rintro e w2 ⟨ia',ic',rfl,o2,b2⟩;have j0:=(b2.block Y0 (blk_lt J0'.out)).trans J0'.out;have j1:=(b2.block Y1 (blk_lt J1'.out)).trans J1'.out;have e3:w2.cell? ⟨Y0,3,none⟩=some (.slice ia t.ixs.length ic):=cell_blk j0 3;have f3:w2.frozen? ⟨Y0,3,none⟩=false:=frozen_blk j0 3;obtain⟨X2,hX2⟩:∃ X2,X2=w2.setCell ⟨Y0,3,none⟩ (.slice ia' t.ixs.length ic'):=⟨_,rfl⟩
 have BX2:Below w.heap.size w X2:=by rw [hX2];exact(bgo BX.out b2).setCell GE.out.1 _
 have jX0:X2.heap[Y0]?=some (.cells #[.int .i64 t.id,.string t.nm,.slice ca' t.cols.length cc',.slice ia' t.ixs.length ic',.slice ka t.fks.length kc] 64 (0,0)):=by rw [hX2];exact set_blk j0 _
 have jX1:X2.heap[Y1]?=some (.cells #[.int .i64 0,.string ⟨#[]⟩,.slice none 0 0,.slice none 0 0,.slice none 0 0] 64 (0,0)):=by rw [hX2,set_other _ (fun q=>GE.out.2.2 q.symm)];exact j1
 have oX1:X2.ownsRow w.heap.size 56 7 (.slice ca' t.cols.length cc') t.cols.length (t.cols.flatMap colL):=by
  rw [hX2];exact own_off (by decide) j0 (own_below O1.out b2)
 have oX2:X2.ownsRow w.heap.size 138 5 (.slice ia' t.ixs.length ic') t.ixs.length (t.ixs.flatMap ixL):=by
  rw [hX2];exact own_off (by decide) j0 (own_mono o2 BX.out.size)
 have h3:=ownK_any (HK.out.on fkE_held BX2) Z.out.2;have d4:X2.cell? ⟨Y0,4,none⟩=some (.slice ka t.fks.length kc):=cell_blk jX0 4;have P1:=lh oX1;have P2:=lh oX2;have CX:=lh BX2;have K0:=lh jX0;have K1:=lh jX1;have HX2:=lh hX2;clear h2 b2 o2 j0 j1 hX2 BX2 jX0 jX1 oX1 oX2 d3 e2 f2;go_upto_region 3 with fail
 rw [<-HX2.out];clear e3 f3;go_wp2_with fail
 refine h3.mono ?_;rintro e w3 ⟨ka',kc',rfl,o3,b3⟩;have j0:=(b3.block Y0 (blk_lt K0.out)).trans K0.out;have j1:=(b3.block Y1 (blk_lt K1.out)).trans K1.out;have e4:w3.cell? ⟨Y0,4,none⟩=some (.slice ka t.fks.length kc):=cell_blk j0 4;have f4:w3.frozen? ⟨Y0,4,none⟩=false:=frozen_blk j0 4;obtain⟨X3,hX3⟩:∃ X3,X3=w3.setCell ⟨Y0,4,none⟩ (.slice ka' t.fks.length kc'):=⟨_,rfl⟩
 have BX3:Below w.heap.size w X3:=by rw [hX3];exact(bgo CX.out b3).setCell GE.out.1 _
 have jX0:X3.heap[Y0]?=some (.cells (tbA t (.slice ca' t.cols.length cc') (.slice ia' t.ixs.length ic') (.slice ka' t.fks.length kc')) 64 (0,0)):=by rw [hX3];exact set_blk j0 _
 have jX1:X3.heap[Y1]?=some (.cells #[.int .i64 0,.string ⟨#[]⟩,.slice none 0 0,.slice none 0 0,.slice none 0 0] 64 (0,0)):=by rw [hX3,set_other _ (fun q=>GE.out.2.2 q.symm)];exact j1
 have oX1:X3.ownsRow w.heap.size 56 7 (.slice ca' t.cols.length cc') t.cols.length (t.cols.flatMap colL):=by
  rw [hX3];exact own_off (by decide) j0 (own_below P1.out b3)
 have oX2:X3.ownsRow w.heap.size 138 5 (.slice ia' t.ixs.length ic') t.ixs.length (t.ixs.flatMap ixL):=by
  rw [hX3];exact own_off (by decide) j0 (own_below P2.out b3)
 have oX3:X3.ownsRow w.heap.size 141 5 (.slice ka' t.fks.length kc') t.fks.length (t.fks.flatMap fkL):=by
  rw [hX3];exact own_off (by decide) j0 (own_mono o3 CX.out.size)
 have hld:=load_row jX0 Tryz.underlying64 rfl size64;obtain⟨X4,e4',j4,f4'⟩:=sets_row jX1 (tbA t (.slice ca' t.cols.length cc') (.slice ia' t.ixs.length ic') (.slice ka' t.fks.length kc')) rfl;have hst:(Instr.storeAt 64 (.pointer (some ⟨Y1,0,none⟩)) (.agg (tbA t (.slice ca' t.cols.length cc') (.slice ia' t.ixs.length ic') (.slice ka' t.fks.length kc')))).run Tryz.prog X3=.ok () X4:=by
  rw [e4'];exact store_row jX1 rfl size64 (by simp [Value.oneCell'])
 have kp:∀ {e:TypeId} {c n:Nat} {v:Value} {xs:List Value},e≠64->X3.ownsRow w.heap.size e c v n xs->X4.ownsRow w.heap.size e c v n xs:=fun he q=>keep_rowB q f4' (fun k hk cs tg=>by
  rw [hk,jX1]at tg;simp only [Option.some.injEq,Obj.cells.injEq]at tg;exact he tg.2.1.symm)
 have R1:=lh (kp (by decide) oX1);have R2:=lh (kp (by decide) oX2);have R3:=lh (kp (by decide) oX3);have BE:Hid (Below w.heap.size w X4):=BX3.trans (f4'.toBelow (fun k hk q=>by rw [q]at hk;exact absurd GE.out.2.1 (by omega)) BX3.size);have J4:=lh j4;have HX3:=lh hX3;clear h3 b3 o3 j0 j1 hX3 BX3 jX0 jX1 oX1 oX2 oX3 d4 e4' f4' kp j4;go_upto_region 4 with fail
 rw [<-HX3.out];go_wp2_with (first|(refine wpl_load _ rfl (by simp [Act.eval]) hld ?_)|(refine wpl_store _ _ rfl (by simp [Act.eval,Act.put]) (by simp [Act.eval,Act.put]) hst ?_))
 refine bodyPost_ret (results_one rfl rfl (load_var J4.out Tryz.underlying64 rfl size64)) rfl ?_;exact⟨_,_,_,rfl,R1.out,R2.out,R3.out,BE.out⟩
end
end Go.Proofs.YtkhehikaemdnnaaGreat
namespace Go.Proofs.YtkhehikaemdnnaaGreat
set_option maxRecDepth 100000
set_option maxHeartbeats 4000000
open Go.RowKit
section
variable {w : World}
theorem pushT{X:World}{G:List Gt}{v:Value}(ho:X.ownsRow 0 64 5 v G.length (G.flatMap gL))(t:Tb){ca ia ka:Option Addr}{cn cc im ic kn kc:Nat}(hz:G.length<=1000000):
  ∃ ad cap w',(Builtin.append_ #[28,28] 28 #[v,.slice (some ⟨X.heap.size,0,none⟩) 1 1]).run Tryz.prog (X.alloc (.cells (tbA t (.slice ca cn cc) (.slice ia im ic) (.slice ka kn kc)) 64))=.ok (.slice ad (G.length+1) cap) w'/\w'.ownsRow 0 64 5 (.slice ad (G.length+1) cap) (G.length+1) ((G ++ [((t,.slice ca cn cc,.slice ia im ic,.slice ka kn kc):Gt)]).flatMap gL)/\Fr X w' (fun k=>v.ownBlock=some k)/\(∀ k,(Value.slice ad (G.length+1) cap).ownBlock=some k->v.ownBlock=some k\/X.heap.size<=k):=by
 have hal:=bnew X (.cells (tbA t (.slice ca cn cc) (.slice ia im ic) (.slice ka kn kc)) 64);have hj:=heap_alloc_new X (.cells (tbA t (.slice ca cn cc) (.slice ia im ic) (.slice ka kn kc)) 64);obtain⟨ad,cap,w',h1,h2,h3,h4⟩:=run_tb (m:=1) (c:=1) (news:=tbL t (.slice ca cn cc) (.slice ia im ic) (.slice ka kn kc)) (own_below ho hal) (Nat.zero_le _) (.inr ⟨_,rfl,rfl,fun j u hu=>by
  rw [add_at,Nat.zero_add,cell_blk hj];simpa using hu⟩) (fun u hu=>by
   simp at hu;rcases hu with rfl | rfl | rfl | rfl | rfl <;> rfl) (by omega)
 refine⟨ad,cap,w',h1,by simpa using h2,?_,?_⟩
 ·refine((Fr.refl X _).alloc _).grown h3 (fun k hk=>.inl hk)
 ·intro k hk;rcases h4 with q | q
  ·exact .inl (q.symm.trans hk)
  ·rw [hk]at q;cases q;exact .inr hal.size
def Few(L:List Tb):Prop:=L.length<=1000000/\∀ t ∈ L,t.few
theorem each_any{s:Sc}{tv:Value}(hL:Lr tbE 5 w s.tabs tv)(hz:Few s.tabs):Calls Tryz.prog 115 #[scV s tv,.func (.func 98) #[] #[]] w fun e w'=>∃ G tv',e=.returned (scV s tv')/\G.map Prod.fst=s.tabs/\Dr w' w.heap.size G tv'/\Below w.heap.size w w':=by
 obtain⟨ta,tc,rfl,q0,q1,q2,hX⟩:=hL;have hmx:(s.tabs.length:Int)<=9223372036854775807:=by unfold maxLen at q2;omega
 obtain⟨W,hW⟩:∃ W,W=(w.alloc (.cells #[.int .i64 s.ver,.int .i64 s.last,.slice ta s.tabs.length tc] 30)).alloc (.cells #[.int .i64 0,.int .i64 0,.slice none 0 0] 30):=⟨_,rfl⟩
 have hbW:=bw2 hW;obtain⟨Y0,hY0⟩:∃ Y0,w.heap.size=Y0:=⟨_,rfl⟩
 obtain⟨Y1,hY1⟩:∃ Y1,Y0+1=Y1:=⟨_,rfl⟩
 have jY0:W.heap[Y0]?=some (.cells #[.int .i64 s.ver,.int .i64 s.last,.slice ta s.tabs.length tc] 30 (0,0)):=nw21 hW hY0;have jY1:W.heap[Y1]?=some (.cells #[.int .i64 0,.int .i64 0,.slice none 0 0] 30 (0,0)):=nw22 hW hY0 hY1;have hge0:w.heap.size<=Y0:=by omega
 have hge1:w.heap.size<=Y1:=by omega
 have d2:W.cell? ⟨Y0,2,none⟩=some (.slice ta s.tabs.length tc):=cell_blk jY0 2;have J0:=lh jY0;have J1:=lh jY1;have HX:=lh hX;have HZ:=lh hz;have GE:=lh (And.intro hge0 hge1);have HW:=lh hW;have HBW:=lh hbW;have HY0:=lh hY0;have HY1:=lh hY1;clear hW hbW hY0 hY1;clear jY0 jY1 hX hz q0 q1 q2 hge0 hge1;go_enter Tryz.func115,Tryz.ntmps115;go_upto_region 1 with fail
 rw [<-HW.out,HY0.out,HY1.out];go_wp2;clear d2;go_loopw [5,11] (fun tv iv wr=>∃ (i:Nat) (G:List Gt),i<=s.tabs.length/\iv=.int .i64 (i:Int)/\G.map Prod.fst=s.tabs.take i/\Dr wr W.heap.size G tv/\Below W.heap.size W wr) (fun _ iv _=>s.tabs.length - (intOf iv).toNat)
 case atStart=>exact⟨0,[],Nat.zero_le _,rfl,rfl,Dr.nil _ _,Below.refl _ _⟩
 case round =>
  obtain⟨i,G,hi,rfl,hG,hD,hb⟩:=hrel;obtain⟨V,rfl⟩:∃ V,V=wr:=⟨_,rfl⟩
  have hGl:G.length=i:=by
   have:=congrArg List.length hG;rw [List.length_map,List.length_take]at this;omega
  obtain⟨tad,tcap,hsh⟩:=own_shape hD.row;subst hsh;have HB:=lh hb;have HD:=lh hD;have HG:=lh hG;have HL:=lh hGl;clear hG hD hGl;by_cases hlt:i<s.tabs.length
  ·have k0:(0:Int)<=i:=by omega
   have k1:(i:Int)<s.tabs.length:=by omega
   obtain⟨b,p,cs,rfl,hbl,hE,_,hcell⟩:=HX.out i hlt;obtain⟨cv,iv,kv,rfl,h3⟩:=hE;obtain⟨t,ht⟩:∃ t,s.tabs[i]=t:=⟨_,rfl⟩
   have htf:t.few:=by rw [<-ht];exact HZ.out.2 _ (List.getElem_mem hlt)
   rw [ht]at hcell h3;have HT:=lh ht;have hwV:=bgo HBW.out HB.out;have h3V:=h3.on hwV;obtain⟨ca,cc,ec,_⟩:=h3.c;obtain⟨ia,ic,ei,_⟩:=h3.i;obtain⟨ka,kc,ek,_⟩:=h3.k;subst ec ei ek;have c0:=cell_on hwV (hcell 0 _ rfl);have c1:=cell_on hwV (hcell 1 _ rfl);have c2:=cell_on hwV (hcell 2 _ rfl);have c3:=cell_on hwV (hcell 3 _ rfl);have c4:=cell_on hwV (hcell 4 _ rfl);rw [Nat.add_zero]at c0;obtain⟨V1,hV1⟩:∃ V1,V1=V.alloc (.cells (tbA t (.slice ca t.cols.length cc) (.slice ia t.ixs.length ic) (.slice ka t.fks.length kc)) 64):=⟨_,rfl⟩
   obtain⟨Q,hQ⟩:∃ Q,V.heap.size=Q:=⟨_,rfl⟩
   have jQ:V1.heap[Q]?=some (.cells (tbA t (.slice ca t.cols.length cc) (.slice ia t.ixs.length ic) (.slice ka t.fks.length kc)) 64 (0,0)):=by rw [hV1,<-hQ];exact heap_alloc_new V _
   have bV:Below V.heap.size V V1:=by rw [hV1];exact bnew _ _
   have hcall:=cloneT_any (h3V.on bV) htf;have g0:V1.cell? ⟨Q,0,none⟩=some (.int .i64 t.id):=cell_blk jQ 0;have g1:V1.cell? ⟨Q,1,none⟩=some (.string t.nm):=cell_blk jQ 1;have g2:V1.cell? ⟨Q,2,none⟩=some (.slice ca t.cols.length cc):=cell_blk jQ 2;have g3:V1.cell? ⟨Q,3,none⟩=some (.slice ia t.ixs.length ic):=cell_blk jQ 3;have g4:V1.cell? ⟨Q,4,none⟩=some (.slice ka t.fks.length kc):=cell_blk jQ 4;have BV:=lh bV;have HV1:=lh hV1;have HQ:=lh hQ;clear hcell h3 h3V hwV ht hV1 hQ jQ bV hb htf hbl;go_upto_region 5 with fail
   rw [<-HV1.out,HQ.out];clear c0 c1 c2 c3 c4;go_wp2_with fail
   refine hcall.mono ?_;rintro e w1 ⟨cv',iv',kv',rfl,o1,o2,o3,b1⟩;obtain⟨ca',cc',rfl⟩:=own_shape o1;obtain⟨ia',ic',rfl⟩:=own_shape o2;obtain⟨ka',kc',rfl⟩:=own_shape o3;have bV1:=bgo BV.out b1;have hD1:=HD.out.below bV1;obtain⟨ad,cap,w',hrun,r1,r2,r3⟩:=pushT (own_mono hD1.row (Nat.zero_le _)) t (ca:=ca') (cn:=t.cols.length) (cc:=cc') (ia:=ia') (im:=t.ixs.length) (ic:=ic') (ka:=ka') (kn:=t.fks.length) (kc:=kc') (by have:=HZ.out.1;have:=HL.out;omega);have hWV:W.heap.size<=V.heap.size:=HB.out.size;have hVw:V1.heap.size<=w1.heap.size:=b1.size;have hVV:V.heap.size<=V1.heap.size:=BV.out.size;have hnew:Dr w' W.heap.size (G ++ [(t,.slice ca' t.cols.length cc',.slice ia' t.ixs.length ic',.slice ka' t.fks.length kc')]) (.slice ad (G.length+1) cap):=by
    have up:∀ {e:TypeId} {c n:Nat} {v:Value} {xs:List Value},e≠64->w1.ownsRow V1.heap.size e c v n xs->w'.ownsRow V.heap.size e c v n xs:=fun he q=>own_mono (keep_rowB q r2 (fun k hk cs tg=>by
     obtain⟨cs2,t2⟩:=own_tag hD1.row k hk;rw [t2]at tg;simp only [Option.some.injEq,Obj.cells.injEq]at tg;exact he tg.2.1.symm)) hVV
    have hf:Fr V w' (fun k=>(Value.slice tad G.length tcap).ownBlock=some k):=(Fr.ofBelow _ bV1).trans r2;exact Dr.push HD.out hWV hf (fun k hk=>.inr (.inl hk)) _ (by simpa using r1) (fun k hk=>by
     rcases r3 k hk with z | z
     ·exact .inl z
     ·exact .inr (by omega)) (up (by decide) o1) (up (by decide) o2) (up (by decide) o3)
   have HN:=lh hnew;have HB2:Hid (Below W.heap.size W w'):=HB.out.trans ((bV1.mono hWV).trans (r2.toBelow (fun k hk q=>by
    have:=(own_ge hD1.row k q).1;omega) (by omega)))
   have HG2:Hid ((G ++ [((t,.slice ca' t.cols.length cc',.slice ia' t.ixs.length ic',.slice ka' t.fks.length kc'):Gt)]).map Prod.fst=s.tabs.take (i+1)):=by
    rw [List.map_append,HG.out,List.take_add_one,List.getElem?_eq_getElem hlt,HT.out];exact lh rfl
   clear hcall o1 o2 o3 b1 bV1 hD1 r1 r2 r3 hWV hVw hVV hnew g0 g1 g2 g3 g4;go_wp2_with (at_builtin;refine wpl_run2 _ _ rfl (by simp [Act.eval]) (by simp [Act.eval]) hrun ?_)
   go_roundw
   case rel=>exact⟨i+1,_,hlt,by go_num,HG2.out,HN.out,HB2.out⟩
   case measure=>simp [intOf];omega
  ·have k1:¬ (i:Int)<s.tabs.length:=by omega
   have hin:i=s.tabs.length:=by omega
   have HGE:Hid (G.map Prod.fst=s.tabs):=by rw [HG.out,hin,List.take_length];exact lh rfl
   have j0:=(hb.block Y0 (blk_lt J0.out)).trans J0.out;have j1:=(hb.block Y1 (blk_lt J1.out)).trans J1.out;have e2:V.cell? ⟨Y0,2,none⟩=some (.slice ta s.tabs.length tc):=cell_blk j0 2;have f2:V.frozen? ⟨Y0,2,none⟩=false:=frozen_blk j0 2;obtain⟨X1,hX1⟩:∃ X1,X1=V.setCell ⟨Y0,2,none⟩ (.slice tad G.length tcap):=⟨_,rfl⟩
   have jX0:X1.heap[Y0]?=some (.cells (scA s (.slice tad G.length tcap)) 30 (0,0)):=by rw [hX1];exact set_blk j0 _
   have hne:Y1≠Y0:=by have:=HY1.out;omega
   have jX1:X1.heap[Y1]?=some (.cells #[.int .i64 0,.int .i64 0,.slice none 0 0] 30 (0,0)):=by rw [hX1,set_other _ hne];exact j1
   have hld:=load_row jX0 Tryz.underlying30 rfl size30;obtain⟨X4,e4,j4,f4⟩:=sets_row jX1 (scA s (.slice tad G.length tcap)) rfl;have hst:(Instr.storeAt 30 (.pointer (some ⟨Y1,0,none⟩)) (.agg (scA s (.slice tad G.length tcap)))).run Tryz.prog X1=.ok () X4:=by
    rw [e4];exact store_row jX1 rfl size30 (by simp [Value.oneCell'])
   have fV:Fr V X4 (fun k=>k=Y0\/k=Y1):=by
    refine Fr.trans ?_ (f4.mono (fun k hk=>.inr hk));rw [hX1];exact Fr.set (S:=fun k=>k=Y0\/k=Y1) (a:=⟨Y0,2,none⟩) (Fr.refl _ _) (.inl (.inl rfl)) _
   have hWs:w.heap.size<=W.heap.size:=HBW.out.size;have HE:Hid (Dr X4 w.heap.size G (.slice tad G.length tcap)/\Below w.heap.size w X4):=by
    refine⟨(HD.out.keep fV (fun k hk=>?_)).mono hWs,(bgo HBW.out HB.out).trans (fV.toBelow (fun k hk q=>?_) (bgo HBW.out HB.out).size)⟩
    ·rcases hk with rfl | rfl
     ·exact .inl (blk_lt J0.out)
     ·exact .inl (blk_lt J1.out)
    ·have:=GE.out;rcases q with q | q <;> omega
   have J4:=lh j4;have HX1:=lh hX1;clear j0 j1 hX1 jX0 jX1 e4 f4 fV hWs j4 hb hne hin;go_upto_region 8 with fail
   rw [<-HX1.out];go_wp2_with (first|(refine wpl_load _ rfl (by simp [Act.eval]) hld ?_)|(refine wpl_store _ _ rfl (by simp [Act.eval,Act.put]) (by simp [Act.eval,Act.put]) hst ?_))
   refine bodyPost_ret (results_one rfl rfl (load_var J4.out Tryz.underlying30 rfl size30)) rfl ?_;exact⟨G,_,rfl,HGE.out,HE.out.1,HE.out.2⟩
theorem cloneS_any{s:Sc}{tv:Value}(hL:Lr tbE 5 w s.tabs tv)(hz:Few s.tabs):Calls Tryz.prog 90 #[scV s tv] w fun e w'=>∃ G tv',e=.returned (scV s tv')/\G.map Prod.fst=s.tabs/\Dr w' w.heap.size G tv'/\Below w.heap.size w w':=by
 obtain⟨ta,tc,rfl,hr⟩:=hL;have hL:Lr tbE 5 w s.tabs (.slice ta s.tabs.length tc):=⟨ta,tc,rfl,hr⟩
 obtain⟨W,hW⟩:∃ W,W=(w.alloc (.cells #[.int .i64 s.ver,.int .i64 s.last,.slice ta s.tabs.length tc] 30)).alloc (.cells #[.int .i64 0,.int .i64 0,.slice none 0 0] 30):=⟨_,rfl⟩
 have hbW:=bw2 hW;obtain⟨Y0,hY0⟩:∃ Y0,w.heap.size=Y0:=⟨_,rfl⟩
 obtain⟨Y1,hY1⟩:∃ Y1,Y0+1=Y1:=⟨_,rfl⟩
 have jY0:W.heap[Y0]?=some (.cells #[.int .i64 s.ver,.int .i64 s.last,.slice ta s.tabs.length tc] 30 (0,0)):=nw21 hW hY0;have jY1:W.heap[Y1]?=some (.cells #[.int .i64 0,.int .i64 0,.slice none 0 0] 30 (0,0)):=nw22 hW hY0 hY1;have hge1:w.heap.size<=Y1:=by omega
 have hcall:=each_any (hL.on tbE_held hbW) hz;have d0:W.cell? ⟨Y0,0,none⟩=some (.int .i64 s.ver):=cell_blk jY0 0;have d1:W.cell? ⟨Y0,1,none⟩=some (.int .i64 s.last):=cell_blk jY0 1;have d2:W.cell? ⟨Y0,2,none⟩=some (.slice ta s.tabs.length tc):=cell_blk jY0 2;have J1:=lh jY1;have GE:=lh hge1;have HW:=lh hW;have HBW:=lh hbW;have HY0:=lh hY0;have HY1:=lh hY1;clear hW hbW hY0 hY1;clear jY0 jY1 hL hr hge1;go_enter Tryz.func90,Tryz.ntmps90;go_upto_region 1 with fail
 rw [<-HW.out,HY0.out,HY1.out];go_wp2_with fail
 refine hcall.mono ?_;rintro e w1 ⟨G,tv',rfl,hG,hD,b1⟩;have j1:=(b1.block Y1 (blk_lt J1.out)).trans J1.out;obtain⟨tad,tcap,hsh⟩:=own_shape hD.row;subst hsh;obtain⟨X4,e4,j4,f4⟩:=sets_row j1 (scA s (.slice tad G.length tcap)) rfl;have hst:(Instr.storeAt 30 (.pointer (some ⟨Y1,0,none⟩)) (.agg (scA s (.slice tad G.length tcap)))).run Tryz.prog w1=.ok () X4:=by
  rw [e4];exact store_row j1 rfl size30 (by simp [Value.oneCell'])
 have HE:Hid (G.map Prod.fst=s.tabs/\Dr X4 w.heap.size G (.slice tad G.length tcap)/\Below w.heap.size w X4):=by
  refine⟨hG,(hD.keep f4 (fun k hk=>.inl (by rw [hk];exact blk_lt J1.out))).mono HBW.out.size,(bgo HBW.out b1).trans (f4.toBelow (fun k hk q=>?_) (bgo HBW.out b1).size)⟩;have:=GE.out;omega
 have J4:=lh j4;clear hcall hG hD b1 j1 e4 f4 j4 d0 d1 d2;go_wp2_with (refine wpl_store _ _ rfl (by simp [Act.eval]) (by simp [Act.eval]) hst ?_)
 refine bodyPost_ret (results_one rfl rfl (load_var J4.out Tryz.underlying30 rfl size30)) rfl ?_;exact⟨G,_,rfl,HE.out⟩
end
end Go.Proofs.YtkhehikaemdnnaaGreat
namespace Go.Proofs.YtkhehikaemdnnaaGreat
set_option maxRecDepth 100000
set_option maxHeartbeats 2000000
open Go.RowKit Go.Maps
theorem wpl_mup{P:Program}{w w':World}{ops:Array Oper}{rest:List Oper}{o:Oper}{a:Act}{Q:Exit->Act->World->Prop}{t ty:TypeId}{p k v:Value}{ds:Option Tmp}{ps:String}{af:Array Edge}(x y z:Operand)
  (ho:o=⟨ds,.mapUpdate t x y z,ty,ps,af,none⟩) (hx:a.eval x=p) (hy:a.eval y=k) (hz:a.eval z=v) (hst:(Instr.mapUpdate t p k v).run P w=.ok () w')
  (h:wpList P ops Q rest (a.put ds undef) w'):wpList P ops Q (o :: rest) a w:=by
 subst ho;subst hx;subst hy;subst hz;refine wpList_plain rfl fun K hK=>?_;unfold Oper.wp execOp;simp only [Sem.run_bind,Sem.run_pure,Result.andThen_ok,hst];exact hK _ _ h
section
variable {α : Type} [DecidableEq α]
def memB(t:α)(l:List α):Bool:=decide (t ∈ l)
theorem memB_iff{t:α}{l:List α}:memB t l=true ↔ t ∈ l:=by unfold memB;simp
theorem memB_snoc(t j:α)(l:List α):memB j (l ++ [t])=(memB j l || decide (j=t)):=by unfold memB;simp
def addT(l:List α)(t:α):List α:=if t ∈ l then l else l ++ [t]
def uniq(l:List α):List α:=l.foldl addT []
theorem uniq_snoc(l:List α)(t:α):uniq (l ++ [t])=addT (uniq l) t:=by
 unfold uniq;rw [List.foldl_append];rfl
theorem addT_mem{l:List α}{t x:α}:x ∈ addT l t ↔ x ∈ l\/x=t:=by
 unfold addT
 split
 ·rename_i h
  constructor
  ·exact .inl
  ·rintro (q | rfl)
   ·exact q
   ·exact h
 ·simp
theorem fold_mem:∀ (l acc:List α) (x:α),x ∈ l.foldl addT acc ↔ x ∈ acc\/x ∈ l
 | [],acc,x=>by simp
 | t :: l,acc,x=>by
  rw [List.foldl_cons,fold_mem l,addT_mem,List.mem_cons,or_assoc]
theorem uniq_mem{l:List α}{x:α}:x ∈ uniq l ↔ x ∈ l:=by
 unfold uniq;rw [fold_mem];simp
theorem fold_le:∀ (l acc:List α),(l.foldl addT acc).length<=acc.length+l.length
 | [],acc=>by simp
 | t :: l,acc=>by
  rw [List.foldl_cons];have h1:=fold_le l (addT acc t);have h2:(addT acc t).length<=acc.length+1:=by
   unfold addT
   split
   ·omega
   ·simp
  rw [List.length_cons];omega
theorem fold_len:∀ (l acc:List α),acc.Nodup->((l.foldl addT acc).length=acc.length+l.length ↔ (acc ++ l).Nodup)
 | [],acc,h=>by simp [h]
 | t :: l,acc,h=>by
  rw [List.foldl_cons];by_cases ht:t ∈ acc
  ·have e:addT acc t=acc:=by unfold addT;rw [if_pos ht]
   rw [e];have h1:=fold_le l acc
   constructor
   ·intro q;rw [List.length_cons]at q;omega
   ·intro q;rw [List.nodup_append]at q;exact absurd rfl (q.2.2 t ht t List.mem_cons_self)
  ·have e:addT acc t=acc ++ [t]:=by unfold addT;rw [if_neg ht]
   have hn:(acc ++ [t]).Nodup:=by
    rw [List.nodup_append];refine⟨h,by simp,fun a ha b hb q=>?_⟩;rw [List.mem_singleton.1 hb]at q;rw [q]at ha;exact ht ha
   have:=fold_len l (acc ++ [t]) hn;rw [e];rw [List.append_assoc,List.singleton_append]at this;rw [<-this,List.length_append,List.length_cons,List.length_cons,List.length_nil]
   constructor <;> intro q <;> omega
end
theorem uniq_same{α:Type}[DecidableEq α](l:List α):decide (((uniq l).length:Int)=(l.length:Int))=decide l.Nodup:=by
 have h1:=fold_le l [];have h2:=fold_len l [] List.nodup_nil;have e:(uniq l).length=(l.foldl addT []).length:=rfl;rw [List.nil_append]at h2;rw [List.length_nil]at h1 h2;by_cases q:l.Nodup
 ·have:=h2.2 q;rw [decide_eq_true (by omega),decide_eq_true q]
 ·have:¬ (l.foldl addT []).length=0+l.length:=fun z=>q (h2.1 z);rw [decide_eq_false (by omega),decide_eq_false q]
def itself(v:Value):Option (DataW Value × List MemPlace):=some (.held v,[])
def I64(n:Int):Prop:=-9223372036854775808<=n/\n<=9223372036854775807
theorem keyedN:Keyed Tryz.prog 3:=int_keyed Tryz.underlying3
theorem keyedS:Keyed Tryz.prog 9:=string_keyed Tryz.underlying9
abbrev litN(i:Int):Lit:=.int .i64 i
abbrev litS(s:ByteArray):Lit:=.string s.data.toList
abbrev okN(i:Int):Prop:=I64 i
abbrev okS(s:ByteArray):Prop:=s.size<=maxLen
theorem isN(i:Int):WideAt.IsKeyLit (litN i):=by simp [WideAt.IsKeyLit]
theorem isS(s:ByteArray):WideAt.IsKeyLit (litS s):=by simp [WideAt.IsKeyLit]
theorem keyN{i:Int}(h:okN i):keyOf Tryz.prog 3 (.int .i64 i)=some (litN i):=keyOf_int_mk Tryz.underlying3 (WalkArith.wf_i64 (by unfold okN I64 at h;omega))
theorem keyS{n:ByteArray}(h:okS n):keyOf Tryz.prog 9 (.string n)=some (litS n):=WideMaps.keyOf_string_mk Tryz.underlying9 h
theorem injN{a b:Int}(e:litN a=litN b):a=b:=by injection e
theorem injS{a b:ByteArray}(e:litS a=litS b):a=b:=key_inj (by simpa [litS]using e)
def MN(w:World)(B:Nat)(l:List Int):Prop:=∃ D:DataW Value,w.ownsMap Tryz.prog 3 itself B l.length D/\(∀ t,has D (litN t)=memB t l)/\Maps.size D=(uniq l).length
theorem MN.made(w:World):MN (w.alloc (.map #[] 0)) w.heap.size [] :=
 ⟨_,World.ownsMap_made w _ _ _,fun _=>rfl,rfl⟩
theorem MN.lt{w:World}{B:Nat}{l:List Int}(h:MN w B l):B<w.heap.size:=by
 obtain⟨D,h1,_⟩:=h;exact h1.lt
theorem MN.on{w w':World}{B:Nat}{l:List Int}(h:MN w B l)(hb:Below w.heap.size w w'):MN w' B l:=by
 have hl:=h.lt;obtain⟨D,⟨es,clock,h1,h2⟩,h3⟩:=h;exact⟨D,⟨es,clock,(hb.block B hl).trans h1,h2⟩,h3⟩
theorem MN.put{w:World}{B:Nat}{l:List Int}(h:MN w B l)(hn:l.length<maxLen){t:Int}(hi:okN t)(x:Value):∃ w',(Instr.mapUpdate 206 (.map (some B)) (.int .i64 t) x).run Tryz.prog w=.ok () w'/\MN w' B (l ++ [t])/\w.grownBy w' (some B):=by
 obtain⟨D,h1,h2,h3⟩:=h;obtain⟨w',hr,h4,h5⟩:=h1.update keyedN Tryz.underlying206 hn (val:=x) (d:=.held x) (ps:=[]) (keyN hi) rfl;have hl:(l ++ [t]).length=l.length+1:=by simp
 refine⟨w',hr,⟨_,by rw [hl];exact h4,fun j=>?_,?_⟩,h5⟩
 ·by_cases e:j=t
  ·subst e;rw [has_put_same h1.isMap (isN j) _,memB_snoc];simp
  ·have hne:litN j≠litN t:=fun q=>e (injN q);rw [has_put_other hne,h2 j,memB_snoc];simp [e]
 ·rw [size_put (h1.tidy keyedN),h2 t,uniq_snoc,h3];unfold addT;by_cases q:t ∈ l
  ·rw [if_pos (memB_iff.2 q),if_pos (uniq_mem.2 q)]
  ·rw [if_neg (fun z=>q (memB_iff.1 z)),if_neg (fun z=>q (uniq_mem.1 z))];simp
theorem MN.len{w:World}{B:Nat}{l:List Int}(h:MN w B l)(ty:TypeId):(Builtin.len_ #[206] ty #[.map (some B)]).run Tryz.prog w=.ok (.int .i64 ((uniq l).length:Nat)) w:=by
 obtain⟨D,h1,_,h3⟩:=h;rw [<-h3];exact h1.len Tryz.underlying206 ty
def MS(w:World)(B:Nat)(l:List ByteArray):Prop:=∃ D:DataW Value,w.ownsMap Tryz.prog 9 itself B l.length D/\(∀ t,has D (litS t)=memB t l)/\Maps.size D=(uniq l).length
theorem MS.made(w:World):MS (w.alloc (.map #[] 0)) w.heap.size [] :=
 ⟨_,World.ownsMap_made w _ _ _,fun _=>rfl,rfl⟩
theorem MS.lt{w:World}{B:Nat}{l:List ByteArray}(h:MS w B l):B<w.heap.size:=by
 obtain⟨D,h1,_⟩:=h;exact h1.lt
theorem MS.on{w w':World}{B:Nat}{l:List ByteArray}(h:MS w B l)(hb:Below w.heap.size w w'):MS w' B l:=by
 have hl:=h.lt;obtain⟨D,⟨es,clock,h1,h2⟩,h3⟩:=h;exact⟨D,⟨es,clock,(hb.block B hl).trans h1,h2⟩,h3⟩
theorem MS.put{w:World}{B:Nat}{l:List ByteArray}(h:MS w B l)(hn:l.length<maxLen){t:ByteArray}(hi:okS t)(x:Value):∃ w',(Instr.mapUpdate 208 (.map (some B)) (.string t) x).run Tryz.prog w=.ok () w'/\MS w' B (l ++ [t])/\w.grownBy w' (some B):=by
 obtain⟨D,h1,h2,h3⟩:=h;obtain⟨w',hr,h4,h5⟩:=h1.update keyedS Tryz.underlying208 hn (val:=x) (d:=.held x) (ps:=[]) (keyS hi) rfl;have hl:(l ++ [t]).length=l.length+1:=by simp
 refine⟨w',hr,⟨_,by rw [hl];exact h4,fun j=>?_,?_⟩,h5⟩
 ·by_cases e:j=t
  ·subst e;rw [has_put_same h1.isMap (isS j) _,memB_snoc];simp
  ·have hne:litS j≠litS t:=fun q=>e (injS q);rw [has_put_other hne,h2 j,memB_snoc];simp [e]
 ·rw [size_put (h1.tidy keyedS),h2 t,uniq_snoc,h3];unfold addT;by_cases q:t ∈ l
  ·rw [if_pos (memB_iff.2 q),if_pos (uniq_mem.2 q)]
  ·rw [if_neg (fun z=>q (memB_iff.1 z)),if_neg (fun z=>q (uniq_mem.1 z))];simp
theorem MS.len{w:World}{B:Nat}{l:List ByteArray}(h:MS w B l)(ty:TypeId):(Builtin.len_ #[208] ty #[.map (some B)]).run Tryz.prog w=.ok (.int .i64 ((uniq l).length:Nat)) w:=by
 obtain⟨D,h1,_,h3⟩:=h;rw [<-h3];exact h1.len Tryz.underlying208 ty
section
variable {w : World}
theorem unlikeN_any{L:List Int}{v:Value}(hl:Lr inE 1 w L v)(ht:∀ x ∈ L,okN x):Calls Tryz.prog 105 #[v] w fun e w'=>e=.returned (.bool (decide L.Nodup))/\Below w.heap.size w w':=by
 have hmm:=@run_makeMap Tryz.prog;have HL:=lh hl;obtain⟨ad,cap,rfl,_,hle,hcap,_⟩:=hl;obtain⟨n,hn⟩:∃ n,L.length=n:=⟨_,rfl⟩
 have hmx:(n:Int)<=9223372036854775807:=by unfold maxLen at hcap;omega
 have HN:=lh hn;have HT:=lh ht;have HCP:Hid (n<=maxLen):=lh (by omega);rw [hn]at HL ⊢;obtain⟨B,hB⟩:∃ B,w.heap.size=B:=⟨_,rfl⟩
 obtain⟨W,hW⟩:∃ W,W=w.alloc (.map #[] 0):=⟨_,rfl⟩
 have hmq:MN W B []:=by rw [hW,<-hB];exact MN.made w
 have hbW:=bw1 hW;have HMQ:=lh hmq;have HBW:=lh hbW;have HW:=lh hW;have HB:=lh hB;clear hn ht hcap hle hmq hbW hW hB;go_enter Tryz.func105,Tryz.ntmps105;go_upto_region 2 with fail
 rw [<-HW.out,HB.out];go_wp2;go_loopw [9] (fun iv wr=>∃ i:Nat,i<=n/\iv=.int .i64 (i:Int)/\MN wr B (L.take i)/\Below w.heap.size w wr) (fun iv _=>n - (intOf iv).toNat)
 case atStart=>exact⟨0,Nat.zero_le _,rfl,by rw [List.take_zero];exact HMQ.out,HBW.out⟩
 case round =>
  clear HMQ HBW HW;obtain⟨i,hi,rfl,hq,hbw⟩:=hrel;obtain⟨V1,rfl⟩:∃ V1,V1=wr:=⟨_,rfl⟩
  by_cases hlt:i<n
  ·have hiL:i<L.length:=by rw [HN.out];exact hlt
   have k0:(0:Int)<=i:=by omega
   have k1:(i:Int)<n:=by omega
   obtain⟨ad',cap',e1,_,_,_,hcs⟩:=HL.out.on inE_held hbw;obtain⟨rfl,rfl⟩:ad'=ad/\cap'=cap:=by simp only [Value.slice.injEq]at e1;exact⟨e1.1.symm,e1.2.2.symm⟩
   clear e1;obtain⟨b,o,cs,ha,_,hE,hcl,hcell⟩:=hcs i hiL;obtain⟨x,hx⟩:∃ x,L[i]=x:=⟨_,rfl⟩
   have htx:okN x:=by rw [<-hx];exact HT.out _ (List.getElem_mem hiL)
   have hnx:L.take (i+1)=L.take i ++ [x]:=by
    rw [List.take_succ_eq_append_getElem hiL,hx]
   rw [hx]at hE;subst ha;have hE:cs=[.int .i64 x]:=hE;subst hE;have c0:V1.cell? ⟨b,o+i,none⟩=some (.int .i64 x):=by
    have:=hcell 0 _ rfl;rw [Nat.mul_one,Nat.add_zero]at this;exact this
   obtain⟨w3,hup,hq3,hg3⟩:=hq.put (by
    rw [List.length_take,HN.out];have:=HCP.out;omega) htx (.agg #[])
   have HQ3:=lh hq3;have HG3:=lh (hbw.grown hg3 hbw.size (fun k hk=>by cases hk;exact Nat.le_of_eq HB.out));have HNX:=lh hnx;clear hq hbw hcs hcell hcl hnx htx hx hq3 hg3;go_wp2_with (refine wpl_mup _ _ _ rfl (by simp [Act.eval]) (by simp [Act.eval]) (by simp [Act.eval]) hup ?_)
   go_roundw
   case rel=>exact⟨i+1,hlt,by go_num,by rw [HNX.out];exact HQ3.out,HG3.out⟩
   case measure=>simp [intOf];omega
  ·have k1:¬ ((i:Int)<n):=by omega
   have hall:L.take i=L:=List.take_of_length_le (by rw [HN.out];omega);rw [hall]at hq;have hlen:=hq.len;have hul:=uniq_same L;rw [HN.out]at hul;obtain⟨m,hm⟩:∃ m,(uniq L).length=m:=⟨_,rfl⟩
   rw [hm]at hlen hul;have HBX:=lh hbw;have HUL:=lh hul;clear hall hq hbw hm hul;by_cases hq:(m:Int)=(n:Int)
   ·obtain rfl:m=n:=by omega
    clear hq;go_wp2;go_ret;exact⟨by rw [<-HUL.out];simp,HBX.out⟩
   ·go_wp2;go_ret;exact⟨by rw [<-HUL.out];simp [hq],HBX.out⟩
theorem unlikeS_any{L:List ByteArray}{v:Value}(hl:Lr stE 1 w L v)(ht:∀ x ∈ L,okS x):Calls Tryz.prog 106 #[v] w fun e w'=>e=.returned (.bool (decide L.Nodup))/\Below w.heap.size w w':=by
 have hmm:=@run_makeMap Tryz.prog;have HL:=lh hl;obtain⟨ad,cap,rfl,_,hle,hcap,_⟩:=hl;obtain⟨n,hn⟩:∃ n,L.length=n:=⟨_,rfl⟩
 have hmx:(n:Int)<=9223372036854775807:=by unfold maxLen at hcap;omega
 have HN:=lh hn;have HT:=lh ht;have HCP:Hid (n<=maxLen):=lh (by omega);rw [hn]at HL ⊢;obtain⟨B,hB⟩:∃ B,w.heap.size=B:=⟨_,rfl⟩
 obtain⟨W,hW⟩:∃ W,W=w.alloc (.map #[] 0):=⟨_,rfl⟩
 have hmq:MS W B []:=by rw [hW,<-hB];exact MS.made w
 have hbW:=bw1 hW;have HMQ:=lh hmq;have HBW:=lh hbW;have HW:=lh hW;have HB:=lh hB;clear hn ht hcap hle hmq hbW hW hB;go_enter Tryz.func106,Tryz.ntmps106;go_upto_region 2 with fail
 rw [<-HW.out,HB.out];go_wp2;go_loopw [9] (fun iv wr=>∃ i:Nat,i<=n/\iv=.int .i64 (i:Int)/\MS wr B (L.take i)/\Below w.heap.size w wr) (fun iv _=>n - (intOf iv).toNat)
 case atStart=>exact⟨0,Nat.zero_le _,rfl,by rw [List.take_zero];exact HMQ.out,HBW.out⟩
 case round =>
  clear HMQ HBW HW;obtain⟨i,hi,rfl,hq,hbw⟩:=hrel;obtain⟨V1,rfl⟩:∃ V1,V1=wr:=⟨_,rfl⟩
  by_cases hlt:i<n
  ·have hiL:i<L.length:=by rw [HN.out];exact hlt
   have k0:(0:Int)<=i:=by omega
   have k1:(i:Int)<n:=by omega
   obtain⟨ad',cap',e1,_,_,_,hcs⟩:=HL.out.on stE_held hbw;obtain⟨rfl,rfl⟩:ad'=ad/\cap'=cap:=by simp only [Value.slice.injEq]at e1;exact⟨e1.1.symm,e1.2.2.symm⟩
   clear e1;obtain⟨b,o,cs,ha,_,hE,hcl,hcell⟩:=hcs i hiL;obtain⟨x,hx⟩:∃ x,L[i]=x:=⟨_,rfl⟩
   have htx:okS x:=by rw [<-hx];exact HT.out _ (List.getElem_mem hiL)
   have hnx:L.take (i+1)=L.take i ++ [x]:=by
    rw [List.take_succ_eq_append_getElem hiL,hx]
   rw [hx]at hE;subst ha;have hE:cs=[.string x]:=hE;subst hE;have c0:V1.cell? ⟨b,o+i,none⟩=some (.string x):=by
    have:=hcell 0 _ rfl;rw [Nat.mul_one,Nat.add_zero]at this;exact this
   obtain⟨w3,hup,hq3,hg3⟩:=hq.put (by
    rw [List.length_take,HN.out];have:=HCP.out;omega) htx (.agg #[])
   have HQ3:=lh hq3;have HG3:=lh (hbw.grown hg3 hbw.size (fun k hk=>by cases hk;exact Nat.le_of_eq HB.out));have HNX:=lh hnx;clear hq hbw hcs hcell hcl hnx htx hx hq3 hg3;go_wp2_with (refine wpl_mup _ _ _ rfl (by simp [Act.eval]) (by simp [Act.eval]) (by simp [Act.eval]) hup ?_)
   go_roundw
   case rel=>exact⟨i+1,hlt,by go_num,by rw [HNX.out];exact HQ3.out,HG3.out⟩
   case measure=>simp [intOf];omega
  ·have k1:¬ ((i:Int)<n):=by omega
   have hall:L.take i=L:=List.take_of_length_le (by rw [HN.out];omega);rw [hall]at hq;have hlen:=hq.len;have hul:=uniq_same L;rw [HN.out]at hul;obtain⟨m,hm⟩:∃ m,(uniq L).length=m:=⟨_,rfl⟩
   rw [hm]at hlen hul;have HBX:=lh hbw;have HUL:=lh hul;clear hall hq hbw hm hul;by_cases hq:(m:Int)=(n:Int)
   ·obtain rfl:m=n:=by omega
    clear hq;go_wp2;go_ret;exact⟨by rw [<-HUL.out];simp,HBX.out⟩
   ·go_wp2;go_ret;exact⟨by rw [<-HUL.out];simp [hq],HBX.out⟩
theorem counts_g{id:Int}{nm:ByteArray}{ca ia ka:Option Addr}{a b c cc ic kc:Nat}:Calls Tryz.prog 99 #[.agg #[.int .i64 id,.string nm,.slice ca a cc,.slice ia b ic,.slice ka c kc]] w fun e w'=>e=.returned (.bool (decide (1<=a/\a<=8/\b<=8/\c<=8)))/\Below w.heap.size w w':=by
 obtain⟨W,hW⟩:∃ W,W=w.alloc (.cells #[.int .i64 id,.string nm,.slice ca a cc,.slice ia b ic,.slice ka c kc] 64):=⟨_,rfl⟩
 have hbW:=bw1 hW;obtain⟨Y0,hY0⟩:∃ Y0,w.heap.size=Y0:=⟨_,rfl⟩
 have jY0:W.heap[Y0]?=some (.cells #[.int .i64 id,.string nm,.slice ca a cc,.slice ia b ic,.slice ka c kc] 64 (0,0)):=nw11 hW hY0;have d2:W.cell? ⟨Y0,2,none⟩=some (.slice ca a cc):=cell_blk jY0 2;have d3:W.cell? ⟨Y0,3,none⟩=some (.slice ia b ic):=cell_blk jY0 3;have d4:W.cell? ⟨Y0,4,none⟩=some (.slice ka c kc):=cell_blk jY0 4;have HW:=lh hW;have HBW:=lh hbW;have HY0:=lh hY0;clear hW hbW hY0;clear jY0;by_cases h1:1<=a
 ·have k1:(1:Int)<=a:=by omega
  by_cases h2:(b:Int)<=a
  ·by_cases h3:(c:Int)<=a
   ·by_cases h4:(a:Int)<=8
    ·go_enter Tryz.func99,Tryz.ntmps99;go_upto_region 1 with fail
     rw [<-HW.out,HY0.out];go_wp2;go_ret;exact⟨by simp <;> omega,HBW.out⟩
    ·go_enter Tryz.func99,Tryz.ntmps99;go_upto_region 1 with fail
     rw [<-HW.out,HY0.out];go_wp2;go_ret;exact⟨by simp <;> omega,HBW.out⟩
   ·by_cases h4:(c:Int)<=8
    ·go_enter Tryz.func99,Tryz.ntmps99;go_upto_region 1 with fail
     rw [<-HW.out,HY0.out];go_wp2;go_ret;exact⟨by simp <;> omega,HBW.out⟩
    ·go_enter Tryz.func99,Tryz.ntmps99;go_upto_region 1 with fail
     rw [<-HW.out,HY0.out];go_wp2;go_ret;exact⟨by simp <;> omega,HBW.out⟩
  ·by_cases h3:(c:Int)<=b
   ·by_cases h4:(b:Int)<=8
    ·go_enter Tryz.func99,Tryz.ntmps99;go_upto_region 1 with fail
     rw [<-HW.out,HY0.out];go_wp2;go_ret;exact⟨by simp <;> omega,HBW.out⟩
    ·go_enter Tryz.func99,Tryz.ntmps99;go_upto_region 1 with fail
     rw [<-HW.out,HY0.out];go_wp2;go_ret;exact⟨by simp <;> omega,HBW.out⟩
   ·by_cases h4:(c:Int)<=8
    ·go_enter Tryz.func99,Tryz.ntmps99;go_upto_region 1 with fail
     rw [<-HW.out,HY0.out];go_wp2;go_ret;exact⟨by simp <;> omega,HBW.out⟩
    ·go_enter Tryz.func99,Tryz.ntmps99;go_upto_region 1 with fail
     rw [<-HW.out,HY0.out];go_wp2;go_ret;exact⟨by simp <;> omega,HBW.out⟩
 ·have k1:¬ (1:Int)<=a:=by omega
  go_enter Tryz.func99,Tryz.ntmps99;go_upto_region 1 with fail
  rw [<-HW.out,HY0.out];go_wp2;go_ret;exact⟨by simp <;> omega,HBW.out⟩
theorem counts_any{t:Tb}{ca ia ka:Option Addr}{cc ic kc:Nat}:Calls Tryz.prog 99 #[tbV t (.slice ca t.cols.length cc) (.slice ia t.ixs.length ic) (.slice ka t.fks.length kc)] w fun e w'=>e=.returned (.bool (cntB t))/\Below w.heap.size w w':=by
 refine counts_g.mono ?_;rintro e w' ⟨rfl,b⟩;refine⟨?_,b⟩;unfold cntB;simp only [Bool.decide_and,Bool.and_assoc]
end
end Go.Proofs.YtkhehikaemdnnaaGreat
