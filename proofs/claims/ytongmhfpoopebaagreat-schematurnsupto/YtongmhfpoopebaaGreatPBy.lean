import Derived.Test.YtongmhfpoopebaaGreatPBx
namespace Go.Proofs.YtongmhfpoopebaaGreat
open Go.RowKit Go.Maps
def DropAns {α:Type} (L:α→List Value) (T:TypeId) (c:Nat) (w:World) (v:Value) (res:Except Int (List α)) (e:Ending) (w':World):Prop:=match res with
 | .error er=>∃ ad n cap,e=.returned (.tuple #[.slice ad n cap,.int .i64 er])∧er≠0∧Fr w w' (fun k=>v.ownBlock=some k)
 | .ok l'=>∃ ad n cap,e=.returned (.tuple #[.slice ad n cap,.int .i64 0])∧n=l'.length∧w'.ownsRow 0 T c (.slice ad n cap) l'.length (l'.flatMap L)∧Fr w w' (fun k=>v.ownBlock=some k)∧(∀ k,(Value.slice ad n cap).ownBlock=some k→v.ownBlock=some k∨w.heap.size≤k)
theorem dropL_none {α:Type} {nm:α→ByteArray} {put:Int→α→α} {l:List α} {name:ByteArray} {st no:Int} {used:Nat→α→Bool} (h:l.findIdx? (fun x=>decide (nm x=name))=none):dropL nm put l name st no used=.error no:=by
 unfold dropL
 rw [h]
theorem dropL_some {α:Type} {nm:α→ByteArray} {put:Int→α→α} {l:List α} {name:ByteArray} {st no:Int} {used:Nat→α→Bool} {i:Nat} (hi:i<l.length) (h:l.findIdx? (fun x=>decide (nm x=name))=some i):dropL nm put l name st no used=if used i l[i]=true then .error 155 else .ok (setAt st i (put st) l):=by
 unfold dropL
 rw [h]
 show (if (l[i]?.map (used i))=some true then _ else _)=_
 rw [List.getElem?_eq_getElem hi]
 simp only [Option.map_some,Option.some.injEq]
section
variable {w : World}
set_option maxHeartbeats 2000000 in
set_option maxRecDepth 100000 in
theorem dropC_any {v:Value} {l:List Col} {name:ByteArray} {st no:Int} {used:Nat→Col→Bool} {f:FuncId} {cs:Array Value} (hv:w.ownsRow 0 50 7 v l.length (l.flatMap colL)) (hno:no≠0) (hgo:Goes f) (hf:∀ X,Below w.heap.size w X→Calls Tryz.prog f (#[.int .i64 (-1)] ++ cs) X fun e w'=>e=.returned (.int .i64 no)∧Below X.heap.size X w') (hf2:∀ X,Below w.heap.size w X→∀ i (h:i<l.length),Calls Tryz.prog f (#[.int .i64 (i:Int)] ++ cs) X fun e w'=>e=.returned (.int .i64 (if used i l[i] then 155 else 0))∧Below X.heap.size X w') :
  Calls Tryz.prog 77 #[v,.string name,.int .i64 st,.func (.func 66) #[] #[],.func (.func f) #[] cs] w (DropAns colL 50 7 w v (dropL Col.nm putC l name st no used)):=by
 have hcall:=namedC_any name (Lr.own colL_len hv)
 have HV:=lh hv
 have HF:=lh hf
 have HF2:=lh hf2
 have HNO:=lh hno
 obtain ⟨ad,cap,hsh⟩:=own_shape hv
 subst hsh
 have HP:=lh (findIdx_fidx (fun x:Col=>decide (x.nm=name)) l)
 obtain ⟨fi,hfi⟩:∃ fi,fidx (fun x:Col=>decide (x.nm=name)) l=fi:=⟨_,rfl⟩
 rw [hfi] at hcall HP
 clear hfi hv hf hf2 hno
 go_enter Tryz.func77,Tryz.ntmps77
 go_upto_region 2 with (go_at_call 111;refine hcall.mono ?_;rintro e w1 ⟨rfl,b1⟩;refine Hid.out ?_)
 refine lh ?_
 have B1:=lh b1
 have V1:=lh (own_below HV.out b1)
 clear hcall b1
 rcases HP.out with ⟨rfl,hfd⟩ | ⟨i,hi,rfl,hfd,_⟩
 ·have HR:=lh (dropL_none (put:=putC) (st:=st) (no:=no) (used:=used) hfd)
  have hc:=HF.out w1 B1.out
  have hno:=HNO.out
  clear hfd
  go_wp2_with fail
  refine hc.mono ?_
  rintro e w2 ⟨rfl,b2⟩
  have B2:=lh b2
  clear hc b2
  go_wp2
  refine bodyPost_ret (results_slot2 rfl rfl rfl) rfl ?_
  rw [HR.out]
  exact ⟨_,_,_,rfl,HNO.out,Fr.ofBelow _ (bgo B1.out B2.out)⟩
 ·obtain ⟨g,hg⟩:∃ g,ad=some ⟨g,0,none⟩:=by
   rcases HV.out.2 with ⟨hv',h0⟩ | ⟨g,cap',cur,hv',_⟩
   ·omega
   ·simp only [Value.slice.injEq] at hv'
    exact ⟨g,hv'.1⟩
  subst hg
  have hc:=HF2.out w1 B1.out i hi
  have HR0:=lh (dropL_some (put:=putC) (st:=st) (no:=no) (used:=used) hi hfd)
  obtain ⟨u,hu⟩:∃ u,used i (l[i]'hi)=u:=⟨_,rfl⟩
  rw [hu] at hc HR0
  clear hfd hu
  cases u with
  | true =>
   have HR:Hid (dropL Col.nm putC l name st no used=.error 155):=HR0.out
   go_wp2_with fail
   refine hc.mono ?_
   rintro e w2 ⟨rfl,b2⟩
   have B2:=lh b2
   clear hc b2
   go_wp2
   refine bodyPost_ret (results_slot2 rfl rfl rfl) rfl ?_
   rw [HR.out]
   exact ⟨_,_,_,rfl,by decide,Fr.ofBelow _ (bgo B1.out B2.out)⟩
  | false =>
   have HR:Hid (dropL Col.nm putC l name st no used=.ok (setAt st i (putC st) l)):=HR0.out
   go_wp2_with fail
   refine hc.mono ?_
   rintro e w2 ⟨rfl,b2⟩
   have B2:=lh b2
   have hset:=setC_any (own_below V1.out b2) hi st
   clear hc b2
   go_wp2_with (go_at_call 112;refine hset.mono ?_;rintro e w4 ⟨m,rfl,o4,hm,f4⟩;have HM:=lh hm;clear hm;refine Hid.out ?_)
   refine lh ?_
   have O4:=lh o4
   have F4:=lh f4
   clear hset o4 f4
   go_wp2
   refine bodyPost_ret (results_slot2 rfl rfl rfl) rfl ?_
   rw [HR.out]
   exact ⟨_,_,_,rfl,HM.out,O4.out,(Fr.ofBelow _ (bgo B1.out B2.out)).trans (F4.out.mono (fun k hk=>by rw [hk];rfl)),fun k hk=>.inl hk⟩
set_option maxHeartbeats 2000000 in
set_option maxRecDepth 100000 in
theorem dropI_any {v:Value} {l:List Ix} {name:ByteArray} {st no:Int} {used:Nat→Ix→Bool} {f:FuncId} {cs:Array Value} (hv:w.ownsRow 0 71 5 v l.length (l.flatMap ixL)) (hno:no≠0) (hgo:Goes f) (hf:∀ X,Below w.heap.size w X→Calls Tryz.prog f (#[.int .i64 (-1)] ++ cs) X fun e w'=>e=.returned (.int .i64 no)∧Below X.heap.size X w') (hf2:∀ X,Below w.heap.size w X→∀ i (h:i<l.length),Calls Tryz.prog f (#[.int .i64 (i:Int)] ++ cs) X fun e w'=>e=.returned (.int .i64 (if used i l[i] then 155 else 0))∧Below X.heap.size X w') :
  Calls Tryz.prog 80 #[v,.string name,.int .i64 st,.func (.func 70) #[] #[],.func (.func f) #[] cs] w (DropAns ixL 71 5 w v (dropL Ix.nm putI l name st no used)):=by
 have hcall:=namedI_any name (Lr.own ixL_len hv)
 have HV:=lh hv
 have HF:=lh hf
 have HF2:=lh hf2
 have HNO:=lh hno
 obtain ⟨ad,cap,hsh⟩:=own_shape hv
 subst hsh
 have HP:=lh (findIdx_fidx (fun x:Ix=>decide (x.nm=name)) l)
 obtain ⟨fi,hfi⟩:∃ fi,fidx (fun x:Ix=>decide (x.nm=name)) l=fi:=⟨_,rfl⟩
 rw [hfi] at hcall HP
 clear hfi hv hf hf2 hno
 go_enter Tryz.func80,Tryz.ntmps80
 go_upto_region 2 with (go_at_call 113;refine hcall.mono ?_;rintro e w1 ⟨rfl,b1⟩;refine Hid.out ?_)
 refine lh ?_
 have B1:=lh b1
 have V1:=lh (own_below HV.out b1)
 clear hcall b1
 rcases HP.out with ⟨rfl,hfd⟩ | ⟨i,hi,rfl,hfd,_⟩
 ·have HR:=lh (dropL_none (put:=putI) (st:=st) (no:=no) (used:=used) hfd)
  have hc:=HF.out w1 B1.out
  have hno:=HNO.out
  clear hfd
  go_wp2_with fail
  refine hc.mono ?_
  rintro e w2 ⟨rfl,b2⟩
  have B2:=lh b2
  clear hc b2
  go_wp2
  refine bodyPost_ret (results_slot2 rfl rfl rfl) rfl ?_
  rw [HR.out]
  exact ⟨_,_,_,rfl,HNO.out,Fr.ofBelow _ (bgo B1.out B2.out)⟩
 ·obtain ⟨g,hg⟩:∃ g,ad=some ⟨g,0,none⟩:=by
   rcases HV.out.2 with ⟨hv',h0⟩ | ⟨g,cap',cur,hv',_⟩
   ·omega
   ·simp only [Value.slice.injEq] at hv'
    exact ⟨g,hv'.1⟩
  subst hg
  have hc:=HF2.out w1 B1.out i hi
  have HR0:=lh (dropL_some (put:=putI) (st:=st) (no:=no) (used:=used) hi hfd)
  obtain ⟨u,hu⟩:∃ u,used i (l[i]'hi)=u:=⟨_,rfl⟩
  rw [hu] at hc HR0
  clear hfd hu
  cases u with
  | true =>
   have HR:Hid (dropL Ix.nm putI l name st no used=.error 155):=HR0.out
   go_wp2_with fail
   refine hc.mono ?_
   rintro e w2 ⟨rfl,b2⟩
   have B2:=lh b2
   clear hc b2
   go_wp2
   refine bodyPost_ret (results_slot2 rfl rfl rfl) rfl ?_
   rw [HR.out]
   exact ⟨_,_,_,rfl,by decide,Fr.ofBelow _ (bgo B1.out B2.out)⟩
  | false =>
   have HR:Hid (dropL Ix.nm putI l name st no used=.ok (setAt st i (putI st) l)):=HR0.out
   go_wp2_with fail
   refine hc.mono ?_
   rintro e w2 ⟨rfl,b2⟩
   have B2:=lh b2
   have hset:=setI_any (own_below V1.out b2) hi st
   clear hc b2
   go_wp2_with (go_at_call 114;refine hset.mono ?_;rintro e w4 ⟨m,rfl,o4,hm,f4⟩;have HM:=lh hm;clear hm;refine Hid.out ?_)
   refine lh ?_
   have O4:=lh o4
   have F4:=lh f4
   clear hset o4 f4
   go_wp2
   refine bodyPost_ret (results_slot2 rfl rfl rfl) rfl ?_
   rw [HR.out]
   exact ⟨_,_,_,rfl,HM.out,O4.out,(Fr.ofBelow _ (bgo B1.out B2.out)).trans (F4.out.mono (fun k hk=>by rw [hk];rfl)),fun k hk=>.inl hk⟩
set_option maxHeartbeats 2000000 in
set_option maxRecDepth 100000 in
theorem dropK_any {v:Value} {l:List Fk} {name:ByteArray} {st no:Int} {used:Nat→Fk→Bool} {f:FuncId} {cs:Array Value} (hv:w.ownsRow 0 74 5 v l.length (l.flatMap fkL)) (hno:no≠0) (hgo:Goes f) (hf:∀ X,Below w.heap.size w X→Calls Tryz.prog f (#[.int .i64 (-1)] ++ cs) X fun e w'=>e=.returned (.int .i64 no)∧Below X.heap.size X w') (hf2:∀ X,Below w.heap.size w X→∀ i (h:i<l.length),Calls Tryz.prog f (#[.int .i64 (i:Int)] ++ cs) X fun e w'=>e=.returned (.int .i64 (if used i l[i] then 155 else 0))∧Below X.heap.size X w') :
  Calls Tryz.prog 82 #[v,.string name,.int .i64 st,.func (.func 74) #[] #[],.func (.func f) #[] cs] w (DropAns fkL 74 5 w v (dropL Fk.nm putK l name st no used)):=by
 have hcall:=namedK_any name (Lr.own fkL_len hv)
 have HV:=lh hv
 have HF:=lh hf
 have HF2:=lh hf2
 have HNO:=lh hno
 obtain ⟨ad,cap,hsh⟩:=own_shape hv
 subst hsh
 have HP:=lh (findIdx_fidx (fun x:Fk=>decide (x.nm=name)) l)
 obtain ⟨fi,hfi⟩:∃ fi,fidx (fun x:Fk=>decide (x.nm=name)) l=fi:=⟨_,rfl⟩
 rw [hfi] at hcall HP
 clear hfi hv hf hf2 hno
 go_enter Tryz.func82,Tryz.ntmps82
 go_upto_region 2 with (go_at_call 116;refine hcall.mono ?_;rintro e w1 ⟨rfl,b1⟩;refine Hid.out ?_)
 refine lh ?_
 have B1:=lh b1
 have V1:=lh (own_below HV.out b1)
 clear hcall b1
 rcases HP.out with ⟨rfl,hfd⟩ | ⟨i,hi,rfl,hfd,_⟩
 ·have HR:=lh (dropL_none (put:=putK) (st:=st) (no:=no) (used:=used) hfd)
  have hc:=HF.out w1 B1.out
  have hno:=HNO.out
  clear hfd
  go_wp2_with fail
  refine hc.mono ?_
  rintro e w2 ⟨rfl,b2⟩
  have B2:=lh b2
  clear hc b2
  go_wp2
  refine bodyPost_ret (results_slot2 rfl rfl rfl) rfl ?_
  rw [HR.out]
  exact ⟨_,_,_,rfl,HNO.out,Fr.ofBelow _ (bgo B1.out B2.out)⟩
 ·obtain ⟨g,hg⟩:∃ g,ad=some ⟨g,0,none⟩:=by
   rcases HV.out.2 with ⟨hv',h0⟩ | ⟨g,cap',cur,hv',_⟩
   ·omega
   ·simp only [Value.slice.injEq] at hv'
    exact ⟨g,hv'.1⟩
  subst hg
  have hc:=HF2.out w1 B1.out i hi
  have HR0:=lh (dropL_some (put:=putK) (st:=st) (no:=no) (used:=used) hi hfd)
  obtain ⟨u,hu⟩:∃ u,used i (l[i]'hi)=u:=⟨_,rfl⟩
  rw [hu] at hc HR0
  clear hfd hu
  cases u with
  | true =>
   have HR:Hid (dropL Fk.nm putK l name st no used=.error 155):=HR0.out
   go_wp2_with fail
   refine hc.mono ?_
   rintro e w2 ⟨rfl,b2⟩
   have B2:=lh b2
   clear hc b2
   go_wp2
   refine bodyPost_ret (results_slot2 rfl rfl rfl) rfl ?_
   rw [HR.out]
   exact ⟨_,_,_,rfl,by decide,Fr.ofBelow _ (bgo B1.out B2.out)⟩
  | false =>
   have HR:Hid (dropL Fk.nm putK l name st no used=.ok (setAt st i (putK st) l)):=HR0.out
   go_wp2_with fail
   refine hc.mono ?_
   rintro e w2 ⟨rfl,b2⟩
   have B2:=lh b2
   have hset:=setK_any (own_below V1.out b2) hi st
   clear hc b2
   go_wp2_with (go_at_call 117;refine hset.mono ?_;rintro e w4 ⟨m,rfl,o4,hm,f4⟩;have HM:=lh hm;clear hm;refine Hid.out ?_)
   refine lh ?_
   have O4:=lh o4
   have F4:=lh f4
   clear hset o4 f4
   go_wp2
   refine bodyPost_ret (results_slot2 rfl rfl rfl) rfl ?_
   rw [HR.out]
   exact ⟨_,_,_,rfl,HM.out,O4.out,(Fr.ofBelow _ (bgo B1.out B2.out)).trans (F4.out.mono (fun k hk=>by rw [hk];rfl)),fun k hk=>.inl hk⟩
set_option maxHeartbeats 2000000 in
set_option maxRecDepth 100000 in
theorem freshC_any {A P D:Nat} {s:Sc} {tv:Value} {d:Dd} {da:Option Addr} {dn dc:Nat} (cP:w.cell? ⟨P,0,none⟩=some (.pointer (some ⟨A,0,none⟩))) (jD:w.heap[D]?=some (.cells #[.int .i64 d.kind,.string d.table,.string d.name,.string d.column,.string d.parent,.bool d.uq,.int .i64 d.ty,.int .i64 d.df.k,.int .i64 d.df.n,.string d.df.s,.slice da dn dc] 31 (0,0))) (hA:A<w.heap.size) (hnew:∀ X,Below w.heap.size w X→Calls Tryz.prog 68 #[.pointer (some ⟨A,0,none⟩),.agg #[.int .i64 d.kind,.string d.table,.string d.name,.string d.column,.string d.parent,.bool d.uq,.int .i64 d.ty,.int .i64 d.df.k,.int .i64 d.df.n,.string d.df.s,.slice da dn dc]] X (NewAns colA X A s tv (newC s d))):Calls Tryz.prog 67 #[.pointer (some ⟨P,0,none⟩),.pointer (some ⟨D,0,none⟩)] w (NewAns colA w A s tv (newC s d)):=by
 obtain ⟨W,hW⟩:∃ W,W=w.alloc (.cells #[.int .i64 0,.string ⟨#[]⟩,.int .i64 0,.int .i64 0,.int .i64 0,.int .i64 0,.string ⟨#[]⟩] 50):=⟨_,rfl⟩
 have hbW:Below w.heap.size w W:=by rw [hW];exact (Below.refl _ w).alloc (Nat.le_refl _) _
 obtain ⟨Y0,hY0⟩:∃ Y0,w.heap.size=Y0:=⟨_,rfl⟩
 have jY0:W.heap[Y0]?=some (.cells #[.int .i64 0,.string ⟨#[]⟩,.int .i64 0,.int .i64 0,.int .i64 0,.int .i64 0,.string ⟨#[]⟩] 50 (0,0)):=by
  have:=heap_alloc_new w (.cells #[.int .i64 0,.string ⟨#[]⟩,.int .i64 0,.int .i64 0,.int .i64 0,.int .i64 0,.string ⟨#[]⟩] 50)
  rw [hW,←hY0]
  exact this
 have e1:=cell_on hbW cP
 have hld:=load_row ((hbW.block D (blk_lt jD)).trans jD) Tryz.underlying31 rfl size31
 have hc:=hnew W hbW
 have J0:=lh jY0
 have hge:w.heap.size≤Y0:=by omega
 have GE:=lh (And.intro hge (show A≠Y0 by omega))
 obtain ⟨nw,hnw⟩:∃ nw,newC s d=nw:=⟨_,rfl⟩
 rw [hnw] at hc ⊢
 have HW:=lh hW
 have HBW:=lh hbW
 have HY0:=lh hY0
 clear hW hbW hY0
 clear jY0 hnew jD cP hge hnw hA
 go_enter Tryz.func67,Tryz.ntmps67
 go_upto_region 1 with fail
 rw [←HW.out,HY0.out]
 cases nw with
 | error er =>
  go_wp2_with (first | (refine wpl_load _ rfl (by simp [Act.eval]) hld ?_) | (go_at_call 68;refine hc.mono ?_;rintro e w1 ⟨z,rfl,hne,b1⟩;refine Hid.out ?_))
  refine lh ?_
  have j1:=(b1.block Y0 (blk_lt J0.out)).trans J0.out
  obtain ⟨X2,e2',j2,f2⟩:=sets_row j1 (colA z) rfl
  have hst:(Instr.storeAt 50 (.pointer (some ⟨Y0,0,none⟩)) (.agg (colA z))).run Tryz.prog w1=.ok () X2:=by
   rw [e2']
   exact store_row j1 rfl size50 (by simp [Value.oneCell'])
  have HE:=lh (And.intro hne ((bgo HBW.out b1).trans (f2.toBelow (fun k hk q=>by rw [q] at hk;have:=GE.out.1;omega) (bgo HBW.out b1).size)))
  have J2:=lh j2
  clear hc b1 j1 e2' f2 j2 hne
  go_wp2_with (refine wpl_store _ _ rfl (by simp [Act.eval]) (by simp [Act.eval]) hst ?_)
  refine bodyPost_ret (results_two rfl rfl rfl (load_var J2.out Tryz.underlying50 rfl size50)) rfl ?_
  exact ⟨z,rfl,HE.out.1,HE.out.2⟩
 | ok x =>
  go_wp2_with (first | (refine wpl_load _ rfl (by simp [Act.eval]) hld ?_) | (go_at_call 68;refine hc.mono ?_;rintro e w1 ⟨rfl,f1,a1⟩;refine Hid.out ?_))
  refine lh ?_
  have j1:=(f1.block Y0 (blk_lt J0.out) (fun q=>GE.out.2 q.symm)).trans J0.out
  obtain ⟨X2,e2',j2,f2⟩:=sets_row j1 (colA x) rfl
  have hst:(Instr.storeAt 50 (.pointer (some ⟨Y0,0,none⟩)) (.agg (colA x))).run Tryz.prog w1=.ok () X2:=by
   rw [e2']
   exact store_row j1 rfl size50 (by simp [Value.oneCell'])
  have HE:Hid (Fr w X2 (fun k=>k=A)∧X2.heap[A]?=some (.cells (scA { s with last:=s.last+1 } tv) 24 (0,0))):=by
   refine ⟨Fr.step (S:=fun k=>k=A) ((Fr.ofBelow _ HBW.out).trans f1) f2 (fun k hk=>.inr (by rw [hk];exact GE.out.1)),?_⟩
   rw [f2.block A (blk_lt a1) GE.out.2]
   exact a1
  have J2:=lh j2
  clear hc f1 j1 e2' f2 j2 a1
  go_wp2_with (refine wpl_store _ _ rfl (by simp [Act.eval]) (by simp [Act.eval]) hst ?_)
  refine bodyPost_ret (results_two rfl rfl rfl (load_var J2.out Tryz.underlying50 rfl size50)) rfl ?_
  exact ⟨rfl,HE.out.1,HE.out.2⟩
set_option maxHeartbeats 2000000 in
set_option maxRecDepth 100000 in
theorem freshI_any {A P R D B q:Nat} {t:Tb} {s:Sc} {tv:Value} {d:Dd} {da:Option Addr} {dn dc:Nat} (cP:w.cell? ⟨P,0,none⟩=some (.pointer (some ⟨A,0,none⟩))) (cR:w.cell? ⟨R,0,none⟩=some (.pointer (some ⟨B,q,none⟩))) (jD:w.heap[D]?=some (.cells #[.int .i64 d.kind,.string d.table,.string d.name,.string d.column,.string d.parent,.bool d.uq,.int .i64 d.ty,.int .i64 d.df.k,.int .i64 d.df.n,.string d.df.s,.slice da dn dc] 31 (0,0))) (hA:A<w.heap.size) (hnew:∀ X,Below w.heap.size w X→Calls Tryz.prog 72 #[.pointer (some ⟨A,0,none⟩),.pointer (some ⟨B,q,none⟩),.agg #[.int .i64 d.kind,.string d.table,.string d.name,.string d.column,.string d.parent,.bool d.uq,.int .i64 d.ty,.int .i64 d.df.k,.int .i64 d.df.n,.string d.df.s,.slice da dn dc]] X (NewAns ixA X A s tv (newI s t d))):Calls Tryz.prog 71 #[.pointer (some ⟨P,0,none⟩),.pointer (some ⟨R,0,none⟩),.pointer (some ⟨D,0,none⟩)] w (NewAns ixA w A s tv (newI s t d)):=by
 obtain ⟨W,hW⟩:∃ W,W=w.alloc (.cells #[.int .i64 0,.string ⟨#[]⟩,.int .i64 0,.bool false,.int .i64 0] 71):=⟨_,rfl⟩
 have hbW:Below w.heap.size w W:=by rw [hW];exact (Below.refl _ w).alloc (Nat.le_refl _) _
 obtain ⟨Y0,hY0⟩:∃ Y0,w.heap.size=Y0:=⟨_,rfl⟩
 have jY0:W.heap[Y0]?=some (.cells #[.int .i64 0,.string ⟨#[]⟩,.int .i64 0,.bool false,.int .i64 0] 71 (0,0)):=by
  have:=heap_alloc_new w (.cells #[.int .i64 0,.string ⟨#[]⟩,.int .i64 0,.bool false,.int .i64 0] 71)
  rw [hW,←hY0]
  exact this
 have e1:=cell_on hbW cP
 have e2:=cell_on hbW cR
 have hld:=load_row ((hbW.block D (blk_lt jD)).trans jD) Tryz.underlying31 rfl size31
 have hc:=hnew W hbW
 have J0:=lh jY0
 have hge:w.heap.size≤Y0:=by omega
 have GE:=lh (And.intro hge (show A≠Y0 by omega))
 obtain ⟨nw,hnw⟩:∃ nw,newI s t d=nw:=⟨_,rfl⟩
 rw [hnw] at hc ⊢
 have HW:=lh hW
 have HBW:=lh hbW
 have HY0:=lh hY0
 clear hW hbW hY0
 clear jY0 hnew jD cP cR hge hnw hA
 go_enter Tryz.func71,Tryz.ntmps71
 go_upto_region 1 with fail
 rw [←HW.out,HY0.out]
 cases nw with
 | error er =>
  go_wp2_with (first | (refine wpl_load _ rfl (by simp [Act.eval]) hld ?_) | (go_at_call 72;refine hc.mono ?_;rintro e w1 ⟨z,rfl,hne,b1⟩;refine Hid.out ?_))
  refine lh ?_
  have j1:=(b1.block Y0 (blk_lt J0.out)).trans J0.out
  obtain ⟨X2,e2',j2,f2⟩:=sets_row j1 (ixA z) rfl
  have hst:(Instr.storeAt 71 (.pointer (some ⟨Y0,0,none⟩)) (.agg (ixA z))).run Tryz.prog w1=.ok () X2:=by
   rw [e2']
   exact store_row j1 rfl size71 (by simp [Value.oneCell'])
  have HE:=lh (And.intro hne ((bgo HBW.out b1).trans (f2.toBelow (fun k hk q=>by rw [q] at hk;have:=GE.out.1;omega) (bgo HBW.out b1).size)))
  have J2:=lh j2
  clear hc b1 j1 e2' f2 j2 hne
  go_wp2_with (refine wpl_store _ _ rfl (by simp [Act.eval]) (by simp [Act.eval]) hst ?_)
  refine bodyPost_ret (results_two rfl rfl rfl (load_var J2.out Tryz.underlying71 rfl size71)) rfl ?_
  exact ⟨z,rfl,HE.out.1,HE.out.2⟩
 | ok x =>
  go_wp2_with (first | (refine wpl_load _ rfl (by simp [Act.eval]) hld ?_) | (go_at_call 72;refine hc.mono ?_;rintro e w1 ⟨rfl,f1,a1⟩;refine Hid.out ?_))
  refine lh ?_
  have j1:=(f1.block Y0 (blk_lt J0.out) (fun q=>GE.out.2 q.symm)).trans J0.out
  obtain ⟨X2,e2',j2,f2⟩:=sets_row j1 (ixA x) rfl
  have hst:(Instr.storeAt 71 (.pointer (some ⟨Y0,0,none⟩)) (.agg (ixA x))).run Tryz.prog w1=.ok () X2:=by
   rw [e2']
   exact store_row j1 rfl size71 (by simp [Value.oneCell'])
  have HE:Hid (Fr w X2 (fun k=>k=A)∧X2.heap[A]?=some (.cells (scA { s with last:=s.last+1 } tv) 24 (0,0))):=by
   refine ⟨Fr.step (S:=fun k=>k=A) ((Fr.ofBelow _ HBW.out).trans f1) f2 (fun k hk=>.inr (by rw [hk];exact GE.out.1)),?_⟩
   rw [f2.block A (blk_lt a1) GE.out.2]
   exact a1
  have J2:=lh j2
  clear hc f1 j1 e2' f2 j2 a1
  go_wp2_with (refine wpl_store _ _ rfl (by simp [Act.eval]) (by simp [Act.eval]) hst ?_)
  refine bodyPost_ret (results_two rfl rfl rfl (load_var J2.out Tryz.underlying71 rfl size71)) rfl ?_
  exact ⟨rfl,HE.out.1,HE.out.2⟩
set_option maxHeartbeats 2000000 in
set_option maxRecDepth 100000 in
theorem freshK_any {A P R D B q:Nat} {t:Tb} {s:Sc} {tv:Value} {d:Dd} {da:Option Addr} {dn dc:Nat} (cP:w.cell? ⟨P,0,none⟩=some (.pointer (some ⟨A,0,none⟩))) (cR:w.cell? ⟨R,0,none⟩=some (.pointer (some ⟨B,q,none⟩))) (jD:w.heap[D]?=some (.cells #[.int .i64 d.kind,.string d.table,.string d.name,.string d.column,.string d.parent,.bool d.uq,.int .i64 d.ty,.int .i64 d.df.k,.int .i64 d.df.n,.string d.df.s,.slice da dn dc] 31 (0,0))) (hA:A<w.heap.size) (hnew:∀ X,Below w.heap.size w X→Calls Tryz.prog 76 #[.pointer (some ⟨A,0,none⟩),.pointer (some ⟨B,q,none⟩),.agg #[.int .i64 d.kind,.string d.table,.string d.name,.string d.column,.string d.parent,.bool d.uq,.int .i64 d.ty,.int .i64 d.df.k,.int .i64 d.df.n,.string d.df.s,.slice da dn dc]] X (NewAns fkA X A s tv (newK s t d))):Calls Tryz.prog 75 #[.pointer (some ⟨P,0,none⟩),.pointer (some ⟨R,0,none⟩),.pointer (some ⟨D,0,none⟩)] w (NewAns fkA w A s tv (newK s t d)):=by
 obtain ⟨W,hW⟩:∃ W,W=w.alloc (.cells #[.int .i64 0,.string ⟨#[]⟩,.int .i64 0,.int .i64 0,.int .i64 0] 74):=⟨_,rfl⟩
 have hbW:Below w.heap.size w W:=by rw [hW];exact (Below.refl _ w).alloc (Nat.le_refl _) _
 obtain ⟨Y0,hY0⟩:∃ Y0,w.heap.size=Y0:=⟨_,rfl⟩
 have jY0:W.heap[Y0]?=some (.cells #[.int .i64 0,.string ⟨#[]⟩,.int .i64 0,.int .i64 0,.int .i64 0] 74 (0,0)):=by
  have:=heap_alloc_new w (.cells #[.int .i64 0,.string ⟨#[]⟩,.int .i64 0,.int .i64 0,.int .i64 0] 74)
  rw [hW,←hY0]
  exact this
 have e1:=cell_on hbW cP
 have e2:=cell_on hbW cR
 have hld:=load_row ((hbW.block D (blk_lt jD)).trans jD) Tryz.underlying31 rfl size31
 have hc:=hnew W hbW
 have J0:=lh jY0
 have hge:w.heap.size≤Y0:=by omega
 have GE:=lh (And.intro hge (show A≠Y0 by omega))
 obtain ⟨nw,hnw⟩:∃ nw,newK s t d=nw:=⟨_,rfl⟩
 rw [hnw] at hc ⊢
 have HW:=lh hW
 have HBW:=lh hbW
 have HY0:=lh hY0
 clear hW hbW hY0
 clear jY0 hnew jD cP cR hge hnw hA
 go_enter Tryz.func75,Tryz.ntmps75
 go_upto_region 1 with fail
 rw [←HW.out,HY0.out]
 cases nw with
 | error er =>
  go_wp2_with (first | (refine wpl_load _ rfl (by simp [Act.eval]) hld ?_) | (go_at_call 76;refine hc.mono ?_;rintro e w1 ⟨z,rfl,hne,b1⟩;refine Hid.out ?_))
  refine lh ?_
  have j1:=(b1.block Y0 (blk_lt J0.out)).trans J0.out
  obtain ⟨X2,e2',j2,f2⟩:=sets_row j1 (fkA z) rfl
  have hst:(Instr.storeAt 74 (.pointer (some ⟨Y0,0,none⟩)) (.agg (fkA z))).run Tryz.prog w1=.ok () X2:=by
   rw [e2']
   exact store_row j1 rfl size74 (by simp [Value.oneCell'])
  have HE:=lh (And.intro hne ((bgo HBW.out b1).trans (f2.toBelow (fun k hk q=>by rw [q] at hk;have:=GE.out.1;omega) (bgo HBW.out b1).size)))
  have J2:=lh j2
  clear hc b1 j1 e2' f2 j2 hne
  go_wp2_with (refine wpl_store _ _ rfl (by simp [Act.eval]) (by simp [Act.eval]) hst ?_)
  refine bodyPost_ret (results_two rfl rfl rfl (load_var J2.out Tryz.underlying74 rfl size74)) rfl ?_
  exact ⟨z,rfl,HE.out.1,HE.out.2⟩
 | ok x =>
  go_wp2_with (first | (refine wpl_load _ rfl (by simp [Act.eval]) hld ?_) | (go_at_call 76;refine hc.mono ?_;rintro e w1 ⟨rfl,f1,a1⟩;refine Hid.out ?_))
  refine lh ?_
  have j1:=(f1.block Y0 (blk_lt J0.out) (fun q=>GE.out.2 q.symm)).trans J0.out
  obtain ⟨X2,e2',j2,f2⟩:=sets_row j1 (fkA x) rfl
  have hst:(Instr.storeAt 74 (.pointer (some ⟨Y0,0,none⟩)) (.agg (fkA x))).run Tryz.prog w1=.ok () X2:=by
   rw [e2']
   exact store_row j1 rfl size74 (by simp [Value.oneCell'])
  have HE:Hid (Fr w X2 (fun k=>k=A)∧X2.heap[A]?=some (.cells (scA { s with last:=s.last+1 } tv) 24 (0,0))):=by
   refine ⟨Fr.step (S:=fun k=>k=A) ((Fr.ofBelow _ HBW.out).trans f1) f2 (fun k hk=>.inr (by rw [hk];exact GE.out.1)),?_⟩
   rw [f2.block A (blk_lt a1) GE.out.2]
   exact a1
  have J2:=lh j2
  clear hc f1 j1 e2' f2 j2 a1
  go_wp2_with (refine wpl_store _ _ rfl (by simp [Act.eval]) (by simp [Act.eval]) hst ?_)
  refine bodyPost_ret (results_two rfl rfl rfl (load_var J2.out Tryz.underlying74 rfl size74)) rfl ?_
  exact ⟨rfl,HE.out.1,HE.out.2⟩
set_option maxHeartbeats 400000 in
theorem refuse_f {P B q:Nat} {i r:Int} (cP:w.cell? ⟨P,0,none⟩=some (.pointer (some ⟨B,q,none⟩))) (h:Calls Tryz.prog 79 #[.pointer (some ⟨B,q,none⟩),.int .i64 i] w fun e w'=>e=.returned (.int .i64 r)∧Below w.heap.size w w'):Calls Tryz.prog 78 #[.int .i64 i,.pointer (some ⟨P,0,none⟩)] w fun e w'=>e=.returned (.int .i64 r)∧Below w.heap.size w w':=by
 go_enter Tryz.func78,Tryz.ntmps78
 go_wp2_with fail
 refine h.mono ?_
 rintro e w1 ⟨rfl,b1⟩
 go_wp2
 go_ret
 exact ⟨rfl,b1⟩
end
end Go.Proofs.YtongmhfpoopebaaGreat
