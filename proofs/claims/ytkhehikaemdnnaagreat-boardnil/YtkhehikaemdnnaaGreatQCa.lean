import Derived.Test.YtkhehikaemdnnaaGreatQBx
import Derived.Test.YtkhehikaemdnnaaGreatQLa
namespace Go.Proofs.YtkhehikaemdnnaaGreat
set_option maxRecDepth 100000
set_option maxHeartbeats 2000000
open Go.RowKit Go.Maps
def DropAns{α:Type}(L:α->List Value)(T:TypeId)(c:Nat)(w:World)(v:Value)(res:Except Int (List α))(e:Ending)(w':World):Prop:=match res with
 | .error er=>∃ ad n cap,e=.returned (.tuple #[.slice ad n cap,.int .i64 er])/\er≠0/\Fr w w' (fun k=>v.ownBlock=some k)
 | .ok l'=>∃ ad n cap,e=.returned (.tuple #[.slice ad n cap,.int .i64 0])/\n=l'.length/\w'.ownsRow 0 T c (.slice ad n cap) l'.length (l'.flatMap L)/\Fr w w' (fun k=>v.ownBlock=some k)/\(∀ k,(Value.slice ad n cap).ownBlock=some k->v.ownBlock=some k\/w.heap.size<=k)
theorem dropL_none{α:Type}{nm:α->ByteArray}{put:Int->α->α}{l:List α}{name:ByteArray}{st no:Int}{used:Nat->α->Bool}(h:l.findIdx? (fun x=>decide (nm x=name))=none):dropL nm put l name st no used=.error no:=by
 unfold dropL;rw [h]
theorem dropL_some{α:Type}{nm:α->ByteArray}{put:Int->α->α}{l:List α}{name:ByteArray}{st no:Int}{used:Nat->α->Bool}{i:Nat}(hi:i<l.length)(h:l.findIdx? (fun x=>decide (nm x=name))=some i):dropL nm put l name st no used=if used i l[i]=true then .error 155 else .ok (setAt st i (put st) l):=by
 unfold dropL;rw [h];show(if (l[i]?.map (used i))=some true then _ else _)=_
 rw [List.getElem?_eq_getElem hi];simp only [Option.map_some,Option.some.injEq]
section
variable {w : World}
theorem dropC_any{v:Value}{l:List Col}{name:ByteArray}{st no:Int}{used:Nat->Col->Bool}{f:FuncId}{cs:Array Value}(hv:w.ownsRow 0 56 7 v l.length (l.flatMap colL))(hno:no≠0)(hgo:Goes f)(hf:∀ X,Below w.heap.size w X->Calls Tryz.prog f (#[.int .i64 (-1)] ++ cs) X fun e w'=>e=.returned (.int .i64 no)/\Below X.heap.size X w')(hf2:∀ X,Below w.heap.size w X->∀ i (h:i<l.length),Calls Tryz.prog f (#[.int .i64 (i:Int)] ++ cs) X fun e w'=>e=.returned (.int .i64 (if used i l[i] then 155 else 0))/\Below X.heap.size X w'):
  Calls Tryz.prog 129 #[v,.string name,.int .i64 st,.func (.func 118) #[] #[],.func (.func f) #[] cs] w (DropAns colL 56 7 w v (dropL Col.nm putC l name st no used)):=by
 have hcall:=namedC_any name (Lr.own colL_len hv);have HV:=lh hv;have HF:=lh hf;have HF2:=lh hf2;have HNO:=lh hno;obtain⟨ad,cap,hsh⟩:=own_shape hv;subst hsh;have HP:=lh (findIdx_fidx (fun x:Col=>decide (x.nm=name)) l);obtain⟨fi,hfi⟩:∃ fi,fidx (fun x:Col=>decide (x.nm=name)) l=fi:=⟨_,rfl⟩
 rw [hfi]at hcall HP;clear hfi hv hf hf2 hno;go_enter Tryz.func129,Tryz.ntmps129;go_upto_region 2 with (go_at_call 163;refine hcall.mono ?_;rintro e w1 ⟨rfl,b1⟩;refine Hid.out ?_)
 refine lh ?_;have B1:=lh b1;have V1:=lh (own_below HV.out b1);clear hcall b1;rcases HP.out with⟨rfl,hfd⟩ | ⟨i,hi,rfl,hfd,_⟩
 ·have HR:=lh (dropL_none (put:=putC) (st:=st) (no:=no) (used:=used) hfd);have hc:=HF.out w1 B1.out;have hno:=HNO.out;clear hfd;go_wp2_with fail
  refine hc.mono ?_;rintro e w2 ⟨rfl,b2⟩;have B2:=lh b2;clear hc b2;go_wp2;refine bodyPost_ret (results_slot2 rfl rfl rfl) rfl ?_;rw [HR.out];exact⟨_,_,_,rfl,HNO.out,Fr.ofBelow _ (bgo B1.out B2.out)⟩
 ·obtain⟨g,hg⟩:∃ g,ad=some ⟨g,0,none⟩:=by
   rcases HV.out.2 with⟨hv',h0⟩ | ⟨g,cap',cur,hv',_⟩
   ·omega
   ·simp only [Value.slice.injEq]at hv';exact⟨g,hv'.1⟩
  subst hg;have hc:=HF2.out w1 B1.out i hi;have HR0:=lh (dropL_some (put:=putC) (st:=st) (no:=no) (used:=used) hi hfd);obtain⟨u,hu⟩:∃ u,used i (l[i]'hi)=u:=⟨_,rfl⟩
  rw [hu]at hc HR0;clear hfd hu;cases u with
  | true =>
   have HR:Hid (dropL Col.nm putC l name st no used=.error 155):=HR0.out;go_wp2_with fail
   refine hc.mono ?_;rintro e w2 ⟨rfl,b2⟩;have B2:=lh b2;clear hc b2;go_wp2;refine bodyPost_ret (results_slot2 rfl rfl rfl) rfl ?_;rw [HR.out];exact⟨_,_,_,rfl,by decide,Fr.ofBelow _ (bgo B1.out B2.out)⟩
  | false =>
   have HR:Hid (dropL Col.nm putC l name st no used=.ok (setAt st i (putC st) l)):=HR0.out;go_wp2_with fail
   refine hc.mono ?_;rintro e w2 ⟨rfl,b2⟩;have B2:=lh b2;have hset:=setC_any (own_below V1.out b2) hi st;clear hc b2;go_wp2_with (go_at_call 164;refine hset.mono ?_;rintro e w4 ⟨m,rfl,o4,hm,f4⟩;have HM:=lh hm;clear hm;refine Hid.out ?_)
   refine lh ?_;have O4:=lh o4;have F4:=lh f4;clear hset o4 f4;go_wp2;refine bodyPost_ret (results_slot2 rfl rfl rfl) rfl ?_;rw [HR.out];exact⟨_,_,_,rfl,HM.out,O4.out,(Fr.ofBelow _ (bgo B1.out B2.out)).trans (F4.out.mono (fun k hk=>by rw [hk];rfl)),fun k hk=>.inl hk⟩
theorem dropI_any{v:Value}{l:List Ix}{name:ByteArray}{st no:Int}{used:Nat->Ix->Bool}{f:FuncId}{cs:Array Value}(hv:w.ownsRow 0 138 5 v l.length (l.flatMap ixL))(hno:no≠0)(hgo:Goes f)(hf:∀ X,Below w.heap.size w X->Calls Tryz.prog f (#[.int .i64 (-1)] ++ cs) X fun e w'=>e=.returned (.int .i64 no)/\Below X.heap.size X w')(hf2:∀ X,Below w.heap.size w X->∀ i (h:i<l.length),Calls Tryz.prog f (#[.int .i64 (i:Int)] ++ cs) X fun e w'=>e=.returned (.int .i64 (if used i l[i] then 155 else 0))/\Below X.heap.size X w'):
  Calls Tryz.prog 132 #[v,.string name,.int .i64 st,.func (.func 122) #[] #[],.func (.func f) #[] cs] w (DropAns ixL 138 5 w v (dropL Ix.nm putI l name st no used)):=by
 have hcall:=namedI_any name (Lr.own ixL_len hv);have HV:=lh hv;have HF:=lh hf;have HF2:=lh hf2;have HNO:=lh hno;obtain⟨ad,cap,hsh⟩:=own_shape hv;subst hsh;have HP:=lh (findIdx_fidx (fun x:Ix=>decide (x.nm=name)) l);obtain⟨fi,hfi⟩:∃ fi,fidx (fun x:Ix=>decide (x.nm=name)) l=fi:=⟨_,rfl⟩
 rw [hfi]at hcall HP;clear hfi hv hf hf2 hno;go_enter Tryz.func132,Tryz.ntmps132;go_upto_region 2 with (go_at_call 165;refine hcall.mono ?_;rintro e w1 ⟨rfl,b1⟩;refine Hid.out ?_)
 refine lh ?_;have B1:=lh b1;have V1:=lh (own_below HV.out b1);clear hcall b1;rcases HP.out with⟨rfl,hfd⟩ | ⟨i,hi,rfl,hfd,_⟩
 ·have HR:=lh (dropL_none (put:=putI) (st:=st) (no:=no) (used:=used) hfd);have hc:=HF.out w1 B1.out;have hno:=HNO.out;clear hfd;go_wp2_with fail
  refine hc.mono ?_;rintro e w2 ⟨rfl,b2⟩;have B2:=lh b2;clear hc b2;go_wp2;refine bodyPost_ret (results_slot2 rfl rfl rfl) rfl ?_;rw [HR.out];exact⟨_,_,_,rfl,HNO.out,Fr.ofBelow _ (bgo B1.out B2.out)⟩
 ·obtain⟨g,hg⟩:∃ g,ad=some ⟨g,0,none⟩:=by
   rcases HV.out.2 with⟨hv',h0⟩ | ⟨g,cap',cur,hv',_⟩
   ·omega
   ·simp only [Value.slice.injEq]at hv';exact⟨g,hv'.1⟩
  subst hg;have hc:=HF2.out w1 B1.out i hi;have HR0:=lh (dropL_some (put:=putI) (st:=st) (no:=no) (used:=used) hi hfd);obtain⟨u,hu⟩:∃ u,used i (l[i]'hi)=u:=⟨_,rfl⟩
  rw [hu]at hc HR0;clear hfd hu;cases u with
  | true =>
   have HR:Hid (dropL Ix.nm putI l name st no used=.error 155):=HR0.out;go_wp2_with fail
   refine hc.mono ?_;rintro e w2 ⟨rfl,b2⟩;have B2:=lh b2;clear hc b2;go_wp2;refine bodyPost_ret (results_slot2 rfl rfl rfl) rfl ?_;rw [HR.out];exact⟨_,_,_,rfl,by decide,Fr.ofBelow _ (bgo B1.out B2.out)⟩
  | false =>
   have HR:Hid (dropL Ix.nm putI l name st no used=.ok (setAt st i (putI st) l)):=HR0.out;go_wp2_with fail
   refine hc.mono ?_;rintro e w2 ⟨rfl,b2⟩;have B2:=lh b2;have hset:=setI_any (own_below V1.out b2) hi st;clear hc b2;go_wp2_with (go_at_call 166;refine hset.mono ?_;rintro e w4 ⟨m,rfl,o4,hm,f4⟩;have HM:=lh hm;clear hm;refine Hid.out ?_)
   refine lh ?_;have O4:=lh o4;have F4:=lh f4;clear hset o4 f4;go_wp2;refine bodyPost_ret (results_slot2 rfl rfl rfl) rfl ?_;rw [HR.out];exact⟨_,_,_,rfl,HM.out,O4.out,(Fr.ofBelow _ (bgo B1.out B2.out)).trans (F4.out.mono (fun k hk=>by rw [hk];rfl)),fun k hk=>.inl hk⟩
theorem dropK_any{v:Value}{l:List Fk}{name:ByteArray}{st no:Int}{used:Nat->Fk->Bool}{f:FuncId}{cs:Array Value}(hv:w.ownsRow 0 141 5 v l.length (l.flatMap fkL))(hno:no≠0)(hgo:Goes f)(hf:∀ X,Below w.heap.size w X->Calls Tryz.prog f (#[.int .i64 (-1)] ++ cs) X fun e w'=>e=.returned (.int .i64 no)/\Below X.heap.size X w')(hf2:∀ X,Below w.heap.size w X->∀ i (h:i<l.length),Calls Tryz.prog f (#[.int .i64 (i:Int)] ++ cs) X fun e w'=>e=.returned (.int .i64 (if used i l[i] then 155 else 0))/\Below X.heap.size X w'):
  Calls Tryz.prog 134 #[v,.string name,.int .i64 st,.func (.func 126) #[] #[],.func (.func f) #[] cs] w (DropAns fkL 141 5 w v (dropL Fk.nm putK l name st no used)):=by
 have hcall:=namedK_any name (Lr.own fkL_len hv);have HV:=lh hv;have HF:=lh hf;have HF2:=lh hf2;have HNO:=lh hno;obtain⟨ad,cap,hsh⟩:=own_shape hv;subst hsh;have HP:=lh (findIdx_fidx (fun x:Fk=>decide (x.nm=name)) l);obtain⟨fi,hfi⟩:∃ fi,fidx (fun x:Fk=>decide (x.nm=name)) l=fi:=⟨_,rfl⟩
 rw [hfi]at hcall HP;clear hfi hv hf hf2 hno;go_enter Tryz.func134,Tryz.ntmps134;go_upto_region 2 with (go_at_call 168;refine hcall.mono ?_;rintro e w1 ⟨rfl,b1⟩;refine Hid.out ?_)
 refine lh ?_;have B1:=lh b1;have V1:=lh (own_below HV.out b1);clear hcall b1;rcases HP.out with⟨rfl,hfd⟩ | ⟨i,hi,rfl,hfd,_⟩
 ·have HR:=lh (dropL_none (put:=putK) (st:=st) (no:=no) (used:=used) hfd);have hc:=HF.out w1 B1.out;have hno:=HNO.out;clear hfd;go_wp2_with fail
  refine hc.mono ?_;rintro e w2 ⟨rfl,b2⟩;have B2:=lh b2;clear hc b2;go_wp2;refine bodyPost_ret (results_slot2 rfl rfl rfl) rfl ?_;rw [HR.out];exact⟨_,_,_,rfl,HNO.out,Fr.ofBelow _ (bgo B1.out B2.out)⟩
 ·obtain⟨g,hg⟩:∃ g,ad=some ⟨g,0,none⟩:=by
   rcases HV.out.2 with⟨hv',h0⟩ | ⟨g,cap',cur,hv',_⟩
   ·omega
   ·simp only [Value.slice.injEq]at hv';exact⟨g,hv'.1⟩
  subst hg;have hc:=HF2.out w1 B1.out i hi;have HR0:=lh (dropL_some (put:=putK) (st:=st) (no:=no) (used:=used) hi hfd);obtain⟨u,hu⟩:∃ u,used i (l[i]'hi)=u:=⟨_,rfl⟩
  rw [hu]at hc HR0;clear hfd hu;cases u with
  | true =>
   have HR:Hid (dropL Fk.nm putK l name st no used=.error 155):=HR0.out;go_wp2_with fail
   refine hc.mono ?_;rintro e w2 ⟨rfl,b2⟩;have B2:=lh b2;clear hc b2;go_wp2;refine bodyPost_ret (results_slot2 rfl rfl rfl) rfl ?_;rw [HR.out];exact⟨_,_,_,rfl,by decide,Fr.ofBelow _ (bgo B1.out B2.out)⟩
  | false =>
   have HR:Hid (dropL Fk.nm putK l name st no used=.ok (setAt st i (putK st) l)):=HR0.out;go_wp2_with fail
   refine hc.mono ?_;rintro e w2 ⟨rfl,b2⟩;have B2:=lh b2;have hset:=setK_any (own_below V1.out b2) hi st;clear hc b2;go_wp2_with (go_at_call 169;refine hset.mono ?_;rintro e w4 ⟨m,rfl,o4,hm,f4⟩;have HM:=lh hm;clear hm;refine Hid.out ?_)
   refine lh ?_;have O4:=lh o4;have F4:=lh f4;clear hset o4 f4;go_wp2;refine bodyPost_ret (results_slot2 rfl rfl rfl) rfl ?_;rw [HR.out];exact⟨_,_,_,rfl,HM.out,O4.out,(Fr.ofBelow _ (bgo B1.out B2.out)).trans (F4.out.mono (fun k hk=>by rw [hk];rfl)),fun k hk=>.inl hk⟩
theorem freshC_any{A P D:Nat}{s:Sc}{tv:Value}{d:Dd}{da:Option Addr}{dn dc:Nat}(cP:w.cell? ⟨P,0,none⟩=some (.pointer (some ⟨A,0,none⟩)))(jD:w.heap[D]?=some (.cells (dqA d (.slice da dn dc)) 45 (0,0)))(hA:A<w.heap.size)(hnew:∀ X,Below w.heap.size w X->Calls Tryz.prog 120 #[.pointer (some ⟨A,0,none⟩),.agg (dqA d (.slice da dn dc))] X (NewAns colA X A s tv (newC s d))):Calls Tryz.prog 119 #[.pointer (some ⟨P,0,none⟩),.pointer (some ⟨D,0,none⟩)] w (NewAns colA w A s tv (newC s d)):=by
 obtain⟨W,hW⟩:∃ W,W=w.alloc (.cells #[.int .i64 0,.string ⟨#[]⟩,.int .i64 0,.int .i64 0,.int .i64 0,.int .i64 0,.string ⟨#[]⟩] 56):=⟨_,rfl⟩
 have hbW:=bw1 hW;obtain⟨Y0,hY0⟩:∃ Y0,w.heap.size=Y0:=⟨_,rfl⟩
 have jY0:W.heap[Y0]?=some (.cells #[.int .i64 0,.string ⟨#[]⟩,.int .i64 0,.int .i64 0,.int .i64 0,.int .i64 0,.string ⟨#[]⟩] 56 (0,0)):=nw11 hW hY0;have e1:=cell_on hbW cP;have hld:=load_row ((hbW.block D (blk_lt jD)).trans jD) Tryz.underlying45 rfl size45;have hc:=hnew W hbW;have J0:=lh jY0;have hge:w.heap.size<=Y0:=by omega
 have GE:=lh (And.intro hge (show A≠Y0 by omega));obtain⟨nw,hnw⟩:∃ nw,newC s d=nw:=⟨_,rfl⟩
 rw [hnw]at hc ⊢;have HW:=lh hW;have HBW:=lh hbW;have HY0:=lh hY0;clear hW hbW hY0;clear jY0 hnew jD cP hge hnw hA;go_enter Tryz.func119,Tryz.ntmps119;go_upto_region 1 with fail
 rw [<-HW.out,HY0.out];cases nw with
 | error er =>
  go_wp2_with (first|(refine wpl_load _ rfl (by simp [Act.eval]) hld ?_)|(go_at_call 120;refine hc.mono ?_;rintro e w1 ⟨z,rfl,hne,b1⟩;refine Hid.out ?_))
  refine lh ?_;have j1:=(b1.block Y0 (blk_lt J0.out)).trans J0.out;obtain⟨X2,e2',j2,f2⟩:=sets_row j1 (colA z) rfl;have hst:(Instr.storeAt 56 (.pointer (some ⟨Y0,0,none⟩)) (.agg (colA z))).run Tryz.prog w1=.ok () X2:=by
   rw [e2'];exact store_row j1 rfl size56 (by simp [Value.oneCell'])
  have HE:=lh (And.intro hne ((bgo HBW.out b1).trans (f2.toBelow (fun k hk q=>by rw [q]at hk;have:=GE.out.1;omega) (bgo HBW.out b1).size)));have J2:=lh j2;clear hc b1 j1 e2' f2 j2 hne;go_wp2_with (refine wpl_store _ _ rfl (by simp [Act.eval]) (by simp [Act.eval]) hst ?_)
  refine bodyPost_ret (results_two rfl rfl rfl (load_var J2.out Tryz.underlying56 rfl size56)) rfl ?_;exact⟨z,rfl,HE.out.1,HE.out.2⟩
 | ok x =>
  go_wp2_with (first|(refine wpl_load _ rfl (by simp [Act.eval]) hld ?_)|(go_at_call 120;refine hc.mono ?_;rintro e w1 ⟨rfl,f1,a1⟩;refine Hid.out ?_))
  refine lh ?_;have j1:=(f1.block Y0 (blk_lt J0.out) (fun q=>GE.out.2 q.symm)).trans J0.out;obtain⟨X2,e2',j2,f2⟩:=sets_row j1 (colA x) rfl;have hst:(Instr.storeAt 56 (.pointer (some ⟨Y0,0,none⟩)) (.agg (colA x))).run Tryz.prog w1=.ok () X2:=by
   rw [e2'];exact store_row j1 rfl size56 (by simp [Value.oneCell'])
  have HE:Hid (Fr w X2 (fun k=>k=A)/\X2.heap[A]?=some (.cells (scA { s with last:=s.last+1 } tv) 30 (0,0))):=by
   refine⟨Fr.step (S:=fun k=>k=A) ((Fr.ofBelow _ HBW.out).trans f1) f2 (fun k hk=>.inr (by rw [hk];exact GE.out.1)),?_⟩;rw [f2.block A (blk_lt a1) GE.out.2];exact a1
  have J2:=lh j2;clear hc f1 j1 e2' f2 j2 a1;go_wp2_with (refine wpl_store _ _ rfl (by simp [Act.eval]) (by simp [Act.eval]) hst ?_)
  refine bodyPost_ret (results_two rfl rfl rfl (load_var J2.out Tryz.underlying56 rfl size56)) rfl ?_;exact⟨rfl,HE.out.1,HE.out.2⟩
theorem freshI_any{A P R D B q:Nat}{t:Tb}{s:Sc}{tv:Value}{d:Dd}{da:Option Addr}{dn dc:Nat}(cP:w.cell? ⟨P,0,none⟩=some (.pointer (some ⟨A,0,none⟩)))(cR:w.cell? ⟨R,0,none⟩=some (.pointer (some ⟨B,q,none⟩)))(jD:w.heap[D]?=some (.cells (dqA d (.slice da dn dc)) 45 (0,0)))(hA:A<w.heap.size)(hnew:∀ X,Below w.heap.size w X->Calls Tryz.prog 124 #[.pointer (some ⟨A,0,none⟩),.pointer (some ⟨B,q,none⟩),.agg (dqA d (.slice da dn dc))] X (NewAns ixA X A s tv (newI s t d))):Calls Tryz.prog 123 #[.pointer (some ⟨P,0,none⟩),.pointer (some ⟨R,0,none⟩),.pointer (some ⟨D,0,none⟩)] w (NewAns ixA w A s tv (newI s t d)):=by
 obtain⟨W,hW⟩:∃ W,W=w.alloc (.cells #[.int .i64 0,.string ⟨#[]⟩,.int .i64 0,.bool false,.int .i64 0] 138):=⟨_,rfl⟩
 have hbW:=bw1 hW;obtain⟨Y0,hY0⟩:∃ Y0,w.heap.size=Y0:=⟨_,rfl⟩
 have jY0:W.heap[Y0]?=some (.cells #[.int .i64 0,.string ⟨#[]⟩,.int .i64 0,.bool false,.int .i64 0] 138 (0,0)):=nw11 hW hY0;have e1:=cell_on hbW cP;have e2:=cell_on hbW cR;have hld:=load_row ((hbW.block D (blk_lt jD)).trans jD) Tryz.underlying45 rfl size45;have hc:=hnew W hbW;have J0:=lh jY0;have hge:w.heap.size<=Y0:=by omega
 have GE:=lh (And.intro hge (show A≠Y0 by omega));obtain⟨nw,hnw⟩:∃ nw,newI s t d=nw:=⟨_,rfl⟩
 rw [hnw]at hc ⊢;have HW:=lh hW;have HBW:=lh hbW;have HY0:=lh hY0;clear hW hbW hY0;clear jY0 hnew jD cP cR hge hnw hA;go_enter Tryz.func123,Tryz.ntmps123;go_upto_region 1 with fail
 rw [<-HW.out,HY0.out];cases nw with
 | error er =>
  go_wp2_with (first|(refine wpl_load _ rfl (by simp [Act.eval]) hld ?_)|(go_at_call 124;refine hc.mono ?_;rintro e w1 ⟨z,rfl,hne,b1⟩;refine Hid.out ?_))
  refine lh ?_;have j1:=(b1.block Y0 (blk_lt J0.out)).trans J0.out;obtain⟨X2,e2',j2,f2⟩:=sets_row j1 (ixA z) rfl;have hst:(Instr.storeAt 138 (.pointer (some ⟨Y0,0,none⟩)) (.agg (ixA z))).run Tryz.prog w1=.ok () X2:=by
   rw [e2'];exact store_row j1 rfl size138 (by simp [Value.oneCell'])
  have HE:=lh (And.intro hne ((bgo HBW.out b1).trans (f2.toBelow (fun k hk q=>by rw [q]at hk;have:=GE.out.1;omega) (bgo HBW.out b1).size)));have J2:=lh j2;clear hc b1 j1 e2' f2 j2 hne;go_wp2_with (refine wpl_store _ _ rfl (by simp [Act.eval]) (by simp [Act.eval]) hst ?_)
  refine bodyPost_ret (results_two rfl rfl rfl (load_var J2.out Tryz.underlying138 rfl size138)) rfl ?_;exact⟨z,rfl,HE.out.1,HE.out.2⟩
 | ok x =>
  go_wp2_with (first|(refine wpl_load _ rfl (by simp [Act.eval]) hld ?_)|(go_at_call 124;refine hc.mono ?_;rintro e w1 ⟨rfl,f1,a1⟩;refine Hid.out ?_))
  refine lh ?_;have j1:=(f1.block Y0 (blk_lt J0.out) (fun q=>GE.out.2 q.symm)).trans J0.out;obtain⟨X2,e2',j2,f2⟩:=sets_row j1 (ixA x) rfl;have hst:(Instr.storeAt 138 (.pointer (some ⟨Y0,0,none⟩)) (.agg (ixA x))).run Tryz.prog w1=.ok () X2:=by
   rw [e2'];exact store_row j1 rfl size138 (by simp [Value.oneCell'])
  have HE:Hid (Fr w X2 (fun k=>k=A)/\X2.heap[A]?=some (.cells (scA { s with last:=s.last+1 } tv) 30 (0,0))):=by
   refine⟨Fr.step (S:=fun k=>k=A) ((Fr.ofBelow _ HBW.out).trans f1) f2 (fun k hk=>.inr (by rw [hk];exact GE.out.1)),?_⟩;rw [f2.block A (blk_lt a1) GE.out.2];exact a1
  have J2:=lh j2;clear hc f1 j1 e2' f2 j2 a1;go_wp2_with (refine wpl_store _ _ rfl (by simp [Act.eval]) (by simp [Act.eval]) hst ?_)
  refine bodyPost_ret (results_two rfl rfl rfl (load_var J2.out Tryz.underlying138 rfl size138)) rfl ?_;exact⟨rfl,HE.out.1,HE.out.2⟩
theorem freshK_any{A P R D B q:Nat}{t:Tb}{s:Sc}{tv:Value}{d:Dd}{da:Option Addr}{dn dc:Nat}(cP:w.cell? ⟨P,0,none⟩=some (.pointer (some ⟨A,0,none⟩)))(cR:w.cell? ⟨R,0,none⟩=some (.pointer (some ⟨B,q,none⟩)))(jD:w.heap[D]?=some (.cells (dqA d (.slice da dn dc)) 45 (0,0)))(hA:A<w.heap.size)(hnew:∀ X,Below w.heap.size w X->Calls Tryz.prog 128 #[.pointer (some ⟨A,0,none⟩),.pointer (some ⟨B,q,none⟩),.agg (dqA d (.slice da dn dc))] X (NewAns fkA X A s tv (newK s t d))):Calls Tryz.prog 127 #[.pointer (some ⟨P,0,none⟩),.pointer (some ⟨R,0,none⟩),.pointer (some ⟨D,0,none⟩)] w (NewAns fkA w A s tv (newK s t d)):=by
 obtain⟨W,hW⟩:∃ W,W=w.alloc (.cells #[.int .i64 0,.string ⟨#[]⟩,.int .i64 0,.int .i64 0,.int .i64 0] 141):=⟨_,rfl⟩
 have hbW:=bw1 hW;obtain⟨Y0,hY0⟩:∃ Y0,w.heap.size=Y0:=⟨_,rfl⟩
 have jY0:W.heap[Y0]?=some (.cells #[.int .i64 0,.string ⟨#[]⟩,.int .i64 0,.int .i64 0,.int .i64 0] 141 (0,0)):=nw11 hW hY0;have e1:=cell_on hbW cP;have e2:=cell_on hbW cR;have hld:=load_row ((hbW.block D (blk_lt jD)).trans jD) Tryz.underlying45 rfl size45;have hc:=hnew W hbW;have J0:=lh jY0;have hge:w.heap.size<=Y0:=by omega
 have GE:=lh (And.intro hge (show A≠Y0 by omega));obtain⟨nw,hnw⟩:∃ nw,newK s t d=nw:=⟨_,rfl⟩
 rw [hnw]at hc ⊢;have HW:=lh hW;have HBW:=lh hbW;have HY0:=lh hY0;clear hW hbW hY0;clear jY0 hnew jD cP cR hge hnw hA;go_enter Tryz.func127,Tryz.ntmps127;go_upto_region 1 with fail
 rw [<-HW.out,HY0.out];cases nw with
 | error er =>
  go_wp2_with (first|(refine wpl_load _ rfl (by simp [Act.eval]) hld ?_)|(go_at_call 128;refine hc.mono ?_;rintro e w1 ⟨z,rfl,hne,b1⟩;refine Hid.out ?_))
  refine lh ?_;have j1:=(b1.block Y0 (blk_lt J0.out)).trans J0.out;obtain⟨X2,e2',j2,f2⟩:=sets_row j1 (fkA z) rfl;have hst:(Instr.storeAt 141 (.pointer (some ⟨Y0,0,none⟩)) (.agg (fkA z))).run Tryz.prog w1=.ok () X2:=by
   rw [e2'];exact store_row j1 rfl size141 (by simp [Value.oneCell'])
  have HE:=lh (And.intro hne ((bgo HBW.out b1).trans (f2.toBelow (fun k hk q=>by rw [q]at hk;have:=GE.out.1;omega) (bgo HBW.out b1).size)));have J2:=lh j2;clear hc b1 j1 e2' f2 j2 hne;go_wp2_with (refine wpl_store _ _ rfl (by simp [Act.eval]) (by simp [Act.eval]) hst ?_)
  refine bodyPost_ret (results_two rfl rfl rfl (load_var J2.out Tryz.underlying141 rfl size141)) rfl ?_;exact⟨z,rfl,HE.out.1,HE.out.2⟩
 | ok x =>
  go_wp2_with (first|(refine wpl_load _ rfl (by simp [Act.eval]) hld ?_)|(go_at_call 128;refine hc.mono ?_;rintro e w1 ⟨rfl,f1,a1⟩;refine Hid.out ?_))
  refine lh ?_;have j1:=(f1.block Y0 (blk_lt J0.out) (fun q=>GE.out.2 q.symm)).trans J0.out;obtain⟨X2,e2',j2,f2⟩:=sets_row j1 (fkA x) rfl;have hst:(Instr.storeAt 141 (.pointer (some ⟨Y0,0,none⟩)) (.agg (fkA x))).run Tryz.prog w1=.ok () X2:=by
   rw [e2'];exact store_row j1 rfl size141 (by simp [Value.oneCell'])
  have HE:Hid (Fr w X2 (fun k=>k=A)/\X2.heap[A]?=some (.cells (scA { s with last:=s.last+1 } tv) 30 (0,0))):=by
   refine⟨Fr.step (S:=fun k=>k=A) ((Fr.ofBelow _ HBW.out).trans f1) f2 (fun k hk=>.inr (by rw [hk];exact GE.out.1)),?_⟩;rw [f2.block A (blk_lt a1) GE.out.2];exact a1
  have J2:=lh j2;clear hc f1 j1 e2' f2 j2 a1;go_wp2_with (refine wpl_store _ _ rfl (by simp [Act.eval]) (by simp [Act.eval]) hst ?_)
  refine bodyPost_ret (results_two rfl rfl rfl (load_var J2.out Tryz.underlying141 rfl size141)) rfl ?_;exact⟨rfl,HE.out.1,HE.out.2⟩
theorem refuse_f{P B q:Nat}{i r:Int}(cP:w.cell? ⟨P,0,none⟩=some (.pointer (some ⟨B,q,none⟩)))(h:Calls Tryz.prog 131 #[.pointer (some ⟨B,q,none⟩),.int .i64 i] w fun e w'=>e=.returned (.int .i64 r)/\Below w.heap.size w w'):Calls Tryz.prog 130 #[.int .i64 i,.pointer (some ⟨P,0,none⟩)] w fun e w'=>e=.returned (.int .i64 r)/\Below w.heap.size w w':=by
 go_enter Tryz.func130,Tryz.ntmps130;go_wp2_with fail
 refine h.mono ?_;rintro e w1 ⟨rfl,b1⟩;go_wp2;go_ret;exact⟨rfl,b1⟩
end
end Go.Proofs.YtkhehikaemdnnaaGreat
namespace Go.Proofs.YtkhehikaemdnnaaGreat
open Go.RowKit Go.Maps
section
variable {ρ : Operand -> Value} {X : World} {d : Option Tmp} {ty : TypeId} {ps : String} {af : Array Edge} {g : Option (Nat × Bool)}
theorem op_make1{f:FuncId}{x:Operand}{u:Value}(hm:∀ X:World,(Instr.makeFunc (.func f) #[] #[u]).run Tryz.prog X=.ok (.func (.func f) #[] #[u]) X)(e:ρ x=u):(execOp ρ ⟨d,.makeFunc (.func f) #[] #[x],ty,ps,af,g⟩).run Tryz.prog X=.ok (.value (.func (.func f) #[] #[u])) X:=by
 simp only [execOp];simp [e,hm]
theorem op_make2{f:FuncId}{x y:Operand}{u v:Value}(hm:∀ X:World,(Instr.makeFunc (.func f) #[] #[u,v]).run Tryz.prog X=.ok (.func (.func f) #[] #[u,v]) X)(e:ρ x=u)(e2:ρ y=v):(execOp ρ ⟨d,.makeFunc (.func f) #[] #[x,y],ty,ps,af,g⟩).run Tryz.prog X=.ok (.value (.func (.func f) #[] #[u,v])) X:=by
 simp only [execOp];simp [e,e2,hm]
theorem op_make3{f:FuncId}{x y z:Operand}{u v t:Value}(hm:∀ X:World,(Instr.makeFunc (.func f) #[] #[u,v,t]).run Tryz.prog X=.ok (.func (.func f) #[] #[u,v,t]) X)(e:ρ x=u)(e2:ρ y=v)(e3:ρ z=t):(execOp ρ ⟨d,.makeFunc (.func f) #[] #[x,y,z],ty,ps,af,g⟩).run Tryz.prog X=.ok (.value (.func (.func f) #[] #[u,v,t])) X:=by
 simp only [execOp];simp [e,e2,e3,hm]
theorem op_extract0{x:Operand}{u v:Value}(e:ρ x=.tuple #[u,v]):(execOp ρ ⟨d,.extract x 0,ty,ps,af,g⟩).run Tryz.prog X=.ok (.value u) X:=by
 simp only [execOp,e]
 go_simp
theorem op_extract1{x:Operand}{u v:Value}(e:ρ x=.tuple #[u,v]):(execOp ρ ⟨d,.extract x 1,ty,ps,af,g⟩).run Tryz.prog X=.ok (.value v) X:=by
 simp only [execOp,e]
 go_simp
theorem op_call5{f:FuncId}{x0 x1 x2 x3 x4:Operand}{v0 v1 v2 v3 v4:Value}{at':Array TypeId}(hf:∀ f,ρ (.func f)=.func (.func f) #[] #[])(hc:Sem.run Tryz.prog (callFunc f #[v0,v1,v2,v3,v4]) X=.ok (.enter f #[v0,v1,v2,v3,v4]) X)(e0:ρ x0=v0)(e1:ρ x1=v1)(e2:ρ x2=v2)(e3:ρ x3=v3)(e4:ρ x4=v4):(execOp ρ ⟨d,.call { callee:=.value (.func f),args:=#[x0,x1,x2,x3,x4],argTypes:=at' },ty,ps,af,g⟩).run Tryz.prog X=.ok (.enter f #[v0,v1,v2,v3,v4]) X:=by
 simp only [execOp];simp [resolve,hf,e0,e1,e2,e3,e4,Deferred.ofValue,invoke,hc]
end
structure Df (w:World) (B A:Nat) (s:Sc) (G:List Gt) (tv:Value):Prop where
 ob:w.heap[A]?=some (.cells (scA s tv) 30 (0,0))
 dr:Dr w B G tv
 tabs:G.map Prod.fst=s.tabs
 hA:B<=A
def ChAns(w:World)(B A:Nat)(s:Sc)(res:Except Int Sc)(e:Ending)(w':World):Prop:=match res with
 | .error er=>e=.returned (.int .i64 er)/\er≠0/\Below B w w'
 | .ok s'=>e=.returned (.int .i64 0)/\(∃ G' tv',Df w' B A ⟨s.ver,s'.last,s'.tabs⟩ G' tv')/\Below B w w'
theorem ChAns.intro_err{w:World}{B A:Nat}{s:Sc}{res:Except Int Sc}{er:Int}{w':World}(h:res=.error er)(hn:er≠0)(hb:Below B w w'):ChAns w B A s res (.returned (.int .i64 er)) w':=by
 rw [h];exact⟨rfl,hn,hb⟩
def erA{α:Type}(res:Except Int α):Int:=match res with
 | .error e=>e
 | .ok _=>0
def chA{α:Type}(f:List α->Bool->Sc)(res:Except Int (List α × Bool)):Except Int Sc:=match res with
 | .error e=>.error e
 | .ok (l,b)=>.ok (f l b)
def chD{α:Type}(f:List α->Sc)(res:Except Int (List α)):Except Int Sc:=match res with
 | .error e=>.error e
 | .ok l=>.ok (f l)
theorem set_take{α:Type}{l:List α}{i:Nat}(h:i<l.length)(y:α):l.take i ++ [y] ++ l.drop (i+1)=l.set i y:=by
 rw [List.set_eq_take_append_cons_drop,if_pos h];simp
theorem tab_row{w X:World}{G:List Gt}{TB cap:Nat}{cT:Array Value}{i j:Nat}{u:Value}{y:Gt}(h:w.ownsRow 0 64 5 (.slice (some ⟨TB,0,none⟩) G.length cap) G.length (G.flatMap gL))(hT:w.heap[TB]?=some (.cells cT 64 (0,0)))(hi:i<G.length)(hj:j<5)(hX:X.heap[TB]?=some (.cells (cT.setIfInBounds (i*5+j) u) 64 (0,0)))(hy:gL y=(gL G[i]).set j u):X.ownsRow 0 64 5 (.slice (some ⟨TB,0,none⟩) G.length cap) G.length ((G.set i y).flatMap gL):=by
 have h1:=row_setc h (i*5+j) u;rw [fl_set gL_len hi hj hy,set_take hi]at h1;refine own_like h1 (fun k hk=>?_);cases hk;rw [hX,set_blk hT]
def GC(V:World)(TB off Y:Nat)(cT:Array Value)(tp:Value)(er:Int)(Post:Value->World->Prop)(b1 b2:Bool)(X:World):Prop:=match b1,b2 with
 | false,_=>Below V.heap.size V X
 | true,false=>X.heap[TB]?=some (.cells cT 64 (0,0))/\X.cell? ⟨Y,0,none⟩=some tp
 | true,true=>∃ ad n cap X4,Post (.tuple #[.slice ad n cap,.int .i64 er]) X4/\Fr X4 X (fun k=>k=TB)/\X.heap[TB]?=some (.cells (cT.setIfInBounds off (.slice ad n cap)) 64 (0,0))
def RT(TB:Nat)(er:Int)(Post:Value->World->Prop)(v:Value)(X:World):Prop:=∃ ad n cap X4,v=.tuple #[.slice ad n cap,.int .i64 er]/\Post (.tuple #[.slice ad n cap,.int .i64 er]) X4/\Fr X4 X (fun k=>k=TB)
def RS(TB:Nat)(er:Int)(Post:Value->World->Prop)(v:Value)(X:World):Prop:=∃ ad n cap X4,v=.slice ad n cap/\Post (.tuple #[.slice ad n cap,.int .i64 er]) X4/\Fr X4 X (fun k=>k=TB)
theorem RT.go{TB:Nat}{er:Int}{Post:Value->World->Prop}{v:Value}{X X':World}(h:RT TB er Post v X)(k:Fr X X' (fun k=>k=TB)):RT TB er Post v X':=by
 obtain⟨a,n,c,X4,e,p,f⟩:=h;exact⟨a,n,c,X4,e,p,f.trans k⟩
theorem RS.go{TB:Nat}{er:Int}{Post:Value->World->Prop}{v:Value}{X X':World}(h:RS TB er Post v X)(k:Fr X X' (fun k=>k=TB)):RS TB er Post v X':=by
 obtain⟨a,n,c,X4,e,p,f⟩:=h;exact⟨a,n,c,X4,e,p,f.trans k⟩
theorem GC.early{V X:World}{TB off Y:Nat}{cT:Array Value}{tp:Value}{er:Int}{Post:Value->World->Prop}{b1 b2:Bool}(h:GC V TB off Y cT tp er Post b1 b2 X)(e:b1=false):Below V.heap.size V X:=by
 subst e;exact h
theorem GC.box{V X:World}{TB off Y:Nat}{cT:Array Value}{tp:Value}{er:Int}{Post:Value->World->Prop}{b1 b2:Bool}(h:GC V TB off Y cT tp er Post b1 b2 X)(e:b2=false)(hY:V.cell? ⟨Y,0,none⟩=some tp):X.cell? ⟨Y,0,none⟩=some tp:=by
 subst e;cases b1 with
 | false=>exact cell_on h hY
 | true=>exact h.2
theorem GC.blk{V X:World}{TB off Y:Nat}{cT:Array Value}{tp:Value}{er:Int}{Post:Value->World->Prop}{b1 b2:Bool}(h:GC V TB off Y cT tp er Post b1 b2 X)(e1:b1=true)(e2:b2=false):X.heap[TB]?=some (.cells cT 64 (0,0)):=by
 subst e1 e2;exact h.1
end Go.Proofs.YtkhehikaemdnnaaGreat
