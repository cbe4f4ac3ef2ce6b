import Derived.Test.YtkhehikaemdnnaaGreatQBw
namespace Go.Proofs.YtkhehikaemdnnaaGreat
set_option maxRecDepth 100000
set_option maxHeartbeats 2000000
open Go.RowKit Go.Maps
def AddAns{α:Type}(L:α->List Value)(T:TypeId)(c:Nat)(w:World)(A:Nat)(s:Sc)(tv v:Value)(res:Except Int (List α × Bool))(e:Ending)(w':World):Prop:=match res with
 | .error er=>∃ ad n cap,e=.returned (.tuple #[.slice ad n cap,.int .i64 er])/\er≠0/\Fr w w' (fun k=>k=A\/v.ownBlock=some k)
 | .ok (l',b)=>∃ ad n cap,e=.returned (.tuple #[.slice ad n cap,.int .i64 0])/\n=l'.length/\w'.ownsRow 0 T c (.slice ad n cap) l'.length (l'.flatMap L)/\Fr w w' (fun k=>k=A\/v.ownBlock=some k)/\(∀ k,(Value.slice ad n cap).ownBlock=some k->v.ownBlock=some k\/w.heap.size<=k)/\w'.heap[A]?=some (.cells (scA (if b then { s with last:=s.last+1 } else s) tv) 30 (0,0))
theorem findIdx_fidx{α:Type}(p:α->Bool)(L:List α):(fidx p L=-1/\L.findIdx? p=none)\/∃ (i:Nat) (h:i<L.length),fidx p L=(i:Int)/\L.findIdx? p=some i/\p L[i]=true:=by
 unfold fidx;cases h:L.findIdx? p with
 | none=>exact .inl ⟨rfl,rfl⟩
 | some i =>
  obtain⟨hi,hp,_⟩:=List.findIdx?_eq_some_iff_getElem.1 h;exact .inr ⟨i,hi,rfl,rfl,hp⟩
theorem setAt_snoc{α:Type}{st:Int}(hs:st≠0)(f:α->α)(l:List α)(x:α):setAt st l.length f (l ++ [x])=l ++ [f x]:=by
 rw [setAt_ne hs f (by simp)];simp
theorem results_slot2{fn:Func}{t u:Tmp}{v x:Value}{tmps:Array Value}{w:World}(h:fn.results=#[.tmp t,.tmp u])(ha:tmps.getD t undef=v)(hu:tmps.getD u undef=x):(results fn tmps).run Tryz.prog w=.ok (.tuple #[v,x]) w:=by
 have ha2:tmps[t]?.getD undef=v:=by simpa using ha
 have hu2:tmps[u]?.getD undef=x:=by simpa using hu
 simp [results,h,ha2,hu2]
def addN{α:Type}(put:Int->α->α)(l:List α)(st:Int)(new:Except Int α):Except Int (List α × Bool):=match new with
 | .error e=>.error e
 | .ok x=>if st=0 then .error 1 else .ok (l ++ [put st x],true)
theorem addL_none{α:Type}{nm:α->ByteArray}{stt:α->Int}{put:Int->α->α}{l:List α}{name:ByteArray}{st:Int}{new:Except Int α}(h:l.findIdx? (fun x=>decide (nm x=name))=none):addL nm stt put l name st new=if nameB name=false then .error 100 else if l.length=8 then .error 156 else addN put l st new:=by
 unfold addL;rw [h];rfl
theorem addL_some{α:Type}{nm:α->ByteArray}{stt:α->Int}{put:Int->α->α}{l:List α}{name:ByteArray}{st:Int}{new:Except Int α}{i:Nat}(hi:i<l.length)(h:l.findIdx? (fun x=>decide (nm x=name))=some i):addL nm stt put l name st new=if stt l[i]=3 then .error 152 else .ok (setAt st i (put st) l,false):=by
 unfold addL;rw [h];show(if (l[i]?.map stt)=some 3 then _ else _)=_
 rw [List.getElem?_eq_getElem hi];simp only [Option.map_some,Option.some.injEq]
section
variable {w : World}
theorem addC_any{A:Nat}{s:Sc}{tv v:Value}{l:List Col}{name:ByteArray}{st:Int}{f:FuncId}{cs:Array Value}{new:Except Int Col}(hv:w.ownsRow 0 56 7 v l.length (l.flatMap colL))(hA:w.heap[A]?=some (.cells (scA s tv) 30 (0,0)))(hz:l.length<=8)(hgo:Goes f)(hf:∀ X,Below w.heap.size w X->Calls Tryz.prog f cs X (NewAns colA X A s tv new)):
  Calls Tryz.prog 117 #[v,.string name,.int .i64 st,.func (.func 118) #[] #[],.func (.func f) #[] cs] w (AddAns colL 56 7 w A s tv v (addL Col.nm Col.st putC l name st new)):=by
 have hcall:=namedC_any name (Lr.own colL_len hv);have HV:=lh hv;have HA:=lh hA;have HZ:=lh hz;have HF:=lh hf;obtain⟨ad,cap,hsh⟩:=own_shape hv;subst hsh;have HP:=lh (findIdx_fidx (fun x:Col=>decide (x.nm=name)) l);obtain⟨fi,hfi⟩:∃ fi,fidx (fun x:Col=>decide (x.nm=name)) l=fi:=⟨_,rfl⟩
 rw [hfi]at hcall HP;have hAlt:=blk_lt hA;have hfrA:∀ X,Below w.heap.size w X->Fr w X (fun k=>k=A\/(Value.slice ad l.length cap).ownBlock=some k):=fun X q=>Fr.ofBelow _ q;have HFR:=lh hfrA;have hAv:(Value.slice ad l.length cap).ownBlock≠some A:=fun q=>by
  obtain⟨cs',tg⟩:=own_tag hv A q;rw [hA]at tg;simp only [Option.some.injEq,Obj.cells.injEq]at tg;exact absurd tg.2.1 (by decide)
 have HAV:=lh hAv;clear hfi hv hA hz hf hAlt hfrA hAv;go_enter Tryz.func117,Tryz.ntmps117;go_upto_region 2 with (go_at_call 163;refine hcall.mono ?_;rintro e w1 ⟨rfl,b1⟩;refine Hid.out ?_)
 refine lh ?_;have B1:=lh b1;have A1:Hid (w1.heap[A]?=some (.cells (scA s tv) 30 (0,0))):=(b1.block A (blk_lt HA.out)).trans HA.out;have V1:=lh (own_below HV.out b1);clear hcall b1;rcases HP.out with⟨rfl,hfd⟩ | ⟨i,hi,rfl,hfd,_⟩
 ·have HFD:=lh hfd;clear hfd;have hname:=name_any (w:=w1) name;cases q1:nameB name with
  | false =>
   rw [q1]at hname;have HR:Hid (addL Col.nm Col.st putC l name st new=.error 100):=by rw [addL_none HFD.out];exact lh (if_pos q1)
   clear q1;go_wp2_with (go_at_call 100;refine hname.mono ?_;rintro e w2 ⟨rfl,rfl⟩)
   refine bodyPost_ret (results_slot2 rfl rfl rfl) rfl ?_;rw [HR.out];exact⟨_,_,_,rfl,by decide,HFR.out _ B1.out⟩
  | true =>
   rw [q1]at hname;have HQ1:=lh q1;clear q1;by_cases q2:l.length=8
   ·have HR:Hid (addL Col.nm Col.st putC l name st new=.error 156):=by rw [addL_none HFD.out,if_neg (by rw [HQ1.out];decide)];exact lh (if_pos q2)
    have q2':(l.length:Int)=8:=by omega
    clear q2;go_wp2_with (go_at_call 100;refine hname.mono ?_;rintro e w2 ⟨rfl,rfl⟩)
    refine bodyPost_ret (results_slot2 rfl rfl rfl) rfl ?_;rw [HR.out];exact⟨_,_,_,rfl,by decide,HFR.out _ B1.out⟩
   ·have q2':¬ (l.length:Int)=8:=by omega
    have HN2:Hid (addL Col.nm Col.st putC l name st new=addN putC l st new):=by rw [addL_none HFD.out,if_neg (by rw [HQ1.out];decide)];exact lh (if_neg q2)
    have hnew:=HF.out w1 B1.out;clear q2;go_upto_region 10 with (go_at_call 100;refine hname.mono ?_;rintro e w2 ⟨rfl,rfl⟩)
    clear hname;cases new with
    | error er =>
     have HR:Hid (addL Col.nm Col.st putC l name st (.error er)=.error er):=HN2.out;go_wp2_with fail
     refine hnew.mono ?_;rintro e w3 ⟨z,rfl,hne,b3⟩;have HX:=lh (And.intro hne b3);have hnz:¬ er=0:=hne;clear hnew b3 hne;go_wp2;refine bodyPost_ret (results_slot2 rfl rfl rfl) rfl ?_;rw [HR.out];exact⟨_,_,_,rfl,HX.out.1,(HFR.out _ (bgo B1.out HX.out.2)).alloc _⟩
    | ok x =>
     go_wp2_with fail
     refine hnew.mono ?_;rintro e w3 ⟨rfl,f3,a3⟩;have F3:=lh f3;have A3:=lh a3;clear hnew f3 a3;by_cases q3:st=0
     ·have HR:Hid (addL Col.nm Col.st putC l name st (.ok x)=.error 1):=by rw [HN2.out];exact lh (if_pos q3)
      subst q3;go_wp2;refine bodyPost_ret (results_slot2 rfl rfl rfl) rfl ?_;rw [HR.out];exact⟨_,_,_,rfl,by decide,((HFR.out _ B1.out).trans (F3.out.mono (fun k hk=>.inl hk))).alloc _⟩
     ·have HR:Hid (addL Col.nm Col.st putC l name st (.ok x)=.ok (l ++ [putC st x],true)):=by rw [HN2.out];exact lh (if_neg q3)
      obtain⟨X1,hX1⟩:∃ X1,X1=w3.alloc (.cells (colA x) 56):=⟨_,rfl⟩
      have bX:Below w3.heap.size w3 X1:=by rw [hX1];exact bnew _ _
      have v3:w3.ownsRow 0 56 7 (.slice ad l.length cap) l.length (l.flatMap colL):=row_keep V1.out F3.out (fun k hk q=>HAV.out (by rw [<-q];exact hk));obtain⟨ad2,cap2,X2,hrun,r1,r2,r3⟩:=pushC (own_below v3 bX) x (by have:=HZ.out;omega);obtain⟨g,hg⟩:∃ g,ad2=some ⟨g,0,none⟩:=by
       rcases r1.2 with⟨hv',_⟩ | ⟨g,cap',cur,hv',_⟩
       ·simp at hv'
       ·simp only [Value.slice.injEq]at hv';exact⟨g,hv'.1⟩
      subst hg;have hll:(l ++ [x]).length=l.length+1:=by simp
      rw [hll]at r1;have r1':X2.ownsRow 0 56 7 (.slice (some ⟨g,0,none⟩) (l ++ [x]).length cap2) (l ++ [x]).length ((l ++ [x]).flatMap colL):=by rw [hll];exact r1
      have hset:=setC_any (i:=l.length) r1' (by rw [hll];omega) st;rw [setAt_snoc q3,hll]at hset;have hX2:Fr w X2 (fun k=>k=A\/(Value.slice ad l.length cap).ownBlock=some k):=(((HFR.out _ B1.out).trans (F3.out.mono (fun k hk=>.inl hk))).below bX).trans (r2.mono (fun k hk=>.inr hk));have HX2:=lh hX2;have HW3:Hid (w.heap.size<=X1.heap.size):=lh (Nat.le_trans B1.out.size (Nat.le_trans F3.out.size bX.size));have R3:=lh r3;have AX2:Hid (X2.heap[A]?=some (.cells (scA { s with last:=s.last+1 } tv) 30 (0,0))):=by
       have q:=(bX.block A (blk_lt A3.out)).trans A3.out;rw [r2.block A (blk_lt q) HAV.out];exact q
      have HGA:Hid (g≠A):=by
       obtain⟨cur,hg',_⟩:=row_blk r1;intro z;rw [z,AX2.out]at hg';simp only [Option.some.injEq,Obj.cells.injEq]at hg';exact absurd hg'.2.1 (by decide)
      rw [hX1]at hrun;have q3':¬ st=0:=q3;have hmx:(l.length:Int)<=9223372036854775807:=by have:=HZ.out;omega
      clear r1 r1' r2 r3 hll hX2 v3 bX hX1 q3;go_wp2_with (first|(at_builtin;refine wpl_run2 _ _ rfl (by simp [Act.eval]) (by simp [Act.eval]) hrun ?_)|(go_at_call 164;refine hset.mono ?_;rintro e w4 ⟨m,rfl,o4,hm,f4⟩;have HM:=lh hm;clear hm;refine Hid.out ?_))
      refine lh ?_;have O4:=lh o4;have F4:=lh f4;clear hset o4 f4;go_wp2;refine bodyPost_ret (results_slot2 rfl rfl rfl) rfl ?_;rw [HR.out];refine⟨_,_,_,rfl,HM.out,O4.out,Fr.step (S:=fun k=>k=A\/(Value.slice ad l.length cap).ownBlock=some k) HX2.out F4.out (fun k hk=>?_),fun k hk=>?_,?_⟩
      ·rcases R3.out k (by rw [hk];rfl)with z | z
       ·exact .inl (.inr z)
       ·exact .inr (Nat.le_trans HW3.out z)
      ·rcases R3.out k hk with z | z
       ·exact .inl z
       ·exact .inr (Nat.le_trans HW3.out z)
      ·rw [F4.out.block A (blk_lt AX2.out) (fun z=>HGA.out z.symm)];exact AX2.out
 ·obtain⟨g,hg⟩:∃ g,ad=some ⟨g,0,none⟩:=by
   rcases HV.out.2 with⟨hv',h0⟩ | ⟨g,cap',cur,hv',_⟩
   ·omega
   ·simp only [Value.slice.injEq]at hv';exact⟨g,hv'.1⟩
  subst hg;have hge:(0:Int)<=(i:Int):=by omega
  have k1:(i:Int)<(l.length:Int):=by omega
  obtain⟨x,hx⟩:∃ x,l[i]'hi=x:=⟨_,rfl⟩
  obtain⟨_,_,e',_,_,_,hX⟩:=Lr.own colL_len V1.out;cases e';obtain⟨b,p,cs1,e2,hbl,hE,_,hcell⟩:=hX i hi;cases e2;cases hE;rw [hx]at hcell;simp only [Nat.zero_add]at hcell;have hof:=ofC_any (w:=w1) (B:=g) (q:=i*7) (x:=x) ⟨_,rfl,hcell⟩;have cst:w1.cell? ⟨g,i*7+3,none⟩=some (.int .i64 x.st):=hcell 3 _ rfl;have CST:=lh cst;have hfdd:=field156_2;have HR0:Hid (addL Col.nm Col.st putC l name st new=if x.st=3 then .error 152 else .ok (setAt st i (putC st) l,false)):=by
   rw [addL_some hi hfd,hx];exact lh rfl
  clear hfd hX hcell hbl hx cst;go_upto_region 3 with fail
  go_wp2_with (go_at_call 118;refine hof.mono ?_;rintro e w2 ⟨rfl,b2⟩;have c2:=cell_on b2 CST.out;refine Hid.out ?_)
  refine lh ?_;have B2:=lh (bgo B1.out b2);have A2:Hid (w2.heap[A]?=some (.cells (scA s tv) 30 (0,0))):=(b2.block A (blk_lt A1.out)).trans A1.out;have hset:=setC_any (own_below V1.out b2) hi st;clear hof b2;by_cases q3:x.st=3
  ·have HR:Hid (addL Col.nm Col.st putC l name st new=.error 152):=by rw [HR0.out];exact lh (if_pos q3)
   rw [q3]at c2;clear hset q3;go_wp2;refine bodyPost_ret (results_slot2 rfl rfl rfl) rfl ?_;rw [HR.out];exact⟨_,_,_,rfl,by decide,HFR.out _ B2.out⟩
  ·have HR:Hid (addL Col.nm Col.st putC l name st new=.ok (setAt st i (putC st) l,false)):=by rw [HR0.out];exact lh (if_neg q3)
   have HGA:Hid (g≠A):=by
    obtain⟨cur,hg',_⟩:=row_blk V1.out;intro z;rw [z,A1.out]at hg';simp only [Option.some.injEq,Obj.cells.injEq]at hg';exact absurd hg'.2.1 (by decide)
   go_wp2_with (go_at_call 164;refine hset.mono ?_;rintro e w4 ⟨m,rfl,o4,hm,f4⟩;have HM:=lh hm;clear hm;refine Hid.out ?_)
   refine lh ?_;have O4:=lh o4;have F4:=lh f4;clear hset o4 f4;go_wp2;refine bodyPost_ret (results_slot2 rfl rfl rfl) rfl ?_;rw [HR.out];refine⟨_,_,_,rfl,HM.out,O4.out,(HFR.out _ B2.out).trans (F4.out.mono (fun k hk=>.inr (by rw [hk];rfl))),fun k hk=>.inl hk,?_⟩;rw [F4.out.block A (blk_lt A2.out) (fun z=>HGA.out z.symm)];exact A2.out
theorem addI_any{A:Nat}{s:Sc}{tv v:Value}{l:List Ix}{name:ByteArray}{st:Int}{f:FuncId}{cs:Array Value}{new:Except Int Ix}(hv:w.ownsRow 0 138 5 v l.length (l.flatMap ixL))(hA:w.heap[A]?=some (.cells (scA s tv) 30 (0,0)))(hz:l.length<=8)(hgo:Goes f)(hf:∀ X,Below w.heap.size w X->Calls Tryz.prog f cs X (NewAns ixA X A s tv new)):
  Calls Tryz.prog 121 #[v,.string name,.int .i64 st,.func (.func 122) #[] #[],.func (.func f) #[] cs] w (AddAns ixL 138 5 w A s tv v (addL Ix.nm Ix.st putI l name st new)):=by
 have hcall:=namedI_any name (Lr.own ixL_len hv);have HV:=lh hv;have HA:=lh hA;have HZ:=lh hz;have HF:=lh hf;obtain⟨ad,cap,hsh⟩:=own_shape hv;subst hsh;have HP:=lh (findIdx_fidx (fun x:Ix=>decide (x.nm=name)) l);obtain⟨fi,hfi⟩:∃ fi,fidx (fun x:Ix=>decide (x.nm=name)) l=fi:=⟨_,rfl⟩
 rw [hfi]at hcall HP;have hAlt:=blk_lt hA;have hfrA:∀ X,Below w.heap.size w X->Fr w X (fun k=>k=A\/(Value.slice ad l.length cap).ownBlock=some k):=fun X q=>Fr.ofBelow _ q;have HFR:=lh hfrA;have hAv:(Value.slice ad l.length cap).ownBlock≠some A:=fun q=>by
  obtain⟨cs',tg⟩:=own_tag hv A q;rw [hA]at tg;simp only [Option.some.injEq,Obj.cells.injEq]at tg;exact absurd tg.2.1 (by decide)
 have HAV:=lh hAv;clear hfi hv hA hz hf hAlt hfrA hAv;go_enter Tryz.func121,Tryz.ntmps121;go_upto_region 2 with (go_at_call 165;refine hcall.mono ?_;rintro e w1 ⟨rfl,b1⟩;refine Hid.out ?_)
 refine lh ?_;have B1:=lh b1;have A1:Hid (w1.heap[A]?=some (.cells (scA s tv) 30 (0,0))):=(b1.block A (blk_lt HA.out)).trans HA.out;have V1:=lh (own_below HV.out b1);clear hcall b1;rcases HP.out with⟨rfl,hfd⟩ | ⟨i,hi,rfl,hfd,_⟩
 ·have HFD:=lh hfd;clear hfd;have hname:=name_any (w:=w1) name;cases q1:nameB name with
  | false =>
   rw [q1]at hname;have HR:Hid (addL Ix.nm Ix.st putI l name st new=.error 100):=by rw [addL_none HFD.out];exact lh (if_pos q1)
   clear q1;go_wp2_with (go_at_call 100;refine hname.mono ?_;rintro e w2 ⟨rfl,rfl⟩)
   refine bodyPost_ret (results_slot2 rfl rfl rfl) rfl ?_;rw [HR.out];exact⟨_,_,_,rfl,by decide,HFR.out _ B1.out⟩
  | true =>
   rw [q1]at hname;have HQ1:=lh q1;clear q1;by_cases q2:l.length=8
   ·have HR:Hid (addL Ix.nm Ix.st putI l name st new=.error 156):=by rw [addL_none HFD.out,if_neg (by rw [HQ1.out];decide)];exact lh (if_pos q2)
    have q2':(l.length:Int)=8:=by omega
    clear q2;go_wp2_with (go_at_call 100;refine hname.mono ?_;rintro e w2 ⟨rfl,rfl⟩)
    refine bodyPost_ret (results_slot2 rfl rfl rfl) rfl ?_;rw [HR.out];exact⟨_,_,_,rfl,by decide,HFR.out _ B1.out⟩
   ·have q2':¬ (l.length:Int)=8:=by omega
    have HN2:Hid (addL Ix.nm Ix.st putI l name st new=addN putI l st new):=by rw [addL_none HFD.out,if_neg (by rw [HQ1.out];decide)];exact lh (if_neg q2)
    have hnew:=HF.out w1 B1.out;clear q2;go_upto_region 10 with (go_at_call 100;refine hname.mono ?_;rintro e w2 ⟨rfl,rfl⟩)
    clear hname;cases new with
    | error er =>
     have HR:Hid (addL Ix.nm Ix.st putI l name st (.error er)=.error er):=HN2.out;go_wp2_with fail
     refine hnew.mono ?_;rintro e w3 ⟨z,rfl,hne,b3⟩;have HX:=lh (And.intro hne b3);have hnz:¬ er=0:=hne;clear hnew b3 hne;go_wp2;refine bodyPost_ret (results_slot2 rfl rfl rfl) rfl ?_;rw [HR.out];exact⟨_,_,_,rfl,HX.out.1,(HFR.out _ (bgo B1.out HX.out.2)).alloc _⟩
    | ok x =>
     go_wp2_with fail
     refine hnew.mono ?_;rintro e w3 ⟨rfl,f3,a3⟩;have F3:=lh f3;have A3:=lh a3;clear hnew f3 a3;by_cases q3:st=0
     ·have HR:Hid (addL Ix.nm Ix.st putI l name st (.ok x)=.error 1):=by rw [HN2.out];exact lh (if_pos q3)
      subst q3;go_wp2;refine bodyPost_ret (results_slot2 rfl rfl rfl) rfl ?_;rw [HR.out];exact⟨_,_,_,rfl,by decide,((HFR.out _ B1.out).trans (F3.out.mono (fun k hk=>.inl hk))).alloc _⟩
     ·have HR:Hid (addL Ix.nm Ix.st putI l name st (.ok x)=.ok (l ++ [putI st x],true)):=by rw [HN2.out];exact lh (if_neg q3)
      obtain⟨X1,hX1⟩:∃ X1,X1=w3.alloc (.cells (ixA x) 138):=⟨_,rfl⟩
      have bX:Below w3.heap.size w3 X1:=by rw [hX1];exact bnew _ _
      have v3:w3.ownsRow 0 138 5 (.slice ad l.length cap) l.length (l.flatMap ixL):=row_keep V1.out F3.out (fun k hk q=>HAV.out (by rw [<-q];exact hk));obtain⟨ad2,cap2,X2,hrun,r1,r2,r3⟩:=pushI (own_below v3 bX) x (by have:=HZ.out;omega);obtain⟨g,hg⟩:∃ g,ad2=some ⟨g,0,none⟩:=by
       rcases r1.2 with⟨hv',_⟩ | ⟨g,cap',cur,hv',_⟩
       ·simp at hv'
       ·simp only [Value.slice.injEq]at hv';exact⟨g,hv'.1⟩
      subst hg;have hll:(l ++ [x]).length=l.length+1:=by simp
      rw [hll]at r1;have r1':X2.ownsRow 0 138 5 (.slice (some ⟨g,0,none⟩) (l ++ [x]).length cap2) (l ++ [x]).length ((l ++ [x]).flatMap ixL):=by rw [hll];exact r1
      have hset:=setI_any (i:=l.length) r1' (by rw [hll];omega) st;rw [setAt_snoc q3,hll]at hset;have hX2:Fr w X2 (fun k=>k=A\/(Value.slice ad l.length cap).ownBlock=some k):=(((HFR.out _ B1.out).trans (F3.out.mono (fun k hk=>.inl hk))).below bX).trans (r2.mono (fun k hk=>.inr hk));have HX2:=lh hX2;have HW3:Hid (w.heap.size<=X1.heap.size):=lh (Nat.le_trans B1.out.size (Nat.le_trans F3.out.size bX.size));have R3:=lh r3;have AX2:Hid (X2.heap[A]?=some (.cells (scA { s with last:=s.last+1 } tv) 30 (0,0))):=by
       have q:=(bX.block A (blk_lt A3.out)).trans A3.out;rw [r2.block A (blk_lt q) HAV.out];exact q
      have HGA:Hid (g≠A):=by
       obtain⟨cur,hg',_⟩:=row_blk r1;intro z;rw [z,AX2.out]at hg';simp only [Option.some.injEq,Obj.cells.injEq]at hg';exact absurd hg'.2.1 (by decide)
      rw [hX1]at hrun;have q3':¬ st=0:=q3;have hmx:(l.length:Int)<=9223372036854775807:=by have:=HZ.out;omega
      clear r1 r1' r2 r3 hll hX2 v3 bX hX1 q3;go_wp2_with (first|(at_builtin;refine wpl_run2 _ _ rfl (by simp [Act.eval]) (by simp [Act.eval]) hrun ?_)|(go_at_call 166;refine hset.mono ?_;rintro e w4 ⟨m,rfl,o4,hm,f4⟩;have HM:=lh hm;clear hm;refine Hid.out ?_))
      refine lh ?_;have O4:=lh o4;have F4:=lh f4;clear hset o4 f4;go_wp2;refine bodyPost_ret (results_slot2 rfl rfl rfl) rfl ?_;rw [HR.out];refine⟨_,_,_,rfl,HM.out,O4.out,Fr.step (S:=fun k=>k=A\/(Value.slice ad l.length cap).ownBlock=some k) HX2.out F4.out (fun k hk=>?_),fun k hk=>?_,?_⟩
      ·rcases R3.out k (by rw [hk];rfl)with z | z
       ·exact .inl (.inr z)
       ·exact .inr (Nat.le_trans HW3.out z)
      ·rcases R3.out k hk with z | z
       ·exact .inl z
       ·exact .inr (Nat.le_trans HW3.out z)
      ·rw [F4.out.block A (blk_lt AX2.out) (fun z=>HGA.out z.symm)];exact AX2.out
 ·obtain⟨g,hg⟩:∃ g,ad=some ⟨g,0,none⟩:=by
   rcases HV.out.2 with⟨hv',h0⟩ | ⟨g,cap',cur,hv',_⟩
   ·omega
   ·simp only [Value.slice.injEq]at hv';exact⟨g,hv'.1⟩
  subst hg;have hge:(0:Int)<=(i:Int):=by omega
  have k1:(i:Int)<(l.length:Int):=by omega
  obtain⟨x,hx⟩:∃ x,l[i]'hi=x:=⟨_,rfl⟩
  obtain⟨_,_,e',_,_,_,hX⟩:=Lr.own ixL_len V1.out;cases e';obtain⟨b,p,cs1,e2,hbl,hE,_,hcell⟩:=hX i hi;cases e2;cases hE;rw [hx]at hcell;simp only [Nat.zero_add]at hcell;have hof:=ofI_any (w:=w1) (B:=g) (q:=i*5) (x:=x) ⟨_,rfl,hcell⟩;have cst:w1.cell? ⟨g,i*5+4,none⟩=some (.int .i64 x.st):=hcell 4 _ rfl;have CST:=lh cst;have hfdd:=field156_2;have HR0:Hid (addL Ix.nm Ix.st putI l name st new=if x.st=3 then .error 152 else .ok (setAt st i (putI st) l,false)):=by
   rw [addL_some hi hfd,hx];exact lh rfl
  clear hfd hX hcell hbl hx cst;go_upto_region 3 with fail
  go_wp2_with (go_at_call 122;refine hof.mono ?_;rintro e w2 ⟨rfl,b2⟩;have c2:=cell_on b2 CST.out;refine Hid.out ?_)
  refine lh ?_;have B2:=lh (bgo B1.out b2);have A2:Hid (w2.heap[A]?=some (.cells (scA s tv) 30 (0,0))):=(b2.block A (blk_lt A1.out)).trans A1.out;have hset:=setI_any (own_below V1.out b2) hi st;clear hof b2;by_cases q3:x.st=3
  ·have HR:Hid (addL Ix.nm Ix.st putI l name st new=.error 152):=by rw [HR0.out];exact lh (if_pos q3)
   rw [q3]at c2;clear hset q3;go_wp2;refine bodyPost_ret (results_slot2 rfl rfl rfl) rfl ?_;rw [HR.out];exact⟨_,_,_,rfl,by decide,HFR.out _ B2.out⟩
  ·have HR:Hid (addL Ix.nm Ix.st putI l name st new=.ok (setAt st i (putI st) l,false)):=by rw [HR0.out];exact lh (if_neg q3)
   have HGA:Hid (g≠A):=by
    obtain⟨cur,hg',_⟩:=row_blk V1.out;intro z;rw [z,A1.out]at hg';simp only [Option.some.injEq,Obj.cells.injEq]at hg';exact absurd hg'.2.1 (by decide)
   go_wp2_with (go_at_call 166;refine hset.mono ?_;rintro e w4 ⟨m,rfl,o4,hm,f4⟩;have HM:=lh hm;clear hm;refine Hid.out ?_)
   refine lh ?_;have O4:=lh o4;have F4:=lh f4;clear hset o4 f4;go_wp2;refine bodyPost_ret (results_slot2 rfl rfl rfl) rfl ?_;rw [HR.out];refine⟨_,_,_,rfl,HM.out,O4.out,(HFR.out _ B2.out).trans (F4.out.mono (fun k hk=>.inr (by rw [hk];rfl))),fun k hk=>.inl hk,?_⟩;rw [F4.out.block A (blk_lt A2.out) (fun z=>HGA.out z.symm)];exact A2.out
theorem addK_any{A:Nat}{s:Sc}{tv v:Value}{l:List Fk}{name:ByteArray}{st:Int}{f:FuncId}{cs:Array Value}{new:Except Int Fk}(hv:w.ownsRow 0 141 5 v l.length (l.flatMap fkL))(hA:w.heap[A]?=some (.cells (scA s tv) 30 (0,0)))(hz:l.length<=8)(hgo:Goes f)(hf:∀ X,Below w.heap.size w X->Calls Tryz.prog f cs X (NewAns fkA X A s tv new)):
  Calls Tryz.prog 125 #[v,.string name,.int .i64 st,.func (.func 126) #[] #[],.func (.func f) #[] cs] w (AddAns fkL 141 5 w A s tv v (addL Fk.nm Fk.st putK l name st new)):=by
 have hcall:=namedK_any name (Lr.own fkL_len hv);have HV:=lh hv;have HA:=lh hA;have HZ:=lh hz;have HF:=lh hf;obtain⟨ad,cap,hsh⟩:=own_shape hv;subst hsh;have HP:=lh (findIdx_fidx (fun x:Fk=>decide (x.nm=name)) l);obtain⟨fi,hfi⟩:∃ fi,fidx (fun x:Fk=>decide (x.nm=name)) l=fi:=⟨_,rfl⟩
 rw [hfi]at hcall HP;have hAlt:=blk_lt hA;have hfrA:∀ X,Below w.heap.size w X->Fr w X (fun k=>k=A\/(Value.slice ad l.length cap).ownBlock=some k):=fun X q=>Fr.ofBelow _ q;have HFR:=lh hfrA;have hAv:(Value.slice ad l.length cap).ownBlock≠some A:=fun q=>by
  obtain⟨cs',tg⟩:=own_tag hv A q;rw [hA]at tg;simp only [Option.some.injEq,Obj.cells.injEq]at tg;exact absurd tg.2.1 (by decide)
 have HAV:=lh hAv;clear hfi hv hA hz hf hAlt hfrA hAv;go_enter Tryz.func125,Tryz.ntmps125;go_upto_region 2 with (go_at_call 168;refine hcall.mono ?_;rintro e w1 ⟨rfl,b1⟩;refine Hid.out ?_)
 refine lh ?_;have B1:=lh b1;have A1:Hid (w1.heap[A]?=some (.cells (scA s tv) 30 (0,0))):=(b1.block A (blk_lt HA.out)).trans HA.out;have V1:=lh (own_below HV.out b1);clear hcall b1;rcases HP.out with⟨rfl,hfd⟩ | ⟨i,hi,rfl,hfd,_⟩
 ·have HFD:=lh hfd;clear hfd;have hname:=name_any (w:=w1) name;cases q1:nameB name with
  | false =>
   rw [q1]at hname;have HR:Hid (addL Fk.nm Fk.st putK l name st new=.error 100):=by rw [addL_none HFD.out];exact lh (if_pos q1)
   clear q1;go_wp2_with (go_at_call 100;refine hname.mono ?_;rintro e w2 ⟨rfl,rfl⟩)
   refine bodyPost_ret (results_slot2 rfl rfl rfl) rfl ?_;rw [HR.out];exact⟨_,_,_,rfl,by decide,HFR.out _ B1.out⟩
  | true =>
   rw [q1]at hname;have HQ1:=lh q1;clear q1;by_cases q2:l.length=8
   ·have HR:Hid (addL Fk.nm Fk.st putK l name st new=.error 156):=by rw [addL_none HFD.out,if_neg (by rw [HQ1.out];decide)];exact lh (if_pos q2)
    have q2':(l.length:Int)=8:=by omega
    clear q2;go_wp2_with (go_at_call 100;refine hname.mono ?_;rintro e w2 ⟨rfl,rfl⟩)
    refine bodyPost_ret (results_slot2 rfl rfl rfl) rfl ?_;rw [HR.out];exact⟨_,_,_,rfl,by decide,HFR.out _ B1.out⟩
   ·have q2':¬ (l.length:Int)=8:=by omega
    have HN2:Hid (addL Fk.nm Fk.st putK l name st new=addN putK l st new):=by rw [addL_none HFD.out,if_neg (by rw [HQ1.out];decide)];exact lh (if_neg q2)
    have hnew:=HF.out w1 B1.out;clear q2;go_upto_region 10 with (go_at_call 100;refine hname.mono ?_;rintro e w2 ⟨rfl,rfl⟩)
    clear hname;cases new with
    | error er =>
     have HR:Hid (addL Fk.nm Fk.st putK l name st (.error er)=.error er):=HN2.out;go_wp2_with fail
     refine hnew.mono ?_;rintro e w3 ⟨z,rfl,hne,b3⟩;have HX:=lh (And.intro hne b3);have hnz:¬ er=0:=hne;clear hnew b3 hne;go_wp2;refine bodyPost_ret (results_slot2 rfl rfl rfl) rfl ?_;rw [HR.out];exact⟨_,_,_,rfl,HX.out.1,(HFR.out _ (bgo B1.out HX.out.2)).alloc _⟩
    | ok x =>
     go_wp2_with fail
     refine hnew.mono ?_;rintro e w3 ⟨rfl,f3,a3⟩;have F3:=lh f3;have A3:=lh a3;clear hnew f3 a3;by_cases q3:st=0
     ·have HR:Hid (addL Fk.nm Fk.st putK l name st (.ok x)=.error 1):=by rw [HN2.out];exact lh (if_pos q3)
      subst q3;go_wp2;refine bodyPost_ret (results_slot2 rfl rfl rfl) rfl ?_;rw [HR.out];exact⟨_,_,_,rfl,by decide,((HFR.out _ B1.out).trans (F3.out.mono (fun k hk=>.inl hk))).alloc _⟩
     ·have HR:Hid (addL Fk.nm Fk.st putK l name st (.ok x)=.ok (l ++ [putK st x],true)):=by rw [HN2.out];exact lh (if_neg q3)
      obtain⟨X1,hX1⟩:∃ X1,X1=w3.alloc (.cells (fkA x) 141):=⟨_,rfl⟩
      have bX:Below w3.heap.size w3 X1:=by rw [hX1];exact bnew _ _
      have v3:w3.ownsRow 0 141 5 (.slice ad l.length cap) l.length (l.flatMap fkL):=row_keep V1.out F3.out (fun k hk q=>HAV.out (by rw [<-q];exact hk));obtain⟨ad2,cap2,X2,hrun,r1,r2,r3⟩:=pushK (own_below v3 bX) x (by have:=HZ.out;omega);obtain⟨g,hg⟩:∃ g,ad2=some ⟨g,0,none⟩:=by
       rcases r1.2 with⟨hv',_⟩ | ⟨g,cap',cur,hv',_⟩
       ·simp at hv'
       ·simp only [Value.slice.injEq]at hv';exact⟨g,hv'.1⟩
      subst hg;have hll:(l ++ [x]).length=l.length+1:=by simp
      rw [hll]at r1;have r1':X2.ownsRow 0 141 5 (.slice (some ⟨g,0,none⟩) (l ++ [x]).length cap2) (l ++ [x]).length ((l ++ [x]).flatMap fkL):=by rw [hll];exact r1
      have hset:=setK_any (i:=l.length) r1' (by rw [hll];omega) st;rw [setAt_snoc q3,hll]at hset;have hX2:Fr w X2 (fun k=>k=A\/(Value.slice ad l.length cap).ownBlock=some k):=(((HFR.out _ B1.out).trans (F3.out.mono (fun k hk=>.inl hk))).below bX).trans (r2.mono (fun k hk=>.inr hk));have HX2:=lh hX2;have HW3:Hid (w.heap.size<=X1.heap.size):=lh (Nat.le_trans B1.out.size (Nat.le_trans F3.out.size bX.size));have R3:=lh r3;have AX2:Hid (X2.heap[A]?=some (.cells (scA { s with last:=s.last+1 } tv) 30 (0,0))):=by
       have q:=(bX.block A (blk_lt A3.out)).trans A3.out;rw [r2.block A (blk_lt q) HAV.out];exact q
      have HGA:Hid (g≠A):=by
       obtain⟨cur,hg',_⟩:=row_blk r1;intro z;rw [z,AX2.out]at hg';simp only [Option.some.injEq,Obj.cells.injEq]at hg';exact absurd hg'.2.1 (by decide)
      rw [hX1]at hrun;have q3':¬ st=0:=q3;have hmx:(l.length:Int)<=9223372036854775807:=by have:=HZ.out;omega
      clear r1 r1' r2 r3 hll hX2 v3 bX hX1 q3;go_wp2_with (first|(at_builtin;refine wpl_run2 _ _ rfl (by simp [Act.eval]) (by simp [Act.eval]) hrun ?_)|(go_at_call 169;refine hset.mono ?_;rintro e w4 ⟨m,rfl,o4,hm,f4⟩;have HM:=lh hm;clear hm;refine Hid.out ?_))
      refine lh ?_;have O4:=lh o4;have F4:=lh f4;clear hset o4 f4;go_wp2;refine bodyPost_ret (results_slot2 rfl rfl rfl) rfl ?_;rw [HR.out];refine⟨_,_,_,rfl,HM.out,O4.out,Fr.step (S:=fun k=>k=A\/(Value.slice ad l.length cap).ownBlock=some k) HX2.out F4.out (fun k hk=>?_),fun k hk=>?_,?_⟩
      ·rcases R3.out k (by rw [hk];rfl)with z | z
       ·exact .inl (.inr z)
       ·exact .inr (Nat.le_trans HW3.out z)
      ·rcases R3.out k hk with z | z
       ·exact .inl z
       ·exact .inr (Nat.le_trans HW3.out z)
      ·rw [F4.out.block A (blk_lt AX2.out) (fun z=>HGA.out z.symm)];exact AX2.out
 ·obtain⟨g,hg⟩:∃ g,ad=some ⟨g,0,none⟩:=by
   rcases HV.out.2 with⟨hv',h0⟩ | ⟨g,cap',cur,hv',_⟩
   ·omega
   ·simp only [Value.slice.injEq]at hv';exact⟨g,hv'.1⟩
  subst hg;have hge:(0:Int)<=(i:Int):=by omega
  have k1:(i:Int)<(l.length:Int):=by omega
  obtain⟨x,hx⟩:∃ x,l[i]'hi=x:=⟨_,rfl⟩
  obtain⟨_,_,e',_,_,_,hX⟩:=Lr.own fkL_len V1.out;cases e';obtain⟨b,p,cs1,e2,hbl,hE,_,hcell⟩:=hX i hi;cases e2;cases hE;rw [hx]at hcell;simp only [Nat.zero_add]at hcell;have hof:=ofK_any (w:=w1) (B:=g) (q:=i*5) (x:=x) ⟨_,rfl,hcell⟩;have cst:w1.cell? ⟨g,i*5+4,none⟩=some (.int .i64 x.st):=hcell 4 _ rfl;have CST:=lh cst;have hfdd:=field156_2;have HR0:Hid (addL Fk.nm Fk.st putK l name st new=if x.st=3 then .error 152 else .ok (setAt st i (putK st) l,false)):=by
   rw [addL_some hi hfd,hx];exact lh rfl
  clear hfd hX hcell hbl hx cst;go_upto_region 3 with fail
  go_wp2_with (go_at_call 126;refine hof.mono ?_;rintro e w2 ⟨rfl,b2⟩;have c2:=cell_on b2 CST.out;refine Hid.out ?_)
  refine lh ?_;have B2:=lh (bgo B1.out b2);have A2:Hid (w2.heap[A]?=some (.cells (scA s tv) 30 (0,0))):=(b2.block A (blk_lt A1.out)).trans A1.out;have hset:=setK_any (own_below V1.out b2) hi st;clear hof b2;by_cases q3:x.st=3
  ·have HR:Hid (addL Fk.nm Fk.st putK l name st new=.error 152):=by rw [HR0.out];exact lh (if_pos q3)
   rw [q3]at c2;clear hset q3;go_wp2;refine bodyPost_ret (results_slot2 rfl rfl rfl) rfl ?_;rw [HR.out];exact⟨_,_,_,rfl,by decide,HFR.out _ B2.out⟩
  ·have HR:Hid (addL Fk.nm Fk.st putK l name st new=.ok (setAt st i (putK st) l,false)):=by rw [HR0.out];exact lh (if_neg q3)
   have HGA:Hid (g≠A):=by
    obtain⟨cur,hg',_⟩:=row_blk V1.out;intro z;rw [z,A1.out]at hg';simp only [Option.some.injEq,Obj.cells.injEq]at hg';exact absurd hg'.2.1 (by decide)
   go_wp2_with (go_at_call 169;refine hset.mono ?_;rintro e w4 ⟨m,rfl,o4,hm,f4⟩;have HM:=lh hm;clear hm;refine Hid.out ?_)
   refine lh ?_;have O4:=lh o4;have F4:=lh f4;clear hset o4 f4;go_wp2;refine bodyPost_ret (results_slot2 rfl rfl rfl) rfl ?_;rw [HR.out];refine⟨_,_,_,rfl,HM.out,O4.out,(HFR.out _ B2.out).trans (F4.out.mono (fun k hk=>.inr (by rw [hk];rfl))),fun k hk=>.inl hk,?_⟩;rw [F4.out.block A (blk_lt A2.out) (fun z=>HGA.out z.symm)];exact A2.out
end
end Go.Proofs.YtkhehikaemdnnaaGreat
