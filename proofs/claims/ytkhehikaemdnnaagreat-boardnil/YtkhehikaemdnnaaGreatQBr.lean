import Derived.Test.YtkhehikaemdnnaaGreatQBm
namespace Go.Proofs.YtkhehikaemdnnaaGreat
set_option maxRecDepth 100000
set_option maxHeartbeats 2000000
open Go.RowKit Go.Maps
section
variable {w : World}
theorem idsOf_any{t:Tb}{cv iv kv:Value}(h:Three w t cv iv kv)(hz:t.few):Calls Tryz.prog 102 #[tbV t cv iv kv] w fun e w'=>∃ ad n cap,e=.returned (.slice ad n cap)/\n=(idsT t).length/\w'.ownsRow w.heap.size 3 1 (.slice ad n cap) n ((idsT t).flatMap inL)/\Below w.heap.size w w':=by
 have HT:=lh h;have HZ:=lh hz;obtain⟨ca,cc,rfl,_⟩:=h.c;obtain⟨ia,ic,rfl,_⟩:=h.i;obtain⟨ka,kc,rfl,_⟩:=h.k;obtain⟨W,hW⟩:∃ W,W=w.alloc (.cells #[.int .i64 t.id,.string t.nm,.slice ca t.cols.length cc,.slice ia t.ixs.length ic,.slice ka t.fks.length kc] 64):=⟨_,rfl⟩
 have hbW:=bw1 hW;obtain⟨Y0,hY0⟩:∃ Y0,w.heap.size=Y0:=⟨_,rfl⟩
 have jY0:W.heap[Y0]?=some (.cells #[.int .i64 t.id,.string t.nm,.slice ca t.cols.length cc,.slice ia t.ixs.length ic,.slice ka t.fks.length kc] 64 (0,0)):=nw11 hW hY0;have d0:W.cell? ⟨Y0,0,none⟩=some (.int .i64 t.id):=cell_blk jY0 0;obtain⟨W1,hW1⟩:∃ W1,W1=W.alloc (.cells #[.int .i64 t.id] 3):=⟨_,rfl⟩
 have b1:Below W.heap.size W W1:=by rw [hW1];exact bnew _ _
 obtain⟨Q,hQ⟩:∃ Q,W.heap.size=Q:=⟨_,rfl⟩
 have jQ:W1.heap[Q]?=some (.cells #[.int .i64 t.id] 3 (0,0)):=by rw [hW1,<-hQ];exact heap_alloc_new W _
 have o0:W1.ownsRow W.heap.size 3 1 (.slice (some ⟨Q,0,none⟩) 1 1) ([t.id]).length (([t.id]).flatMap inL):=⟨rfl,.inr ⟨Q,1,_,rfl,by omega,jQ,Nat.le_refl _,by unfold maxLen;omega,rfl,rfl⟩⟩
 have ht:=HT.out.on hbW;have hz':=HZ.out;have c1:=idsC_any (w:=W1) (w0:=W) (I:=[t.id]) o0 b1 ht.c hz'.1 (by simp);have d2:W1.cell? ⟨Y0,2,none⟩=some (.slice ca t.cols.length cc):=cell_on b1 (cell_blk jY0 2);have J0:=lh jY0;have B1:=lh b1;have HTW:=lh ht;have HW1:=lh hW1;have HQ:=lh hQ;have HW:=lh hW;have HBW:=lh hbW;have HY0:=lh hY0;clear hW hbW hY0;clear jY0 hW1 b1 hQ jQ o0 ht hz' h hz;go_enter Tryz.func102,Tryz.ntmps102;go_upto_region 1 with fail
 rw [<-HW.out,HY0.out];go_upto_region 2 with fail
 rw [<-HW1.out,HQ.out];clear d0;go_wp2_with fail
 refine c1.mono ?_;rintro e w1 ⟨a1,p1,rfl,o1,b1⟩;have b01:Below W.heap.size W w1:=B1.out.trans b1;have d3:w1.cell? ⟨Y0,3,none⟩=some (.slice ia t.ixs.length ic):=cell_on b01 (cell_blk J0.out 3);have hl1:([t.id]).length+t.cols.length=([t.id] ++ t.cols.map Col.id).length:=by rw [List.length_append,List.length_map]
 rw [hl1]at o1;have c2:=idsI_any (w:=w1) (w0:=W) (I:=[t.id] ++ t.cols.map Col.id) o1 b01 HTW.out.i HZ.out.2.1 (by rw [<-hl1];have:=HZ.out.1;simp;omega);rw [<-hl1]at c2;have BB1:=lh b01;clear c1 b1 o1 b01 hl1;go_wp2_with fail
 refine c2.mono ?_;rintro e w2 ⟨a2,p2,rfl,o2,b2⟩;have b02:Below W.heap.size W w2:=BB1.out.trans b2;have d4:w2.cell? ⟨Y0,4,none⟩=some (.slice ka t.fks.length kc):=cell_on b02 (cell_blk J0.out 4);have hl2:([t.id]).length+t.cols.length+t.ixs.length=([t.id] ++ t.cols.map Col.id ++ t.ixs.map Ix.id).length:=by simp only [List.length_append,List.length_map]
 rw [hl2]at o2;have c3:=idsK_any (w:=w2) (w0:=W) (I:=[t.id] ++ t.cols.map Col.id ++ t.ixs.map Ix.id) o2 b02 HTW.out.k HZ.out.2.2 (by rw [<-hl2];have q1:=HZ.out.1;have q2:=HZ.out.2.1;simp;omega);rw [<-hl2]at c3;have BB2:=lh b02;clear c2 b2 o2 b02 hl2;go_wp2_with fail
 refine c3.mono ?_;rintro e w3 ⟨a3,p3,rfl,o3,b3⟩;have hid:[t.id] ++ t.cols.map Col.id ++ t.ixs.map Ix.id ++ t.fks.map Fk.id=idsT t:=by simp [idsT]
 rw [hid]at o3;obtain⟨n,hn⟩:∃ n,([t.id]).length+t.cols.length+t.ixs.length+t.fks.length=n:=⟨_,rfl⟩
 rw [hn]at o3;have HO:=lh (own_mono o3 HBW.out.size);have HE:=lh (bgo HBW.out (BB2.out.trans b3));have HN:Hid (n=(idsT t).length):=lh (by rw [<-hn,<-hid];simp only [List.length_append,List.length_map]);have HN2:=lh hn;clear c3 o3 b3 hid hn d2 d3 d4;go_wp2;go_ret;refine⟨a3,n,p3,?_,HN.out,HO.out,HE.out⟩;rw [<-HN2.out];simp
theorem el_f{x:Col}{B q:Nat}(h:Pt colE w B q x):Calls Tryz.prog 144 #[.pointer (some ⟨B,q,none⟩)] w fun e w'=>e=.returned (.bool (!(kindB x.kd && fitB x.df x.kd)))/\Below w.heap.size w w':=by
 obtain⟨cs,hE,hc⟩:=h;cases hE;have c2:w.cell? ⟨B,q+2,none⟩=some (.int .i64 x.kd):=hc 2 _ rfl;have c4:w.cell? ⟨B,q+4,none⟩=some (.int .i64 x.df.k):=hc 4 _ rfl;have c5:w.cell? ⟨B,q+4+1,none⟩=some (.int .i64 x.df.n):=hc 5 _ rfl;have c6:w.cell? ⟨B,q+4+2,none⟩=some (.string x.df.s):=hc 6 _ rfl;clear hc;have hk:=fun X=>kind_any (w:=X) x.kd;have hf:=fun X=>fit_any (w:=X) x.df x.kd;have HC:=lh (And.intro c2 (And.intro c4 (And.intro c5 c6)));cases q1:kindB x.kd with
 | false =>
  rw [q1]at hk;clear q1 hf;go_enter Tryz.func144,Tryz.ntmps144;go_wp2
  go_quiet ((go_at_call 145;exact Calls.quiet_of_same (hk _)))
  go_wp2;go_ret;exact⟨rfl,bdrewN (Below.refl _ _) _⟩
 | true =>
  rw [q1]at hk;clear q1;obtain⟨r,hr⟩:∃ r,fitB x.df x.kd=r:=⟨_,rfl⟩
  rw [hr]at hf ⊢;clear hr;go_enter Tryz.func144,Tryz.ntmps144;go_wp2
  go_region_with (first|(go_at_call 145;refine(hk _).mono ?_;rintro e w1 ⟨rfl,rfl⟩)|(go_at_call 146;refine(hf _).mono ?_;rintro e w2 ⟨rfl,b2⟩))
  all_goals
   go_wp2;go_ret;exact⟨rfl,⟨b2.os,b2.tape,b2.output,b2.size,b2.block⟩⟩
end
end Go.Proofs.YtkhehikaemdnnaaGreat
namespace Go.Proofs.YtkhehikaemdnnaaGreat
set_option maxRecDepth 100000
set_option maxHeartbeats 4000000
open Go.RowKit Go.Maps
theorem fidx_neg{α:Type}(p:α->Bool)(L:List α):decide (fidx p L<0)=L.all (fun x=>!p x):=by
 have h:=fidx_any p L;rw [<-List.not_any_eq_all_not,<-h];by_cases q:fidx p L<0
 ·rw [decide_eq_true q,decide_eq_false (by omega)];rfl
 ·rw [decide_eq_false q,decide_eq_true (by omega)];rfl
theorem keyB_at:∀ {t:Tb} {x:Col} (h:1<=t.cols.length),t.cols[0]=x->keyB t=decide (x.st=3)
 | ⟨_,_,[],_,_⟩,_,h,_=>by simp at h
 | ⟨_,_,c :: r,_,_⟩,x,_,e=>by
  have e':c=x:=e;subst e';rfl
section
variable {w : World}
theorem elements_any{t:Tb}{cv iv kv:Value}(h:Three w t cv iv kv)(hz:t.few)(h1:1<=t.cols.length):Calls Tryz.prog 101 #[tbV t cv iv kv] w fun e w'=>e=.returned (.bool (elB t))/\Below w.heap.size w w':=by
 have HT:=lh h;have HZ:=lh hz;obtain⟨ca,cc,rfl,_,_,_,hX⟩:=h.c;obtain⟨ia,ic,rfl,_⟩:=h.i;obtain⟨ka,kc,rfl,_⟩:=h.k;obtain⟨b,p,cs,hca,hbl,hE,_,hcell⟩:=hX 0 (by omega);cases hE;subst hca;obtain⟨x0,hx0⟩:∃ x0,t.cols[0]=x0:=⟨_,rfl⟩
 rw [hx0]at hcell;have kk:(0:Int)<(t.cols.length:Int):=by omega
 have hkey:keyB t=decide (x0.st=3):=keyB_at h1 hx0;have c3:w.cell? ⟨b,p+3,none⟩=some (.int .i64 x0.st):=by
  have:=hcell 3 _ rfl;rw [Nat.zero_mul,Nat.add_zero]at this;exact this
 obtain⟨W,hW⟩:∃ W,W=w.alloc (.cells #[.int .i64 t.id,.string t.nm,.slice (some ⟨b,p,none⟩) t.cols.length cc,.slice ia t.ixs.length ic,.slice ka t.fks.length kc] 64):=⟨_,rfl⟩
 have hbW:=bw1 hW;obtain⟨Y0,hY0⟩:∃ Y0,w.heap.size=Y0:=⟨_,rfl⟩
 have jY0:W.heap[Y0]?=some (.cells #[.int .i64 t.id,.string t.nm,.slice (some ⟨b,p,none⟩) t.cols.length cc,.slice ia t.ixs.length ic,.slice ka t.fks.length kc] 64 (0,0)):=nw11 hW hY0;have d2:W.cell? ⟨Y0,2,none⟩=some (.slice (some ⟨b,p,none⟩) t.cols.length cc):=cell_blk jY0 2;have hfind:=findC_any (w:=W) (f:=144) (cs:=#[]) (p:=fun x=>!(kindB x.kd && fitB x.df x.kd)) (HT.out.c.on colE_held hbW) goes144 (fun X hX B q x _ _ hp=>el_f hp);have hneg:=fidx_neg (fun x:Col=>!(kindB x.kd && fitB x.df x.kd)) t.cols;simp only [Bool.not_not]at hneg;obtain⟨i,hi⟩:∃ i,fidx (fun x:Col=>!(kindB x.kd && fitB x.df x.kd)) t.cols=i:=⟨_,rfl⟩
 obtain⟨r1,hr1⟩:∃ r1,t.cols.all (fun x=>kindB x.kd && fitB x.df x.kd)=r1:=⟨_,rfl⟩
 have HP:Hid (∀ X,Below W.heap.size W X->(X.cell? ⟨Y0,2,none⟩=some (.slice (some ⟨b,p,none⟩) t.cols.length cc)/\X.cell? ⟨Y0,3,none⟩=some (.slice ia t.ixs.length ic)/\X.cell? ⟨Y0,4,none⟩=some (.slice ka t.fks.length kc)/\X.cell? ⟨b,p+3,none⟩=some (.int .i64 x0.st))/\Calls Tryz.prog 147 #[.slice (some ⟨b,p,none⟩) t.cols.length cc,.func (.func 118) #[] #[]] X (fun e w'=>e=.returned (.bool (partsB Col.nm Col.st t.cols))/\Below X.heap.size X w')
   /\ Calls Tryz.prog 148 #[.slice ia t.ixs.length ic,.func (.func 122) #[] #[]] X (fun e w'=>e=.returned (.bool (partsB Ix.nm Ix.st t.ixs))/\Below X.heap.size X w')/\Calls Tryz.prog 149 #[.slice ka t.fks.length kc,.func (.func 126) #[] #[]] X (fun e w'=>e=.returned (.bool (partsB Fk.nm Fk.st t.fks))/\Below X.heap.size X w')):=fun X hX=>by
  have hwX:=bgo hbW hX;exact⟨⟨cell_on hX (cell_blk jY0 2),cell_on hX (cell_blk jY0 3),cell_on hX (cell_blk jY0 4),cell_on hwX c3⟩,partsC_any (HT.out.c.on colE_held hwX) HZ.out.1,partsI_any (HT.out.i.on ixE_held hwX) HZ.out.2.1,partsK_any (HT.out.k.on fkE_held hwX) HZ.out.2.2⟩
 obtain⟨s0,hs0⟩:∃ s0,x0.st=s0:=⟨_,rfl⟩
 obtain⟨r2,hr2⟩:∃ r2,partsB Col.nm Col.st t.cols=r2:=⟨_,rfl⟩
 obtain⟨r3,hr3⟩:∃ r3,partsB Ix.nm Ix.st t.ixs=r3:=⟨_,rfl⟩
 obtain⟨r4,hr4⟩:∃ r4,partsB Fk.nm Fk.st t.fks=r4:=⟨_,rfl⟩
 have HR:Hid (elB t=(r1 && decide (s0=3) && r2 && r3 && r4)):=by
  unfold elB;rw [hr1,hkey,hs0,hr2,hr3,hr4];exact lh rfl
 rw [hi]at hfind hneg;rw [hr1]at hneg;rw [hr2,hr3,hr4,hs0]at HP;have HW:=lh hW;have HBW:=lh hbW;have HY0:=lh hY0;clear hW hbW hY0;clear jY0 hi hr1 hcell hbl hX h hz c3 hkey hs0 hr2 hr3 hr4 hx0;go_enter Tryz.func101,Tryz.ntmps101;go_upto_region 1 with fail
 rw [<-HW.out,HY0.out];go_upto_region 2 with (go_at_call 143;refine hfind.mono ?_;rintro e w1 ⟨rfl,b1⟩;refine Hid.out ?_)
 refine lh ?_;have HB1:=lh b1;obtain⟨⟨e2,e3,e4,e5⟩,p2,_,_⟩:=HP.out w1 b1;clear hfind b1 d2;cases r1 with
 | false =>
  have hi:=of_decide_eq_false hneg;clear hneg p2 e2 e3 e4 e5;go_wp2;go_ret;exact⟨by rw [HR.out];simp,bgo HBW.out HB1.out⟩
 | true =>
  have hi:=of_decide_eq_true hneg;clear hneg;by_cases hs:s0=3
  ·subst hs;cases r2 with
   | false =>
    go_wp2_with (go_at_call 147;refine p2.mono ?_;rintro e w2 ⟨rfl,b2⟩;refine Hid.out ?_)
    refine lh ?_;have HB2:=lh b2;clear b2 p2;go_wp2;go_ret;exact⟨by rw [HR.out];simp,bgo HBW.out (bgo HB1.out HB2.out)⟩
   | true =>
    go_wp2_with (go_at_call 147;refine p2.mono ?_;rintro e w2 ⟨rfl,b2⟩;refine Hid.out ?_)
    refine lh ?_;have HB2:=lh (bgo HB1.out b2);obtain⟨⟨g2,g3,g4,g5⟩,_,p3,_⟩:=HP.out w2 (bgo HB1.out b2);clear b2 p2;cases r3 with
    | false =>
     go_wp2_with (go_at_call 148;refine p3.mono ?_;rintro e w3 ⟨rfl,b3⟩;refine Hid.out ?_)
     refine lh ?_;have HB3:=lh b3;clear b3 p3;go_wp2;go_ret;exact⟨by rw [HR.out];simp,bgo HBW.out (bgo HB2.out HB3.out)⟩
    | true =>
     go_wp2_with (go_at_call 148;refine p3.mono ?_;rintro e w3 ⟨rfl,b3⟩;refine Hid.out ?_)
     refine lh ?_;have HB3:=lh (bgo HB2.out b3);obtain⟨⟨f2,f3,f4,f5⟩,_,_,p4⟩:=HP.out w3 (bgo HB2.out b3);clear b3 p3;go_wp2_with (go_at_call 149;refine p4.mono ?_;rintro e w4 ⟨rfl,b4⟩;refine Hid.out ?_)
     refine lh ?_;have HB4:=lh b4;clear b4 p4;go_wp2;go_ret;exact⟨by rw [HR.out];simp,bgo HBW.out (bgo HB3.out HB4.out)⟩
  ·go_wp2;go_ret;exact⟨by rw [HR.out];simp [hs],bgo HBW.out HB1.out⟩
end
end Go.Proofs.YtkhehikaemdnnaaGreat
namespace Go.Proofs.YtkhehikaemdnnaaGreat
set_option maxRecDepth 100000
set_option maxHeartbeats 400000
open Go.RowKit Go.Maps
theorem find_fidx{α:Type}(p:α->Bool)(L:List α):(fidx p L<0/\L.find? p=none)\/∃ (i:Nat) (h:i<L.length),fidx p L=(i:Int)/\L.find? p=some L[i]:=by
 rcases fidx_cases p L with⟨e,h⟩ | ⟨i,hi,e,hp,hb⟩
 ·exact .inl ⟨by omega,List.find?_eq_none.2 fun x hx=>by simp [h x hx]⟩
 ·refine .inr ⟨i,hi,e,?_⟩;rw [List.find?_eq_some_iff_getElem];exact⟨hp,i,hi,rfl,fun j hj=>by simp [hb j (by omega) hj]⟩
theorem head_kd:∀ {t:Tb} (h:1<=t.cols.length),keyKd t=some (t.cols[0]).kd
 | ⟨_,_,[],_,_⟩,h=>by simp at h
 | ⟨_,_,c :: r,_,_⟩,_=>rfl
section
variable {w : World}
theorem goes155:Goes 155:=fun X a=>by go_simp
theorem goes158:Goes 158:=fun X a=>by go_simp
theorem lost_f{t:Tb}{ca ia ka:Option Addr}{cc ic kc:Nat}{x:Ix}{B q Y:Nat}(h:Pt ixE w B q x)(hc:Lr colE 7 w t.cols (.slice ca t.cols.length cc))(jY:w.heap[Y]?=some (.cells #[.int .i64 t.id,.string t.nm,.slice ca t.cols.length cc,.slice ia t.ixs.length ic,.slice ka t.fks.length kc] 64 (0,0))):Calls Tryz.prog 154 #[.pointer (some ⟨B,q,none⟩),.pointer (some ⟨Y,0,none⟩)] w fun e w'=>e=.returned (.bool (!(t.cols.any (fun c=>decide (c.id=x.col)))))/\Below w.heap.size w w':=by
 obtain⟨cs,hE,hcell⟩:=h;cases hE;have c2:w.cell? ⟨B,q+2,none⟩=some (.int .i64 x.col):=hcell 2 _ rfl;have d0:w.cell? ⟨Y,0,none⟩=some (.int .i64 t.id):=cell_blk jY 0;have d1:w.cell? ⟨Y,1,none⟩=some (.string t.nm):=cell_blk jY 1;have d2:w.cell? ⟨Y,2,none⟩=some (.slice ca t.cols.length cc):=cell_blk jY 2;have d3:w.cell? ⟨Y,3,none⟩=some (.slice ia t.ixs.length ic):=cell_blk jY 3;have d4:w.cell? ⟨Y,4,none⟩=some (.slice ka t.fks.length kc):=cell_blk jY 4;have HO:Hid (∀ X:World,Below w.heap.size w X->Calls Tryz.prog 155 #[.agg #[.int .i64 t.id,.string t.nm,.slice ca t.cols.length cc,.slice ia t.ixs.length ic,.slice ka t.fks.length kc],.int .i64 x.col] X fun e w'=>e=.returned (.int .i64 (colOf t x.col))/\Below X.heap.size X w'):=fun X hX=>colOf_any _ (hc.on colE_held hX) ⟨_,_,_,rfl⟩ ⟨_,_,_,rfl⟩;have hn:decide (colOf t x.col<0)=!(t.cols.any (fun c=>decide (c.id=x.col))):=by
  unfold colOf;rw [fidx_neg,List.not_any_eq_all_not]
 obtain⟨r,hr⟩:∃ r,(!(t.cols.any (fun c=>decide (c.id=x.col))))=r:=⟨_,rfl⟩
 obtain⟨i,hi⟩:∃ i,colOf t x.col=i:=⟨_,rfl⟩
 rw [hi]at HO;rw [hr,hi]at hn;rw [hr];clear hr hi hcell jY hc;have HN:=lh hn;clear hn;go_enter Tryz.func154,Tryz.ntmps154;go_wp2
 go_region_with (go_at_call 155;refine(HO.out _ (by first | exact bdrew (Below.refl _ _)| exact bdrewN (Below.refl _ _) _)).mono ?_;rintro e w1 ⟨rfl,b1⟩)
 all_goals
  go_wp2;go_ret;exact⟨by rw [<-HN.out];rfl,⟨b1.os,b1.tape,b1.output,b1.size,b1.block⟩⟩
theorem wrong_f{L:List Tb}{t:Tb}{ta ca ia ka:Option Addr}{tc cc ic kc:Nat}{x:Fk}{B q Y Z:Nat}(h:Pt fkE w B q x)(hL:Lr tbE 5 w L (.slice ta L.length tc))(hc:Lr colE 7 w t.cols (.slice ca t.cols.length cc))(jY:w.heap[Y]?=some (.cells #[.int .i64 t.id,.string t.nm,.slice ca t.cols.length cc,.slice ia t.ixs.length ic,.slice ka t.fks.length kc] 64 (0,0)))(jZ:w.heap[Z]?=some (.cells #[.slice ta L.length tc] 28 (0,0)))(hk:∀ t ∈ L,1<=t.cols.length):Calls Tryz.prog 157 #[.pointer (some ⟨B,q,none⟩),.pointer (some ⟨Y,0,none⟩),.pointer (some ⟨Z,0,none⟩)] w fun e w'=>e=.returned (.bool (!fkB L t x))/\Below w.heap.size w w':=by
 obtain⟨cs,hE,hcell⟩:=h;cases hE;have c2:w.cell? ⟨B,q+2,none⟩=some (.int .i64 x.col):=hcell 2 _ rfl;have c3:w.cell? ⟨B,q+3,none⟩=some (.int .i64 x.par):=hcell 3 _ rfl;have d0:w.cell? ⟨Y,0,none⟩=some (.int .i64 t.id):=cell_blk jY 0;have d1:w.cell? ⟨Y,1,none⟩=some (.string t.nm):=cell_blk jY 1;have d2:w.cell? ⟨Y,2,none⟩=some (.slice ca t.cols.length cc):=cell_blk jY 2;have d3:w.cell? ⟨Y,3,none⟩=some (.slice ia t.ixs.length ic):=cell_blk jY 3;have d4:w.cell? ⟨Y,4,none⟩=some (.slice ka t.fks.length kc):=cell_blk jY 4;have z0:w.cell? ⟨Z,0,none⟩=some (.slice ta L.length tc):=cell_blk jZ 0;have HO1:Hid (∀ X:World,Below w.heap.size w X->Calls Tryz.prog 155 #[.agg #[.int .i64 t.id,.string t.nm,.slice ca t.cols.length cc,.slice ia t.ixs.length ic,.slice ka t.fks.length kc],.int .i64 x.col] X fun e w'=>e=.returned (.int .i64 (colOf t x.col))/\Below X.heap.size X w'):=fun X hX=>colOf_any _ (hc.on colE_held hX) ⟨_,_,_,rfl⟩ ⟨_,_,_,rfl⟩;have HO2:Hid (∀ X:World,Below w.heap.size w X->Calls Tryz.prog 158 #[.slice ta L.length tc,.int .i64 x.par] X fun e w'=>e=.returned (.int .i64 (tabOf L x.par))/\Below X.heap.size X w'):=fun X hX=>tabO_any _ (hL.on tbE_held hX);have hC:=find_fidx (fun c:Col=>decide (c.id=x.col)) t.cols;have hT:=find_fidx (fun c:Tb=>decide (c.id=x.par)) L;have HR:Hid (fkB L t x=match t.cols.find? (fun c=>decide (c.id=x.col)),L.find? (fun t=>decide (t.id=x.par))with | some c,some p=>decide (keyKd p=some c.kd)| _,_=>false):=lh rfl;obtain⟨i,hi⟩:∃ i,colOf t x.col=i:=⟨_,rfl⟩
 obtain⟨j,hj⟩:∃ j,tabOf L x.par=j:=⟨_,rfl⟩
 rw [hi]at HO1;rw [hj]at HO2;have hi':fidx (fun c:Col=>decide (c.id=x.col)) t.cols=i:=hi;have hj':fidx (fun c:Tb=>decide (c.id=x.par)) L=j:=hj;rw [hi']at hC;rw [hj']at hT;have HL:=lh hL;have HC:=lh hc;have HK:=lh hk;have HFC:=lh hC;have HFT:=lh hT;have J:=lh (And.intro jY jZ);have HKP:Hid (∀ X,Below w.heap.size w X->X.cell? ⟨B,q+2,none⟩=some (.int .i64 x.col)/\X.cell? ⟨B,q+3,none⟩=some (.int .i64 x.par)/\X.cell? ⟨Y,0,none⟩=some (.int .i64 t.id)/\X.cell? ⟨Y,1,none⟩=some (.string t.nm)/\X.cell? ⟨Y,2,none⟩=some (.slice ca t.cols.length cc)/\X.cell? ⟨Y,3,none⟩=some (.slice ia t.ixs.length ic)/\X.cell? ⟨Y,4,none⟩=some (.slice ka t.fks.length kc)/\X.cell? ⟨Z,0,none⟩=some (.slice ta L.length tc)/\Hid (Below w.heap.size w X)):=fun X hX=>⟨cell_on hX c2,cell_on hX c3,cell_on hX d0,cell_on hX d1,cell_on hX d2,cell_on hX d3,cell_on hX d4,cell_on hX z0,lh hX⟩
 clear hi hj hi' hj' hcell jY jZ hc hL hk hC hT;go_enter Tryz.func157,Tryz.ntmps157;go_wp2;refine wp_region_fl (fun _ X9=>Below w.heap.size w X9) (fun X9 X'=>Below X9.heap.size X9 X') [
  fun v9 _=>v9=.agg #[.int .i64 t.id,.string t.nm,.slice ca t.cols.length cc,.slice ia t.ixs.length ic,.slice ka t.fks.length kc],fun v9 _=>v9=.pointer (some ⟨B,q,none⟩),fun v9 _=>v9=.pointer (some ⟨B,q,none⟩),fun v9 _=>v9=.pointer (some ⟨B,q+2,none⟩),fun v9 _=>v9=.int .i64 x.col,fun v9 _=>v9=.int .i64 i,fun v9 _=>v9=.slice ta L.length tc,fun v9 _=>v9=.pointer (some ⟨B,q,none⟩),fun v9 _=>v9=.pointer (some ⟨B,q,none⟩),fun v9 _=>v9=.pointer (some ⟨B,q+3,none⟩),fun v9 _=>v9=.int .i64 x.par,fun v9 _=>v9=.int .i64 j,fun v9 _=>v9=.int .i64 i,fun v9 _=>v9=.int .i64 j]
  (by kernel_rfl) (by kernel_rfl) (by kernel_rfl) ?st ?g0 ?os ?en
 case st=>
  iterate 14 refine⟨fun _ _ _ _ h=>h,?_⟩
  exact trivial
 case g0=>exact⟨rfl,rfl,rfl,Nat.le_refl _,fun _ _=>rfl⟩
 case os =>
  refine⟨?_,?_,?_,?_,?_,?_,?_,?_,?_,?_,?_,?_,?_,?_,trivial⟩
  ·exact fun ρ _ _ hg _ _ _ ho _ _ _=>rv (op_loadAt (show ρ (.tmp 1)=.pointer (some ⟨Y,0,none⟩)from ho 1 rfl) (load_row ((hg.block Y (blk_lt J.out.1)).trans J.out.1) Tryz.underlying64 rfl size64)) ⟨hg,Below.refl _ _,rfl⟩
  ·exact fun ρ _ _ hg _ _ _ ho _ _ _=>rv (op_move (show ρ (.tmp 0)=.pointer (some ⟨B,q,none⟩)from ho 0 rfl)) ⟨hg,Below.refl _ _,rfl⟩
  ·exact fun ρ _ _ hg _ _ _ _ _ _ hr=>rv (op_nil (show ρ (.tmp 8)=.pointer (some ⟨B,q,none⟩)from hr 1 8 rfl rfl)) ⟨hg,Below.refl _ _,rfl⟩
  ·exact fun ρ _ _ hg _ _ _ _ _ _ hr=>rv (op_f141_2 (show ρ (.tmp 9)=.pointer (some ⟨B,q,none⟩)from hr 2 9 rfl rfl)) ⟨hg,Below.refl _ _,rfl⟩
  ·exact fun ρ _ _ hg _ _ _ _ _ _ hr=>rv (op_load3 (show ρ (.tmp 10)=.pointer (some ⟨B,q+2,none⟩)from hr 3 10 rfl rfl) (cell_on hg c2)) ⟨hg,Below.refl _ _,rfl⟩
  ·refine fun ρ X9 fl hg hn hl hp ho hc hf hr=>.inl ⟨rfl,?_⟩;refine Runs.goes 155 #[.agg #[.int .i64 t.id,.string t.nm,.slice ca t.cols.length cc,.slice ia t.ixs.length ic,.slice ka t.fks.length kc],.int .i64 x.col] (op_call2 hf (goes155 _ _) (show ρ (.tmp 7)=.agg #[.int .i64 t.id,.string t.nm,.slice ca t.cols.length cc,.slice ia t.ixs.length ic,.slice ka t.fks.length kc]from hr 0 7 rfl rfl) (show ρ (.tmp 11)=.int .i64 x.col from hr 4 11 rfl rfl)) ((HO1.out X9 hg).mono ?_);rintro e7 w7 ⟨rfl,b7⟩;exact⟨_,rfl,bgo hg b7,b7,rfl⟩
  ·exact fun ρ _ _ hg _ _ _ ho _ _ _=>rv (op_load28 (show ρ (.tmp 2)=.pointer (some ⟨Z,0,none⟩)from ho 2 rfl) (cell_on hg z0)) ⟨hg,Below.refl _ _,rfl⟩
  ·exact fun ρ _ _ hg _ _ _ ho _ _ _=>rv (op_move (show ρ (.tmp 0)=.pointer (some ⟨B,q,none⟩)from ho 0 rfl)) ⟨hg,Below.refl _ _,rfl⟩
  ·exact fun ρ _ _ hg _ _ _ _ _ _ hr=>rv (op_nil (show ρ (.tmp 14)=.pointer (some ⟨B,q,none⟩)from hr 7 14 rfl rfl)) ⟨hg,Below.refl _ _,rfl⟩
  ·exact fun ρ _ _ hg _ _ _ _ _ _ hr=>rv (op_f141_3 (show ρ (.tmp 15)=.pointer (some ⟨B,q,none⟩)from hr 8 15 rfl rfl)) ⟨hg,Below.refl _ _,rfl⟩
  ·exact fun ρ _ _ hg _ _ _ _ _ _ hr=>rv (op_load3 (show ρ (.tmp 16)=.pointer (some ⟨B,q+3,none⟩)from hr 9 16 rfl rfl) (cell_on hg c3)) ⟨hg,Below.refl _ _,rfl⟩
  ·refine fun ρ X9 fl hg hn hl hp ho hc hf hr=>.inl ⟨rfl,?_⟩;refine Runs.goes 158 #[.slice ta L.length tc,.int .i64 x.par] (op_call2 hf (goes158 _ _) (show ρ (.tmp 13)=.slice ta L.length tc from hr 6 13 rfl rfl) (show ρ (.tmp 17)=.int .i64 x.par from hr 10 17 rfl rfl)) ((HO2.out X9 hg).mono ?_);rintro e7 w7 ⟨rfl,b7⟩;exact⟨_,rfl,bgo hg b7,b7,rfl⟩
  ·exact fun ρ _ _ hg _ _ _ _ _ _ hr=>rv (op_assign (show ρ (.tmp 12)=.int .i64 i from hr 5 12 rfl rfl)) ⟨hg,Below.refl _ _,rfl⟩
  ·exact fun ρ _ _ hg _ _ _ _ _ _ hr=>rv (op_assign (show ρ (.tmp 18)=.int .i64 j from hr 11 18 rfl rfl)) ⟨hg,Below.refl _ _,rfl⟩
 case en =>
  intro a V fl hfl hbc hs hd ho hr;obtain⟨x',hx,hxt⟩:=act_put hs hd ho;have x5:x' 5=.int .i64 i:=(hxt 5).symm.trans (hr 12 5 rfl);have x6:x' 6=.int .i64 j:=(hxt 6).symm.trans (hr 13 6 rfl);change a=putAll _ x' [7,8,9,10,11,12,13,14,15,16,17,18,5,6]at hx;simp only [putAll,Act.put,List.setIfInBounds_toArray,List.set_cons_zero,List.set_cons_succ,x5,x6]at hx;clear hs hd ho hr hxt x5 x6;subst hx;obtain⟨_,_,_,_,e2,_,_,e8,_⟩:=HKP.out V hbc;have HB:=lh hbc;clear c2 c3 d0 d1 d2 d3 d4 z0;rcases HFC.out with⟨hn,hf⟩ | ⟨ci,hci,rfl,hf⟩
  ·have HR2:Hid (fkB L t x=false):=by rw [HR.out,hf];exact lh rfl
   clear hf hbc;go_wp2
   go_quiet (fail)
   go_wp2;go_ret;exact⟨by rw [HR2.out];rfl,bdrewN HB.out _⟩
  ·have hn:decide ((ci:Int)<0)=false:=decide_eq_false (by omega);rcases HFT.out with⟨hn2,hf2⟩ | ⟨pj,hpj,rfl,hf2⟩
   ·have HR2:Hid (fkB L t x=false):=by rw [HR.out,hf,hf2];exact lh rfl
    clear hf hf2 hbc;go_wp2
    go_quiet (fail)
    go_wp2;go_ret;exact⟨by rw [HR2.out];rfl,bdrewN HB.out _⟩
   ·have hn2:decide ((pj:Int)<0)=false:=decide_eq_false (by omega);have hp1:=HK.out _ (List.getElem_mem hpj);have HR2:Hid (fkB L t x=decide ((L[pj].cols[0]).kd=t.cols[ci].kd)):=lh (by
     rw [HR.out,hf,hf2];show decide (keyKd L[pj]=some t.cols[ci].kd)=_
     rw [head_kd hp1];simp)
    obtain⟨a1,k1,e1,_,_,_,hX1⟩:=HC.out.on colE_held hbc;cases e1;obtain⟨b1,p1,cs1,rfl,_,hE1,_,hcl1⟩:=hX1 ci hci;cases hE1;obtain⟨a2,k2,e2',_,_,_,hX2⟩:=HL.out.on tbE_held hbc;cases e2';obtain⟨b2,p2,cs2,rfl,_,hE2,_,hcl2⟩:=hX2 pj hpj;obtain⟨cv,iv,kv,rfl,h3⟩:=hE2;obtain⟨a3,k3,rfl,_,_,_,hX3⟩:=h3.c;obtain⟨b3,p3,cs3,rfl,_,hE3,_,hcl3⟩:=hX3 0 (by omega);cases hE3;have f1:V.cell? ⟨b1,p1+ci*7+2,none⟩=some (.int .i64 t.cols[ci].kd):=hcl1 2 _ rfl;have f2:V.cell? ⟨b2,p2+pj*5+2,none⟩=some (.slice (some ⟨b3,p3,none⟩) (L[pj].cols).length k3):=hcl2 2 _ rfl;have f3:V.cell? ⟨b3,p3+2,none⟩=some (.int .i64 (L[pj].cols[0]).kd):=by
     have:=hcl3 2 _ rfl;rw [Nat.zero_mul,Nat.add_zero]at this;exact this
    have m0:(0:Int)<=(ci:Int):=by omega
    have m1:(ci:Int)<(t.cols.length:Int):=by omega
    have m2:(0:Int)<=(pj:Int):=by omega
    have m3:(pj:Int)<(L.length:Int):=by omega
    have m4:(0:Int)<((L[pj].cols).length:Int):=by omega
    obtain⟨u1,hu1⟩:∃ u1,(L[pj].cols[0]).kd=u1:=⟨_,rfl⟩
    obtain⟨u2,hu2⟩:∃ u2,t.cols[ci].kd=u2:=⟨_,rfl⟩
    obtain⟨n3,hn3⟩:∃ n3,(L[pj].cols).length=n3:=⟨_,rfl⟩
    rw [hu1]at f3 HR2;rw [hu2]at f1 HR2;rw [hn3]at f2 m4;clear hf hf2 hbc hX1 hX2 hX3 hcl1 hcl2 hcl3 h3 hu1 hu2 hn3;by_cases hq:u1=u2
    ·subst hq;go_wp2
     go_quiet (fail)
     go_wp2;go_ret;exact⟨by rw [HR2.out];simp,bdrewN HB.out _⟩
    ·go_wp2
     go_quiet (fail)
     go_wp2;go_ret;exact⟨by rw [HR2.out];simp [hq],bdrewN HB.out _⟩
end
end Go.Proofs.YtkhehikaemdnnaaGreat
namespace Go.Proofs.YtkhehikaemdnnaaGreat
set_option maxRecDepth 100000
set_option maxHeartbeats 1000000
open Go.RowKit Go.Maps
section
variable {w : World}
theorem links_any{L:List Tb}{t:Tb}{tv cv iv kv:Value}(hL:Lr tbE 5 w L tv)(h:Three w t cv iv kv)(hk:∀ t ∈ L,1<=t.cols.length):Calls Tryz.prog 109 #[tv,tbV t cv iv kv] w fun e w'=>e=.returned (.bool (linkB L t))/\Below w.heap.size w w':=by
 have HT:=lh h;have HL:=lh hL;obtain⟨ta,tc,rfl,_⟩:=hL;obtain⟨ca,cc,rfl,_⟩:=h.c;obtain⟨ia,ic,rfl,_⟩:=h.i;obtain⟨ka,kc,rfl,_⟩:=h.k;obtain⟨W,hW⟩:∃ W,W=(w.alloc (.cells #[.slice ta L.length tc] 28)).alloc (.cells #[.int .i64 t.id,.string t.nm,.slice ca t.cols.length cc,.slice ia t.ixs.length ic,.slice ka t.fks.length kc] 64):=⟨_,rfl⟩
 have hbW:=bw2 hW;obtain⟨Y0,hY0⟩:∃ Y0,w.heap.size=Y0:=⟨_,rfl⟩
 obtain⟨Y1,hY1⟩:∃ Y1,Y0+1=Y1:=⟨_,rfl⟩
 have jY0:W.heap[Y0]?=some (.cells #[.slice ta L.length tc] 28 (0,0)):=nw21 hW hY0;have jY1:W.heap[Y1]?=some (.cells #[.int .i64 t.id,.string t.nm,.slice ca t.cols.length cc,.slice ia t.ixs.length ic,.slice ka t.fks.length kc] 64 (0,0)):=nw22 hW hY0 hY1;have d3:W.cell? ⟨Y1,3,none⟩=some (.slice ia t.ixs.length ic):=cell_blk jY1 3;have hc1:=findI_any (w:=W) (f:=154) (cs:=#[.pointer (some ⟨Y1,0,none⟩)]) (p:=fun x=>!(t.cols.any (fun c=>decide (c.id=x.col)))) (HT.out.i.on ixE_held hbW) goes154 (fun X hX B q x _ _ hp=>lost_f hp ((HT.out.c.on colE_held hbW).on colE_held hX) ((hX.block Y1 (blk_lt jY1)).trans jY1));have HF:Hid (∀ X,Below W.heap.size W X->X.cell? ⟨Y1,4,none⟩=some (.slice ka t.fks.length kc)/\Calls Tryz.prog 156 #[.slice ka t.fks.length kc,.func (.func 157) #[] #[.pointer (some ⟨Y1,0,none⟩),.pointer (some ⟨Y0,0,none⟩)]] X fun e w'=>e=.returned (.int .i64 (fidx (fun x=>!fkB L t x) t.fks))/\Below X.heap.size X w'):=fun X hX=>by
  have hwX:=bgo hbW hX;refine⟨cell_on hX (cell_blk jY1 4),findK_any (w:=X) (f:=157) (p:=fun x=>!fkB L t x) (HT.out.k.on fkE_held hwX) goes157 (fun X' hX' B q x _ _ hp=>wrong_f hp ((HL.out.on tbE_held hwX).on tbE_held hX') ((HT.out.c.on colE_held hwX).on colE_held hX') (((bgo hX hX').block Y1 (blk_lt jY1)).trans jY1) (((bgo hX hX').block Y0 (blk_lt jY0)).trans jY0) hk)⟩
 have n1:=fidx_neg (fun x:Ix=>!(t.cols.any (fun c=>decide (c.id=x.col)))) t.ixs;have n2:=fidx_neg (fun x:Fk=>!fkB L t x) t.fks;simp only [Bool.not_not]at n1 n2;obtain⟨i1,hi1⟩:∃ i1,fidx (fun x:Ix=>!(t.cols.any (fun c=>decide (c.id=x.col)))) t.ixs=i1:=⟨_,rfl⟩
 obtain⟨i2,hi2⟩:∃ i2,fidx (fun x:Fk=>!fkB L t x) t.fks=i2:=⟨_,rfl⟩
 obtain⟨r1,hr1⟩:∃ r1,t.ixs.all (fun x=>t.cols.any (fun c=>decide (c.id=x.col)))=r1:=⟨_,rfl⟩
 obtain⟨r2,hr2⟩:∃ r2,t.fks.all (fun x=>fkB L t x)=r2:=⟨_,rfl⟩
 have HR:Hid (linkB L t=(r1 && r2)):=by
  unfold linkB;rw [hr1,show t.fks.all (fkB L t)=r2 from hr2];exact lh rfl
 rw [hi1]at hc1 n1;rw [hi2]at HF n2;rw [hr1]at n1;rw [hr2]at n2;have HW:=lh hW;have HBW:=lh hbW;have HY0:=lh hY0;have HY1:=lh hY1;clear hW hbW hY0 hY1;clear jY0 jY1 hi1 hi2 hr1 hr2 h hk;go_enter Tryz.func109,Tryz.ntmps109;go_upto_region 1 with fail
 rw [<-HW.out,HY0.out,HY1.out];go_upto_region 2 with (go_at_call 153;refine hc1.mono ?_;rintro e w1 ⟨rfl,b1⟩;refine Hid.out ?_)
 refine lh ?_;have HB1:=lh b1;obtain⟨e4,hc2⟩:=HF.out w1 b1;clear hc1 b1 d3;go_upto_region 3 with (go_at_call 156;refine hc2.mono ?_;rintro e w2 ⟨rfl,b2⟩;refine Hid.out ?_)
 refine lh ?_;have HB2:=lh b2;clear hc2 b2 e4;cases r1 with
 | false =>
  have q1:=of_decide_eq_false n1;clear n1 n2;go_wp2;go_ret;exact⟨by rw [HR.out];simp,bgo HBW.out (bgo HB1.out HB2.out)⟩
 | true =>
  have q1:=of_decide_eq_true n1;clear n1;cases r2 with
  | false =>
   have q2:=of_decide_eq_false n2;clear n2;go_wp2;go_ret;exact⟨by rw [HR.out];simp,bgo HBW.out (bgo HB1.out HB2.out)⟩
  | true =>
   have q2:=of_decide_eq_true n2;clear n2;go_wp2;go_ret;exact⟨by rw [HR.out];simp,bgo HBW.out (bgo HB1.out HB2.out)⟩
theorem id_f{x z:Int}{B q Z:Nat}(h:Pt inE w B q x)(cz:w.cell? ⟨Z,1,none⟩=some (.int .i64 z)):Calls Tryz.prog 104 #[.pointer (some ⟨B,q,none⟩),.pointer (some ⟨Z,0,none⟩)] w fun e w'=>e=.returned (.bool (!(decide (1<=x) && decide (x<=z))))/\Below w.heap.size w w':=by
 obtain⟨cs,hE,hc⟩:=h;cases hE;have c0:w.cell? ⟨B,q,none⟩=some (.int .i64 x):=hc 0 _ rfl;clear hc;by_cases q1:x<1
 ·have k1:decide (x<1)=true:=decide_eq_true q1;have k2:¬ 1<=x:=by omega
  go_enter Tryz.func104,Tryz.ntmps104;go_wp2
  go_quiet (fail)
  go_wp2;go_ret;exact⟨by simp [k2],bdrewN (Below.refl _ _) _⟩
 ·have k1:decide (x<1)=false:=decide_eq_false q1;have k2:1<=x:=by omega
  by_cases q2:z<x
  ·have k4:¬ x<=z:=by omega
   go_enter Tryz.func104,Tryz.ntmps104;go_wp2
   go_quiet (fail)
   go_wp2;go_ret;exact⟨by simp [k4],bdrewN (Below.refl _ _) _⟩
  ·have k4:x<=z:=by omega
   go_enter Tryz.func104,Tryz.ntmps104;go_wp2
   go_quiet (fail)
   go_wp2;go_ret;exact⟨by simp [k2,k4],bdrewN (Below.refl _ _) _⟩
theorem link_f{L:List Tb}{x:Tb}{tv:Value}{B q Z:Nat}(h:Pt tbE w B q x)(hL:Lr tbE 5 w L tv)(cz:w.cell? ⟨Z,2,none⟩=some tv)(hk:∀ t ∈ L,1<=t.cols.length):Calls Tryz.prog 108 #[.pointer (some ⟨B,q,none⟩),.pointer (some ⟨Z,0,none⟩)] w fun e w'=>e=.returned (.bool (!linkB L x))/\Below w.heap.size w w':=by
 obtain⟨cs,⟨cv,iv,kv,rfl,h3⟩,hc⟩:=h;have HO:Hid (∀ X:World,Below w.heap.size w X->Calls Tryz.prog 109 #[tv,tbV x cv iv kv] X fun e w'=>e=.returned (.bool (linkB L x))/\Below X.heap.size X w'):=fun X hX=>links_any (hL.on tbE_held hX) (h3.on hX) hk;have c0:w.cell? ⟨B,q,none⟩=some (.int .i64 x.id):=hc 0 _ rfl;have c1:w.cell? ⟨B,q+1,none⟩=some (.string x.nm):=hc 1 _ rfl;have c2:w.cell? ⟨B,q+2,none⟩=some cv:=hc 2 _ rfl;have c3:w.cell? ⟨B,q+3,none⟩=some iv:=hc 3 _ rfl;have c4:w.cell? ⟨B,q+4,none⟩=some kv:=hc 4 _ rfl;obtain⟨ta,tc,rfl,_⟩:=hL;obtain⟨ca,cc,rfl,_⟩:=h3.c;obtain⟨ia,ic,rfl,_⟩:=h3.i;obtain⟨ka,kc,rfl,_⟩:=h3.k;obtain⟨r,hr⟩:∃ r,linkB L x=r:=⟨_,rfl⟩
 rw [hr]at HO ⊢;clear hr hc h3 hk;go_enter Tryz.func108,Tryz.ntmps108;go_wp2
 go_region_with (go_at_call 109;refine(HO.out _ (by first | exact bdrew (Below.refl _ _)| exact bdrewN (Below.refl _ _) _)).mono ?_;rintro e w1 ⟨rfl,b1⟩)
 all_goals
  go_wp2;go_ret;exact⟨rfl,⟨b1.os,b1.tape,b1.output,b1.size,b1.block⟩⟩
end
end Go.Proofs.YtkhehikaemdnnaaGreat
