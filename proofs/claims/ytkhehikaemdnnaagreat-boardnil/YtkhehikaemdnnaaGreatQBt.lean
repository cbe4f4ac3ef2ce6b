import Derived.Test.YtkhehikaemdnnaaGreatQBr
namespace Go.Proofs.YtkhehikaemdnnaaGreat
set_option maxRecDepth 100000
set_option maxHeartbeats 4000000
open Go.RowKit Go.Maps
section
variable {w : World}
theorem push_name{X:World}{B:Nat}{l:List ByteArray}{v:Value}(ho:X.ownsRow B 9 1 v l.length (l.flatMap stL))(hB:B<=X.heap.size)(x:ByteArray)(hz:l.length<=1000):
  ∃ ad cap w',(Builtin.append_ #[155,155] 155 #[v,.slice (some ⟨X.heap.size,0,none⟩) 1 1]).run Tryz.prog (X.alloc (.cells #[.string x] 9))=.ok (.slice ad (l.length+1) cap) w'/\w'.ownsRow B 9 1 (.slice ad (l.length+1) cap) (l ++ [x]).length ((l ++ [x]).flatMap stL)/\Below B X w'/\Fr X w' (fun k=>v.ownBlock=some k):=by
 have hal:=bnew X (.cells #[.string x] 9);have hj:=heap_alloc_new X (.cells #[.string x] 9);obtain⟨ad,cap,w',h1,h2,h3,h4⟩:=run_st (m:=1) (c:=1) (news:=stL x) (own_below ho hal) (Nat.le_trans hB hal.size) (.inr ⟨_,rfl,rfl,fun j u hu=>by
  rw [add_at,Nat.zero_add,cell_blk hj];simpa using hu⟩) (fun u hu=>by
   simp at hu;subst hu;rfl) (by omega)
 exact⟨ad,cap,w',h1,by simpa using h2,(hal.mono hB).grown h3 (Nat.le_trans hB hal.size) (fun k hk=>(own_ge ho k hk).1),((Fr.refl X _).alloc _).grown h3 (fun k hk=>.inl hk)⟩
theorem app_ids{X:World}{B C:Nat}{l m:List Int}{v:Value}{ad2:Option Addr}{c2 n:Nat}(ho:X.ownsRow B 3 1 v l.length (l.flatMap inL))(hB:B<=X.heap.size)(hs:X.ownsRow C 3 1 (.slice ad2 n c2) n (m.flatMap inL))(hn:n=m.length)(hz:l.length+m.length<=100000):
  ∃ ad cap w',(Builtin.append_ #[85,85] 85 #[v,.slice ad2 n c2]).run Tryz.prog X=.ok (.slice ad (l.length+n) cap) w'/\w'.ownsRow B 3 1 (.slice ad (l.length+n) cap) (l ++ m).length ((l ++ m).flatMap inL)/\Below B X w'/\Fr X w' (fun k=>v.ownBlock=some k):=by
 subst hn;have hsrc:=Lr.src inL_len (L:=m) (ad:=ad2) (cap:=c2) (w:=X) (Lr.own inL_len hs);obtain⟨ad,cap,w',h1,h2,h3,h4⟩:=run_in (m:=m.length) (c:=c2) (news:=m.flatMap inL) ho hB hsrc (fun u hu=>by
   obtain⟨y,_,hy⟩:=List.mem_flatMap.1 hu;simp at hy;subst hy;rfl) (by omega)
 refine⟨ad,cap,w',h1,?_,(Below.refl B X).grown h3 hB (fun k hk=>(own_ge ho k hk).1),(Fr.refl X _).grown h3 (fun k hk=>.inl hk)⟩;rw [List.flatMap_append,List.length_append];exact h2
theorem tab_few{t:Tb}(h:cntB t=true):t.few/\1<=t.cols.length/\(idsT t).length<=25:=by
 unfold cntB at h;simp only [Bool.and_eq_true,decide_eq_true_eq]at h;refine⟨⟨by omega,by omega,by omega⟩,by omega,?_⟩;simp only [idsT,List.length_cons,List.length_append,List.length_map];omega
theorem ids_len{L:List Tb}(h:∀ t ∈ L,cntB t=true):(idsS L).length<=L.length*25:=by
 unfold idsS
 induction L with
 | nil=>simp
 | cons t L ih =>
  rw [List.flatMap_cons,List.length_append,List.length_cons];have h1:=(tab_few (h t List.mem_cons_self)).2.2;have h2:=ih (fun x hx=>h x (List.mem_cons_of_mem _ hx));omega
theorem right_sch{s:Sc}{tv:Value}(hL:Lr tbE 5 w s.tabs tv)(hI:∀ t ∈ s.tabs,∀ i ∈ idsT t,I64 i):Calls Tryz.prog 73 #[scV s tv] w fun e w'=>e=.returned (.bool (rightS s))/\Below w.heap.size w w':=by
 have HL:=lh hL;have HI:=lh hI;obtain⟨ta,tc,rfl,_,q1,q2,hX⟩:=hL;have hmx:(s.tabs.length:Int)<=9223372036854775807:=by unfold maxLen at q2;omega
 obtain⟨W,hW⟩:∃ W,W=w.alloc (.cells #[.int .i64 s.ver,.int .i64 s.last,.slice ta s.tabs.length tc] 30):=⟨_,rfl⟩
 have hbW:=bw1 hW;obtain⟨Y0,hY0⟩:∃ Y0,w.heap.size=Y0:=⟨_,rfl⟩
 have jY0:W.heap[Y0]?=some (.cells #[.int .i64 s.ver,.int .i64 s.last,.slice ta s.tabs.length tc] 30 (0,0)):=nw11 hW hY0;have d0:W.cell? ⟨Y0,0,none⟩=some (.int .i64 s.ver):=cell_blk jY0 0;have d1:W.cell? ⟨Y0,1,none⟩=some (.int .i64 s.last):=cell_blk jY0 1;have d2:W.cell? ⟨Y0,2,none⟩=some (.slice ta s.tabs.length tc):=cell_blk jY0 2;have J0:=lh jY0;have HX:=lh hX;obtain⟨b1,hb1⟩:∃ b,s.tabs.all tabB=b:=⟨_,rfl⟩
 have HR:Hid (rightS s=(farB s.ver && farB s.last && decide (s.tabs.length<=6) && s.tabs.all tabB && (idsS s.tabs).all (fun i=>decide (1<=i) && decide (i<=s.last)) && decide (idsS s.tabs).Nodup && decide (s.tabs.map Tb.nm).Nodup && s.tabs.all (linkB s.tabs))):=lh rfl;have HW:=lh hW;have HBW:=lh hbW;have HY0:=lh hY0;clear hW hbW hY0;clear jY0 hI hX q1 q2 hb1;obtain⟨a1,ha1⟩:∃ a,s.ver=a:=⟨_,rfl⟩
 obtain⟨a2,ha2⟩:∃ a,s.last=a:=⟨_,rfl⟩
 by_cases v1:s.ver<0
 ·have HE:Hid (rightS s=false):=lh (by rw [HR.out];unfold farB;simp;omega);clear ha1 ha2;go_enter Tryz.func73,Tryz.ntmps73;go_upto_region 1 with fail
  rw [<-HW.out,HY0.out];go_wp2;go_ret;exact⟨by rw [HE.out];rfl,HBW.out⟩
 by_cases v2:1125899906842624<s.ver
 ·have HE:Hid (rightS s=false):=lh (by rw [HR.out];unfold farB;simp;omega);clear ha1 ha2;go_enter Tryz.func73,Tryz.ntmps73;go_upto_region 1 with fail
  rw [<-HW.out,HY0.out];go_wp2;go_ret;exact⟨by rw [HE.out];rfl,HBW.out⟩
 by_cases v3:s.last<0
 ·have HE:Hid (rightS s=false):=lh (by rw [HR.out];unfold farB;simp;omega);clear ha1 ha2;go_enter Tryz.func73,Tryz.ntmps73;go_upto_region 1 with fail
  rw [<-HW.out,HY0.out];go_wp2;go_ret;exact⟨by rw [HE.out];rfl,HBW.out⟩
 by_cases v4:1125899906842624<s.last
 ·have HE:Hid (rightS s=false):=lh (by rw [HR.out];unfold farB;simp;omega);clear ha1 ha2;go_enter Tryz.func73,Tryz.ntmps73;go_upto_region 1 with fail
  rw [<-HW.out,HY0.out];go_wp2;go_ret;exact⟨by rw [HE.out];rfl,HBW.out⟩
 by_cases v5:6<(s.tabs.length:Int)
 ·have HE:Hid (rightS s=false):=lh (by rw [HR.out];simp;omega);clear ha1 ha2;go_enter Tryz.func73,Tryz.ntmps73;go_upto_region 1 with fail
  rw [<-HW.out,HY0.out];go_wp2;go_ret;exact⟨by rw [HE.out];rfl,HBW.out⟩
 have HR2:Hid (rightS s=(s.tabs.all tabB && (idsS s.tabs).all (fun i=>decide (1<=i) && decide (i<=s.last)) && decide (idsS s.tabs).Nodup && decide (s.tabs.map Tb.nm).Nodup && s.tabs.all (linkB s.tabs))):=by
  rw [HR.out];have e1:farB s.ver=true:=by unfold farB;simp;omega
  have e2:farB s.last=true:=by unfold farB;simp;omega
  have e3:decide (s.tabs.length<=6)=true:=decide_eq_true (by omega);rw [e1,e2,e3];exact lh rfl
 have H6:Hid (s.tabs.length<=6):=lh (by omega);clear ha1 ha2;go_enter Tryz.func73,Tryz.ntmps73;go_upto_region 1 with fail
 rw [<-HW.out,HY0.out];go_wp2;clear v1 v2 v3 v4 v5 d0 d1 d2;go_loopw [3,4,35] (fun nv dv iv wr=>∃ i:Nat,i<=s.tabs.length/\iv=.int .i64 (i:Int)/\(∀ t ∈ s.tabs.take i,tabB t=true)/\wr.ownsRow W.heap.size 9 1 nv ((s.tabs.take i).map Tb.nm).length (((s.tabs.take i).map Tb.nm).flatMap stL)/\wr.ownsRow W.heap.size 3 1 dv (idsS (s.tabs.take i)).length ((idsS (s.tabs.take i)).flatMap inL)/\Below W.heap.size W wr) (fun _ _ iv _=>s.tabs.length - (intOf iv).toNat)
 case atStart=>exact⟨0,Nat.zero_le _,rfl,fun t ht=>by simp at ht,World.ownsRow_nil _ _ 9 1,World.ownsRow_nil _ _ 3 1,Below.refl _ _⟩
 case round =>
  obtain⟨i,hi,rfl,hno,ho,ho2,hb⟩:=hrel;obtain⟨V,rfl⟩:∃ V,V=wr:=⟨_,rfl⟩
  have HN:=lh hno;have HB:=lh hb;obtain⟨nad,ncap,hsh⟩:=own_shape ho;have hln:((s.tabs.take i).map Tb.nm).length=i:=by rw [List.length_map,List.length_take];omega
  rw [hln]at hsh;subst hsh;obtain⟨N,hN⟩:∃ N,(idsS (s.tabs.take i)).length=N:=⟨_,rfl⟩
  have hN25:N<=150:=by
   have q:=ids_len (L:=s.tabs.take i) (fun t ht=>by have:=hno t ht;unfold tabB at this;simp only [Bool.and_eq_true]at this;exact this.1.1);rw [hN,List.length_take]at q;have:=H6.out;omega
  obtain⟨iad,icap,hsh2⟩:=own_shape ho2;rw [hN]at hsh2;subst hsh2;have HO:=lh ho;have HO2:=lh ho2;have HLN:=lh (And.intro hln (And.intro hN hN25));clear hno ho ho2 hln hN hN25;by_cases hlt:i<s.tabs.length
  ·have k0:(0:Int)<=i:=by omega
   have k1:(i:Int)<s.tabs.length:=by omega
   obtain⟨b,p,cs,rfl,hbl,hE,_,hcell⟩:=HX.out i hlt;obtain⟨cv,iv,kv,rfl,h3⟩:=hE;obtain⟨t,ht⟩:∃ t,s.tabs[i]=t:=⟨_,rfl⟩
   rw [ht]at hcell h3;have HT:Hid (s.tabs.take (i+1)=s.tabs.take i ++ [t]):=by
    rw [List.take_succ_eq_append_getElem hlt,ht];exact lh rfl
   have hmem:t ∈ s.tabs:=by rw [<-ht];exact List.getElem_mem hlt
   have HNO:Hid (tabB t=false->rightS s=false):=fun q=>by
    rw [HR2.out];have:s.tabs.all tabB=false:=List.all_eq_false.2 ⟨t,hmem,by simp [q]⟩;rw [this];rfl
   have hwV:=bgo HBW.out hb;have h3V:=h3.on hwV;obtain⟨ca,cc,ec,_⟩:=h3.c;obtain⟨ia,ic,ei,_⟩:=h3.i;obtain⟨ka,kc,ek,_⟩:=h3.k;subst ec ei ek;have c0:=cell_on hwV (hcell 0 _ rfl);have c1:=cell_on hwV (hcell 1 _ rfl);have c2:=cell_on hwV (hcell 2 _ rfl);have c3:=cell_on hwV (hcell 3 _ rfl);have c4:=cell_on hwV (hcell 4 _ rfl);rw [Nat.add_zero]at c0;obtain⟨V1,hV1⟩:∃ V1,V1=V.alloc (.cells (tbA t (.slice ca t.cols.length cc) (.slice ia t.ixs.length ic) (.slice ka t.fks.length kc)) 64):=⟨_,rfl⟩
   obtain⟨Q,hQ⟩:∃ Q,V.heap.size=Q:=⟨_,rfl⟩
   have jQ:V1.heap[Q]?=some (.cells (tbA t (.slice ca t.cols.length cc) (.slice ia t.ixs.length ic) (.slice ka t.fks.length kc)) 64 (0,0)):=by rw [hV1,<-hQ];exact heap_alloc_new V _
   have bV:Below V.heap.size V V1:=by rw [hV1];exact bnew _ _
   have HG:Hid (∀ X,Below V1.heap.size V1 X->X.cell? ⟨Q,0,none⟩=some (.int .i64 t.id)/\X.cell? ⟨Q,1,none⟩=some (.string t.nm)/\X.cell? ⟨Q,2,none⟩=some (.slice ca t.cols.length cc)/\X.cell? ⟨Q,3,none⟩=some (.slice ia t.ixs.length ic)/\X.cell? ⟨Q,4,none⟩=some (.slice ka t.fks.length kc)):=fun X hX=>⟨cell_on hX (cell_blk jQ 0),cell_on hX (cell_blk jQ 1),cell_on hX (cell_blk jQ 2),cell_on hX (cell_blk jQ 3),cell_on hX (cell_blk jQ 4)⟩
   obtain⟨g0,g1,g2,g3,g4⟩:=HG.out V1 (Below.refl _ _);have H3:=lh (h3V.on bV);have BV:=lh bV;have HV1:=lh hV1;have HQ:=lh hQ;have JQ:=lh jQ;have HM:=lh hmem;have H30:=lh h3;have hcnt:=counts_any (w:=V1) (t:=t) (ca:=ca) (ia:=ia) (ka:=ka) (cc:=cc) (ic:=ic) (kc:=kc);clear hcell h3 h3V hwV ht hV1 hQ jQ bV hb hbl hmem;go_upto_region 8 with fail
   rw [<-HV1.out,HQ.out];clear c0 c1 c2 c3 c4;have HTB:Hid (tabB t=(cntB t && nameB t.nm && elB t)):=lh rfl;cases z1:cntB t with
   | false =>
    rw [z1]at hcnt;have HE:=lh (HNO.out (by rw [HTB.out,z1];rfl));clear z1;go_wp2_with (go_at_call 99;refine hcnt.mono ?_;rintro e w1 ⟨rfl,b1⟩;refine Hid.out ?_)
    refine lh ?_;have HB1:=lh b1;clear hcnt b1;go_wp2;go_ret;exact⟨by rw [HE.out];rfl,bgo HBW.out (bgo HB.out (bgo BV.out HB1.out))⟩
   | true =>
    rw [z1]at hcnt;have HF:=lh (tab_few z1);have Z1:=lh z1;clear z1;go_wp2_with (go_at_call 99;refine hcnt.mono ?_;rintro e w1 ⟨rfl,b1⟩;refine Hid.out ?_)
    refine lh ?_;have HB1:=lh b1;obtain⟨x0,x1,x2,x3,x4⟩:=HG.out w1 b1;have hname:=name_any (w:=w1) t.nm;have hel:=elements_any (H3.out.on b1) HF.out.1 HF.out.2.1;clear hcnt b1 g0 g1 g2 g3 g4;cases z2:nameB t.nm with
    | false =>
     rw [z2]at hname;have HE:=lh (HNO.out (by rw [HTB.out,z2];simp));clear z2 hel;go_wp2_with (go_at_call 100;refine hname.mono ?_;rintro e w2 ⟨rfl,rfl⟩;refine Hid.out ?_)
     refine lh ?_;clear hname;go_wp2;go_ret;exact⟨by rw [HE.out];rfl,bgo HBW.out (bgo HB.out (bgo BV.out HB1.out))⟩
    | true =>
     rw [z2]at hname;have Z2:=lh z2;clear z2;cases z3:elB t with
     | false =>
      rw [z3]at hel;have HE:=lh (HNO.out (by rw [HTB.out,z3];simp));clear z3;go_wp2_with (first|(go_at_call 100;refine hname.mono ?_;rintro e w2 ⟨rfl,rfl⟩)|(go_at_call 101;refine hel.mono ?_;rintro e w3 ⟨rfl,b3⟩;refine Hid.out ?_))
      refine lh ?_;have HB3:=lh b3;clear hname hel b3;go_wp2;go_ret;exact⟨by rw [HE.out];rfl,bgo HBW.out (bgo HB.out (bgo BV.out (bgo HB1.out HB3.out)))⟩
     | true =>
      rw [z3]at hel;have HOK:Hid (tabB t=true):=by rw [HTB.out,Z1.out,Z2.out,z3];exact lh rfl
      clear z3;go_wp2_with (first|(go_at_call 100;refine hname.mono ?_;rintro e w2 ⟨rfl,rfl⟩)|(go_at_call 101;refine hel.mono ?_;rintro e w3 ⟨rfl,b3⟩;refine Hid.out ?_))
      refine lh ?_;have b13:=bgo HB1.out b3;have bVw:=bgo BV.out b13;obtain⟨y0,y1,y2,y3,y4⟩:=HG.out w3 b13;have hBs:W.heap.size<=w3.heap.size:=Nat.le_trans HB.out.size bVw.size;obtain⟨nad2,ncap2,w4,hrun,r1,r2,r3⟩:=push_name (own_below HO.out bVw) hBs t.nm (by have:=H6.out;have:=HLN.out.1;omega);rw [HLN.out.1]at hrun r1;have oI:w4.ownsRow W.heap.size 3 1 (.slice iad N icap) (idsS (s.tabs.take i)).length ((idsS (s.tabs.take i)).flatMap inL):=keep_rowB (own_below HO2.out bVw) r3 (fun k hk cs tg=>by
       obtain⟨cs2,t2⟩:=own_tag (own_below HO.out bVw) k hk;rw [t2]at tg;simp only [Option.some.injEq,Obj.cells.injEq]at tg;exact absurd tg.2.1 (by decide))
      have jQ4:w4.heap[Q]?=some (.cells (tbA t (.slice ca t.cols.length cc) (.slice ia t.ixs.length ic) (.slice ka t.fks.length kc)) 64 (0,0)):=by
       rw [r3.block Q (Nat.lt_of_lt_of_le (blk_lt JQ.out) b13.size) (fun hk=>?_),b13.block Q (blk_lt JQ.out)]
       ·exact JQ.out
       ·obtain⟨cs2,t2⟩:=own_tag (own_below HO.out bVw) Q hk;rw [b13.block Q (blk_lt JQ.out),JQ.out]at t2;simp only [Option.some.injEq,Obj.cells.injEq]at t2;exact absurd t2.2.1 (by decide)
      have h3w:Three w4 t (.slice ca t.cols.length cc) (.slice ia t.ixs.length ic) (.slice ka t.fks.length kc):=by
       have hWw4:Below w.heap.size w w4:=by
        have q1:=bgo HBW.out HB.out;have q2:=bgo q1 bVw;exact q2.trans (r2.mono HBW.out.size)
       exact H30.out.on hWw4
      have hids:=idsOf_any h3w HF.out.1;have u0:w4.cell? ⟨Q,0,none⟩=some (.int .i64 t.id):=cell_blk jQ4 0;have u1:w4.cell? ⟨Q,1,none⟩=some (.string t.nm):=cell_blk jQ4 1;have u2:w4.cell? ⟨Q,2,none⟩=some (.slice ca t.cols.length cc):=cell_blk jQ4 2;have u3:w4.cell? ⟨Q,3,none⟩=some (.slice ia t.ixs.length ic):=cell_blk jQ4 3;have u4:w4.cell? ⟨Q,4,none⟩=some (.slice ka t.fks.length kc):=cell_blk jQ4 4;have BW4:=lh (HB.out.trans ((bVw.mono HB.out.size).trans r2));have OI:=lh oI;have R1:=lh r1;clear hname hel b3 b13 bVw hBs r1 r2 r3 oI jQ4 h3w x0 x1 x2 x3 x4;go_upto_region 11 with (at_builtin;refine wpl_run2 _ _ rfl (by simp [Act.eval]) (by simp [Act.eval]) hrun ?_)
      clear y0 y1 y2 y3 y4;go_wp2_with (go_at_call 102;refine hids.mono ?_;rintro e w5 ⟨ad5,n5,cap5,rfl,hn5,o5,b5⟩;have HN5:=lh hn5;clear hn5;refine Hid.out ?_)
      refine lh ?_;obtain⟨ad6,cap6,w6,hrun6,r61,r62,r63⟩:=app_ids (own_below OI.out b5) (Nat.le_trans BW4.out.size b5.size) o5 HN5.out (by
       have:=HLN.out.2;have:=HF.out.2.2;omega)
      rw [HLN.out.2.1]at hrun6 r61;have oN:w6.ownsRow W.heap.size 9 1 (.slice nad2 (i+1) ncap2) ((s.tabs.take i).map Tb.nm ++ [t.nm]).length (((s.tabs.take i).map Tb.nm ++ [t.nm]).flatMap stL):=keep_rowB (own_below R1.out b5) r63 (fun k hk cs tg=>by
       obtain⟨cs2,t2⟩:=own_tag (own_below OI.out b5) k hk;rw [t2]at tg;simp only [Option.some.injEq,Obj.cells.injEq]at tg;exact absurd tg.2.1 (by decide))
      have ON:=lh oN;have R61:=lh r61;have B6:=lh (BW4.out.trans ((b5.mono BW4.out.size).trans r62));have HIS:Hid (idsS (s.tabs.take i) ++ idsT t=idsS (s.tabs.take (i+1))):=by
       rw [HT.out];unfold idsS;rw [List.flatMap_append,List.flatMap_singleton];exact lh rfl
      have HMN:Hid ((s.tabs.take i).map Tb.nm ++ [t.nm]=(s.tabs.take (i+1)).map Tb.nm):=by
       rw [HT.out,List.map_append];exact lh rfl
      have HNX:Hid (∀ y ∈ s.tabs.take (i+1),tabB y=true):=fun y hy=>by
       rw [HT.out]at hy;rcases List.mem_append.1 hy with q | q
       ·exact HN.out y q
       ·rw [List.mem_singleton.1 q];exact HOK.out
      clear hids o5 b5 r61 r62 r63 oN;go_wp2_with (at_builtin;refine wpl_run2 _ _ rfl (by simp [Act.eval]) (by simp [Act.eval]) hrun6 ?_)
      go_roundw
      case rel=>exact⟨i+1,hlt,by go_num,HNX.out,by rw [<-HMN.out];exact ON.out,by rw [<-HIS.out];exact R61.out,B6.out⟩
      case measure=>simp [intOf];omega
  ·have k1:¬ (i:Int)<s.tabs.length:=by omega
   obtain rfl:i=s.tabs.length:=by omega
   have ho:=HO.out;have ho2:=HO2.out;have hno:=HN.out;have hN2:=HLN.out.2.1;rw [List.take_length]at ho ho2 hno hN2;have hall:s.tabs.all tabB=true:=List.all_eq_true.2 hno;have hk1:∀ t ∈ s.tabs,1<=t.cols.length:=fun t ht=>by
    have:=hno t ht;unfold tabB at this;simp only [Bool.and_eq_true]at this;exact(tab_few this.1.1).2.1
   have hcn:∀ t ∈ s.tabs,nameB t.nm=true:=fun t ht=>by
    have:=hno t ht;unfold tabB at this;simp only [Bool.and_eq_true]at this;exact this.1.2
   have e0:∀ X,Below W.heap.size W X->X.cell? ⟨Y0,1,none⟩=some (.int .i64 s.last)/\X.cell? ⟨Y0,2,none⟩=some (.slice ta s.tabs.length tc):=fun X hX=>⟨cell_on hX (cell_blk J0.out 1),cell_on hX (cell_blk J0.out 2)⟩
   have hLI:=Lr.own inL_len ho2;have hLN:=Lr.own stL_len ho;rw [hN2]at ho2;have hc1:=findN_any (w:=V) (f:=104) (cs:=#[.pointer (some ⟨Y0,0,none⟩)]) (p:=fun x=>!(decide (1<=x) && decide (x<=s.last))) hLI goes104 (fun X hX B q x _ _ hp=>id_f hp (e0 X (hb.trans (hX.mono hb.size))).1);have HC2:Hid (∀ X,Below V.heap.size V X->Calls Tryz.prog 105 #[.slice iad N icap] X fun e w'=>e=.returned (.bool (decide (idsS s.tabs).Nodup))/\Below X.heap.size X w'):=fun X hX=>unlikeN_any (hLI.on inE_held hX) (fun x hx=>by
    unfold idsS at hx;obtain⟨t,ht,hx⟩:=List.mem_flatMap.1 hx;exact HI.out t ht x hx)
   have HC3:Hid (∀ X,Below V.heap.size V X->Calls Tryz.prog 106 #[.slice nad s.tabs.length ncap] X fun e w'=>e=.returned (.bool (decide (s.tabs.map Tb.nm).Nodup))/\Below X.heap.size X w'):=fun X hX=>unlikeS_any (hLN.on stE_held hX) (fun x hx=>by
    obtain⟨t,ht,rfl⟩:=List.mem_map.1 hx;have:=nameB_sz (hcn t ht);unfold okS maxLen;omega)
   have HC4:Hid (∀ X,Below V.heap.size V X->X.cell? ⟨Y0,2,none⟩=some (.slice ta s.tabs.length tc)/\Calls Tryz.prog 107 #[.slice ta s.tabs.length tc,.func (.func 108) #[] #[.pointer (some ⟨Y0,0,none⟩)]] X fun e w'=>e=.returned (.int .i64 (fidx (fun x=>!linkB s.tabs x) s.tabs))/\Below X.heap.size X w'):=fun X hX=>by
    have q1:=hb.trans (hX.mono hb.size);have q2:=bgo HBW.out q1;exact⟨(e0 X q1).2,findT_any (w:=X) (f:=108) (p:=fun x=>!linkB s.tabs x) (HL.out.on tbE_held q2) goes108 (fun X' hX' B q x _ _ hp=>link_f hp ((HL.out.on tbE_held q2).on tbE_held hX') (e0 X' (q1.trans (hX'.mono q1.size))).2 hk1)⟩
   have n1:=fidx_any (fun x:Int=>!(decide (1<=x) && decide (x<=s.last))) (idsS s.tabs);have n4:=fidx_neg (fun x:Tb=>!linkB s.tabs x) s.tabs;simp only [Bool.not_not]at n4;obtain⟨i1,hi1⟩:∃ i1,fidx (fun x:Int=>!(decide (1<=x) && decide (x<=s.last))) (idsS s.tabs)=i1:=⟨_,rfl⟩
   obtain⟨i4,hi4⟩:∃ i4,fidx (fun x:Tb=>!linkB s.tabs x) s.tabs=i4:=⟨_,rfl⟩
   obtain⟨r1,hr1⟩:∃ r1,(idsS s.tabs).any (fun x=>!(decide (1<=x) && decide (x<=s.last)))=r1:=⟨_,rfl⟩
   obtain⟨r2,hr2⟩:∃ r2,decide (idsS s.tabs).Nodup=r2:=⟨_,rfl⟩
   obtain⟨r3,hr3⟩:∃ r3,decide (s.tabs.map Tb.nm).Nodup=r3:=⟨_,rfl⟩
   obtain⟨r4,hr4⟩:∃ r4,s.tabs.all (fun x=>linkB s.tabs x)=r4:=⟨_,rfl⟩
   have HRR:Hid (rightS s=(!r1 && r2 && r3 && r4)):=lh (by
    rw [HR2.out,hall,hr2,hr3,show s.tabs.all (linkB s.tabs)=r4 from hr4,<-hr1,List.not_any_eq_all_not];simp only [Bool.not_not,Bool.true_and])
   rw [hi1]at hc1 n1;rw [hi4]at HC4 n4;rw [hr1]at n1;rw [hr2]at HC2;rw [hr3]at HC3;rw [hr4]at n4;have BE:=lh (bgo HBW.out hb);clear ho ho2 hno hN2 hall hk1 hcn e0 hLI hLN hi1 hi4 hr1 hr2 hr3 hr4 hb;go_upto_region 14 with (go_at_call 103;refine hc1.mono ?_;rintro e w1 ⟨rfl,b1⟩;refine Hid.out ?_)
   refine lh ?_;have hc2:=HC2.out w1 b1;have HB1:=lh b1;clear hc1 b1;cases r1 with
   | true =>
    have z1:=of_decide_eq_true n1;clear n1;go_wp2;go_ret;exact⟨by rw [HRR.out];simp,bgo BE.out HB1.out⟩
   | false =>
    have z1:=of_decide_eq_false n1;clear n1;cases r2 with
    | false =>
     go_wp2_with (go_at_call 105;refine hc2.mono ?_;rintro e w2 ⟨rfl,b2⟩;refine Hid.out ?_)
     refine lh ?_;have HB2:=lh b2;clear hc2 b2;go_wp2;go_ret;exact⟨by rw [HRR.out];simp,bgo BE.out (bgo HB1.out HB2.out)⟩
    | true =>
     go_wp2_with (go_at_call 105;refine hc2.mono ?_;rintro e w2 ⟨rfl,b2⟩;refine Hid.out ?_)
     refine lh ?_;have HB2:=lh (bgo HB1.out b2);have hc3:=HC3.out w2 (bgo HB1.out b2);clear hc2 b2;cases r3 with
     | false =>
      go_wp2_with (go_at_call 106;refine hc3.mono ?_;rintro e w3 ⟨rfl,b3⟩;refine Hid.out ?_)
      refine lh ?_;have HB3:=lh b3;clear hc3 b3;go_wp2;go_ret;exact⟨by rw [HRR.out];simp,bgo BE.out (bgo HB2.out HB3.out)⟩
     | true =>
      go_wp2_with (go_at_call 106;refine hc3.mono ?_;rintro e w3 ⟨rfl,b3⟩;refine Hid.out ?_)
      refine lh ?_;have HB3:=lh (bgo HB2.out b3);obtain⟨e4,hc4⟩:=HC4.out w3 (bgo HB2.out b3);clear hc3 b3;have HN4:=lh n4;clear n4;go_wp2_with (go_at_call 107;refine hc4.mono ?_;rintro e w4 ⟨rfl,b4⟩;refine Hid.out ?_)
      refine lh ?_;have HB4:=lh b4;clear hc4 b4;go_wp2;go_ret;exact⟨by rw [HRR.out,<-HN4.out];simp,bgo BE.out (bgo HB3.out HB4.out)⟩
end
end Go.Proofs.YtkhehikaemdnnaaGreat
namespace Go.Proofs.YtkhehikaemdnnaaGreat
set_option maxRecDepth 100000
set_option maxHeartbeats 1000000
open Go.RowKit Go.Maps
section
variable {w : World}
theorem give_any{A:Nat}{s:Sc}{tv:Value}(hA:w.heap[A]?=some (.cells (scA s tv) 30 (0,0)))(hl:farB s.last=true):Calls Tryz.prog 162 #[.pointer (some ⟨A,0,none⟩)] w fun e w'=>e=.returned (.int .i64 (s.last+1))/\w'=w.setCell ⟨A,1,none⟩ (.int .i64 (s.last+1)):=by
 have c1:w.cell? ⟨A,1,none⟩=some (.int .i64 s.last):=cell_blk hA 1;have f1:w.frozen? ⟨A,1,none⟩=false:=frozen_blk hA 1;have hf:0<=s.last/\s.last<=1125899906842624:=by unfold farB at hl;simpa using hl
 have h1:-9223372036854775808<=s.last+1:=by omega
 have h2:s.last+1<=9223372036854775807:=by omega
 obtain⟨l,hl'⟩:∃ l,s.last=l:=⟨_,rfl⟩
 rw [hl']at c1 h1 h2 ⊢;clear hf hl hl' hA;go_enter Tryz.func162,Tryz.ntmps162;go_wp2;go_ret;exact⟨rfl,rfl⟩
theorem pubC_any{t:Tb}{B q:Nat}(z:ByteArray)(h:Pt tbE w B q t):Calls Tryz.prog 167 #[.pointer (some ⟨B,q,none⟩),.string z] w fun e w'=>e=.returned (.int .i64 (fidx (fun c=>decide (c.nm=z) && decide (c.st=3)) t.cols))/\Below w.heap.size w w':=by
 obtain⟨cs,⟨cv,iv,kv,rfl,h3⟩,hc⟩:=h;obtain⟨W,hW⟩:∃ W,W=w.alloc (.cells #[.string z] 9):=⟨_,rfl⟩
 have hbW:=bw1 hW;obtain⟨Y0,hY0⟩:∃ Y0,w.heap.size=Y0:=⟨_,rfl⟩
 have jY0:W.heap[Y0]?=some (.cells #[.string z] 9 (0,0)):=nw11 hW hY0;have hcall:=findC_any (w:=W) (f:=179) (cs:=#[.pointer (some ⟨Y0,0,none⟩)]) (p:=fun c=>decide (c.nm=z) && decide (c.st=3)) (h3.c.on colE_held hbW) goes179 (fun X hX B q x _ _ hp=>pub_f hp (cell_on hX (cell_blk jY0 0)));have c2:W.cell? ⟨B,q+2,none⟩=some cv:=cell_on hbW (hc 2 _ rfl);obtain⟨ca,cc,rfl,_⟩:=h3.c;have HW:=lh hW;have HBW:=lh hbW;have HY0:=lh hY0;clear hW hbW hY0;clear jY0 h3 hc;go_enter Tryz.func167,Tryz.ntmps167;go_upto_region 1 with fail
 rw [<-HW.out,HY0.out];go_wp2_with fail
 refine hcall.mono ?_;rintro e w1 ⟨rfl,b1⟩;go_wp2;go_ret;exact⟨rfl,bgo HBW.out b1⟩
theorem refN_any(i:Int):Calls Tryz.prog 133 #[.int .i64 i] w fun e w'=>e=.returned (.int .i64 (if i<0 then 153 else 0))/\w'=w:=by
 by_cases h:i<0
 ·rw [if_pos h];go_enter Tryz.func133,Tryz.ntmps133;go_wp2;go_ret;exact⟨rfl,rfl⟩
 ·rw [if_neg h];go_enter Tryz.func133,Tryz.ntmps133;go_wp2;go_ret;exact⟨rfl,rfl⟩
theorem refC_no{B q:Nat}:Calls Tryz.prog 131 #[.pointer (some ⟨B,q,none⟩),.int .i64 (-1)] w fun e w'=>e=.returned (.int .i64 151)/\w'=w:=by
 go_enter Tryz.func131,Tryz.ntmps131;go_wp2;go_ret;exact⟨rfl,rfl⟩
theorem refC_any{t:Tb}{B q i:Nat}(h:Pt tbE w B q t)(hi:i<t.cols.length):Calls Tryz.prog 131 #[.pointer (some ⟨B,q,none⟩),.int .i64 (i:Int)] w fun e w'=>e=.returned (.int .i64 (if usedB t i t.cols[i] then 155 else 0))/\Below w.heap.size w w':=by
 obtain⟨cs,⟨cv,iv,kv,rfl,h3⟩,hc⟩:=h;obtain⟨c,hcc⟩:∃ c,t.cols[i]=c:=⟨_,rfl⟩
 have H3:=lh h3;obtain⟨ca,cc,rfl,_,_,_,hX⟩:=h3.c;obtain⟨b,p,cs1,rfl,_,hE,_,hcell⟩:=hX i hi;cases hE;rw [hcc]at hcell ⊢;have k0:(0:Int)<=i:=by omega
 have k1:(i:Int)<t.cols.length:=by omega
 have kn:¬ (i:Int)<0:=by omega
 have c0:w.cell? ⟨b,p+i*7,none⟩=some (.int .i64 c.id):=hcell 0 _ rfl;have c2:w.cell? ⟨B,q+2,none⟩=some (.slice (some ⟨b,p,none⟩) t.cols.length cc):=hc 2 _ rfl;obtain⟨ia,ic,rfl,_⟩:=h3.i;obtain⟨ka,kc,rfl,_⟩:=h3.k;obtain⟨W,hW⟩:∃ W,W=w.alloc (.cells #[.int .i64 c.id] 3):=⟨_,rfl⟩
 have hbW:=bw1 hW;obtain⟨Y0,hY0⟩:∃ Y0,w.heap.size=Y0:=⟨_,rfl⟩
 have jY0:W.heap[Y0]?=some (.cells #[.int .i64 c.id] 3 (0,0)):=nw11 hW hY0;have c3:W.cell? ⟨B,q+3,none⟩=some (.slice ia t.ixs.length ic):=cell_on hbW (hc 3 _ rfl);have hc1:=findI_any (w:=W) (f:=170) (cs:=#[.pointer (some ⟨Y0,0,none⟩)]) (p:=fun x=>decide (x.col=c.id)) (H3.out.i.on ixE_held hbW) goes170 (fun X hX B q x _ _ hp=>rx_f hp (cell_on hX (cell_blk jY0 0)));have HF:Hid (∀ X,Below W.heap.size W X->X.cell? ⟨B,q+4,none⟩=some (.slice ka t.fks.length kc)/\Calls Tryz.prog 156 #[.slice ka t.fks.length kc,.func (.func 171) #[] #[.pointer (some ⟨Y0,0,none⟩)]] X fun e w'=>e=.returned (.int .i64 (fidx (fun x=>decide (x.col=c.id)) t.fks))/\Below X.heap.size X w'):=fun X hX=>by
  have hwX:=bgo hbW hX;exact⟨cell_on hwX (hc 4 _ rfl),findK_any (w:=X) (f:=171) (p:=fun x=>decide (x.col=c.id)) (H3.out.k.on fkE_held hwX) goes171 (fun X' hX' B q x _ _ hp=>rk_f hp (cell_on (bgo hX hX') (cell_blk jY0 0)))⟩
 have n1:=fidx_any (fun x:Ix=>decide (x.col=c.id)) t.ixs;have n2:=fidx_any (fun x:Fk=>decide (x.col=c.id)) t.fks;obtain⟨i1,hi1⟩:∃ i1,fidx (fun x:Ix=>decide (x.col=c.id)) t.ixs=i1:=⟨_,rfl⟩
 obtain⟨i2,hi2⟩:∃ i2,fidx (fun x:Fk=>decide (x.col=c.id)) t.fks=i2:=⟨_,rfl⟩
 have HU:Hid (usedB t i c=(decide (i=0)|| decide (0<=i1)|| decide (0<=i2))):=by
  unfold usedB;rw [<-n1,<-n2,hi1,hi2];exact lh rfl
 rw [hi1]at hc1;rw [hi2]at HF;obtain⟨rr,hrr⟩:∃ rr:Int,(if usedB t i c then 155 else 0)=rr:=⟨_,rfl⟩
 rw [hrr];have HRR:=lh hrr;clear hrr;have HW:=lh hW;have HBW:=lh hbW;have HY0:=lh hY0;clear hW hbW hY0;clear jY0 hi1 hi2 h3 hc hcell hX hcc n1 n2 H3;go_enter Tryz.func131,Tryz.ntmps131;go_upto_region 4 with fail
 rw [<-HW.out,HY0.out];clear c0 c2;go_upto_region 5 with (go_at_call 153;refine hc1.mono ?_;rintro e w1 ⟨rfl,b1⟩;refine Hid.out ?_)
 refine lh ?_;have HB1:=lh b1;obtain⟨e4,hc2⟩:=HF.out w1 b1;clear hc1 b1 c3;go_upto_region 6 with (go_at_call 156;refine hc2.mono ?_;rintro e w2 ⟨rfl,b2⟩;refine Hid.out ?_)
 refine lh ?_;have HB2:=lh b2;clear hc2 b2 e4;by_cases q0:(i:Int)=0
 ·have q0':i=0:=by omega
  go_wp2;go_ret;exact⟨by rw [<-HRR.out,HU.out];simp [q0'],bgo HBW.out (bgo HB1.out HB2.out)⟩
 ·have q0':¬ i=0:=by omega
  by_cases q1:0<=i1
  ·go_wp2;go_ret;exact⟨by rw [<-HRR.out,HU.out];simp [q1],bgo HBW.out (bgo HB1.out HB2.out)⟩
  ·by_cases q2:0<=i2
   ·go_wp2;go_ret;exact⟨by rw [<-HRR.out,HU.out];simp [q2],bgo HBW.out (bgo HB1.out HB2.out)⟩
   ·go_wp2;go_ret;exact⟨by rw [<-HRR.out,HU.out];simp [q0',q1,q2],bgo HBW.out (bgo HB1.out HB2.out)⟩
end
end Go.Proofs.YtkhehikaemdnnaaGreat
