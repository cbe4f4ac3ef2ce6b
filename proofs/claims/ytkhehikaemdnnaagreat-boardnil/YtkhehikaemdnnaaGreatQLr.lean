import Derived.Test.YtkhehikaemdnnaaGreatQPw
import Derived.Test.YtkhehikaemdnnaaGreatQLp
namespace Go.Proofs.YtkhehikaemdnnaaGreat
open Go.RowKit Go.Maps
section
variable {w : World}
abbrev zTA:Array Value:=#[.int .i64 0,.string ⟨#[]⟩,.slice none 0 0,.slice none 0 0,.slice none 0 0]
theorem Lr.cells2{α:Type}{E:World->α->List Value->Prop}{c:Nat}{X:World}{L:List α}{a:Option Addr}{n m:Nat}(h:Lr E c X L (.slice a n m)):∀ i (h:i<L.length),∃ b o cs,a=some ⟨b,o,none⟩/\b<X.heap.size/\E X L[i] cs/\cs.length=c/\∀ j u,cs[j]?=some u->X.cell? ⟨b,o+i*c+j,none⟩=some u:=by
 obtain⟨a1,c1,e,h0,h1,h2,h3⟩:=h;cases e;exact h3
end
end Go.Proofs.YtkhehikaemdnnaaGreat
namespace Go.Proofs.YtkhehikaemdnnaaGreat
set_option maxRecDepth 100000
set_option maxHeartbeats 16000000
open Go.RowKit Go.Maps
section
variable {w : World}
theorem table_own{s:Sc}{tv:Value}{z:ByteArray}{i:Nat}{t:Tb}(hL:Lr tbE 5 w s.tabs tv)(hi:i<s.tabs.length)(ht:s.tabs[i]=t)(hz:t.few)(hf:fidx (fun x=>decide (x.nm=z)) s.tabs=(i:Int)):Calls Tryz.prog 71 #[scV s tv,.string z] w fun e w'=>∃ cv iv kv,e=.returned (.tuple #[tbV t cv iv kv,.bool true])/\w'.ownsRow w.heap.size 56 7 cv t.cols.length (t.cols.flatMap colL)/\w'.ownsRow w.heap.size 138 5 iv t.ixs.length (t.ixs.flatMap ixL)/\w'.ownsRow w.heap.size 141 5 kv t.fks.length (t.fks.flatMap fkL)/\Below w.heap.size w w':=by
 obtain⟨ta,tc,rfl,hr0⟩:=hL;have hL:Lr tbE 5 w s.tabs (.slice ta s.tabs.length tc):=⟨ta,tc,rfl,hr0⟩
 obtain⟨W,hW⟩:∃ W,W=(w.alloc (.cells #[.int .i64 s.ver,.int .i64 s.last,.slice ta s.tabs.length tc] 30)).alloc (.cells #[.int .i64 0,.string ⟨#[]⟩,.slice none 0 0,.slice none 0 0,.slice none 0 0] 64):=⟨_,rfl⟩
 have hbW:=bw2 hW;obtain⟨Y0,hY0⟩:∃ Y0,w.heap.size=Y0:=⟨_,rfl⟩
 obtain⟨Y1,hY1⟩:∃ Y1,Y0+1=Y1:=⟨_,rfl⟩
 have j0:W.heap[Y0]?=some (.cells (scA s (.slice ta s.tabs.length tc)) 30 (0,0)):=nw21 hW hY0;have j1:W.heap[Y1]?=some (.cells zTA 64 (0,0)):=nw22 hW hY0 hY1;have c2:W.cell? ⟨Y0,2,none⟩=some (.slice ta s.tabs.length tc):=cell_blk j0 2;have hcall:=tabN_any z (hL.on tbE_held hbW);rw [hf]at hcall;obtain⟨n,hn⟩:∃ n,s.tabs.length=n:=⟨_,rfl⟩
 have k0:(0:Int)<=(i:Int):=by omega
 have k1:(i:Int)<(n:Int):=by omega
 have kn:¬ (i:Int)<0:=by omega
 have HLW:=lh (hL.on tbE_held hbW);have HHI:=lh hi;have HT:=lh ht;have HZ:=lh hz;have J0:=lh j0;have J1:=lh j1;have HBW:=lh hbW;have HYW:Hid (w.heap.size<=Y1):=lh (by omega);rw [hn]at c2 hcall;have HW:=lh hW;have HY0:=lh hY0;have HY1:=lh hY1;clear hW hbW hY0 hY1 j0 j1 hL hr0 hf ht hz;unfold scV;rw [hn]at HW J0 HLW ⊢;clear hn;go_enter Tryz.func71,Tryz.ntmps71;go_upto_region 1 with fail
 rw [<-HW.out,HY0.out,HY1.out];go_upto_region 2 with (go_at_call 97;refine hcall.mono ?_;rintro e w1 ⟨rfl,b1⟩;refine Hid.out ?_)
 refine lh ?_;obtain⟨q,o,cs,rfl,hq,hE,hcl,hcell⟩:=(HLW.out.on tbE_held b1).cells2 i hi;obtain⟨cv,iv,kv,rfl,h3⟩:=hE;rw [HT.out]at hcell h3;obtain⟨ca,cc,hcv,hs1⟩:=h3.c.shape;obtain⟨ia,ic,hiv,hs2⟩:=h3.i.shape;obtain⟨ka,kc,hkv,hs3⟩:=h3.k.shape;subst hcv hiv hkv;have d0:w1.cell? ⟨q,o+i*5,none⟩=some (.int .i64 t.id):=hcell 0 _ rfl;have d1:w1.cell? ⟨q,o+i*5+1,none⟩=some (.string t.nm):=hcell 1 _ rfl;have d2:w1.cell? ⟨q,o+i*5+2,none⟩=some (.slice ca t.cols.length cc):=hcell 2 _ rfl;have d3:w1.cell? ⟨q,o+i*5+3,none⟩=some (.slice ia t.ixs.length ic):=hcell 3 _ rfl;have d4:w1.cell? ⟨q,o+i*5+4,none⟩=some (.slice ka t.fks.length kc):=hcell 4 _ rfl;have e2:=cell_on b1 c2;have hcl2:=cloneT_any h3 HZ.out;have J11:Hid (w1.heap[Y1]?=some (.cells zTA 64 (0,0))):=lh ((b1.block Y1 (blk_lt J1.out)).trans J1.out);have HB1:=lh (bgo HBW.out b1);clear hcall c2 b1 hcell h3 hcl hq hs1 hs2 hs3;go_wp2_with (go_at_call 98;refine hcl2.mono ?_;rintro e w2 ⟨cv,iv,kv,rfl,o1,o2,o3,b2⟩;refine Hid.out ?_)
 refine lh ?_;have j2:=(b2.block Y1 (blk_lt J11.out)).trans J11.out;obtain⟨a1,m1,hv1⟩:=own_shape o1;obtain⟨a2,m2,hv2⟩:=own_shape o2;obtain⟨a3,m3,hv3⟩:=own_shape o3;subst hv1 hv2 hv3;obtain⟨X',e',j',f⟩:=sets_row j2 (tbA t (.slice a1 t.cols.length m1) (.slice a2 t.ixs.length m2) (.slice a3 t.fks.length m3)) rfl;have hst:(Instr.storeAt 64 (.pointer (some ⟨Y1,0,none⟩)) (.agg (tbA t (.slice a1 t.cols.length m1) (.slice a2 t.ixs.length m2) (.slice a3 t.fks.length m3)))).run Tryz.prog w2=.ok () X':=by
  rw [e'];exact store_row j2 rfl size64 (by simp [Value.oneCell'])
 have kp:∀ {e:TypeId} {c n B:Nat} {v:Value} {xs:List Value},e≠64->w2.ownsRow B e c v n xs->X'.ownsRow B e c v n xs:=fun he q=>keep_rowB q f (fun k hk cs tg=>by
  rw [hk,j2]at tg;simp only [Option.some.injEq,Obj.cells.injEq]at tg;exact he tg.2.1.symm)
 have hsz:w.heap.size<=w1.heap.size:=HB1.out.size;have HTH:=lh (And.intro (own_mono (kp (by decide) o1) hsz) (And.intro (own_mono (kp (by decide) o2) hsz) (own_mono (kp (by decide) o3) hsz)));have HB2:Hid (Below w.heap.size w X'):=lh ((bgo HB1.out b2).trans (f.toBelow (fun k hk q=>by have:=HYW.out;omega) (bgo HB1.out b2).size));have J':=lh j';clear hcl2 o1 o2 o3 b2 j2 e' j' f kp;go_wp2_with (refine wpl_store _ _ rfl (by simp [Act.eval]) (by simp [Act.eval]) hst ?_)
 refine bodyPost_ret (results_two rfl rfl rfl (load_var J'.out Tryz.underlying64 rfl size64)) rfl ?_;exact⟨_,_,_,rfl,HTH.out.1,HTH.out.2.1,HTH.out.2.2,HB2.out⟩
theorem cloneSch_any{s:Sc}{tv:Value}(hL:Lr tbE 5 w s.tabs tv)(hz:Few s.tabs)(hN:(s.tabs.map Tb.nm).Nodup):Calls Tryz.prog 44 #[scV s tv] w fun e w'=>∃ G tv',e=.returned (scV s tv')/\G.map Prod.fst=s.tabs/\Dr w' w.heap.size G tv'/\Below w.heap.size w w':=by
 obtain⟨ta,tc,rfl,q0,q1,q2,hX⟩:=hL;have hL2:Lr tbE 5 w s.tabs (.slice ta s.tabs.length tc):=⟨ta,tc,rfl,q0,q1,q2,hX⟩
 have HLS:=lh hL2;have HNM:=lh hN;clear hL2 hN;have hmx:(s.tabs.length:Int)<=9223372036854775807:=by unfold maxLen at q2;omega
 obtain⟨W,hW⟩:∃ W,W=(w.alloc (.cells #[.int .i64 s.ver,.int .i64 s.last,.slice ta s.tabs.length tc] 30)).alloc (.cells #[.int .i64 0,.int .i64 0,.slice none 0 0] 30):=⟨_,rfl⟩
 have hbW:=bw2 hW;obtain⟨Y0,hY0⟩:∃ Y0,w.heap.size=Y0:=⟨_,rfl⟩
 obtain⟨Y1,hY1⟩:∃ Y1,Y0+1=Y1:=⟨_,rfl⟩
 have jY0:W.heap[Y0]?=some (.cells #[.int .i64 s.ver,.int .i64 s.last,.slice ta s.tabs.length tc] 30 (0,0)):=nw21 hW hY0;have jY1:W.heap[Y1]?=some (.cells #[.int .i64 0,.int .i64 0,.slice none 0 0] 30 (0,0)):=nw22 hW hY0 hY1;have hge0:w.heap.size<=Y0:=by omega
 have hge1:w.heap.size<=Y1:=by omega
 have d2:W.cell? ⟨Y0,2,none⟩=some (.slice ta s.tabs.length tc):=cell_blk jY0 2;have J0:=lh jY0;have J1:=lh jY1;have HX:=lh hX;have HZ:=lh hz;have GE:=lh (And.intro hge0 hge1);have HW:=lh hW;have HBW:=lh hbW;have HY0:=lh hY0;have HY1:=lh hY1;clear hW hbW hY0 hY1;clear jY0 jY1 hX hz q0 q1 q2 hge0 hge1;go_enter Tryz.func44,Tryz.ntmps44;go_upto_region 1 with fail
 rw [<-HW.out,HY0.out,HY1.out];go_wp2;clear d2;go_loopw [3,11] (fun tv iv wr=>∃ (i:Nat) (G:List Gt),i<=s.tabs.length/\iv=.int .i64 (i:Int)/\G.map Prod.fst=s.tabs.take i/\Dr wr W.heap.size G tv/\Below W.heap.size W wr) (fun _ iv _=>s.tabs.length - (intOf iv).toNat)
 case atStart=>exact⟨0,[],Nat.zero_le _,rfl,rfl,Dr.nil _ _,Below.refl _ _⟩
 case round =>
  obtain⟨i,G,hi,rfl,hG,hD,hb⟩:=hrel;obtain⟨V,rfl⟩:∃ V,V=wr:=⟨_,rfl⟩
  have hGl:G.length=i:=by
   have:=congrArg List.length hG;rw [List.length_map,List.length_take]at this;omega
  obtain⟨tad,tcap,hsh⟩:=own_shape hD.row;subst hsh;have HB:=lh hb;have HD:=lh hD;have HG:=lh hG;have HL:=lh hGl;clear hG hD hGl;by_cases hlt:i<s.tabs.length
  ·have k0:(0:Int)<=i:=by omega
   have k1:(i:Int)<s.tabs.length:=by omega
   obtain⟨b,p,cs,rfl,hbl,hE,_,hcell⟩:=HX.out i hlt;obtain⟨cv,iv,kv,rfl,h3⟩:=hE;obtain⟨t,ht⟩:∃ t,s.tabs[i]=t:=⟨_,rfl⟩
   have htf:t.few:=by rw [<-ht];exact HZ.out.2 _ (List.getElem_mem hlt)
   rw [ht]at hcell h3;have HT:=lh ht;have hwV:=bgo HBW.out HB.out;have h3V:=h3.on hwV;obtain⟨ca,cc,ec,_⟩:=h3.c;obtain⟨ia,ic,ei,_⟩:=h3.i;obtain⟨ka,kc,ek,_⟩:=h3.k;subst ec ei ek;have c0:=cell_on hwV (hcell 0 _ rfl);have c1:=cell_on hwV (hcell 1 _ rfl);have c2:=cell_on hwV (hcell 2 _ rfl);have c3:=cell_on hwV (hcell 3 _ rfl);have c4:=cell_on hwV (hcell 4 _ rfl);rw [Nat.add_zero]at c0;obtain⟨V1,hV1⟩:∃ V1,V1=V.alloc (.cells (tbA t (.slice ca t.cols.length cc) (.slice ia t.ixs.length ic) (.slice ka t.fks.length kc)) 64):=⟨_,rfl⟩
   obtain⟨Q,hQ⟩:∃ Q,V.heap.size=Q:=⟨_,rfl⟩
   have jQ:V1.heap[Q]?=some (.cells (tbA t (.slice ca t.cols.length cc) (.slice ia t.ixs.length ic) (.slice ka t.fks.length kc)) 64 (0,0)):=by rw [hV1,<-hQ];exact heap_alloc_new V _
   have bV:Below V.heap.size V V1:=by rw [hV1];exact bnew _ _
   have hfx:fidx (fun x=>decide (x.nm=t.nm)) s.tabs=(i:Int):=fidx_at hlt (by rw [ht];simp) fun k hk hki=>by
    simp only [decide_eq_false_iff_not];intro q;have hnd:=HNM.out;have e1:=(List.pairwise_iff_getElem.1 hnd) k i (by rw [List.length_map];exact hk) (by rw [List.length_map];exact hlt) hki;rw [List.getElem_map,List.getElem_map,ht]at e1;exact e1 q
   have hcall:=table_own (HLS.out.on tbE_held (bgo hwV bV)) hlt ht htf hfx;have j0V:=(bV.block Y0 (by have:=blk_lt J0.out;have:=hb.size;omega)).trans ((hb.block Y0 (blk_lt J0.out)).trans J0.out);have HLD0:=lh (load_row j0V Tryz.underlying30 rfl size30);have g0:V1.cell? ⟨Q,0,none⟩=some (.int .i64 t.id):=cell_blk jQ 0;have g1:V1.cell? ⟨Q,1,none⟩=some (.string t.nm):=cell_blk jQ 1;have g2:V1.cell? ⟨Q,2,none⟩=some (.slice ca t.cols.length cc):=cell_blk jQ 2;have g3:V1.cell? ⟨Q,3,none⟩=some (.slice ia t.ixs.length ic):=cell_blk jQ 3;have g4:V1.cell? ⟨Q,4,none⟩=some (.slice ka t.fks.length kc):=cell_blk jQ 4;have BV:=lh bV;have HV1:=lh hV1;have HQ:=lh hQ;clear hcell h3 h3V hwV ht hV1 hQ jQ bV hb htf hbl j0V hfx;go_upto_region 5 with fail
   rw [<-HV1.out,HQ.out];clear c0 c1 c2 c3 c4;go_wp2_with (first|(refine wpl_load _ rfl (by simp [Act.eval]) HLD0.out ?_)| fail)
   refine hcall.mono ?_;rintro e w1 ⟨cv',iv',kv',rfl,o1,o2,o3,b1⟩;obtain⟨ca',cc',rfl⟩:=own_shape o1;obtain⟨ia',ic',rfl⟩:=own_shape o2;obtain⟨ka',kc',rfl⟩:=own_shape o3;obtain⟨V3,hV3⟩:∃ V3,V3=w1.alloc (.cells (tbA t (.slice ca' t.cols.length cc') (.slice ia' t.ixs.length ic') (.slice ka' t.fks.length kc')) 64):=⟨_,rfl⟩
   obtain⟨Q2,hQ2⟩:∃ Q2,w1.heap.size=Q2:=⟨_,rfl⟩
   have jQ3:V3.heap[Q2]?=some (.cells (tbA t (.slice ca' t.cols.length cc') (.slice ia' t.ixs.length ic') (.slice ka' t.fks.length kc')) 64 (0,0)):=by rw [hV3,<-hQ2];exact heap_alloc_new w1 _
   have hl3:=load_row jQ3 Tryz.underlying64 rfl size64;have b13:Below w1.heap.size w1 V3:=by rw [hV3];exact bnew _ _
   have o1:=own_below o1 b13;have o2:=own_below o2 b13;have o3:=own_below o3 b13;have b1:=bgo b1 b13;have bV1:=bgo BV.out b1;have hD1:=HD.out.below bV1;have HV3:=lh hV3;have HQ2:=lh hQ2;have HL3:=lh hl3;obtain⟨ad,cap,w',hrun,r1,r2,r3⟩:=pushT (own_mono hD1.row (Nat.zero_le _)) t (ca:=ca') (cn:=t.cols.length) (cc:=cc') (ia:=ia') (im:=t.ixs.length) (ic:=ic') (ka:=ka') (kn:=t.fks.length) (kc:=kc') (by have:=HZ.out.1;have:=HL.out;omega);have hWV:W.heap.size<=V.heap.size:=HB.out.size;have hVw:V1.heap.size<=V3.heap.size:=b1.size;have hVV:V.heap.size<=V1.heap.size:=BV.out.size;have hnew:Dr w' W.heap.size (G ++ [(t,.slice ca' t.cols.length cc',.slice ia' t.ixs.length ic',.slice ka' t.fks.length kc')]) (.slice ad (G.length+1) cap):=by
    have up:∀ {e:TypeId} {c n:Nat} {v:Value} {xs:List Value},e≠64->V3.ownsRow V1.heap.size e c v n xs->w'.ownsRow V.heap.size e c v n xs:=fun he q=>own_mono (keep_rowB q r2 (fun k hk cs tg=>by
     obtain⟨cs2,t2⟩:=own_tag hD1.row k hk;rw [t2]at tg;simp only [Option.some.injEq,Obj.cells.injEq]at tg;exact he tg.2.1.symm)) hVV
    have hf:Fr V w' (fun k=>(Value.slice tad G.length tcap).ownBlock=some k):=(Fr.ofBelow _ bV1).trans r2;exact Dr.push HD.out hWV hf (fun k hk=>.inr (.inl hk)) _ (by simpa using r1) (fun k hk=>by
     rcases r3 k hk with z | z
     ·exact .inl z
     ·exact .inr (by omega)) (up (by decide) o1) (up (by decide) o2) (up (by decide) o3)
   have HN:=lh hnew;have HB2:Hid (Below W.heap.size W w'):=HB.out.trans ((bV1.mono hWV).trans (r2.toBelow (fun k hk q=>by
    have:=(own_ge hD1.row k q).1;omega) (by omega)))
   have HG2:Hid ((G ++ [((t,.slice ca' t.cols.length cc',.slice ia' t.ixs.length ic',.slice ka' t.fks.length kc'):Gt)]).map Prod.fst=s.tabs.take (i+1)):=by
    rw [List.map_append,HG.out,List.take_add_one,List.getElem?_eq_getElem hlt,HT.out];exact lh rfl
   clear hcall o1 o2 o3 b1 bV1 hD1 r1 r2 r3 hWV hVw hVV hnew g0 g1 g2 g3 g4 hV3 hQ2 jQ3 hl3 b13;go_upto_region 6 with fail
   rw [<-HV3.out,HQ2.out];go_wp2_with (first|(refine wpl_load _ rfl (by simp [Act.eval]) HL3.out ?_)|(at_builtin;refine wpl_run2 _ _ rfl (by simp [Act.eval]) (by simp [Act.eval]) hrun ?_))
   go_roundw
   case rel=>exact⟨i+1,_,hlt,by go_num,HG2.out,HN.out,HB2.out⟩
   case measure=>simp [intOf];omega
  ·have k1:¬ (i:Int)<s.tabs.length:=by omega
   have hin:i=s.tabs.length:=by omega
   have HGE:Hid (G.map Prod.fst=s.tabs):=by rw [HG.out,hin,List.take_length];exact lh rfl
   have j0:=(hb.block Y0 (blk_lt J0.out)).trans J0.out;have j1:=(hb.block Y1 (blk_lt J1.out)).trans J1.out;have e2:V.cell? ⟨Y0,2,none⟩=some (.slice ta s.tabs.length tc):=cell_blk j0 2;have f2:V.frozen? ⟨Y0,2,none⟩=false:=frozen_blk j0 2;obtain⟨X1,hX1⟩:∃ X1,X1=V.setCell ⟨Y0,2,none⟩ (.slice tad G.length tcap):=⟨_,rfl⟩
   have jX0:X1.heap[Y0]?=some (.cells (scA s (.slice tad G.length tcap)) 30 (0,0)):=by rw [hX1];exact set_blk j0 _
   have hne:Y1≠Y0:=by have:=HY1.out;omega
   have jX1:X1.heap[Y1]?=some (.cells #[.int .i64 0,.int .i64 0,.slice none 0 0] 30 (0,0)):=by rw [hX1,set_other _ hne];exact j1
   have hld:=load_row jX0 Tryz.underlying30 rfl size30;obtain⟨X4,e4,j4,f4⟩:=sets_row jX1 (scA s (.slice tad G.length tcap)) rfl;have hst:(Instr.storeAt 30 (.pointer (some ⟨Y1,0,none⟩)) (.agg (scA s (.slice tad G.length tcap)))).run Tryz.prog X1=.ok () X4:=by
    rw [e4];exact store_row jX1 rfl size30 (by simp [Value.oneCell'])
   have fV:Fr V X4 (fun k=>k=Y0\/k=Y1):=by
    refine Fr.trans ?_ (f4.mono (fun k hk=>.inr hk));rw [hX1];exact Fr.set (S:=fun k=>k=Y0\/k=Y1) (a:=⟨Y0,2,none⟩) (Fr.refl _ _) (.inl (.inl rfl)) _
   have hWs:w.heap.size<=W.heap.size:=HBW.out.size;have HE:Hid (Dr X4 w.heap.size G (.slice tad G.length tcap)/\Below w.heap.size w X4):=by
    refine⟨(HD.out.keep fV (fun k hk=>?_)).mono hWs,(bgo HBW.out HB.out).trans (fV.toBelow (fun k hk q=>?_) (bgo HBW.out HB.out).size)⟩
    ·rcases hk with rfl | rfl
     ·exact .inl (blk_lt J0.out)
     ·exact .inl (blk_lt J1.out)
    ·have:=GE.out;rcases q with q | q <;> omega
   have J4:=lh j4;have HX1:=lh hX1;clear j0 j1 hX1 jX0 jX1 e4 f4 fV hWs j4 hb hne hin;go_upto_region 9 with fail
   rw [<-HX1.out];go_wp2_with (first|(refine wpl_load _ rfl (by simp [Act.eval]) hld ?_)|(refine wpl_store _ _ rfl (by simp [Act.eval,Act.put]) (by simp [Act.eval,Act.put]) hst ?_))
   refine bodyPost_ret (results_one rfl rfl (load_var J4.out Tryz.underlying30 rfl size30)) rfl ?_;exact⟨G,_,rfl,HGE.out,HE.out.1,HE.out.2⟩
end
end Go.Proofs.YtkhehikaemdnnaaGreat
