import Derived.Test.YtongmhfpoopebaaGreatPBj
namespace Go.Proofs.YtongmhfpoopebaaGreat
open Go.RowKit
section
variable {w : World}
theorem pushT {X:World} {G:List Gt} {v:Value} (ho:X.ownsRow 0 35 5 v G.length (G.flatMap gL)) (t:Tb) {ca ia ka:Option Addr} {cn cc im ic kn kc:Nat} (hz:G.length≤1000000) :
  ∃ ad cap w',(Builtin.append_ #[22,22] 22 #[v,.slice (some ⟨X.heap.size,0,none⟩) 1 1]).run Tryz.prog (X.alloc (.cells (tbA t (.slice ca cn cc) (.slice ia im ic) (.slice ka kn kc)) 35))=.ok (.slice ad (G.length+1) cap) w'∧w'.ownsRow 0 35 5 (.slice ad (G.length+1) cap) (G.length+1) ((G ++ [((t,.slice ca cn cc,.slice ia im ic,.slice ka kn kc):Gt)]).flatMap gL)∧Fr X w' (fun k=>v.ownBlock=some k)∧(∀ k,(Value.slice ad (G.length+1) cap).ownBlock=some k→v.ownBlock=some k∨X.heap.size≤k):=by
 have hal:=bnew X (.cells (tbA t (.slice ca cn cc) (.slice ia im ic) (.slice ka kn kc)) 35)
 have hj:=heap_alloc_new X (.cells (tbA t (.slice ca cn cc) (.slice ia im ic) (.slice ka kn kc)) 35)
 obtain ⟨ad,cap,w',h1,h2,h3,h4⟩:=run_tb (m:=1) (c:=1) (news:=tbL t (.slice ca cn cc) (.slice ia im ic) (.slice ka kn kc)) (own_below ho hal) (Nat.zero_le _) (.inr ⟨_,rfl,rfl,fun j u hu=>by
  rw [add_at,Nat.zero_add,cell_blk hj]
  simpa using hu⟩) (fun u hu=>by
   simp at hu
   rcases hu with rfl | rfl | rfl | rfl | rfl <;> rfl) (by omega)
 refine ⟨ad,cap,w',h1,by simpa using h2,?_,?_⟩
 ·refine ((Fr.refl X _).alloc _).grown h3 (fun k hk=>.inl hk)
 ·intro k hk
  rcases h4 with q | q
  ·exact .inl (q.symm.trans hk)
  ·rw [hk] at q
   cases q
   exact .inr hal.size
def Few (L:List Tb):Prop:=L.length≤1000000∧∀ t ∈ L,t.few
set_option maxHeartbeats 4000000 in
set_option maxRecDepth 100000 in
theorem each_any {s:Sc} {tv:Value} (hL:Lr tbE 5 w s.tabs tv) (hz:Few s.tabs):Calls Tryz.prog 63 #[scV s tv,.func (.func 23) #[] #[]] w fun e w'=>∃ G tv',e=.returned (scV s tv')∧G.map Prod.fst=s.tabs∧Dr w' w.heap.size G tv'∧Below w.heap.size w w':=by
 obtain ⟨ta,tc,rfl,q0,q1,q2,hX⟩:=hL
 have hmx:(s.tabs.length:Int)≤9223372036854775807:=by unfold maxLen at q2;omega
 obtain ⟨W,hW⟩:∃ W,W=(w.alloc (.cells #[.int .i64 s.ver,.int .i64 s.last,.slice ta s.tabs.length tc] 24)).alloc (.cells #[.int .i64 0,.int .i64 0,.slice none 0 0] 24):=⟨_,rfl⟩
 have hbW:Below w.heap.size w W:=by rw [hW];exact ((Below.refl _ w).alloc (Nat.le_refl _) _).alloc (by simp) _
 obtain ⟨Y0,hY0⟩:∃ Y0,w.heap.size=Y0:=⟨_,rfl⟩
 obtain ⟨Y1,hY1⟩:∃ Y1,Y0+1=Y1:=⟨_,rfl⟩
 have jY0:W.heap[Y0]?=some (.cells #[.int .i64 s.ver,.int .i64 s.last,.slice ta s.tabs.length tc] 24 (0,0)):=by
  have:=heap_alloc_new w (.cells #[.int .i64 s.ver,.int .i64 s.last,.slice ta s.tabs.length tc] 24)
  rw [hW,←hY0]
  rw [Below.heap_alloc _ _ _ (by simp only [World.size_alloc];omega)]
  exact this
 have jY1:W.heap[Y1]?=some (.cells #[.int .i64 0,.int .i64 0,.slice none 0 0] 24 (0,0)):=by
  have:=heap_alloc_new (w.alloc (.cells #[.int .i64 s.ver,.int .i64 s.last,.slice ta s.tabs.length tc] 24)) (.cells #[.int .i64 0,.int .i64 0,.slice none 0 0] 24)
  simp only [World.size_alloc] at this
  rw [hW,←hY1,←hY0]
  exact this
 have hge0:w.heap.size≤Y0:=by omega
 have hge1:w.heap.size≤Y1:=by omega
 have d2:W.cell? ⟨Y0,2,none⟩=some (.slice ta s.tabs.length tc):=cell_blk jY0 2
 have J0:=lh jY0
 have J1:=lh jY1
 have HX:=lh hX
 have HZ:=lh hz
 have GE:=lh (And.intro hge0 hge1)
 have HW:=lh hW
 have HBW:=lh hbW
 have HY0:=lh hY0
 have HY1:=lh hY1
 clear hW hbW hY0 hY1
 clear jY0 jY1 hX hz q0 q1 q2 hge0 hge1
 go_enter Tryz.func63,Tryz.ntmps63
 go_upto_region 1 with fail
 rw [←HW.out,HY0.out,HY1.out]
 go_wp2
 clear d2
 go_loopw [5,11] (fun tv iv wr=>∃ (i:Nat) (G:List Gt),i≤s.tabs.length∧iv=.int .i64 (i:Int)∧G.map Prod.fst=s.tabs.take i∧Dr wr W.heap.size G tv∧Below W.heap.size W wr) (fun _ iv _=>s.tabs.length - (intOf iv).toNat)
 case atStart=>exact ⟨0,[],Nat.zero_le _,rfl,rfl,Dr.nil _ _,Below.refl _ _⟩
 case round =>
  obtain ⟨i,G,hi,rfl,hG,hD,hb⟩:=hrel
  obtain ⟨V,rfl⟩:∃ V,V=wr:=⟨_,rfl⟩
  have hGl:G.length=i:=by
   have:=congrArg List.length hG
   rw [List.length_map,List.length_take] at this
   omega
  obtain ⟨tad,tcap,hsh⟩:=own_shape hD.row
  subst hsh
  have HB:=lh hb
  have HD:=lh hD
  have HG:=lh hG
  have HL:=lh hGl
  clear hG hD hGl
  by_cases hlt:i<s.tabs.length
  ·have k0:(0:Int)≤i:=by omega
   have k1:(i:Int)<s.tabs.length:=by omega
   obtain ⟨b,p,cs,rfl,hbl,hE,_,hcell⟩:=HX.out i hlt
   obtain ⟨cv,iv,kv,rfl,h3⟩:=hE
   obtain ⟨t,ht⟩:∃ t,s.tabs[i]=t:=⟨_,rfl⟩
   have htf:t.few:=by rw [←ht];exact HZ.out.2 _ (List.getElem_mem hlt)
   rw [ht] at hcell h3
   have HT:=lh ht
   have hwV:=bgo HBW.out HB.out
   have h3V:=h3.on hwV
   obtain ⟨ca,cc,ec,_⟩:=h3.c
   obtain ⟨ia,ic,ei,_⟩:=h3.i
   obtain ⟨ka,kc,ek,_⟩:=h3.k
   subst ec ei ek
   have c0:=cell_on hwV (hcell 0 _ rfl)
   have c1:=cell_on hwV (hcell 1 _ rfl)
   have c2:=cell_on hwV (hcell 2 _ rfl)
   have c3:=cell_on hwV (hcell 3 _ rfl)
   have c4:=cell_on hwV (hcell 4 _ rfl)
   rw [Nat.add_zero] at c0
   obtain ⟨V1,hV1⟩:∃ V1,V1=V.alloc (.cells (tbA t (.slice ca t.cols.length cc) (.slice ia t.ixs.length ic) (.slice ka t.fks.length kc)) 35):=⟨_,rfl⟩
   obtain ⟨Q,hQ⟩:∃ Q,V.heap.size=Q:=⟨_,rfl⟩
   have jQ:V1.heap[Q]?=some (.cells (tbA t (.slice ca t.cols.length cc) (.slice ia t.ixs.length ic) (.slice ka t.fks.length kc)) 35 (0,0)):=by rw [hV1,←hQ];exact heap_alloc_new V _
   have bV:Below V.heap.size V V1:=by rw [hV1];exact bnew _ _
   have hcall:=cloneT_any (h3V.on bV) htf
   have g0:V1.cell? ⟨Q,0,none⟩=some (.int .i64 t.id):=cell_blk jQ 0
   have g1:V1.cell? ⟨Q,1,none⟩=some (.string t.nm):=cell_blk jQ 1
   have g2:V1.cell? ⟨Q,2,none⟩=some (.slice ca t.cols.length cc):=cell_blk jQ 2
   have g3:V1.cell? ⟨Q,3,none⟩=some (.slice ia t.ixs.length ic):=cell_blk jQ 3
   have g4:V1.cell? ⟨Q,4,none⟩=some (.slice ka t.fks.length kc):=cell_blk jQ 4
   have BV:=lh bV
   have HV1:=lh hV1
   have HQ:=lh hQ
   clear hcell h3 h3V hwV ht hV1 hQ jQ bV hb htf hbl
   go_upto_region 5 with fail
   rw [←HV1.out,HQ.out]
   clear c0 c1 c2 c3 c4
   go_wp2_with fail
   refine hcall.mono ?_
   rintro e w1 ⟨cv',iv',kv',rfl,o1,o2,o3,b1⟩
   obtain ⟨ca',cc',rfl⟩:=own_shape o1
   obtain ⟨ia',ic',rfl⟩:=own_shape o2
   obtain ⟨ka',kc',rfl⟩:=own_shape o3
   have bV1:=bgo BV.out b1
   have hD1:=HD.out.below bV1
   obtain ⟨ad,cap,w',hrun,r1,r2,r3⟩:=pushT (own_mono hD1.row (Nat.zero_le _)) t (ca:=ca') (cn:=t.cols.length) (cc:=cc') (ia:=ia') (im:=t.ixs.length) (ic:=ic') (ka:=ka') (kn:=t.fks.length) (kc:=kc') (by have:=HZ.out.1;have:=HL.out;omega)
   have hWV:W.heap.size≤V.heap.size:=HB.out.size
   have hVw:V1.heap.size≤w1.heap.size:=b1.size
   have hVV:V.heap.size≤V1.heap.size:=BV.out.size
   have hnew:Dr w' W.heap.size (G ++ [(t,.slice ca' t.cols.length cc',.slice ia' t.ixs.length ic',.slice ka' t.fks.length kc')]) (.slice ad (G.length+1) cap):=by
    have up:∀ {e:TypeId} {c n:Nat} {v:Value} {xs:List Value},e≠35→w1.ownsRow V1.heap.size e c v n xs→w'.ownsRow V.heap.size e c v n xs:=fun he q=>own_mono (keep_rowB q r2 (fun k hk cs tg=>by
     obtain ⟨cs2,t2⟩:=own_tag hD1.row k hk
     rw [t2] at tg
     simp only [Option.some.injEq,Obj.cells.injEq] at tg
     exact he tg.2.1.symm)) hVV
    have hf:Fr V w' (fun k=>(Value.slice tad G.length tcap).ownBlock=some k):=(Fr.ofBelow _ bV1).trans r2
    exact Dr.push HD.out hWV hf (fun k hk=>.inr (.inl hk)) _ (by simpa using r1) (fun k hk=>by
     rcases r3 k hk with z | z
     ·exact .inl z
     ·exact .inr (by omega)) (up (by decide) o1) (up (by decide) o2) (up (by decide) o3)
   have HN:=lh hnew
   have HB2:Hid (Below W.heap.size W w'):=HB.out.trans ((bV1.mono hWV).trans (r2.toBelow (fun k hk q=>by
    have:=(own_ge hD1.row k q).1
    omega) (by omega)))
   have HG2:Hid ((G ++ [((t,.slice ca' t.cols.length cc',.slice ia' t.ixs.length ic',.slice ka' t.fks.length kc'):Gt)]).map Prod.fst=s.tabs.take (i+1)):=by
    rw [List.map_append,HG.out,List.take_add_one,List.getElem?_eq_getElem hlt,HT.out]
    exact lh rfl
   clear hcall o1 o2 o3 b1 bV1 hD1 r1 r2 r3 hWV hVw hVV hnew g0 g1 g2 g3 g4
   go_wp2_with (at_builtin;refine wpl_run2 _ _ rfl (by simp [Act.eval]) (by simp [Act.eval]) hrun ?_)
   go_roundw
   case rel=>exact ⟨i+1,_,hlt,by go_num,HG2.out,HN.out,HB2.out⟩
   case measure=>simp [intOf];omega
  ·have k1:¬ (i:Int)<s.tabs.length:=by omega
   have hin:i=s.tabs.length:=by omega
   have HGE:Hid (G.map Prod.fst=s.tabs):=by rw [HG.out,hin,List.take_length];exact lh rfl
   have j0:=(hb.block Y0 (blk_lt J0.out)).trans J0.out
   have j1:=(hb.block Y1 (blk_lt J1.out)).trans J1.out
   have e2:V.cell? ⟨Y0,2,none⟩=some (.slice ta s.tabs.length tc):=cell_blk j0 2
   have f2:V.frozen? ⟨Y0,2,none⟩=false:=frozen_blk j0 2
   obtain ⟨X1,hX1⟩:∃ X1,X1=V.setCell ⟨Y0,2,none⟩ (.slice tad G.length tcap):=⟨_,rfl⟩
   have jX0:X1.heap[Y0]?=some (.cells (scA s (.slice tad G.length tcap)) 24 (0,0)):=by rw [hX1];exact set_blk j0 _
   have hne:Y1≠Y0:=by have:=HY1.out;omega
   have jX1:X1.heap[Y1]?=some (.cells #[.int .i64 0,.int .i64 0,.slice none 0 0] 24 (0,0)):=by rw [hX1,set_other _ hne];exact j1
   have hld:=load_row jX0 Tryz.underlying24 rfl size24
   obtain ⟨X4,e4,j4,f4⟩:=sets_row jX1 (scA s (.slice tad G.length tcap)) rfl
   have hst:(Instr.storeAt 24 (.pointer (some ⟨Y1,0,none⟩)) (.agg (scA s (.slice tad G.length tcap)))).run Tryz.prog X1=.ok () X4:=by
    rw [e4]
    exact store_row jX1 rfl size24 (by simp [Value.oneCell'])
   have fV:Fr V X4 (fun k=>k=Y0∨k=Y1):=by
    refine Fr.trans ?_ (f4.mono (fun k hk=>.inr hk))
    rw [hX1]
    exact Fr.set (S:=fun k=>k=Y0∨k=Y1) (a:=⟨Y0,2,none⟩) (Fr.refl _ _) (.inl (.inl rfl)) _
   have hWs:w.heap.size≤W.heap.size:=HBW.out.size
   have HE:Hid (Dr X4 w.heap.size G (.slice tad G.length tcap)∧Below w.heap.size w X4):=by
    refine ⟨(HD.out.keep fV (fun k hk=>?_)).mono hWs,(bgo HBW.out HB.out).trans (fV.toBelow (fun k hk q=>?_) (bgo HBW.out HB.out).size)⟩
    ·rcases hk with rfl | rfl
     ·exact .inl (blk_lt J0.out)
     ·exact .inl (blk_lt J1.out)
    ·have:=GE.out
     rcases q with q | q <;> omega
   have J4:=lh j4
   have HX1:=lh hX1
   clear j0 j1 hX1 jX0 jX1 e4 f4 fV hWs j4 hb hne hin
   go_upto_region 8 with fail
   rw [←HX1.out]
   go_wp2_with (first | (refine wpl_load _ rfl (by simp [Act.eval]) hld ?_) | (refine wpl_store _ _ rfl (by simp [Act.eval,Act.put]) (by simp [Act.eval,Act.put]) hst ?_))
   refine bodyPost_ret (results_one rfl rfl (load_var J4.out Tryz.underlying24 rfl size24)) rfl ?_
   exact ⟨G,_,rfl,HGE.out,HE.out.1,HE.out.2⟩
set_option maxHeartbeats 2000000 in
set_option maxRecDepth 100000 in
theorem cloneS_any {s:Sc} {tv:Value} (hL:Lr tbE 5 w s.tabs tv) (hz:Few s.tabs):Calls Tryz.prog 34 #[scV s tv] w fun e w'=>∃ G tv',e=.returned (scV s tv')∧G.map Prod.fst=s.tabs∧Dr w' w.heap.size G tv'∧Below w.heap.size w w':=by
 obtain ⟨ta,tc,rfl,hr⟩:=hL
 have hL:Lr tbE 5 w s.tabs (.slice ta s.tabs.length tc):=⟨ta,tc,rfl,hr⟩
 obtain ⟨W,hW⟩:∃ W,W=(w.alloc (.cells #[.int .i64 s.ver,.int .i64 s.last,.slice ta s.tabs.length tc] 24)).alloc (.cells #[.int .i64 0,.int .i64 0,.slice none 0 0] 24):=⟨_,rfl⟩
 have hbW:Below w.heap.size w W:=by rw [hW];exact ((Below.refl _ w).alloc (Nat.le_refl _) _).alloc (by simp) _
 obtain ⟨Y0,hY0⟩:∃ Y0,w.heap.size=Y0:=⟨_,rfl⟩
 obtain ⟨Y1,hY1⟩:∃ Y1,Y0+1=Y1:=⟨_,rfl⟩
 have jY0:W.heap[Y0]?=some (.cells #[.int .i64 s.ver,.int .i64 s.last,.slice ta s.tabs.length tc] 24 (0,0)):=by
  have:=heap_alloc_new w (.cells #[.int .i64 s.ver,.int .i64 s.last,.slice ta s.tabs.length tc] 24)
  rw [hW,←hY0]
  rw [Below.heap_alloc _ _ _ (by simp only [World.size_alloc];omega)]
  exact this
 have jY1:W.heap[Y1]?=some (.cells #[.int .i64 0,.int .i64 0,.slice none 0 0] 24 (0,0)):=by
  have:=heap_alloc_new (w.alloc (.cells #[.int .i64 s.ver,.int .i64 s.last,.slice ta s.tabs.length tc] 24)) (.cells #[.int .i64 0,.int .i64 0,.slice none 0 0] 24)
  simp only [World.size_alloc] at this
  rw [hW,←hY1,←hY0]
  exact this
 have hge1:w.heap.size≤Y1:=by omega
 have hcall:=each_any (hL.on tbE_held hbW) hz
 have d0:W.cell? ⟨Y0,0,none⟩=some (.int .i64 s.ver):=cell_blk jY0 0
 have d1:W.cell? ⟨Y0,1,none⟩=some (.int .i64 s.last):=cell_blk jY0 1
 have d2:W.cell? ⟨Y0,2,none⟩=some (.slice ta s.tabs.length tc):=cell_blk jY0 2
 have J1:=lh jY1
 have GE:=lh hge1
 have HW:=lh hW
 have HBW:=lh hbW
 have HY0:=lh hY0
 have HY1:=lh hY1
 clear hW hbW hY0 hY1
 clear jY0 jY1 hL hr hge1
 go_enter Tryz.func34,Tryz.ntmps34
 go_upto_region 1 with fail
 rw [←HW.out,HY0.out,HY1.out]
 go_wp2_with fail
 refine hcall.mono ?_
 rintro e w1 ⟨G,tv',rfl,hG,hD,b1⟩
 have j1:=(b1.block Y1 (blk_lt J1.out)).trans J1.out
 obtain ⟨tad,tcap,hsh⟩:=own_shape hD.row
 subst hsh
 obtain ⟨X4,e4,j4,f4⟩:=sets_row j1 (scA s (.slice tad G.length tcap)) rfl
 have hst:(Instr.storeAt 24 (.pointer (some ⟨Y1,0,none⟩)) (.agg (scA s (.slice tad G.length tcap)))).run Tryz.prog w1=.ok () X4:=by
  rw [e4]
  exact store_row j1 rfl size24 (by simp [Value.oneCell'])
 have HE:Hid (G.map Prod.fst=s.tabs∧Dr X4 w.heap.size G (.slice tad G.length tcap)∧Below w.heap.size w X4):=by
  refine ⟨hG,(hD.keep f4 (fun k hk=>.inl (by rw [hk];exact blk_lt J1.out))).mono HBW.out.size,(bgo HBW.out b1).trans (f4.toBelow (fun k hk q=>?_) (bgo HBW.out b1).size)⟩
  have:=GE.out
  omega
 have J4:=lh j4
 clear hcall hG hD b1 j1 e4 f4 j4 d0 d1 d2
 go_wp2_with (refine wpl_store _ _ rfl (by simp [Act.eval]) (by simp [Act.eval]) hst ?_)
 refine bodyPost_ret (results_one rfl rfl (load_var J4.out Tryz.underlying24 rfl size24)) rfl ?_
 exact ⟨G,_,rfl,HE.out⟩
end
end Go.Proofs.YtongmhfpoopebaaGreat
