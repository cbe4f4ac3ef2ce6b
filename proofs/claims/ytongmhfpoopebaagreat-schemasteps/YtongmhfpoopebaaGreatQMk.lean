import Derived.Test.YtongmhfpoopebaaGreatQMb
import Derived.Test.YtongmhfpoopebaaGreatQHa
namespace Go.Proofs.YtongmhfpoopebaaGreat
open Go.RowKit
section
variable {w : World}
set_option maxHeartbeats 16000000 in
set_option maxRecDepth 100000 in
theorem without_ref {s:Sc} {tv cv:Value} {d:Dd} (hL:Lr tbE 5 w s.tabs tv) (hz:Few s.tabs):Calls Tryz.prog 20 #[scV s tv,.agg #[.int .i64 d.kind,.string d.table,.string d.name,.string d.column,.string d.parent,.bool d.uq,.int .i64 d.ty,.int .i64 d.df.k,.int .i64 d.df.n,.string d.df.s,cv]] w fun e w'=>∃ tv',e=.returned (scV (withoutP s d) tv')∧Lr tbE 5 w' (withoutP s d).tabs tv'∧Below w.heap.size w w':=by
 obtain ⟨ta,tc,rfl,q0,q1,q2,hX⟩:=hL
 have hL:Lr tbE 5 w s.tabs (.slice ta s.tabs.length tc):=⟨ta,tc,rfl,q0,q1,q2,hX⟩
 obtain ⟨kd,hkd⟩:∃ kd,d.kind=kd:=⟨_,rfl⟩
 rw [hkd]
 obtain ⟨W,hW⟩:∃ W,W=((w.alloc (.cells #[.int .i64 s.ver,.int .i64 s.last,.slice ta s.tabs.length tc] 24)).alloc (.cells #[.int .i64 kd,.string d.table,.string d.name,.string d.column,.string d.parent,.bool d.uq,.int .i64 d.ty,.int .i64 d.df.k,.int .i64 d.df.n,.string d.df.s,cv] 31)).alloc (.cells #[.int .i64 0,.int .i64 0,.slice none 0 0] 24):=⟨_,rfl⟩
 have hbW:Below w.heap.size w W:=by rw [hW];exact (((Below.refl _ w).alloc (Nat.le_refl _) _).alloc (by simp) _).alloc (by simp only [World.size_alloc];omega) _
 obtain ⟨Y0,hY0⟩:∃ Y0,w.heap.size=Y0:=⟨_,rfl⟩
 obtain ⟨Y1,hY1⟩:∃ Y1,Y0+1=Y1:=⟨_,rfl⟩
 obtain ⟨Y2,hY2⟩:∃ Y2,Y1+1=Y2:=⟨_,rfl⟩
 have j0:W.heap[Y0]?=some (.cells (scA s (.slice ta s.tabs.length tc)) 24 (0,0)):=by
  have:=heap_alloc_new w (.cells #[.int .i64 s.ver,.int .i64 s.last,.slice ta s.tabs.length tc] 24)
  rw [hW,← hY0,Below.heap_alloc _ _ _ (by simp only [World.size_alloc];omega),Below.heap_alloc _ _ _ (by simp only [World.size_alloc];omega)]
  exact this
 have j1:W.heap[Y1]?=some (.cells #[.int .i64 kd,.string d.table,.string d.name,.string d.column,.string d.parent,.bool d.uq,.int .i64 d.ty,.int .i64 d.df.k,.int .i64 d.df.n,.string d.df.s,cv] 31 (0,0)):=by
  have:=heap_alloc_new (w.alloc (.cells #[.int .i64 s.ver,.int .i64 s.last,.slice ta s.tabs.length tc] 24)) (.cells #[.int .i64 kd,.string d.table,.string d.name,.string d.column,.string d.parent,.bool d.uq,.int .i64 d.ty,.int .i64 d.df.k,.int .i64 d.df.n,.string d.df.s,cv] 31)
  simp only [World.size_alloc] at this
  rw [hW,← hY1,← hY0,Below.heap_alloc _ _ _ (by simp only [World.size_alloc];omega)]
  exact this
 have j2:W.heap[Y2]?=some (.cells #[.int .i64 0,.int .i64 0,.slice none 0 0] 24 (0,0)):=by
  have:=heap_alloc_new ((w.alloc (.cells #[.int .i64 s.ver,.int .i64 s.last,.slice ta s.tabs.length tc] 24)).alloc (.cells #[.int .i64 kd,.string d.table,.string d.name,.string d.column,.string d.parent,.bool d.uq,.int .i64 d.ty,.int .i64 d.df.k,.int .i64 d.df.n,.string d.df.s,cv] 31)) (.cells #[.int .i64 0,.int .i64 0,.slice none 0 0] 24)
  simp only [World.size_alloc] at this
  rw [hW,← hY2,← hY1,← hY0]
  exact this
 have hcp:=copy_any (hL.on tbE_held hbW) hz
 have hld0:=load_row j0 Tryz.underlying24 rfl size24
 have J0:=lh j0
 have J1:=lh j1
 have J2:=lh j2
 have HW:=lh hW
 have HBW:=lh hbW
 have HY0:=lh hY0
 have HY1:=lh hY1
 have HY2:=lh hY2
 have HKD:=lh hkd
 have HZ:=lh hz
 have GE:Hid (w.heap.size≤Y0∧w.heap.size≤Y2∧Y0 ≠ Y2∧Y0 ≠ Y1):=lh ⟨by omega,by omega,by omega,by omega⟩
 clear hW hbW hY0 hY1 hY2 j0 j1 j2 hL hX q0 q1 q2 hkd hz
 go_enter Tryz.func20,Tryz.ntmps20
 go_upto_region 1 with fail
 rw [← HW.out,HY0.out,HY1.out,HY2.out]
 go_wp2_with (first | (go_at_call 14;refine hcp.mono ?_;rintro e w1 ⟨G,tv',rfl,hG,hD,b1⟩;refine Hid.out ?_) | (refine wpl_load _ rfl (by simp [Act.eval]) hld0 ?_))
 refine lh ?_
 obtain ⟨ta1,tc1,hsh⟩:=own_shape hD.row
 subst hsh
 obtain ⟨n,hn⟩:∃ n,G.length=n:=⟨_,rfl⟩
 rw [hn] at hD ⊢
 have i0:=(b1.block Y0 (blk_lt J0.out)).trans J0.out
 have i1:=(b1.block Y1 (blk_lt J1.out)).trans J1.out
 have i2:=(b1.block Y2 (blk_lt J2.out)).trans J2.out
 obtain ⟨V0,e0',jv0,fv0⟩:=sets_row i0 (scA s (.slice ta1 n tc1)) rfl
 have hst:(Instr.storeAt 24 (.pointer (some ⟨Y0,0,none⟩)) (.agg (scA s (.slice ta1 n tc1)))).run Tryz.prog w1=.ok () V0:=by
  rw [e0']
  exact store_row i0 rfl size24 (by simp [Value.oneCell'])
 have jv1:V0.heap[Y1]?=some (.cells #[.int .i64 kd,.string d.table,.string d.name,.string d.column,.string d.parent,.bool d.uq,.int .i64 d.ty,.int .i64 d.df.k,.int .i64 d.df.n,.string d.df.s,cv] 31 (0,0)):=by rw [fv0.block Y1 (blk_lt i1) (fun q=>GE.out.2.2.2 q.symm)];exact i1
 have jv2:V0.heap[Y2]?=some (.cells #[.int .i64 0,.int .i64 0,.slice none 0 0] 24 (0,0)):=by rw [fv0.block Y2 (blk_lt i2) (fun q=>GE.out.2.2.1 q.symm)];exact i2
 have hDV:Dr V0 W.heap.size G (.slice ta1 n tc1):=hD.keep fv0 (fun k hk=>.inl (by rw [hk];exact blk_lt J0.out))
 have hbV:Below w.heap.size w V0:=(bgo HBW.out b1).trans (fv0.toBelow (fun k hk q=>by have:=GE.out.1;omega) (bgo HBW.out b1).size)
 have hmx:(n:Int)≤9223372036854775807:=by
  have:=HZ.out.1
  rw [← hG,List.length_map,hn] at this
  omega
 have JV0:=lh jv0
 have JV1:=lh jv1
 have JV2:=lh jv2
 have HD:=lh hDV
 have HBV:=lh hbV
 have HG:=lh hG
 have HN:=lh hn
 have HSV:Hid (W.heap.size≤V0.heap.size):=lh (Nat.le_trans b1.size fv0.size)
 clear hcp hld0 b1 hD i0 i1 i2 e0' jv0 jv1 jv2 fv0 hDV hbV hG hn
 go_upto_region 2 with (refine wpl_store _ _ rfl (by simp [Act.eval]) (by simp [Act.eval]) hst ?_)
 clear hst
 go_wp2
 go_loopw [5,6] (fun lv iv wr=>∃ (i:Nat) (R:List Gt),i≤n∧iv=.int .i64 (i:Int)∧R.map Prod.fst=(s.tabs.take i).flatMap (withoutT d)∧WL V0.heap.size W.heap.size wr R lv∧Below V0.heap.size V0 wr) (fun _ iv _=>n - (intOf iv).toNat)
 case atStart=>exact ⟨0,[],Nat.zero_le _,rfl,rfl,WL.nil _ _ _,Below.refl _ _⟩
 case round =>
  obtain ⟨i,R,hi,rfl,hR,hw,hb⟩:=hrel
  obtain ⟨V,rfl⟩:∃ V,V=wr:=⟨_,rfl⟩
  obtain ⟨la,lc,hsh⟩:=own_shape hw.row
  subst hsh
  have hRl:R.length≤i:=by
   have h1:=congrArg List.length hR
   have h2:=wo_len d (s.tabs.take i)
   rw [List.length_map] at h1
   rw [List.length_take] at h2
   omega
  have jV0:=(hb.block Y0 (blk_lt JV0.out)).trans JV0.out
  have jV1:=(hb.block Y1 (blk_lt JV1.out)).trans JV1.out
  have jV2:=(hb.block Y2 (blk_lt JV2.out)).trans JV2.out
  have HB:=lh hb
  have HWL:=lh hw
  have HR:=lh hR
  have HRL:=lh hRl
  have d2:V.cell? ⟨Y0,2,none⟩=some (.slice ta1 n tc1):=cell_blk jV0 2
  have JY1:=lh jV1
  by_cases hlt:i < n
  ·skip
   have k0:(0:Int)≤i:=by omega
   have k1:(i:Int) < n:=by omega
   have hiG:i < G.length:=by rw [HN.out];exact hlt
   have hiT:i < s.tabs.length:=by rw [← HG.out,List.length_map];exact hiG
   obtain ⟨_,_,ee,_,_,_,hcs⟩:=Lr.own gL_len (own_below HD.out.row hb)
   simp only [Value.slice.injEq] at ee
   obtain ⟨ee1,ee2,ee3⟩:=ee
   clear ee2
   subst ee1 ee3
   obtain ⟨b,p,cs,rfl,hbl,hE,_,hcell⟩:=hcs i hiG
   subst hE
   have hc0:=own_below (HD.out.c G[i] (List.getElem_mem hiG)) hb
   have hi0:=own_below (HD.out.i G[i] (List.getElem_mem hiG)) hb
   have hk0:=own_below (HD.out.k G[i] (List.getElem_mem hiG)) hb
   have ht:s.tabs[i]=G[i].1:=by
    have:=List.getElem_map (f:=Prod.fst) (l:=G) (i:=i) (h:=by rw [List.length_map];exact hiG)
    rw [← this]
    congr 1
    exact HG.out.symm
   obtain ⟨g,hg⟩:∃ g,G[i]=g:=⟨_,rfl⟩
   rw [hg] at hcell hc0 hi0 hk0 ht
   obtain ⟨t,cv1,iv1,kv1⟩:=g
   simp only at hc0 hi0 hk0 ht
   obtain ⟨ca,cc,e1⟩:=own_shape hc0
   obtain ⟨ia,ic,e2⟩:=own_shape hi0
   obtain ⟨ka,kc,e3⟩:=own_shape hk0
   subst e1 e2 e3
   have HT:=lh ht
   have HTF:Hid t.few:=lh (HZ.out.2 t (by rw [← ht];exact List.getElem_mem hiT))
   have c0:V.cell? ⟨b,p+i * 5,none⟩=some (.int .i64 t.id):=hcell 0 _ rfl
   have c1:V.cell? ⟨b,p+i * 5+1,none⟩=some (.string t.nm):=hcell 1 _ rfl
   have c2:V.cell? ⟨b,p+i * 5+2,none⟩=some (.slice ca t.cols.length cc):=hcell 2 _ rfl
   have c3:V.cell? ⟨b,p+i * 5+3,none⟩=some (.slice ia t.ixs.length ic):=hcell 3 _ rfl
   have c4:V.cell? ⟨b,p+i * 5+4,none⟩=some (.slice ka t.fks.length kc):=hcell 4 _ rfl
   obtain ⟨V1,hV1⟩:∃ V1,V1=V.alloc (.cells (tbA t (.slice ca t.cols.length cc) (.slice ia t.ixs.length ic) (.slice ka t.fks.length kc)) 35):=⟨_,rfl⟩
   obtain ⟨Q,hQ⟩:∃ Q,V.heap.size=Q:=⟨_,rfl⟩
   have jQ:V1.heap[Q]?=some (.cells (tbA t (.slice ca t.cols.length cc) (.slice ia t.ixs.length ic) (.slice ka t.fks.length kc)) 35 (0,0)):=by rw [hV1,← hQ];exact heap_alloc_new V _
   have bV:Below V.heap.size V V1:=by rw [hV1];exact bnew _ _
   have HV1:=lh hV1
   have HQ:=lh hQ
   have HQV:Hid (V.heap.size≤Q):=lh (by omega)
   have JQ:=lh jQ
   have BV:=lh bV
   have JD:Hid (V1.heap[Y1]?=some (.cells #[.int .i64 kd,.string d.table,.string d.name,.string d.column,.string d.parent,.bool d.uq,.int .i64 d.ty,.int .i64 d.df.k,.int .i64 d.df.n,.string d.df.s,cv] 31 (0,0))):=lh ((bV.block Y1 (blk_lt jV1)).trans jV1)
   have OC:=lh (own_below hc0 bV)
   have OI:=lh (own_below hi0 bV)
   have OK:=lh (own_below hk0 bV)
   have WV:=lh (HWL.out.below bV)
   have HRT:=lh (take_next hiT ht (withoutT d))
   have y1:V1.cell? ⟨Q,1,none⟩=some (.string t.nm):=cell_blk jQ 1
   have e1:V1.cell? ⟨Y1,1,none⟩=some (.string d.table):=cell_blk JD.out 1
   have hs:=same_eq t.nm d.table
   clear hcell hcs hbl hc0 hi0 hk0 ht hg hV1 hQ jQ bV hb hw hR hRl jV0 jV1 jV2 JY1
   go_upto_region 7 with fail
   rw [← HV1.out,HQ.out]
   clear c0 c1 c2 c3 c4 d2
   have HBV1:Hid (Below V0.heap.size V0 V1):=lh (HB.out.trans (BV.out.mono HB.out.size))
   have HRZ:Hid (R.length≤1000000):=lh (by
    have:=HZ.out.1
    have:=HRL.out
    omega)
   by_cases q:t.nm=d.table
   ·skip
    rw [decide_eq_true q] at hs
    have HQN:=lh q
    have HQL:Hid (∀ k9,(Value.slice la R.length lc).ownBlock=some k9→¬ k9=Q):=lh (fun k9 hk9 q9=>by
     have:=(own_ge HWL.out.row k9 hk9).2
     have:=HQ.out
     omega)
    clear q
    have e0:V1.cell? ⟨Y1,0,none⟩=some (.int .i64 kd):=cell_blk JD.out 0
    by_cases k1:kd=1
    ·subst k1
     have HR2:Hid (R.map Prod.fst=(s.tabs.take (i+1)).flatMap (withoutT d)):=lh (by
      rw [HRT.out,HR.out]
      unfold withoutT
      rw [if_neg (by simpa using HQN.out),if_pos HKD.out,List.append_nil])
     go_wp2
     go_roundw
     case rel=>exact ⟨i+1,_,hlt,by go_num,HR2.out,WV.out,HBV1.out⟩
     case measure=>simp [intOf];omega
    obtain ⟨fc,hfc⟩:∃ fc,fidx (fun x=>decide (x.nm=d.column)) t.cols=fc:=⟨_,rfl⟩
    obtain ⟨fi,hfi⟩:∃ fi,fidx (fun x=>decide (x.nm=d.name)) t.ixs=fi:=⟨_,rfl⟩
    obtain ⟨fk,hfk⟩:∃ fk,fidx (fun x=>decide (x.nm=d.name)) t.fks=fk:=⟨_,rfl⟩
    have HFC:=lh hfc
    have HFI:=lh hfi
    have HFK:=lh hfk
    clear hfc hfi hfk y1 e1 e0
    have y0:V1.cell? ⟨Q,0,none⟩=some (.int .i64 t.id):=cell_blk JQ.out 0
    have y1:V1.cell? ⟨Q,1,none⟩=some (.string t.nm):=cell_blk JQ.out 1
    have y2:V1.cell? ⟨Q,2,none⟩=some (.slice ca t.cols.length cc):=cell_blk JQ.out 2
    have y3:V1.cell? ⟨Q,3,none⟩=some (.slice ia t.ixs.length ic):=cell_blk JQ.out 3
    have y4:V1.cell? ⟨Q,4,none⟩=some (.slice ka t.fks.length kc):=cell_blk JQ.out 4
    have e0:V1.cell? ⟨Y1,0,none⟩=some (.int .i64 kd):=cell_blk JD.out 0
    have e2:V1.cell? ⟨Y1,2,none⟩=some (.string d.name):=cell_blk JD.out 2
    have e3:V1.cell? ⟨Y1,3,none⟩=some (.string d.column):=cell_blk JD.out 3
    have e1:V1.cell? ⟨Y1,1,none⟩=some (.string d.table):=cell_blk JD.out 1
    have hat:=colAt_any (w:=V1) (t:=t) ⟨Lr.own colL_len OC.out,Lr.own ixL_len OI.out,Lr.own fkL_len OK.out⟩ d.column
    rw [HFC.out] at hat
    go_wp2_with (go_at_call 26;refine hat.mono ?_;rintro e x1 ⟨rfl,bx1⟩;refine Hid.out ?_)
    refine lh ?_
    clear y0 y1 y2 y3 y4 e0 e2 e3 hat e1
    have JQ':Hid (x1.heap[Q]?=some (.cells (tbA t (.slice ca t.cols.length cc) (.slice ia t.ixs.length ic) (.slice ka t.fks.length kc)) 35 (0,0))):=lh ((bx1.block Q (blk_lt JQ.out)).trans JQ.out)
    have JD':Hid (x1.heap[Y1]?=some (.cells #[.int .i64 kd,.string d.table,.string d.name,.string d.column,.string d.parent,.bool d.uq,.int .i64 d.ty,.int .i64 d.df.k,.int .i64 d.df.n,.string d.df.s,cv] 31 (0,0))):=lh ((bx1.block Y1 (blk_lt JD.out)).trans JD.out)
    have OC':=lh (own_below OC.out bx1)
    have OI':=lh (own_below OI.out bx1)
    have OK':=lh (own_below OK.out bx1)
    have WV':=lh (WV.out.below bx1)
    have HBV':=lh (HBV1.out.trans (bx1.mono HBV1.out.size))
    clear JQ JD OC OI OK WV HBV1
    have JQ:=JQ'
    have JD:=JD'
    have OC:=OC'
    have OI:=OI'
    have OK:=OK'
    have WV:=WV'
    have HBV1:=HBV'
    clear JQ' JD' OC' OI' OK' WV' HBV'
    clear bx1
    have y0:x1.cell? ⟨Q,0,none⟩=some (.int .i64 t.id):=cell_blk JQ.out 0
    have y1:x1.cell? ⟨Q,1,none⟩=some (.string t.nm):=cell_blk JQ.out 1
    have y2:x1.cell? ⟨Q,2,none⟩=some (.slice ca t.cols.length cc):=cell_blk JQ.out 2
    have y3:x1.cell? ⟨Q,3,none⟩=some (.slice ia t.ixs.length ic):=cell_blk JQ.out 3
    have y4:x1.cell? ⟨Q,4,none⟩=some (.slice ka t.fks.length kc):=cell_blk JQ.out 4
    have e0:x1.cell? ⟨Y1,0,none⟩=some (.int .i64 kd):=cell_blk JD.out 0
    have e2:x1.cell? ⟨Y1,2,none⟩=some (.string d.name):=cell_blk JD.out 2
    have e3:x1.cell? ⟨Y1,3,none⟩=some (.string d.column):=cell_blk JD.out 3
    by_cases k45:kd=4 ∨ kd=5
    ·rcases k45 with hk9 | hk9
     all_goals
      have HK9:=lh hk9
      clear hk9
      rw [HK9.out] at e0
      rcases findIdx_fidx (fun x=>decide (x.nm=d.column)) t.cols with ⟨q,q8⟩ | ⟨k,hk,q,q8,q9⟩
      ·have HC1:Hid (fidx (fun x=>decide (x.nm=d.column)) t.cols=-1):=lh q
       clear q8
       rw [HFC.out] at q
       subst q
       have hat:=ixAt_any (w:=x1) (t:=t) ⟨Lr.own colL_len OC.out,Lr.own ixL_len OI.out,Lr.own fkL_len OK.out⟩ d.name
       rw [HFI.out] at hat
       go_wp2_with (go_at_call 29;refine hat.mono ?_;rintro e x2 ⟨rfl,bx2⟩;refine Hid.out ?_)
       refine lh ?_
       clear y0 y1 y2 y3 y4 e0 e2 e3 hat
       have JQ':Hid (x2.heap[Q]?=some (.cells (tbA t (.slice ca t.cols.length cc) (.slice ia t.ixs.length ic) (.slice ka t.fks.length kc)) 35 (0,0))):=lh ((bx2.block Q (blk_lt JQ.out)).trans JQ.out)
       have JD':Hid (x2.heap[Y1]?=some (.cells #[.int .i64 kd,.string d.table,.string d.name,.string d.column,.string d.parent,.bool d.uq,.int .i64 d.ty,.int .i64 d.df.k,.int .i64 d.df.n,.string d.df.s,cv] 31 (0,0))):=lh ((bx2.block Y1 (blk_lt JD.out)).trans JD.out)
       have OC':=lh (own_below OC.out bx2)
       have OI':=lh (own_below OI.out bx2)
       have OK':=lh (own_below OK.out bx2)
       have WV':=lh (WV.out.below bx2)
       have HBV':=lh (HBV1.out.trans (bx2.mono HBV1.out.size))
       clear JQ JD OC OI OK WV HBV1
       have JQ:=JQ'
       have JD:=JD'
       have OC:=OC'
       have OI:=OI'
       have OK:=OK'
       have WV:=WV'
       have HBV1:=HBV'
       clear JQ' JD' OC' OI' OK' WV' HBV'
       clear bx2
       have y0:x2.cell? ⟨Q,0,none⟩=some (.int .i64 t.id):=cell_blk JQ.out 0
       have y1:x2.cell? ⟨Q,1,none⟩=some (.string t.nm):=cell_blk JQ.out 1
       have y2:x2.cell? ⟨Q,2,none⟩=some (.slice ca t.cols.length cc):=cell_blk JQ.out 2
       have y3:x2.cell? ⟨Q,3,none⟩=some (.slice ia t.ixs.length ic):=cell_blk JQ.out 3
       have y4:x2.cell? ⟨Q,4,none⟩=some (.slice ka t.fks.length kc):=cell_blk JQ.out 4
       have e0:x2.cell? ⟨Y1,0,none⟩=some (.int .i64 kd):=cell_blk JD.out 0
       rw [HK9.out] at e0
       have e2:x2.cell? ⟨Y1,2,none⟩=some (.string d.name):=cell_blk JD.out 2
       have e3:x2.cell? ⟨Y1,3,none⟩=some (.string d.column):=cell_blk JD.out 3
       have hat:=keyAt_any (w:=x2) (t:=t) ⟨Lr.own colL_len OC.out,Lr.own ixL_len OI.out,Lr.own fkL_len OK.out⟩ d.name
       rw [HFK.out] at hat
       go_wp2_with (go_at_call 32;refine hat.mono ?_;rintro e x3 ⟨rfl,bx3⟩;refine Hid.out ?_)
       refine lh ?_
       clear y0 y1 y2 y3 y4 e0 e2 e3 hat
       have JQ':Hid (x3.heap[Q]?=some (.cells (tbA t (.slice ca t.cols.length cc) (.slice ia t.ixs.length ic) (.slice ka t.fks.length kc)) 35 (0,0))):=lh ((bx3.block Q (blk_lt JQ.out)).trans JQ.out)
       have JD':Hid (x3.heap[Y1]?=some (.cells #[.int .i64 kd,.string d.table,.string d.name,.string d.column,.string d.parent,.bool d.uq,.int .i64 d.ty,.int .i64 d.df.k,.int .i64 d.df.n,.string d.df.s,cv] 31 (0,0))):=lh ((bx3.block Y1 (blk_lt JD.out)).trans JD.out)
       have OC':=lh (own_below OC.out bx3)
       have OI':=lh (own_below OI.out bx3)
       have OK':=lh (own_below OK.out bx3)
       have WV':=lh (WV.out.below bx3)
       have HBV':=lh (HBV1.out.trans (bx3.mono HBV1.out.size))
       clear JQ JD OC OI OK WV HBV1
       have JQ:=JQ'
       have JD:=JD'
       have OC:=OC'
       have OI:=OI'
       have OK:=OK'
       have WV:=WV'
       have HBV1:=HBV'
       clear JQ' JD' OC' OI' OK' WV' HBV'
       clear bx3
       have y0:x3.cell? ⟨Q,0,none⟩=some (.int .i64 t.id):=cell_blk JQ.out 0
       have y1:x3.cell? ⟨Q,1,none⟩=some (.string t.nm):=cell_blk JQ.out 1
       have y2:x3.cell? ⟨Q,2,none⟩=some (.slice ca t.cols.length cc):=cell_blk JQ.out 2
       have y3:x3.cell? ⟨Q,3,none⟩=some (.slice ia t.ixs.length ic):=cell_blk JQ.out 3
       have y4:x3.cell? ⟨Q,4,none⟩=some (.slice ka t.fks.length kc):=cell_blk JQ.out 4
       have e0:x3.cell? ⟨Y1,0,none⟩=some (.int .i64 kd):=cell_blk JD.out 0
       rw [HK9.out] at e0
       have e2:x3.cell? ⟨Y1,2,none⟩=some (.string d.name):=cell_blk JD.out 2
       have e3:x3.cell? ⟨Y1,3,none⟩=some (.string d.column):=cell_blk JD.out 3
       obtain ⟨ad,cap,w',hrun,hnew,hbn⟩:=WV.out.push (by have:=HBV1.out.size;omega) (t) OC.out OI.out OK.out HRZ.out
       have HN2:=lh hnew
       have HB2:=lh (HBV1.out.trans hbn)
       have HR2:Hid ((R ++ [((t,.slice ca t.cols.length cc,.slice ia t.ixs.length ic,.slice ka t.fks.length kc):Gt)]).map Prod.fst=(s.tabs.take (i+1)).flatMap (withoutT d)):=lh (by
        rw [HRT.out,List.map_append,HR.out]
        congr 1
        show [t]=_
        unfold withoutT
        rw [if_neg (by simpa using HQN.out),if_neg (by have:=HKD.out;omega),if_pos (by have:=HKD.out;have:=HK9.out;omega),cut_no HC1.out])
       clear hnew hbn
       go_wp2_with (at_builtin;refine wpl_run2 _ _ rfl (by simp [Act.eval]) (by simp [Act.eval]) hrun ?_)
       go_roundw
       case rel=>exact ⟨i+1,_,hlt,by go_num,HR2.out,HN2.out,HB2.out⟩
       case measure=>simp [intOf];omega
      ·have HC1:Hid (fidx (fun x=>decide (x.nm=d.column)) t.cols=(k:Int)):=lh q
       clear q8 q9
       rw [HFC.out] at q
       subst q
       have HK:=lh hk
       have HZL:Hid (t.cols.length≤1000000):=lh HTF.out.1
       have kk:(0:Int)≤(k:Int):=by omega
       obtain ⟨_,_,ee,_,_,_,hcs⟩:=Lr.own colL_len OC.out
       cases ee
       obtain ⟨cb,co,cs9,rfl,r9⟩:=hcs k hk
       clear r9 hcs hk
       go_upto_region 12 with fail
       clear y0 y1 y2 y3 y4 e0 e2 e3
       obtain ⟨X0,hX0⟩:∃ X0,X0=x1.drew:=⟨_,rfl⟩
       have bX0:Below x1.heap.size x1 X0:=by rw [hX0];exact ⟨rfl,rfl,rfl,Nat.le_refl _,fun _ _=>rfl⟩
       have hl0:Lr colE 7 X0 t.cols (.slice (some ⟨cb,co,none⟩) t.cols.length cc):=Lr.own colL_len (own_below OC.out bX0)
       obtain ⟨sa,sc,hs1,hs2,a1,c1,X2,a2,c2,X3,r1,r2,o3,b1,b2,b3⟩:=cutC hl0 HK.out HZL.out
       obtain ⟨X1,hX1⟩:∃ X1,X1=X0.alloc (.cells #[] 50):=⟨_,rfl⟩
       rw [← hX1] at r1 b1
       have jx0:=(bX0.block Q (blk_lt JQ.out)).trans JQ.out
       have jx1:=(b1.block Q (blk_lt jx0)).trans jx0
       have jx2:=(b2.block Q (blk_lt jx0)).trans jx0
       have jx3:=(b3.block Q (blk_lt jx0)).trans jx0
       obtain ⟨X4,hX4⟩:∃ X4,X4=X3.setCell ⟨Q,2,none⟩ (.slice a2 (t.cols.length - 1) c2):=⟨_,rfl⟩
       have jx4:X4.heap[Q]?=some (.cells (tbA t (.slice a2 (t.cols.length - 1) c2) (.slice ia t.ixs.length ic) (.slice ka t.fks.length kc)) 35 (0,0)):=by rw [hX4];exact set_blk jx3 _
       have b03:=bgo bX0 b3
       have fX4:Fr X3 X4 (fun k9=>k9=Q):=by rw [hX4];exact Fr.set (S:=fun k9=>k9=Q) (a:=⟨Q,2,none⟩) (Fr.refl _ _) (.inl rfl) _
       have keepQ:∀ {e:TypeId} {c9 n9 B9:Nat} {v:Value} {xs:List Value},e ≠ 35→X3.ownsRow B9 e c9 v n9 xs→X4.ownsRow B9 e c9 v n9 xs:=fun he q9=>keep_rowB q9 fX4 (fun k9 hk9 cs9 tg=>by
        rw [hk9,jx3] at tg
        simp only [Option.some.injEq,Obj.cells.injEq] at tg
        exact he tg.2.1.symm)
       have hszX:x1.heap.size≤X3.heap.size:=b03.size
       have hW0:W.heap.size≤X0.heap.size:=by have:=HBV1.out.size;have:=bX0.size;have:=HSV.out;omega
       have OCn:=lh (keepQ (by decide) (own_mono o3 hW0))
       have OIn:=lh (keepQ (by decide) (own_below OI.out b03))
       have OKn:=lh (keepQ (by decide) (own_below OK.out b03))
       have h3W:=WV.out.below b03
       have WVn:Hid (WL V0.heap.size W.heap.size X4 R (.slice la R.length lc)):=lh ⟨row_keep h3W.row fX4 (fun k9 hk9 q9=>HQL.out k9 hk9 q9),fun g9 hg9=>keepQ (by decide) (h3W.c g9 hg9),fun g9 hg9=>keepQ (by decide) (h3W.i g9 hg9),fun g9 hg9=>keepQ (by decide) (h3W.k g9 hg9)⟩
       have hv3:=HBV1.out.trans (b03.mono HBV1.out.size)
       have HBn:Hid (Below V0.heap.size V0 X4):=lh (hv3.trans (fX4.toBelow (fun k9 hk9 q9=>by have:=HQV.out;have:=HB.out.size;omega) hv3.size))
       have JDn:Hid (X4.heap[Y1]?=some (.cells #[.int .i64 kd,.string d.table,.string d.name,.string d.column,.string d.parent,.bool d.uq,.int .i64 d.ty,.int .i64 d.df.k,.int .i64 d.df.n,.string d.df.s,cv] 31 (0,0))):=lh (by
        rw [fX4.block Y1 (by have:=blk_lt JD.out;omega) (fun q9=>by have:=blk_lt JV1.out;have:=HB.out.size;have:=HQV.out;omega)]
        exact (b03.block Y1 (blk_lt JD.out)).trans JD.out)
       have JQn:=lh jx4
       have CQ:Hid (X0.cell? ⟨Q,2,none⟩=some (.slice (some ⟨cb,co,none⟩) t.cols.length cc)∧X1.cell? ⟨Q,2,none⟩=some (.slice (some ⟨cb,co,none⟩) t.cols.length cc)∧X2.cell? ⟨Q,2,none⟩=some (.slice (some ⟨cb,co,none⟩) t.cols.length cc)∧X3.cell? ⟨Q,2,none⟩=some (.slice (some ⟨cb,co,none⟩) t.cols.length cc)):=lh ⟨cell_blk jx0 2,cell_blk jx1 2,cell_blk jx2 2,cell_blk jx3 2⟩
       have X3B:=lh jx3
       have HX0:=lh hX0
       have HX1:=lh hX1
       have HX4:=lh hX4
       have RUN1:=lh r1
       have RUN2:=lh r2
       have SL1:=lh hs1
       have SL2:=lh hs2
       have HKM:Hid ((k:Int)+1≤9223372036854775807):=lh (by have:=HK.out;have:=HZL.out;omega)
       clear hX0 hX1 hX4 bX0 hl0 r1 r2 o3 b1 b2 b3 jx0 jx1 jx2 jx3 jx4 b03 fX4 keepQ hszX hW0 h3W hv3 hs1 hs2
       refine wp_region_fs (fun fl X9=>GWo X0 X1 X2 X3 X4 (fl 0) (fl 5) (fl 11) (fl 13) X9) [
        fun v9 _=>v9=.slice (some ⟨X0.heap.size,0,none⟩) 0 0,
        fun v9 _=>v9=.pointer (some ⟨Q,2,none⟩),
        fun v9 _=>v9=.slice (some ⟨cb,co,none⟩) t.cols.length cc,
        fun v9 _=>v9=.int .i64 (k:Int),
        fun v9 _=>v9=.slice (some ⟨cb,co,none⟩) k cc,
        fun v9 _=>v9=.slice a1 k c1,
        fun v9 _=>v9=.pointer (some ⟨Q,2,none⟩),
        fun v9 _=>v9=.slice (some ⟨cb,co,none⟩) t.cols.length cc,
        fun v9 _=>v9=.int .i64 (k:Int),
        fun v9 _=>v9=.int .i64 ((k:Int)+1),
        fun v9 _=>v9=.slice sa (t.cols.length - (k+1)) sc,
        fun v9 _=>v9=.slice a2 (t.cols.length - 1) c2,
        fun v9 _=>v9=.pointer (some ⟨Q,2,none⟩),
        fun _ _=>True]
        (by kernel_rfl) (by kernel_rfl) (by kernel_rfl) ?g0e ?ose ?end5
       case g0e=>exact HX0.out.symm
       case ose =>
        refine ⟨?_,?_,?_,?_,?_,?_,?_,?_,?_,?_,?_,?_,?_,?_,trivial⟩
        ·intro ρ X9 fl hg hn hl hp ho hc hf hr
         have hgx:GWo X0 X1 X2 X3 X4 (fl 0) (fl 5) (fl 11) (fl 13) X9:=hg
         have h5f:fl 5=false:=(show fl 5=false from by cases q9:fl 5 with | false=>rfl | true=>exact absurd (hl 5 _ 0 rfl (by kernel_rfl) q9) (by rw [hn];decide))
         have h11f:fl 11=false:=(show fl 11=false from by cases q9:fl 11 with | false=>rfl | true=>exact absurd (hl 5 _ 0 rfl (by kernel_rfl) (hl 11 _ 5 rfl (by kernel_rfl) q9)) (by rw [hn];decide))
         have h13f:fl 13=false:=(show fl 13=false from by cases q9:fl 13 with | false=>rfl | true=>exact absurd (hl 5 _ 0 rfl (by kernel_rfl) (hl 11 _ 5 rfl (by kernel_rfl) (hl 13 _ 11 rfl (by kernel_rfl) q9))) (by rw [hn];decide))
         rw [hn,h5f,h11f,h13f] at hgx
         have hX:X9=X0:=hgx
         refine ⟨rfl,Runs.val _ op_none29 ⟨?_,?_,(show Value.slice (some ⟨X9.heap.size,0,none⟩) 0 0=Value.slice (some ⟨X0.heap.size,0,none⟩) 0 0 from by rw [hX])⟩⟩
         ·show GWo X0 X1 X2 X3 X4 true (fl 5) (fl 11) (fl 13) (X9.alloc _)
          rw [h5f,h11f,h13f,hX]
          exact HX1.out.symm
         ·intro j hj u q9
          match j,hj,q9 with
           | 0,hj,q9=>exact q9
           | 1,hj,q9=>exact q9
           | 2,hj,q9=>exact q9
           | 3,hj,q9=>exact q9
           | 4,hj,q9=>exact q9
           | 5,hj,q9=>exact q9
           | 6,hj,q9=>exact q9
           | 7,hj,q9=>exact q9
           | 8,hj,q9=>exact q9
           | 9,hj,q9=>exact q9
           | 10,hj,q9=>exact q9
           | 11,hj,q9=>exact q9
           | 12,hj,q9=>exact q9
           | 13,hj,q9=>exact q9
           | m+14,_,q9=>exact q9
        ·exact fun ρ X9 fl hg hn hl hp ho hc hf hr=>⟨rfl,Runs.val _ (op_f35_2 (show ρ (.tmp 7)=.pointer (some ⟨Q,0,none⟩) from ho 7 rfl)) ⟨hg,fun _ _ _ q=>q,rfl⟩⟩
        ·intro ρ X9 fl hg hn hl hp ho hc hf hr
         have hgx:GWo X0 X1 X2 X3 X4 (fl 0) (fl 5) (fl 11) (fl 13) X9:=hg
         have h13f:fl 13=false:=(show fl 13=false from by cases q9:fl 13 with | false=>rfl | true=>exact absurd (hl 4 _ 2 rfl (by kernel_rfl) (hl 5 _ 4 rfl (by kernel_rfl) (hl 11 _ 5 rfl (by kernel_rfl) (hl 13 _ 11 rfl (by kernel_rfl) q9)))) (by rw [hn];decide))
         have hcell:X9.cell? ⟨Q,2,none⟩=some (.slice (some ⟨cb,co,none⟩) t.cols.length cc):=by
          rw [h13f] at hgx
          cases q0:fl 0 <;> cases q5:fl 5 <;> cases q11:fl 11 <;> rw [q0,q5,q11] at hgx
          all_goals first
           | (rw [show X9=X0 from hgx];exact CQ.out.1)
           | (rw [show X9=X1 from hgx];exact CQ.out.2.1)
           | (rw [show X9=X2 from hgx];exact CQ.out.2.2.1)
           | (rw [show X9=X3 from hgx];exact CQ.out.2.2.2)
         exact ⟨rfl,Runs.val _ (op_load29 (show ρ (.tmp 54)=.pointer (some ⟨Q,2,none⟩) from hr 1 54 rfl rfl) hcell) ⟨hg,fun _ _ _ q=>q,rfl⟩⟩
        ·exact fun ρ X9 fl hg hn hl hp ho hc hf hr=>⟨rfl,Runs.val _ (op_move (show ρ (.tmp 8)=.int .i64 (k:Int) from ho 8 rfl)) ⟨hg,fun _ _ _ q=>q,rfl⟩⟩
        ·exact fun ρ X9 fl hg hn hl hp ho hc hf hr=>⟨rfl,Runs.val _ (op_slice29hi (show ρ (.tmp 55)=.slice (some ⟨cb,co,none⟩) t.cols.length cc from hr 2 55 rfl rfl) (show ρ (.tmp 56)=.int .i64 (k:Int) from hr 3 56 rfl rfl) SL1.out) ⟨hg,fun _ _ _ q=>q,rfl⟩⟩
        ·intro ρ X9 fl hg hn hl hp ho hc hf hr
         have hgx:GWo X0 X1 X2 X3 X4 (fl 0) (fl 5) (fl 11) (fl 13) X9:=hg
         have h0t:fl 0=true:=hp 0 (by kernel_rfl)
         have h11f:fl 11=false:=(show fl 11=false from by cases q9:fl 11 with | false=>rfl | true=>exact absurd (hl 11 _ 5 rfl (by kernel_rfl) q9) (by rw [hn];decide))
         have h13f:fl 13=false:=(show fl 13=false from by cases q9:fl 13 with | false=>rfl | true=>exact absurd (hl 11 _ 5 rfl (by kernel_rfl) (hl 13 _ 11 rfl (by kernel_rfl) q9)) (by rw [hn];decide))
         rw [hn,h0t,h11f,h13f] at hgx
         have hX:X9=X1:=hgx
         have hrun9:=RUN1.out
         rw [← hX] at hrun9
         refine ⟨rfl,Runs.val _ (op_append29 (show ρ (.tmp 53)=.slice (some ⟨X0.heap.size,0,none⟩) 0 0 from hr 0 53 rfl rfl) (show ρ (.tmp 57)=.slice (some ⟨cb,co,none⟩) k cc from hr 4 57 rfl rfl) hrun9) ⟨?_,?_,rfl⟩⟩
         ·show GWo X0 X1 X2 X3 X4 (fl 0) true (fl 11) (fl 13) X2
          rw [h11f,h13f]
          exact (rfl:X2=X2)
         ·intro j hj u q9
          match j,hj,q9 with
           | 0,hj,q9=>exact q9
           | 1,hj,q9=>exact q9
           | 2,hj,q9=>exact q9
           | 3,hj,q9=>exact q9
           | 4,hj,q9=>exact q9
           | 5,hj,q9=>exact q9
           | 6,hj,q9=>exact q9
           | 7,hj,q9=>exact q9
           | 8,hj,q9=>exact q9
           | 9,hj,q9=>exact q9
           | 10,hj,q9=>exact q9
           | 11,hj,q9=>exact q9
           | 12,hj,q9=>exact q9
           | 13,hj,q9=>exact q9
           | m+14,_,q9=>exact q9
        ·exact fun ρ X9 fl hg hn hl hp ho hc hf hr=>⟨rfl,Runs.val _ (op_f35_2 (show ρ (.tmp 7)=.pointer (some ⟨Q,0,none⟩) from ho 7 rfl)) ⟨hg,fun _ _ _ q=>q,rfl⟩⟩
        ·intro ρ X9 fl hg hn hl hp ho hc hf hr
         have hgx:GWo X0 X1 X2 X3 X4 (fl 0) (fl 5) (fl 11) (fl 13) X9:=hg
         have h13f:fl 13=false:=(show fl 13=false from by cases q9:fl 13 with | false=>rfl | true=>exact absurd (hl 10 _ 7 rfl (by kernel_rfl) (hl 11 _ 10 rfl (by kernel_rfl) (hl 13 _ 11 rfl (by kernel_rfl) q9))) (by rw [hn];decide))
         have hcell:X9.cell? ⟨Q,2,none⟩=some (.slice (some ⟨cb,co,none⟩) t.cols.length cc):=by
          rw [h13f] at hgx
          cases q0:fl 0 <;> cases q5:fl 5 <;> cases q11:fl 11 <;> rw [q0,q5,q11] at hgx
          all_goals first
           | (rw [show X9=X0 from hgx];exact CQ.out.1)
           | (rw [show X9=X1 from hgx];exact CQ.out.2.1)
           | (rw [show X9=X2 from hgx];exact CQ.out.2.2.1)
           | (rw [show X9=X3 from hgx];exact CQ.out.2.2.2)
         exact ⟨rfl,Runs.val _ (op_load29 (show ρ (.tmp 59)=.pointer (some ⟨Q,2,none⟩) from hr 6 59 rfl rfl) hcell) ⟨hg,fun _ _ _ q=>q,rfl⟩⟩
        ·exact fun ρ X9 fl hg hn hl hp ho hc hf hr=>⟨rfl,Runs.val _ (op_move (show ρ (.tmp 8)=.int .i64 (k:Int) from ho 8 rfl)) ⟨hg,fun _ _ _ q=>q,rfl⟩⟩
        ·exact fun ρ X9 fl hg hn hl hp ho hc hf hr=>⟨rfl,Runs.val _ (op_add3m (show ρ (.tmp 61)=.int .i64 (k:Int) from hr 8 61 rfl rfl) (hc _) rfl (by omega) HKM.out) ⟨hg,fun _ _ _ q=>q,rfl⟩⟩
        ·exact fun ρ X9 fl hg hn hl hp ho hc hf hr=>⟨rfl,Runs.val _ (op_slice29lo (show ρ (.tmp 60)=.slice (some ⟨cb,co,none⟩) t.cols.length cc from hr 7 60 rfl rfl) (show ρ (.tmp 62)=.int .i64 ((k:Int)+1) from hr 9 62 rfl rfl) SL2.out) ⟨hg,fun _ _ _ q=>q,rfl⟩⟩
        ·intro ρ X9 fl hg hn hl hp ho hc hf hr
         have hgx:GWo X0 X1 X2 X3 X4 (fl 0) (fl 5) (fl 11) (fl 13) X9:=hg
         have h5t:fl 5=true:=hp 5 (by kernel_rfl)
         have h13f:fl 13=false:=(show fl 13=false from by cases q9:fl 13 with | false=>rfl | true=>exact absurd (hl 13 _ 11 rfl (by kernel_rfl) q9) (by rw [hn];decide))
         rw [hn,h5t,h13f] at hgx
         have hX:X9=X2:=hgx
         have hrun9:=RUN2.out
         rw [← hX] at hrun9
         refine ⟨rfl,Runs.val _ (op_append29 (show ρ (.tmp 58)=.slice a1 k c1 from hr 5 58 rfl rfl) (show ρ (.tmp 63)=.slice sa (t.cols.length - (k+1)) sc from hr 10 63 rfl rfl) hrun9) ⟨?_,?_,rfl⟩⟩
         ·show GWo X0 X1 X2 X3 X4 (fl 0) (fl 5) true (fl 13) X3
          rw [h13f]
          exact (rfl:X3=X3)
         ·intro j hj u q9
          match j,hj,q9 with
           | 0,hj,q9=>exact q9
           | 1,hj,q9=>exact q9
           | 2,hj,q9=>exact q9
           | 3,hj,q9=>exact q9
           | 4,hj,q9=>exact q9
           | 5,hj,q9=>exact q9
           | 6,hj,q9=>exact q9
           | 7,hj,q9=>exact q9
           | 8,hj,q9=>exact q9
           | 9,hj,q9=>exact q9
           | 10,hj,q9=>exact q9
           | 11,hj,q9=>exact q9
           | 12,hj,q9=>exact q9
           | 13,hj,q9=>exact q9
           | m+14,_,q9=>exact q9
        ·exact fun ρ X9 fl hg hn hl hp ho hc hf hr=>⟨rfl,Runs.val _ (op_f35_2 (show ρ (.tmp 7)=.pointer (some ⟨Q,0,none⟩) from ho 7 rfl)) ⟨hg,fun _ _ _ q=>q,rfl⟩⟩
        ·intro ρ X9 fl hg hn hl hp ho hc hf hr
         have hgx:GWo X0 X1 X2 X3 X4 (fl 0) (fl 5) (fl 11) (fl 13) X9:=hg
         have h11t:fl 11=true:=hp 11 (by kernel_rfl)
         rw [hn,h11t] at hgx
         have hX:X9=X3:=hgx
         have hA9:=X3B.out
         rw [← hX] at hA9
         refine ⟨rfl,Runs.skips (op_store29 (show ρ (.tmp 65)=.pointer (some ⟨Q,2,none⟩) from hr 12 65 rfl rfl) (show ρ (.tmp 64)=.slice a2 (t.cols.length - 1) c2 from hr 11 64 rfl rfl) (cell_blk hA9 2) (frozen_blk hA9 2)) ⟨?_,?_,trivial⟩⟩
         ·show GWo X0 X1 X2 X3 X4 (fl 0) (fl 5) (fl 11) true (X9.setCell ⟨Q,2,none⟩ (.slice a2 (t.cols.length - 1) c2))
          rw [hX]
          exact HX4.out.symm
         ·intro j hj u q9
          match j,hj,q9 with
           | 0,hj,q9=>exact q9
           | 1,hj,q9=>exact q9
           | 2,hj,q9=>exact q9
           | 3,hj,q9=>exact q9
           | 4,hj,q9=>exact q9
           | 5,hj,q9=>exact q9
           | 6,hj,q9=>exact q9
           | 7,hj,q9=>exact q9
           | 8,hj,q9=>exact q9
           | 9,hj,q9=>exact q9
           | 10,hj,q9=>exact q9
           | 11,hj,q9=>exact q9
           | 12,hj,q9=>exact q9
           | 13,hj,q9=>exact q9
           | m+14,_,q9=>exact q9
       case end5 =>
        intro a9 X9 fl hfl hG hs9 hd9 ho9 hr9
        rw [hfl 13 (by decide)] at hG
        have hX9:X9=X4:=hG
        obtain ⟨x',hx',hxt⟩:=act_put hs9 hd9 ho9
        change a9=putAll _ x' [53,54,55,56,57,58,59,60,61,62,63,64,65] at hx'
        simp only [putAll,Act.put,List.setIfInBounds_toArray,List.set_cons_zero,List.set_cons_succ] at hx'
        clear hG hs9 hd9 ho9 hr9 hxt hfl
        subst hx'
        rw [hX9]
        clear hX9 JQ JD OC OI OK WV HBV1
        have JQ:=JQn
        have JD:=JDn
        have OC:=OCn
        have OI:=OIn
        have OK:=OKn
        have WV:=WVn
        have HBV1:=HBn
        clear JQn JDn OCn OIn OKn WVn HBn
        generalize x' 53=z53,x' 54=z54,x' 55=z55,x' 56=z56,x' 57=z57,x' 58=z58,x' 59=z59,x' 60=z60,x' 61=z61,x' 62=z62,x' 63=z63,x' 64=z64,x' 65=z65
        have y0:X4.cell? ⟨Q,0,none⟩=some (.int .i64 t.id):=cell_blk JQ.out 0
        have y1:X4.cell? ⟨Q,1,none⟩=some (.string t.nm):=cell_blk JQ.out 1
        have y2:X4.cell? ⟨Q,2,none⟩=some (.slice a2 (t.cols.length - 1) c2):=cell_blk JQ.out 2
        have y3:X4.cell? ⟨Q,3,none⟩=some (.slice ia t.ixs.length ic):=cell_blk JQ.out 3
        have y4:X4.cell? ⟨Q,4,none⟩=some (.slice ka t.fks.length kc):=cell_blk JQ.out 4
        have e0:X4.cell? ⟨Y1,0,none⟩=some (.int .i64 kd):=cell_blk JD.out 0
        rw [HK9.out] at e0
        have e2:X4.cell? ⟨Y1,2,none⟩=some (.string d.name):=cell_blk JD.out 2
        have e3:X4.cell? ⟨Y1,3,none⟩=some (.string d.column):=cell_blk JD.out 3
        have hat:=ixAt_any (w:=X4) (t:=tbC t (t.cols.take k ++ t.cols.drop (k+1))) ⟨Lr.own colL_len OC.out,Lr.own ixL_len OI.out,Lr.own fkL_len OK.out⟩ d.name
        rw [HFI.out] at hat
        go_wp2_with (go_at_call 29;refine hat.mono ?_;rintro e x5 ⟨rfl,bx5⟩;refine Hid.out ?_)
        refine lh ?_
        clear y0 y1 y2 y3 y4 e0 e2 e3 hat
        have JQ':Hid (x5.heap[Q]?=some (.cells (tbA t (.slice a2 (t.cols.length - 1) c2) (.slice ia t.ixs.length ic) (.slice ka t.fks.length kc)) 35 (0,0))):=lh ((bx5.block Q (blk_lt JQ.out)).trans JQ.out)
        have JD':Hid (x5.heap[Y1]?=some (.cells #[.int .i64 kd,.string d.table,.string d.name,.string d.column,.string d.parent,.bool d.uq,.int .i64 d.ty,.int .i64 d.df.k,.int .i64 d.df.n,.string d.df.s,cv] 31 (0,0))):=lh ((bx5.block Y1 (blk_lt JD.out)).trans JD.out)
        have OC':=lh (own_below OC.out bx5)
        have OI':=lh (own_below OI.out bx5)
        have OK':=lh (own_below OK.out bx5)
        have WV':=lh (WV.out.below bx5)
        have HBV':=lh (HBV1.out.trans (bx5.mono HBV1.out.size))
        clear JQ JD OC OI OK WV HBV1
        have JQ:=JQ'
        have JD:=JD'
        have OC:=OC'
        have OI:=OI'
        have OK:=OK'
        have WV:=WV'
        have HBV1:=HBV'
        clear JQ' JD' OC' OI' OK' WV' HBV'
        clear bx5
        have y0:x5.cell? ⟨Q,0,none⟩=some (.int .i64 t.id):=cell_blk JQ.out 0
        have y1:x5.cell? ⟨Q,1,none⟩=some (.string t.nm):=cell_blk JQ.out 1
        have y2:x5.cell? ⟨Q,2,none⟩=some (.slice a2 (t.cols.length - 1) c2):=cell_blk JQ.out 2
        have y3:x5.cell? ⟨Q,3,none⟩=some (.slice ia t.ixs.length ic):=cell_blk JQ.out 3
        have y4:x5.cell? ⟨Q,4,none⟩=some (.slice ka t.fks.length kc):=cell_blk JQ.out 4
        have e0:x5.cell? ⟨Y1,0,none⟩=some (.int .i64 kd):=cell_blk JD.out 0
        rw [HK9.out] at e0
        have e2:x5.cell? ⟨Y1,2,none⟩=some (.string d.name):=cell_blk JD.out 2
        have e3:x5.cell? ⟨Y1,3,none⟩=some (.string d.column):=cell_blk JD.out 3
        have hat:=keyAt_any (w:=x5) (t:=tbC t (t.cols.take k ++ t.cols.drop (k+1))) ⟨Lr.own colL_len OC.out,Lr.own ixL_len OI.out,Lr.own fkL_len OK.out⟩ d.name
        rw [HFK.out] at hat
        go_wp2_with (go_at_call 32;refine hat.mono ?_;rintro e x6 ⟨rfl,bx6⟩;refine Hid.out ?_)
        refine lh ?_
        clear y0 y1 y2 y3 y4 e0 e2 e3 hat
        have JQ':Hid (x6.heap[Q]?=some (.cells (tbA t (.slice a2 (t.cols.length - 1) c2) (.slice ia t.ixs.length ic) (.slice ka t.fks.length kc)) 35 (0,0))):=lh ((bx6.block Q (blk_lt JQ.out)).trans JQ.out)
        have JD':Hid (x6.heap[Y1]?=some (.cells #[.int .i64 kd,.string d.table,.string d.name,.string d.column,.string d.parent,.bool d.uq,.int .i64 d.ty,.int .i64 d.df.k,.int .i64 d.df.n,.string d.df.s,cv] 31 (0,0))):=lh ((bx6.block Y1 (blk_lt JD.out)).trans JD.out)
        have OC':=lh (own_below OC.out bx6)
        have OI':=lh (own_below OI.out bx6)
        have OK':=lh (own_below OK.out bx6)
        have WV':=lh (WV.out.below bx6)
        have HBV':=lh (HBV1.out.trans (bx6.mono HBV1.out.size))
        clear JQ JD OC OI OK WV HBV1
        have JQ:=JQ'
        have JD:=JD'
        have OC:=OC'
        have OI:=OI'
        have OK:=OK'
        have WV:=WV'
        have HBV1:=HBV'
        clear JQ' JD' OC' OI' OK' WV' HBV'
        clear bx6
        have y0:x6.cell? ⟨Q,0,none⟩=some (.int .i64 t.id):=cell_blk JQ.out 0
        have y1:x6.cell? ⟨Q,1,none⟩=some (.string t.nm):=cell_blk JQ.out 1
        have y2:x6.cell? ⟨Q,2,none⟩=some (.slice a2 (t.cols.length - 1) c2):=cell_blk JQ.out 2
        have y3:x6.cell? ⟨Q,3,none⟩=some (.slice ia t.ixs.length ic):=cell_blk JQ.out 3
        have y4:x6.cell? ⟨Q,4,none⟩=some (.slice ka t.fks.length kc):=cell_blk JQ.out 4
        have e0:x6.cell? ⟨Y1,0,none⟩=some (.int .i64 kd):=cell_blk JD.out 0
        rw [HK9.out] at e0
        have e2:x6.cell? ⟨Y1,2,none⟩=some (.string d.name):=cell_blk JD.out 2
        have e3:x6.cell? ⟨Y1,3,none⟩=some (.string d.column):=cell_blk JD.out 3
        obtain ⟨ad,cap,w',hrun,hnew,hbn⟩:=WV.out.push (by have:=HBV1.out.size;omega) (tbC t (t.cols.take k ++ t.cols.drop (k+1))) OC.out OI.out OK.out HRZ.out
        have HN2:=lh hnew
        have HB2:=lh (HBV1.out.trans hbn)
        have HR2:Hid ((R ++ [((tbC t (t.cols.take k ++ t.cols.drop (k+1)),.slice a2 (t.cols.length - 1) c2,.slice ia t.ixs.length ic,.slice ka t.fks.length kc):Gt)]).map Prod.fst=(s.tabs.take (i+1)).flatMap (withoutT d)):=lh (by
         rw [HRT.out,List.map_append,HR.out]
         congr 1
         show [tbC t (t.cols.take k ++ t.cols.drop (k+1))]=_
         unfold withoutT
         rw [if_neg (by simpa using HQN.out),if_neg (by have:=HKD.out;omega),if_pos (by have:=HKD.out;have:=HK9.out;omega),(cut_at HC1.out).2])
        clear hnew hbn
        go_wp2_with (at_builtin;refine wpl_run2 _ _ rfl (by simp [Act.eval]) (by simp [Act.eval]) hrun ?_)
        go_roundw
        case rel=>exact ⟨i+1,_,hlt,by go_num,HR2.out,HN2.out,HB2.out⟩
        case measure=>simp [intOf];omega
    have k4:¬ kd=4:=fun q=>k45 (.inl q)
    have k5:¬ kd=5:=fun q=>k45 (.inr q)
    clear k45
    by_cases k23:kd=2 ∨ kd=3
    ·rcases k23 with hk9 | hk9
     all_goals
      have HK9:=lh hk9
      clear hk9
      rw [HK9.out] at e0
      rcases findIdx_fidx (fun x=>decide (x.nm=d.name)) t.ixs with ⟨q,q8⟩ | ⟨k,hk,q,q8,q9⟩
      ·have HC1:Hid (fidx (fun x=>decide (x.nm=d.name)) t.ixs=-1):=lh q
       clear q8
       rw [HFI.out] at q
       subst q
       have hat:=ixAt_any (w:=x1) (t:=t) ⟨Lr.own colL_len OC.out,Lr.own ixL_len OI.out,Lr.own fkL_len OK.out⟩ d.name
       rw [HFI.out] at hat
       go_wp2_with (go_at_call 29;refine hat.mono ?_;rintro e x2 ⟨rfl,bx2⟩;refine Hid.out ?_)
       refine lh ?_
       clear y0 y1 y2 y3 y4 e0 e2 e3 hat
       have JQ':Hid (x2.heap[Q]?=some (.cells (tbA t (.slice ca t.cols.length cc) (.slice ia t.ixs.length ic) (.slice ka t.fks.length kc)) 35 (0,0))):=lh ((bx2.block Q (blk_lt JQ.out)).trans JQ.out)
       have JD':Hid (x2.heap[Y1]?=some (.cells #[.int .i64 kd,.string d.table,.string d.name,.string d.column,.string d.parent,.bool d.uq,.int .i64 d.ty,.int .i64 d.df.k,.int .i64 d.df.n,.string d.df.s,cv] 31 (0,0))):=lh ((bx2.block Y1 (blk_lt JD.out)).trans JD.out)
       have OC':=lh (own_below OC.out bx2)
       have OI':=lh (own_below OI.out bx2)
       have OK':=lh (own_below OK.out bx2)
       have WV':=lh (WV.out.below bx2)
       have HBV':=lh (HBV1.out.trans (bx2.mono HBV1.out.size))
       clear JQ JD OC OI OK WV HBV1
       have JQ:=JQ'
       have JD:=JD'
       have OC:=OC'
       have OI:=OI'
       have OK:=OK'
       have WV:=WV'
       have HBV1:=HBV'
       clear JQ' JD' OC' OI' OK' WV' HBV'
       clear bx2
       have y0:x2.cell? ⟨Q,0,none⟩=some (.int .i64 t.id):=cell_blk JQ.out 0
       have y1:x2.cell? ⟨Q,1,none⟩=some (.string t.nm):=cell_blk JQ.out 1
       have y2:x2.cell? ⟨Q,2,none⟩=some (.slice ca t.cols.length cc):=cell_blk JQ.out 2
       have y3:x2.cell? ⟨Q,3,none⟩=some (.slice ia t.ixs.length ic):=cell_blk JQ.out 3
       have y4:x2.cell? ⟨Q,4,none⟩=some (.slice ka t.fks.length kc):=cell_blk JQ.out 4
       have e0:x2.cell? ⟨Y1,0,none⟩=some (.int .i64 kd):=cell_blk JD.out 0
       rw [HK9.out] at e0
       have e2:x2.cell? ⟨Y1,2,none⟩=some (.string d.name):=cell_blk JD.out 2
       have e3:x2.cell? ⟨Y1,3,none⟩=some (.string d.column):=cell_blk JD.out 3
       have hat:=keyAt_any (w:=x2) (t:=t) ⟨Lr.own colL_len OC.out,Lr.own ixL_len OI.out,Lr.own fkL_len OK.out⟩ d.name
       rw [HFK.out] at hat
       go_wp2_with (go_at_call 32;refine hat.mono ?_;rintro e x3 ⟨rfl,bx3⟩;refine Hid.out ?_)
       refine lh ?_
       clear y0 y1 y2 y3 y4 e0 e2 e3 hat
       have JQ':Hid (x3.heap[Q]?=some (.cells (tbA t (.slice ca t.cols.length cc) (.slice ia t.ixs.length ic) (.slice ka t.fks.length kc)) 35 (0,0))):=lh ((bx3.block Q (blk_lt JQ.out)).trans JQ.out)
       have JD':Hid (x3.heap[Y1]?=some (.cells #[.int .i64 kd,.string d.table,.string d.name,.string d.column,.string d.parent,.bool d.uq,.int .i64 d.ty,.int .i64 d.df.k,.int .i64 d.df.n,.string d.df.s,cv] 31 (0,0))):=lh ((bx3.block Y1 (blk_lt JD.out)).trans JD.out)
       have OC':=lh (own_below OC.out bx3)
       have OI':=lh (own_below OI.out bx3)
       have OK':=lh (own_below OK.out bx3)
       have WV':=lh (WV.out.below bx3)
       have HBV':=lh (HBV1.out.trans (bx3.mono HBV1.out.size))
       clear JQ JD OC OI OK WV HBV1
       have JQ:=JQ'
       have JD:=JD'
       have OC:=OC'
       have OI:=OI'
       have OK:=OK'
       have WV:=WV'
       have HBV1:=HBV'
       clear JQ' JD' OC' OI' OK' WV' HBV'
       clear bx3
       have y0:x3.cell? ⟨Q,0,none⟩=some (.int .i64 t.id):=cell_blk JQ.out 0
       have y1:x3.cell? ⟨Q,1,none⟩=some (.string t.nm):=cell_blk JQ.out 1
       have y2:x3.cell? ⟨Q,2,none⟩=some (.slice ca t.cols.length cc):=cell_blk JQ.out 2
       have y3:x3.cell? ⟨Q,3,none⟩=some (.slice ia t.ixs.length ic):=cell_blk JQ.out 3
       have y4:x3.cell? ⟨Q,4,none⟩=some (.slice ka t.fks.length kc):=cell_blk JQ.out 4
       have e0:x3.cell? ⟨Y1,0,none⟩=some (.int .i64 kd):=cell_blk JD.out 0
       rw [HK9.out] at e0
       have e2:x3.cell? ⟨Y1,2,none⟩=some (.string d.name):=cell_blk JD.out 2
       have e3:x3.cell? ⟨Y1,3,none⟩=some (.string d.column):=cell_blk JD.out 3
       obtain ⟨ad,cap,w',hrun,hnew,hbn⟩:=WV.out.push (by have:=HBV1.out.size;omega) (t) OC.out OI.out OK.out HRZ.out
       have HN2:=lh hnew
       have HB2:=lh (HBV1.out.trans hbn)
       have HR2:Hid ((R ++ [((t,.slice ca t.cols.length cc,.slice ia t.ixs.length ic,.slice ka t.fks.length kc):Gt)]).map Prod.fst=(s.tabs.take (i+1)).flatMap (withoutT d)):=lh (by
        rw [HRT.out,List.map_append,HR.out]
        congr 1
        show [t]=_
        unfold withoutT
        rw [if_neg (by simpa using HQN.out),if_neg (by have:=HKD.out;omega),if_neg (by have:=HKD.out;have:=HK9.out;omega),if_pos (by have:=HKD.out;have:=HK9.out;omega),cut_no HC1.out])
       clear hnew hbn
       go_wp2_with (at_builtin;refine wpl_run2 _ _ rfl (by simp [Act.eval]) (by simp [Act.eval]) hrun ?_)
       go_roundw
       case rel=>exact ⟨i+1,_,hlt,by go_num,HR2.out,HN2.out,HB2.out⟩
       case measure=>simp [intOf];omega
      ·have HC1:Hid (fidx (fun x=>decide (x.nm=d.name)) t.ixs=(k:Int)):=lh q
       clear q8 q9
       rw [HFI.out] at q
       subst q
       have HK:=lh hk
       have HZL:Hid (t.ixs.length≤1000000):=lh HTF.out.2.1
       have kk:(0:Int)≤(k:Int):=by omega
       obtain ⟨_,_,ee,_,_,_,hcs⟩:=Lr.own ixL_len OI.out
       cases ee
       obtain ⟨cb,co,cs9,rfl,r9⟩:=hcs k hk
       clear r9 hcs hk
       have hat:=ixAt_any (w:=x1) (t:=t) ⟨Lr.own colL_len OC.out,Lr.own ixL_len OI.out,Lr.own fkL_len OK.out⟩ d.name
       rw [HFI.out] at hat
       go_wp2_with (go_at_call 29;refine hat.mono ?_;rintro e x2 ⟨rfl,bx2⟩;refine Hid.out ?_)
       refine lh ?_
       clear y0 y1 y2 y3 y4 e0 e2 e3 hat
       have JQ':Hid (x2.heap[Q]?=some (.cells (tbA t (.slice ca t.cols.length cc) (.slice (some ⟨cb,co,none⟩) t.ixs.length ic) (.slice ka t.fks.length kc)) 35 (0,0))):=lh ((bx2.block Q (blk_lt JQ.out)).trans JQ.out)
       have JD':Hid (x2.heap[Y1]?=some (.cells #[.int .i64 kd,.string d.table,.string d.name,.string d.column,.string d.parent,.bool d.uq,.int .i64 d.ty,.int .i64 d.df.k,.int .i64 d.df.n,.string d.df.s,cv] 31 (0,0))):=lh ((bx2.block Y1 (blk_lt JD.out)).trans JD.out)
       have OC':=lh (own_below OC.out bx2)
       have OI':=lh (own_below OI.out bx2)
       have OK':=lh (own_below OK.out bx2)
       have WV':=lh (WV.out.below bx2)
       have HBV':=lh (HBV1.out.trans (bx2.mono HBV1.out.size))
       clear JQ JD OC OI OK WV HBV1
       have JQ:=JQ'
       have JD:=JD'
       have OC:=OC'
       have OI:=OI'
       have OK:=OK'
       have WV:=WV'
       have HBV1:=HBV'
       clear JQ' JD' OC' OI' OK' WV' HBV'
       clear bx2
       have y0:x2.cell? ⟨Q,0,none⟩=some (.int .i64 t.id):=cell_blk JQ.out 0
       have y1:x2.cell? ⟨Q,1,none⟩=some (.string t.nm):=cell_blk JQ.out 1
       have y2:x2.cell? ⟨Q,2,none⟩=some (.slice ca t.cols.length cc):=cell_blk JQ.out 2
       have y3:x2.cell? ⟨Q,3,none⟩=some (.slice (some ⟨cb,co,none⟩) t.ixs.length ic):=cell_blk JQ.out 3
       have y4:x2.cell? ⟨Q,4,none⟩=some (.slice ka t.fks.length kc):=cell_blk JQ.out 4
       have e0:x2.cell? ⟨Y1,0,none⟩=some (.int .i64 kd):=cell_blk JD.out 0
       rw [HK9.out] at e0
       have e2:x2.cell? ⟨Y1,2,none⟩=some (.string d.name):=cell_blk JD.out 2
       have e3:x2.cell? ⟨Y1,3,none⟩=some (.string d.column):=cell_blk JD.out 3
       go_upto_region 15 with fail
       clear y0 y1 y2 y3 y4 e0 e2 e3
       obtain ⟨X0,hX0⟩:∃ X0,X0=x2.drew:=⟨_,rfl⟩
       have bX0:Below x2.heap.size x2 X0:=by rw [hX0];exact ⟨rfl,rfl,rfl,Nat.le_refl _,fun _ _=>rfl⟩
       have hl0:Lr ixE 5 X0 t.ixs (.slice (some ⟨cb,co,none⟩) t.ixs.length ic):=Lr.own ixL_len (own_below OI.out bX0)
       obtain ⟨sa,sc,hs1,hs2,a1,c1,X2,a2,c2,X3,r1,r2,o3,b1,b2,b3⟩:=cutI hl0 HK.out HZL.out
       obtain ⟨X1,hX1⟩:∃ X1,X1=X0.alloc (.cells #[] 71):=⟨_,rfl⟩
       rw [← hX1] at r1 b1
       have jx0:=(bX0.block Q (blk_lt JQ.out)).trans JQ.out
       have jx1:=(b1.block Q (blk_lt jx0)).trans jx0
       have jx2:=(b2.block Q (blk_lt jx0)).trans jx0
       have jx3:=(b3.block Q (blk_lt jx0)).trans jx0
       obtain ⟨X4,hX4⟩:∃ X4,X4=X3.setCell ⟨Q,3,none⟩ (.slice a2 (t.ixs.length - 1) c2):=⟨_,rfl⟩
       have jx4:X4.heap[Q]?=some (.cells (tbA t (.slice ca t.cols.length cc) (.slice a2 (t.ixs.length - 1) c2) (.slice ka t.fks.length kc)) 35 (0,0)):=by rw [hX4];exact set_blk jx3 _
       have b03:=bgo bX0 b3
       have fX4:Fr X3 X4 (fun k9=>k9=Q):=by rw [hX4];exact Fr.set (S:=fun k9=>k9=Q) (a:=⟨Q,3,none⟩) (Fr.refl _ _) (.inl rfl) _
       have keepQ:∀ {e:TypeId} {c9 n9 B9:Nat} {v:Value} {xs:List Value},e ≠ 35→X3.ownsRow B9 e c9 v n9 xs→X4.ownsRow B9 e c9 v n9 xs:=fun he q9=>keep_rowB q9 fX4 (fun k9 hk9 cs9 tg=>by
        rw [hk9,jx3] at tg
        simp only [Option.some.injEq,Obj.cells.injEq] at tg
        exact he tg.2.1.symm)
       have hszX:x2.heap.size≤X3.heap.size:=b03.size
       have hW0:W.heap.size≤X0.heap.size:=by have:=HBV1.out.size;have:=bX0.size;have:=HSV.out;omega
       have OCn:=lh (keepQ (by decide) (own_below OC.out b03))
       have OIn:=lh (keepQ (by decide) (own_mono o3 hW0))
       have OKn:=lh (keepQ (by decide) (own_below OK.out b03))
       have h3W:=WV.out.below b03
       have WVn:Hid (WL V0.heap.size W.heap.size X4 R (.slice la R.length lc)):=lh ⟨row_keep h3W.row fX4 (fun k9 hk9 q9=>HQL.out k9 hk9 q9),fun g9 hg9=>keepQ (by decide) (h3W.c g9 hg9),fun g9 hg9=>keepQ (by decide) (h3W.i g9 hg9),fun g9 hg9=>keepQ (by decide) (h3W.k g9 hg9)⟩
       have hv3:=HBV1.out.trans (b03.mono HBV1.out.size)
       have HBn:Hid (Below V0.heap.size V0 X4):=lh (hv3.trans (fX4.toBelow (fun k9 hk9 q9=>by have:=HQV.out;have:=HB.out.size;omega) hv3.size))
       have JDn:Hid (X4.heap[Y1]?=some (.cells #[.int .i64 kd,.string d.table,.string d.name,.string d.column,.string d.parent,.bool d.uq,.int .i64 d.ty,.int .i64 d.df.k,.int .i64 d.df.n,.string d.df.s,cv] 31 (0,0))):=lh (by
        rw [fX4.block Y1 (by have:=blk_lt JD.out;omega) (fun q9=>by have:=blk_lt JV1.out;have:=HB.out.size;have:=HQV.out;omega)]
        exact (b03.block Y1 (blk_lt JD.out)).trans JD.out)
       have JQn:=lh jx4
       have CQ:Hid (X0.cell? ⟨Q,3,none⟩=some (.slice (some ⟨cb,co,none⟩) t.ixs.length ic)∧X1.cell? ⟨Q,3,none⟩=some (.slice (some ⟨cb,co,none⟩) t.ixs.length ic)∧X2.cell? ⟨Q,3,none⟩=some (.slice (some ⟨cb,co,none⟩) t.ixs.length ic)∧X3.cell? ⟨Q,3,none⟩=some (.slice (some ⟨cb,co,none⟩) t.ixs.length ic)):=lh ⟨cell_blk jx0 3,cell_blk jx1 3,cell_blk jx2 3,cell_blk jx3 3⟩
       have X3B:=lh jx3
       have HX0:=lh hX0
       have HX1:=lh hX1
       have HX4:=lh hX4
       have RUN1:=lh r1
       have RUN2:=lh r2
       have SL1:=lh hs1
       have SL2:=lh hs2
       have HKM:Hid ((k:Int)+1≤9223372036854775807):=lh (by have:=HK.out;have:=HZL.out;omega)
       clear hX0 hX1 hX4 bX0 hl0 r1 r2 o3 b1 b2 b3 jx0 jx1 jx2 jx3 jx4 b03 fX4 keepQ hszX hW0 h3W hv3 hs1 hs2
       refine wp_region_fs (fun fl X9=>GWo X0 X1 X2 X3 X4 (fl 0) (fl 5) (fl 11) (fl 13) X9) [
        fun v9 _=>v9=.slice (some ⟨X0.heap.size,0,none⟩) 0 0,
        fun v9 _=>v9=.pointer (some ⟨Q,3,none⟩),
        fun v9 _=>v9=.slice (some ⟨cb,co,none⟩) t.ixs.length ic,
        fun v9 _=>v9=.int .i64 (k:Int),
        fun v9 _=>v9=.slice (some ⟨cb,co,none⟩) k ic,
        fun v9 _=>v9=.slice a1 k c1,
        fun v9 _=>v9=.pointer (some ⟨Q,3,none⟩),
        fun v9 _=>v9=.slice (some ⟨cb,co,none⟩) t.ixs.length ic,
        fun v9 _=>v9=.int .i64 (k:Int),
        fun v9 _=>v9=.int .i64 ((k:Int)+1),
        fun v9 _=>v9=.slice sa (t.ixs.length - (k+1)) sc,
        fun v9 _=>v9=.slice a2 (t.ixs.length - 1) c2,
        fun v9 _=>v9=.pointer (some ⟨Q,3,none⟩),
        fun _ _=>True]
        (by kernel_rfl) (by kernel_rfl) (by kernel_rfl) ?g0e ?ose ?end5
       case g0e=>exact HX0.out.symm
       case ose =>
        refine ⟨?_,?_,?_,?_,?_,?_,?_,?_,?_,?_,?_,?_,?_,?_,trivial⟩
        ·intro ρ X9 fl hg hn hl hp ho hc hf hr
         have hgx:GWo X0 X1 X2 X3 X4 (fl 0) (fl 5) (fl 11) (fl 13) X9:=hg
         have h5f:fl 5=false:=(show fl 5=false from by cases q9:fl 5 with | false=>rfl | true=>exact absurd (hl 5 _ 0 rfl (by kernel_rfl) q9) (by rw [hn];decide))
         have h11f:fl 11=false:=(show fl 11=false from by cases q9:fl 11 with | false=>rfl | true=>exact absurd (hl 5 _ 0 rfl (by kernel_rfl) (hl 11 _ 5 rfl (by kernel_rfl) q9)) (by rw [hn];decide))
         have h13f:fl 13=false:=(show fl 13=false from by cases q9:fl 13 with | false=>rfl | true=>exact absurd (hl 5 _ 0 rfl (by kernel_rfl) (hl 11 _ 5 rfl (by kernel_rfl) (hl 13 _ 11 rfl (by kernel_rfl) q9))) (by rw [hn];decide))
         rw [hn,h5f,h11f,h13f] at hgx
         have hX:X9=X0:=hgx
         refine ⟨rfl,Runs.val _ op_none32 ⟨?_,?_,(show Value.slice (some ⟨X9.heap.size,0,none⟩) 0 0=Value.slice (some ⟨X0.heap.size,0,none⟩) 0 0 from by rw [hX])⟩⟩
         ·show GWo X0 X1 X2 X3 X4 true (fl 5) (fl 11) (fl 13) (X9.alloc _)
          rw [h5f,h11f,h13f,hX]
          exact HX1.out.symm
         ·intro j hj u q9
          match j,hj,q9 with
           | 0,hj,q9=>exact q9
           | 1,hj,q9=>exact q9
           | 2,hj,q9=>exact q9
           | 3,hj,q9=>exact q9
           | 4,hj,q9=>exact q9
           | 5,hj,q9=>exact q9
           | 6,hj,q9=>exact q9
           | 7,hj,q9=>exact q9
           | 8,hj,q9=>exact q9
           | 9,hj,q9=>exact q9
           | 10,hj,q9=>exact q9
           | 11,hj,q9=>exact q9
           | 12,hj,q9=>exact q9
           | 13,hj,q9=>exact q9
           | m+14,_,q9=>exact q9
        ·exact fun ρ X9 fl hg hn hl hp ho hc hf hr=>⟨rfl,Runs.val _ (op_f35_3 (show ρ (.tmp 7)=.pointer (some ⟨Q,0,none⟩) from ho 7 rfl)) ⟨hg,fun _ _ _ q=>q,rfl⟩⟩
        ·intro ρ X9 fl hg hn hl hp ho hc hf hr
         have hgx:GWo X0 X1 X2 X3 X4 (fl 0) (fl 5) (fl 11) (fl 13) X9:=hg
         have h13f:fl 13=false:=(show fl 13=false from by cases q9:fl 13 with | false=>rfl | true=>exact absurd (hl 4 _ 2 rfl (by kernel_rfl) (hl 5 _ 4 rfl (by kernel_rfl) (hl 11 _ 5 rfl (by kernel_rfl) (hl 13 _ 11 rfl (by kernel_rfl) q9)))) (by rw [hn];decide))
         have hcell:X9.cell? ⟨Q,3,none⟩=some (.slice (some ⟨cb,co,none⟩) t.ixs.length ic):=by
          rw [h13f] at hgx
          cases q0:fl 0 <;> cases q5:fl 5 <;> cases q11:fl 11 <;> rw [q0,q5,q11] at hgx
          all_goals first
           | (rw [show X9=X0 from hgx];exact CQ.out.1)
           | (rw [show X9=X1 from hgx];exact CQ.out.2.1)
           | (rw [show X9=X2 from hgx];exact CQ.out.2.2.1)
           | (rw [show X9=X3 from hgx];exact CQ.out.2.2.2)
         exact ⟨rfl,Runs.val _ (op_load32 (show ρ (.tmp 83)=.pointer (some ⟨Q,3,none⟩) from hr 1 83 rfl rfl) hcell) ⟨hg,fun _ _ _ q=>q,rfl⟩⟩
        ·exact fun ρ X9 fl hg hn hl hp ho hc hf hr=>⟨rfl,Runs.val _ (op_move (show ρ (.tmp 9)=.int .i64 (k:Int) from ho 9 rfl)) ⟨hg,fun _ _ _ q=>q,rfl⟩⟩
        ·exact fun ρ X9 fl hg hn hl hp ho hc hf hr=>⟨rfl,Runs.val _ (op_slice32hi (show ρ (.tmp 84)=.slice (some ⟨cb,co,none⟩) t.ixs.length ic from hr 2 84 rfl rfl) (show ρ (.tmp 85)=.int .i64 (k:Int) from hr 3 85 rfl rfl) SL1.out) ⟨hg,fun _ _ _ q=>q,rfl⟩⟩
        ·intro ρ X9 fl hg hn hl hp ho hc hf hr
         have hgx:GWo X0 X1 X2 X3 X4 (fl 0) (fl 5) (fl 11) (fl 13) X9:=hg
         have h0t:fl 0=true:=hp 0 (by kernel_rfl)
         have h11f:fl 11=false:=(show fl 11=false from by cases q9:fl 11 with | false=>rfl | true=>exact absurd (hl 11 _ 5 rfl (by kernel_rfl) q9) (by rw [hn];decide))
         have h13f:fl 13=false:=(show fl 13=false from by cases q9:fl 13 with | false=>rfl | true=>exact absurd (hl 11 _ 5 rfl (by kernel_rfl) (hl 13 _ 11 rfl (by kernel_rfl) q9)) (by rw [hn];decide))
         rw [hn,h0t,h11f,h13f] at hgx
         have hX:X9=X1:=hgx
         have hrun9:=RUN1.out
         rw [← hX] at hrun9
         refine ⟨rfl,Runs.val _ (op_append32 (show ρ (.tmp 82)=.slice (some ⟨X0.heap.size,0,none⟩) 0 0 from hr 0 82 rfl rfl) (show ρ (.tmp 86)=.slice (some ⟨cb,co,none⟩) k ic from hr 4 86 rfl rfl) hrun9) ⟨?_,?_,rfl⟩⟩
         ·show GWo X0 X1 X2 X3 X4 (fl 0) true (fl 11) (fl 13) X2
          rw [h11f,h13f]
          exact (rfl:X2=X2)
         ·intro j hj u q9
          match j,hj,q9 with
           | 0,hj,q9=>exact q9
           | 1,hj,q9=>exact q9
           | 2,hj,q9=>exact q9
           | 3,hj,q9=>exact q9
           | 4,hj,q9=>exact q9
           | 5,hj,q9=>exact q9
           | 6,hj,q9=>exact q9
           | 7,hj,q9=>exact q9
           | 8,hj,q9=>exact q9
           | 9,hj,q9=>exact q9
           | 10,hj,q9=>exact q9
           | 11,hj,q9=>exact q9
           | 12,hj,q9=>exact q9
           | 13,hj,q9=>exact q9
           | m+14,_,q9=>exact q9
        ·exact fun ρ X9 fl hg hn hl hp ho hc hf hr=>⟨rfl,Runs.val _ (op_f35_3 (show ρ (.tmp 7)=.pointer (some ⟨Q,0,none⟩) from ho 7 rfl)) ⟨hg,fun _ _ _ q=>q,rfl⟩⟩
        ·intro ρ X9 fl hg hn hl hp ho hc hf hr
         have hgx:GWo X0 X1 X2 X3 X4 (fl 0) (fl 5) (fl 11) (fl 13) X9:=hg
         have h13f:fl 13=false:=(show fl 13=false from by cases q9:fl 13 with | false=>rfl | true=>exact absurd (hl 10 _ 7 rfl (by kernel_rfl) (hl 11 _ 10 rfl (by kernel_rfl) (hl 13 _ 11 rfl (by kernel_rfl) q9))) (by rw [hn];decide))
         have hcell:X9.cell? ⟨Q,3,none⟩=some (.slice (some ⟨cb,co,none⟩) t.ixs.length ic):=by
          rw [h13f] at hgx
          cases q0:fl 0 <;> cases q5:fl 5 <;> cases q11:fl 11 <;> rw [q0,q5,q11] at hgx
          all_goals first
           | (rw [show X9=X0 from hgx];exact CQ.out.1)
           | (rw [show X9=X1 from hgx];exact CQ.out.2.1)
           | (rw [show X9=X2 from hgx];exact CQ.out.2.2.1)
           | (rw [show X9=X3 from hgx];exact CQ.out.2.2.2)
         exact ⟨rfl,Runs.val _ (op_load32 (show ρ (.tmp 88)=.pointer (some ⟨Q,3,none⟩) from hr 6 88 rfl rfl) hcell) ⟨hg,fun _ _ _ q=>q,rfl⟩⟩
        ·exact fun ρ X9 fl hg hn hl hp ho hc hf hr=>⟨rfl,Runs.val _ (op_move (show ρ (.tmp 9)=.int .i64 (k:Int) from ho 9 rfl)) ⟨hg,fun _ _ _ q=>q,rfl⟩⟩
        ·exact fun ρ X9 fl hg hn hl hp ho hc hf hr=>⟨rfl,Runs.val _ (op_add3m (show ρ (.tmp 90)=.int .i64 (k:Int) from hr 8 90 rfl rfl) (hc _) rfl (by omega) HKM.out) ⟨hg,fun _ _ _ q=>q,rfl⟩⟩
        ·exact fun ρ X9 fl hg hn hl hp ho hc hf hr=>⟨rfl,Runs.val _ (op_slice32lo (show ρ (.tmp 89)=.slice (some ⟨cb,co,none⟩) t.ixs.length ic from hr 7 89 rfl rfl) (show ρ (.tmp 91)=.int .i64 ((k:Int)+1) from hr 9 91 rfl rfl) SL2.out) ⟨hg,fun _ _ _ q=>q,rfl⟩⟩
        ·intro ρ X9 fl hg hn hl hp ho hc hf hr
         have hgx:GWo X0 X1 X2 X3 X4 (fl 0) (fl 5) (fl 11) (fl 13) X9:=hg
         have h5t:fl 5=true:=hp 5 (by kernel_rfl)
         have h13f:fl 13=false:=(show fl 13=false from by cases q9:fl 13 with | false=>rfl | true=>exact absurd (hl 13 _ 11 rfl (by kernel_rfl) q9) (by rw [hn];decide))
         rw [hn,h5t,h13f] at hgx
         have hX:X9=X2:=hgx
         have hrun9:=RUN2.out
         rw [← hX] at hrun9
         refine ⟨rfl,Runs.val _ (op_append32 (show ρ (.tmp 87)=.slice a1 k c1 from hr 5 87 rfl rfl) (show ρ (.tmp 92)=.slice sa (t.ixs.length - (k+1)) sc from hr 10 92 rfl rfl) hrun9) ⟨?_,?_,rfl⟩⟩
         ·show GWo X0 X1 X2 X3 X4 (fl 0) (fl 5) true (fl 13) X3
          rw [h13f]
          exact (rfl:X3=X3)
         ·intro j hj u q9
          match j,hj,q9 with
           | 0,hj,q9=>exact q9
           | 1,hj,q9=>exact q9
           | 2,hj,q9=>exact q9
           | 3,hj,q9=>exact q9
           | 4,hj,q9=>exact q9
           | 5,hj,q9=>exact q9
           | 6,hj,q9=>exact q9
           | 7,hj,q9=>exact q9
           | 8,hj,q9=>exact q9
           | 9,hj,q9=>exact q9
           | 10,hj,q9=>exact q9
           | 11,hj,q9=>exact q9
           | 12,hj,q9=>exact q9
           | 13,hj,q9=>exact q9
           | m+14,_,q9=>exact q9
        ·exact fun ρ X9 fl hg hn hl hp ho hc hf hr=>⟨rfl,Runs.val _ (op_f35_3 (show ρ (.tmp 7)=.pointer (some ⟨Q,0,none⟩) from ho 7 rfl)) ⟨hg,fun _ _ _ q=>q,rfl⟩⟩
        ·intro ρ X9 fl hg hn hl hp ho hc hf hr
         have hgx:GWo X0 X1 X2 X3 X4 (fl 0) (fl 5) (fl 11) (fl 13) X9:=hg
         have h11t:fl 11=true:=hp 11 (by kernel_rfl)
         rw [hn,h11t] at hgx
         have hX:X9=X3:=hgx
         have hA9:=X3B.out
         rw [← hX] at hA9
         refine ⟨rfl,Runs.skips (op_store32 (show ρ (.tmp 94)=.pointer (some ⟨Q,3,none⟩) from hr 12 94 rfl rfl) (show ρ (.tmp 93)=.slice a2 (t.ixs.length - 1) c2 from hr 11 93 rfl rfl) (cell_blk hA9 3) (frozen_blk hA9 3)) ⟨?_,?_,trivial⟩⟩
         ·show GWo X0 X1 X2 X3 X4 (fl 0) (fl 5) (fl 11) true (X9.setCell ⟨Q,3,none⟩ (.slice a2 (t.ixs.length - 1) c2))
          rw [hX]
          exact HX4.out.symm
         ·intro j hj u q9
          match j,hj,q9 with
           | 0,hj,q9=>exact q9
           | 1,hj,q9=>exact q9
           | 2,hj,q9=>exact q9
           | 3,hj,q9=>exact q9
           | 4,hj,q9=>exact q9
           | 5,hj,q9=>exact q9
           | 6,hj,q9=>exact q9
           | 7,hj,q9=>exact q9
           | 8,hj,q9=>exact q9
           | 9,hj,q9=>exact q9
           | 10,hj,q9=>exact q9
           | 11,hj,q9=>exact q9
           | 12,hj,q9=>exact q9
           | 13,hj,q9=>exact q9
           | m+14,_,q9=>exact q9
       case end5 =>
        intro a9 X9 fl hfl hG hs9 hd9 ho9 hr9
        rw [hfl 13 (by decide)] at hG
        have hX9:X9=X4:=hG
        obtain ⟨x',hx',hxt⟩:=act_put hs9 hd9 ho9
        change a9=putAll _ x' [82,83,84,85,86,87,88,89,90,91,92,93,94] at hx'
        simp only [putAll,Act.put,List.setIfInBounds_toArray,List.set_cons_zero,List.set_cons_succ] at hx'
        clear hG hs9 hd9 ho9 hr9 hxt hfl
        subst hx'
        rw [hX9]
        clear hX9 JQ JD OC OI OK WV HBV1
        have JQ:=JQn
        have JD:=JDn
        have OC:=OCn
        have OI:=OIn
        have OK:=OKn
        have WV:=WVn
        have HBV1:=HBn
        clear JQn JDn OCn OIn OKn WVn HBn
        generalize x' 82=z82,x' 83=z83,x' 84=z84,x' 85=z85,x' 86=z86,x' 87=z87,x' 88=z88,x' 89=z89,x' 90=z90,x' 91=z91,x' 92=z92,x' 93=z93,x' 94=z94
        have y0:X4.cell? ⟨Q,0,none⟩=some (.int .i64 t.id):=cell_blk JQ.out 0
        have y1:X4.cell? ⟨Q,1,none⟩=some (.string t.nm):=cell_blk JQ.out 1
        have y2:X4.cell? ⟨Q,2,none⟩=some (.slice ca t.cols.length cc):=cell_blk JQ.out 2
        have y3:X4.cell? ⟨Q,3,none⟩=some (.slice a2 (t.ixs.length - 1) c2):=cell_blk JQ.out 3
        have y4:X4.cell? ⟨Q,4,none⟩=some (.slice ka t.fks.length kc):=cell_blk JQ.out 4
        have e0:X4.cell? ⟨Y1,0,none⟩=some (.int .i64 kd):=cell_blk JD.out 0
        rw [HK9.out] at e0
        have e2:X4.cell? ⟨Y1,2,none⟩=some (.string d.name):=cell_blk JD.out 2
        have e3:X4.cell? ⟨Y1,3,none⟩=some (.string d.column):=cell_blk JD.out 3
        have hat:=keyAt_any (w:=X4) (t:=tbI t (t.ixs.take k ++ t.ixs.drop (k+1))) ⟨Lr.own colL_len OC.out,Lr.own ixL_len OI.out,Lr.own fkL_len OK.out⟩ d.name
        rw [HFK.out] at hat
        go_wp2_with (go_at_call 32;refine hat.mono ?_;rintro e x6 ⟨rfl,bx6⟩;refine Hid.out ?_)
        refine lh ?_
        clear y0 y1 y2 y3 y4 e0 e2 e3 hat
        have JQ':Hid (x6.heap[Q]?=some (.cells (tbA t (.slice ca t.cols.length cc) (.slice a2 (t.ixs.length - 1) c2) (.slice ka t.fks.length kc)) 35 (0,0))):=lh ((bx6.block Q (blk_lt JQ.out)).trans JQ.out)
        have JD':Hid (x6.heap[Y1]?=some (.cells #[.int .i64 kd,.string d.table,.string d.name,.string d.column,.string d.parent,.bool d.uq,.int .i64 d.ty,.int .i64 d.df.k,.int .i64 d.df.n,.string d.df.s,cv] 31 (0,0))):=lh ((bx6.block Y1 (blk_lt JD.out)).trans JD.out)
        have OC':=lh (own_below OC.out bx6)
        have OI':=lh (own_below OI.out bx6)
        have OK':=lh (own_below OK.out bx6)
        have WV':=lh (WV.out.below bx6)
        have HBV':=lh (HBV1.out.trans (bx6.mono HBV1.out.size))
        clear JQ JD OC OI OK WV HBV1
        have JQ:=JQ'
        have JD:=JD'
        have OC:=OC'
        have OI:=OI'
        have OK:=OK'
        have WV:=WV'
        have HBV1:=HBV'
        clear JQ' JD' OC' OI' OK' WV' HBV'
        clear bx6
        have y0:x6.cell? ⟨Q,0,none⟩=some (.int .i64 t.id):=cell_blk JQ.out 0
        have y1:x6.cell? ⟨Q,1,none⟩=some (.string t.nm):=cell_blk JQ.out 1
        have y2:x6.cell? ⟨Q,2,none⟩=some (.slice ca t.cols.length cc):=cell_blk JQ.out 2
        have y3:x6.cell? ⟨Q,3,none⟩=some (.slice a2 (t.ixs.length - 1) c2):=cell_blk JQ.out 3
        have y4:x6.cell? ⟨Q,4,none⟩=some (.slice ka t.fks.length kc):=cell_blk JQ.out 4
        have e0:x6.cell? ⟨Y1,0,none⟩=some (.int .i64 kd):=cell_blk JD.out 0
        rw [HK9.out] at e0
        have e2:x6.cell? ⟨Y1,2,none⟩=some (.string d.name):=cell_blk JD.out 2
        have e3:x6.cell? ⟨Y1,3,none⟩=some (.string d.column):=cell_blk JD.out 3
        obtain ⟨ad,cap,w',hrun,hnew,hbn⟩:=WV.out.push (by have:=HBV1.out.size;omega) (tbI t (t.ixs.take k ++ t.ixs.drop (k+1))) OC.out OI.out OK.out HRZ.out
        have HN2:=lh hnew
        have HB2:=lh (HBV1.out.trans hbn)
        have HR2:Hid ((R ++ [((tbI t (t.ixs.take k ++ t.ixs.drop (k+1)),.slice ca t.cols.length cc,.slice a2 (t.ixs.length - 1) c2,.slice ka t.fks.length kc):Gt)]).map Prod.fst=(s.tabs.take (i+1)).flatMap (withoutT d)):=lh (by
         rw [HRT.out,List.map_append,HR.out]
         congr 1
         show [tbI t (t.ixs.take k ++ t.ixs.drop (k+1))]=_
         unfold withoutT
         rw [if_neg (by simpa using HQN.out),if_neg (by have:=HKD.out;omega),if_neg (by have:=HKD.out;have:=HK9.out;omega),if_pos (by have:=HKD.out;have:=HK9.out;omega),(cut_at HC1.out).2])
        clear hnew hbn
        go_wp2_with (at_builtin;refine wpl_run2 _ _ rfl (by simp [Act.eval]) (by simp [Act.eval]) hrun ?_)
        go_roundw
        case rel=>exact ⟨i+1,_,hlt,by go_num,HR2.out,HN2.out,HB2.out⟩
        case measure=>simp [intOf];omega
    have k2:¬ kd=2:=fun q=>k23 (.inl q)
    have k3:¬ kd=3:=fun q=>k23 (.inr q)
    clear k23
    by_cases k6:6≤kd
    ·skip
     rcases findIdx_fidx (fun x=>decide (x.nm=d.name)) t.fks with ⟨q,q8⟩ | ⟨k,hk,q,q8,q9⟩
     ·have HC1:Hid (fidx (fun x=>decide (x.nm=d.name)) t.fks=-1):=lh q
      clear q8
      rw [HFK.out] at q
      subst q
      have hat:=ixAt_any (w:=x1) (t:=t) ⟨Lr.own colL_len OC.out,Lr.own ixL_len OI.out,Lr.own fkL_len OK.out⟩ d.name
      rw [HFI.out] at hat
      go_wp2_with (go_at_call 29;refine hat.mono ?_;rintro e x2 ⟨rfl,bx2⟩;refine Hid.out ?_)
      refine lh ?_
      clear y0 y1 y2 y3 y4 e0 e2 e3 hat
      have JQ':Hid (x2.heap[Q]?=some (.cells (tbA t (.slice ca t.cols.length cc) (.slice ia t.ixs.length ic) (.slice ka t.fks.length kc)) 35 (0,0))):=lh ((bx2.block Q (blk_lt JQ.out)).trans JQ.out)
      have JD':Hid (x2.heap[Y1]?=some (.cells #[.int .i64 kd,.string d.table,.string d.name,.string d.column,.string d.parent,.bool d.uq,.int .i64 d.ty,.int .i64 d.df.k,.int .i64 d.df.n,.string d.df.s,cv] 31 (0,0))):=lh ((bx2.block Y1 (blk_lt JD.out)).trans JD.out)
      have OC':=lh (own_below OC.out bx2)
      have OI':=lh (own_below OI.out bx2)
      have OK':=lh (own_below OK.out bx2)
      have WV':=lh (WV.out.below bx2)
      have HBV':=lh (HBV1.out.trans (bx2.mono HBV1.out.size))
      clear JQ JD OC OI OK WV HBV1
      have JQ:=JQ'
      have JD:=JD'
      have OC:=OC'
      have OI:=OI'
      have OK:=OK'
      have WV:=WV'
      have HBV1:=HBV'
      clear JQ' JD' OC' OI' OK' WV' HBV'
      clear bx2
      have y0:x2.cell? ⟨Q,0,none⟩=some (.int .i64 t.id):=cell_blk JQ.out 0
      have y1:x2.cell? ⟨Q,1,none⟩=some (.string t.nm):=cell_blk JQ.out 1
      have y2:x2.cell? ⟨Q,2,none⟩=some (.slice ca t.cols.length cc):=cell_blk JQ.out 2
      have y3:x2.cell? ⟨Q,3,none⟩=some (.slice ia t.ixs.length ic):=cell_blk JQ.out 3
      have y4:x2.cell? ⟨Q,4,none⟩=some (.slice ka t.fks.length kc):=cell_blk JQ.out 4
      have e0:x2.cell? ⟨Y1,0,none⟩=some (.int .i64 kd):=cell_blk JD.out 0
      have e2:x2.cell? ⟨Y1,2,none⟩=some (.string d.name):=cell_blk JD.out 2
      have e3:x2.cell? ⟨Y1,3,none⟩=some (.string d.column):=cell_blk JD.out 3
      have hat:=keyAt_any (w:=x2) (t:=t) ⟨Lr.own colL_len OC.out,Lr.own ixL_len OI.out,Lr.own fkL_len OK.out⟩ d.name
      rw [HFK.out] at hat
      go_wp2_with (go_at_call 32;refine hat.mono ?_;rintro e x3 ⟨rfl,bx3⟩;refine Hid.out ?_)
      refine lh ?_
      clear y0 y1 y2 y3 y4 e0 e2 e3 hat
      have JQ':Hid (x3.heap[Q]?=some (.cells (tbA t (.slice ca t.cols.length cc) (.slice ia t.ixs.length ic) (.slice ka t.fks.length kc)) 35 (0,0))):=lh ((bx3.block Q (blk_lt JQ.out)).trans JQ.out)
      have JD':Hid (x3.heap[Y1]?=some (.cells #[.int .i64 kd,.string d.table,.string d.name,.string d.column,.string d.parent,.bool d.uq,.int .i64 d.ty,.int .i64 d.df.k,.int .i64 d.df.n,.string d.df.s,cv] 31 (0,0))):=lh ((bx3.block Y1 (blk_lt JD.out)).trans JD.out)
      have OC':=lh (own_below OC.out bx3)
      have OI':=lh (own_below OI.out bx3)
      have OK':=lh (own_below OK.out bx3)
      have WV':=lh (WV.out.below bx3)
      have HBV':=lh (HBV1.out.trans (bx3.mono HBV1.out.size))
      clear JQ JD OC OI OK WV HBV1
      have JQ:=JQ'
      have JD:=JD'
      have OC:=OC'
      have OI:=OI'
      have OK:=OK'
      have WV:=WV'
      have HBV1:=HBV'
      clear JQ' JD' OC' OI' OK' WV' HBV'
      clear bx3
      have y0:x3.cell? ⟨Q,0,none⟩=some (.int .i64 t.id):=cell_blk JQ.out 0
      have y1:x3.cell? ⟨Q,1,none⟩=some (.string t.nm):=cell_blk JQ.out 1
      have y2:x3.cell? ⟨Q,2,none⟩=some (.slice ca t.cols.length cc):=cell_blk JQ.out 2
      have y3:x3.cell? ⟨Q,3,none⟩=some (.slice ia t.ixs.length ic):=cell_blk JQ.out 3
      have y4:x3.cell? ⟨Q,4,none⟩=some (.slice ka t.fks.length kc):=cell_blk JQ.out 4
      have e0:x3.cell? ⟨Y1,0,none⟩=some (.int .i64 kd):=cell_blk JD.out 0
      have e2:x3.cell? ⟨Y1,2,none⟩=some (.string d.name):=cell_blk JD.out 2
      have e3:x3.cell? ⟨Y1,3,none⟩=some (.string d.column):=cell_blk JD.out 3
      obtain ⟨ad,cap,w',hrun,hnew,hbn⟩:=WV.out.push (by have:=HBV1.out.size;omega) (t) OC.out OI.out OK.out HRZ.out
      have HN2:=lh hnew
      have HB2:=lh (HBV1.out.trans hbn)
      have HR2:Hid ((R ++ [((t,.slice ca t.cols.length cc,.slice ia t.ixs.length ic,.slice ka t.fks.length kc):Gt)]).map Prod.fst=(s.tabs.take (i+1)).flatMap (withoutT d)):=lh (by
       rw [HRT.out,List.map_append,HR.out]
       congr 1
       show [t]=_
       unfold withoutT
       rw [if_neg (by simpa using HQN.out),if_neg (by have:=HKD.out;omega),if_neg (by have:=HKD.out;omega),if_neg (by have:=HKD.out;omega),if_pos (by have:=HKD.out;omega),cut_no HC1.out])
      clear hnew hbn
      go_wp2_with (at_builtin;refine wpl_run2 _ _ rfl (by simp [Act.eval]) (by simp [Act.eval]) hrun ?_)
      go_roundw
      case rel=>exact ⟨i+1,_,hlt,by go_num,HR2.out,HN2.out,HB2.out⟩
      case measure=>simp [intOf];omega
     ·have HC1:Hid (fidx (fun x=>decide (x.nm=d.name)) t.fks=(k:Int)):=lh q
      clear q8 q9
      rw [HFK.out] at q
      subst q
      have HK:=lh hk
      have HZL:Hid (t.fks.length≤1000000):=lh HTF.out.2.2
      have kk:(0:Int)≤(k:Int):=by omega
      obtain ⟨_,_,ee,_,_,_,hcs⟩:=Lr.own fkL_len OK.out
      cases ee
      obtain ⟨cb,co,cs9,rfl,r9⟩:=hcs k hk
      clear r9 hcs hk
      have hat:=ixAt_any (w:=x1) (t:=t) ⟨Lr.own colL_len OC.out,Lr.own ixL_len OI.out,Lr.own fkL_len OK.out⟩ d.name
      rw [HFI.out] at hat
      go_wp2_with (go_at_call 29;refine hat.mono ?_;rintro e x2 ⟨rfl,bx2⟩;refine Hid.out ?_)
      refine lh ?_
      clear y0 y1 y2 y3 y4 e0 e2 e3 hat
      have JQ':Hid (x2.heap[Q]?=some (.cells (tbA t (.slice ca t.cols.length cc) (.slice ia t.ixs.length ic) (.slice (some ⟨cb,co,none⟩) t.fks.length kc)) 35 (0,0))):=lh ((bx2.block Q (blk_lt JQ.out)).trans JQ.out)
      have JD':Hid (x2.heap[Y1]?=some (.cells #[.int .i64 kd,.string d.table,.string d.name,.string d.column,.string d.parent,.bool d.uq,.int .i64 d.ty,.int .i64 d.df.k,.int .i64 d.df.n,.string d.df.s,cv] 31 (0,0))):=lh ((bx2.block Y1 (blk_lt JD.out)).trans JD.out)
      have OC':=lh (own_below OC.out bx2)
      have OI':=lh (own_below OI.out bx2)
      have OK':=lh (own_below OK.out bx2)
      have WV':=lh (WV.out.below bx2)
      have HBV':=lh (HBV1.out.trans (bx2.mono HBV1.out.size))
      clear JQ JD OC OI OK WV HBV1
      have JQ:=JQ'
      have JD:=JD'
      have OC:=OC'
      have OI:=OI'
      have OK:=OK'
      have WV:=WV'
      have HBV1:=HBV'
      clear JQ' JD' OC' OI' OK' WV' HBV'
      clear bx2
      have y0:x2.cell? ⟨Q,0,none⟩=some (.int .i64 t.id):=cell_blk JQ.out 0
      have y1:x2.cell? ⟨Q,1,none⟩=some (.string t.nm):=cell_blk JQ.out 1
      have y2:x2.cell? ⟨Q,2,none⟩=some (.slice ca t.cols.length cc):=cell_blk JQ.out 2
      have y3:x2.cell? ⟨Q,3,none⟩=some (.slice ia t.ixs.length ic):=cell_blk JQ.out 3
      have y4:x2.cell? ⟨Q,4,none⟩=some (.slice (some ⟨cb,co,none⟩) t.fks.length kc):=cell_blk JQ.out 4
      have e0:x2.cell? ⟨Y1,0,none⟩=some (.int .i64 kd):=cell_blk JD.out 0
      have e2:x2.cell? ⟨Y1,2,none⟩=some (.string d.name):=cell_blk JD.out 2
      have e3:x2.cell? ⟨Y1,3,none⟩=some (.string d.column):=cell_blk JD.out 3
      have hat:=keyAt_any (w:=x2) (t:=t) ⟨Lr.own colL_len OC.out,Lr.own ixL_len OI.out,Lr.own fkL_len OK.out⟩ d.name
      rw [HFK.out] at hat
      go_wp2_with (go_at_call 32;refine hat.mono ?_;rintro e x3 ⟨rfl,bx3⟩;refine Hid.out ?_)
      refine lh ?_
      clear y0 y1 y2 y3 y4 e0 e2 e3 hat
      have JQ':Hid (x3.heap[Q]?=some (.cells (tbA t (.slice ca t.cols.length cc) (.slice ia t.ixs.length ic) (.slice (some ⟨cb,co,none⟩) t.fks.length kc)) 35 (0,0))):=lh ((bx3.block Q (blk_lt JQ.out)).trans JQ.out)
      have JD':Hid (x3.heap[Y1]?=some (.cells #[.int .i64 kd,.string d.table,.string d.name,.string d.column,.string d.parent,.bool d.uq,.int .i64 d.ty,.int .i64 d.df.k,.int .i64 d.df.n,.string d.df.s,cv] 31 (0,0))):=lh ((bx3.block Y1 (blk_lt JD.out)).trans JD.out)
      have OC':=lh (own_below OC.out bx3)
      have OI':=lh (own_below OI.out bx3)
      have OK':=lh (own_below OK.out bx3)
      have WV':=lh (WV.out.below bx3)
      have HBV':=lh (HBV1.out.trans (bx3.mono HBV1.out.size))
      clear JQ JD OC OI OK WV HBV1
      have JQ:=JQ'
      have JD:=JD'
      have OC:=OC'
      have OI:=OI'
      have OK:=OK'
      have WV:=WV'
      have HBV1:=HBV'
      clear JQ' JD' OC' OI' OK' WV' HBV'
      clear bx3
      have y0:x3.cell? ⟨Q,0,none⟩=some (.int .i64 t.id):=cell_blk JQ.out 0
      have y1:x3.cell? ⟨Q,1,none⟩=some (.string t.nm):=cell_blk JQ.out 1
      have y2:x3.cell? ⟨Q,2,none⟩=some (.slice ca t.cols.length cc):=cell_blk JQ.out 2
      have y3:x3.cell? ⟨Q,3,none⟩=some (.slice ia t.ixs.length ic):=cell_blk JQ.out 3
      have y4:x3.cell? ⟨Q,4,none⟩=some (.slice (some ⟨cb,co,none⟩) t.fks.length kc):=cell_blk JQ.out 4
      have e0:x3.cell? ⟨Y1,0,none⟩=some (.int .i64 kd):=cell_blk JD.out 0
      have e2:x3.cell? ⟨Y1,2,none⟩=some (.string d.name):=cell_blk JD.out 2
      have e3:x3.cell? ⟨Y1,3,none⟩=some (.string d.column):=cell_blk JD.out 3
      go_upto_region 18 with fail
      clear y0 y1 y2 y3 y4 e0 e2 e3
      obtain ⟨X0,hX0⟩:∃ X0,X0=x3.drew:=⟨_,rfl⟩
      have bX0:Below x3.heap.size x3 X0:=by rw [hX0];exact ⟨rfl,rfl,rfl,Nat.le_refl _,fun _ _=>rfl⟩
      have hl0:Lr fkE 5 X0 t.fks (.slice (some ⟨cb,co,none⟩) t.fks.length kc):=Lr.own fkL_len (own_below OK.out bX0)
      obtain ⟨sa,sc,hs1,hs2,a1,c1,X2,a2,c2,X3,r1,r2,o3,b1,b2,b3⟩:=cutK hl0 HK.out HZL.out
      obtain ⟨X1,hX1⟩:∃ X1,X1=X0.alloc (.cells #[] 74):=⟨_,rfl⟩
      rw [← hX1] at r1 b1
      have jx0:=(bX0.block Q (blk_lt JQ.out)).trans JQ.out
      have jx1:=(b1.block Q (blk_lt jx0)).trans jx0
      have jx2:=(b2.block Q (blk_lt jx0)).trans jx0
      have jx3:=(b3.block Q (blk_lt jx0)).trans jx0
      obtain ⟨X4,hX4⟩:∃ X4,X4=X3.setCell ⟨Q,4,none⟩ (.slice a2 (t.fks.length - 1) c2):=⟨_,rfl⟩
      have jx4:X4.heap[Q]?=some (.cells (tbA t (.slice ca t.cols.length cc) (.slice ia t.ixs.length ic) (.slice a2 (t.fks.length - 1) c2)) 35 (0,0)):=by rw [hX4];exact set_blk jx3 _
      have b03:=bgo bX0 b3
      have fX4:Fr X3 X4 (fun k9=>k9=Q):=by rw [hX4];exact Fr.set (S:=fun k9=>k9=Q) (a:=⟨Q,4,none⟩) (Fr.refl _ _) (.inl rfl) _
      have keepQ:∀ {e:TypeId} {c9 n9 B9:Nat} {v:Value} {xs:List Value},e ≠ 35→X3.ownsRow B9 e c9 v n9 xs→X4.ownsRow B9 e c9 v n9 xs:=fun he q9=>keep_rowB q9 fX4 (fun k9 hk9 cs9 tg=>by
       rw [hk9,jx3] at tg
       simp only [Option.some.injEq,Obj.cells.injEq] at tg
       exact he tg.2.1.symm)
      have hszX:x3.heap.size≤X3.heap.size:=b03.size
      have hW0:W.heap.size≤X0.heap.size:=by have:=HBV1.out.size;have:=bX0.size;have:=HSV.out;omega
      have OCn:=lh (keepQ (by decide) (own_below OC.out b03))
      have OIn:=lh (keepQ (by decide) (own_below OI.out b03))
      have OKn:=lh (keepQ (by decide) (own_mono o3 hW0))
      have h3W:=WV.out.below b03
      have WVn:Hid (WL V0.heap.size W.heap.size X4 R (.slice la R.length lc)):=lh ⟨row_keep h3W.row fX4 (fun k9 hk9 q9=>HQL.out k9 hk9 q9),fun g9 hg9=>keepQ (by decide) (h3W.c g9 hg9),fun g9 hg9=>keepQ (by decide) (h3W.i g9 hg9),fun g9 hg9=>keepQ (by decide) (h3W.k g9 hg9)⟩
      have hv3:=HBV1.out.trans (b03.mono HBV1.out.size)
      have HBn:Hid (Below V0.heap.size V0 X4):=lh (hv3.trans (fX4.toBelow (fun k9 hk9 q9=>by have:=HQV.out;have:=HB.out.size;omega) hv3.size))
      have JDn:Hid (X4.heap[Y1]?=some (.cells #[.int .i64 kd,.string d.table,.string d.name,.string d.column,.string d.parent,.bool d.uq,.int .i64 d.ty,.int .i64 d.df.k,.int .i64 d.df.n,.string d.df.s,cv] 31 (0,0))):=lh (by
       rw [fX4.block Y1 (by have:=blk_lt JD.out;omega) (fun q9=>by have:=blk_lt JV1.out;have:=HB.out.size;have:=HQV.out;omega)]
       exact (b03.block Y1 (blk_lt JD.out)).trans JD.out)
      have JQn:=lh jx4
      have CQ:Hid (X0.cell? ⟨Q,4,none⟩=some (.slice (some ⟨cb,co,none⟩) t.fks.length kc)∧X1.cell? ⟨Q,4,none⟩=some (.slice (some ⟨cb,co,none⟩) t.fks.length kc)∧X2.cell? ⟨Q,4,none⟩=some (.slice (some ⟨cb,co,none⟩) t.fks.length kc)∧X3.cell? ⟨Q,4,none⟩=some (.slice (some ⟨cb,co,none⟩) t.fks.length kc)):=lh ⟨cell_blk jx0 4,cell_blk jx1 4,cell_blk jx2 4,cell_blk jx3 4⟩
      have X3B:=lh jx3
      have HX0:=lh hX0
      have HX1:=lh hX1
      have HX4:=lh hX4
      have RUN1:=lh r1
      have RUN2:=lh r2
      have SL1:=lh hs1
      have SL2:=lh hs2
      have HKM:Hid ((k:Int)+1≤9223372036854775807):=lh (by have:=HK.out;have:=HZL.out;omega)
      clear hX0 hX1 hX4 bX0 hl0 r1 r2 o3 b1 b2 b3 jx0 jx1 jx2 jx3 jx4 b03 fX4 keepQ hszX hW0 h3W hv3 hs1 hs2
      refine wp_region_fs (fun fl X9=>GWo X0 X1 X2 X3 X4 (fl 0) (fl 5) (fl 11) (fl 13) X9) [
       fun v9 _=>v9=.slice (some ⟨X0.heap.size,0,none⟩) 0 0,
       fun v9 _=>v9=.pointer (some ⟨Q,4,none⟩),
       fun v9 _=>v9=.slice (some ⟨cb,co,none⟩) t.fks.length kc,
       fun v9 _=>v9=.int .i64 (k:Int),
       fun v9 _=>v9=.slice (some ⟨cb,co,none⟩) k kc,
       fun v9 _=>v9=.slice a1 k c1,
       fun v9 _=>v9=.pointer (some ⟨Q,4,none⟩),
       fun v9 _=>v9=.slice (some ⟨cb,co,none⟩) t.fks.length kc,
       fun v9 _=>v9=.int .i64 (k:Int),
       fun v9 _=>v9=.int .i64 ((k:Int)+1),
       fun v9 _=>v9=.slice sa (t.fks.length - (k+1)) sc,
       fun v9 _=>v9=.slice a2 (t.fks.length - 1) c2,
       fun v9 _=>v9=.pointer (some ⟨Q,4,none⟩),
       fun _ _=>True]
       (by kernel_rfl) (by kernel_rfl) (by kernel_rfl) ?g0e ?ose ?end5
      case g0e=>exact HX0.out.symm
      case ose =>
       refine ⟨?_,?_,?_,?_,?_,?_,?_,?_,?_,?_,?_,?_,?_,?_,trivial⟩
       ·intro ρ X9 fl hg hn hl hp ho hc hf hr
        have hgx:GWo X0 X1 X2 X3 X4 (fl 0) (fl 5) (fl 11) (fl 13) X9:=hg
        have h5f:fl 5=false:=(show fl 5=false from by cases q9:fl 5 with | false=>rfl | true=>exact absurd (hl 5 _ 0 rfl (by kernel_rfl) q9) (by rw [hn];decide))
        have h11f:fl 11=false:=(show fl 11=false from by cases q9:fl 11 with | false=>rfl | true=>exact absurd (hl 5 _ 0 rfl (by kernel_rfl) (hl 11 _ 5 rfl (by kernel_rfl) q9)) (by rw [hn];decide))
        have h13f:fl 13=false:=(show fl 13=false from by cases q9:fl 13 with | false=>rfl | true=>exact absurd (hl 5 _ 0 rfl (by kernel_rfl) (hl 11 _ 5 rfl (by kernel_rfl) (hl 13 _ 11 rfl (by kernel_rfl) q9))) (by rw [hn];decide))
        rw [hn,h5f,h11f,h13f] at hgx
        have hX:X9=X0:=hgx
        refine ⟨rfl,Runs.val _ op_none33 ⟨?_,?_,(show Value.slice (some ⟨X9.heap.size,0,none⟩) 0 0=Value.slice (some ⟨X0.heap.size,0,none⟩) 0 0 from by rw [hX])⟩⟩
        ·show GWo X0 X1 X2 X3 X4 true (fl 5) (fl 11) (fl 13) (X9.alloc _)
         rw [h5f,h11f,h13f,hX]
         exact HX1.out.symm
        ·intro j hj u q9
         match j,hj,q9 with
          | 0,hj,q9=>exact q9
          | 1,hj,q9=>exact q9
          | 2,hj,q9=>exact q9
          | 3,hj,q9=>exact q9
          | 4,hj,q9=>exact q9
          | 5,hj,q9=>exact q9
          | 6,hj,q9=>exact q9
          | 7,hj,q9=>exact q9
          | 8,hj,q9=>exact q9
          | 9,hj,q9=>exact q9
          | 10,hj,q9=>exact q9
          | 11,hj,q9=>exact q9
          | 12,hj,q9=>exact q9
          | 13,hj,q9=>exact q9
          | m+14,_,q9=>exact q9
       ·exact fun ρ X9 fl hg hn hl hp ho hc hf hr=>⟨rfl,Runs.val _ (op_f35_4 (show ρ (.tmp 7)=.pointer (some ⟨Q,0,none⟩) from ho 7 rfl)) ⟨hg,fun _ _ _ q=>q,rfl⟩⟩
       ·intro ρ X9 fl hg hn hl hp ho hc hf hr
        have hgx:GWo X0 X1 X2 X3 X4 (fl 0) (fl 5) (fl 11) (fl 13) X9:=hg
        have h13f:fl 13=false:=(show fl 13=false from by cases q9:fl 13 with | false=>rfl | true=>exact absurd (hl 4 _ 2 rfl (by kernel_rfl) (hl 5 _ 4 rfl (by kernel_rfl) (hl 11 _ 5 rfl (by kernel_rfl) (hl 13 _ 11 rfl (by kernel_rfl) q9)))) (by rw [hn];decide))
        have hcell:X9.cell? ⟨Q,4,none⟩=some (.slice (some ⟨cb,co,none⟩) t.fks.length kc):=by
         rw [h13f] at hgx
         cases q0:fl 0 <;> cases q5:fl 5 <;> cases q11:fl 11 <;> rw [q0,q5,q11] at hgx
         all_goals first
          | (rw [show X9=X0 from hgx];exact CQ.out.1)
          | (rw [show X9=X1 from hgx];exact CQ.out.2.1)
          | (rw [show X9=X2 from hgx];exact CQ.out.2.2.1)
          | (rw [show X9=X3 from hgx];exact CQ.out.2.2.2)
        exact ⟨rfl,Runs.val _ (op_load33 (show ρ (.tmp 107)=.pointer (some ⟨Q,4,none⟩) from hr 1 107 rfl rfl) hcell) ⟨hg,fun _ _ _ q=>q,rfl⟩⟩
       ·exact fun ρ X9 fl hg hn hl hp ho hc hf hr=>⟨rfl,Runs.val _ (op_move (show ρ (.tmp 10)=.int .i64 (k:Int) from ho 10 rfl)) ⟨hg,fun _ _ _ q=>q,rfl⟩⟩
       ·exact fun ρ X9 fl hg hn hl hp ho hc hf hr=>⟨rfl,Runs.val _ (op_slice33hi (show ρ (.tmp 108)=.slice (some ⟨cb,co,none⟩) t.fks.length kc from hr 2 108 rfl rfl) (show ρ (.tmp 109)=.int .i64 (k:Int) from hr 3 109 rfl rfl) SL1.out) ⟨hg,fun _ _ _ q=>q,rfl⟩⟩
       ·intro ρ X9 fl hg hn hl hp ho hc hf hr
        have hgx:GWo X0 X1 X2 X3 X4 (fl 0) (fl 5) (fl 11) (fl 13) X9:=hg
        have h0t:fl 0=true:=hp 0 (by kernel_rfl)
        have h11f:fl 11=false:=(show fl 11=false from by cases q9:fl 11 with | false=>rfl | true=>exact absurd (hl 11 _ 5 rfl (by kernel_rfl) q9) (by rw [hn];decide))
        have h13f:fl 13=false:=(show fl 13=false from by cases q9:fl 13 with | false=>rfl | true=>exact absurd (hl 11 _ 5 rfl (by kernel_rfl) (hl 13 _ 11 rfl (by kernel_rfl) q9)) (by rw [hn];decide))
        rw [hn,h0t,h11f,h13f] at hgx
        have hX:X9=X1:=hgx
        have hrun9:=RUN1.out
        rw [← hX] at hrun9
        refine ⟨rfl,Runs.val _ (op_append33 (show ρ (.tmp 106)=.slice (some ⟨X0.heap.size,0,none⟩) 0 0 from hr 0 106 rfl rfl) (show ρ (.tmp 110)=.slice (some ⟨cb,co,none⟩) k kc from hr 4 110 rfl rfl) hrun9) ⟨?_,?_,rfl⟩⟩
        ·show GWo X0 X1 X2 X3 X4 (fl 0) true (fl 11) (fl 13) X2
         rw [h11f,h13f]
         exact (rfl:X2=X2)
        ·intro j hj u q9
         match j,hj,q9 with
          | 0,hj,q9=>exact q9
          | 1,hj,q9=>exact q9
          | 2,hj,q9=>exact q9
          | 3,hj,q9=>exact q9
          | 4,hj,q9=>exact q9
          | 5,hj,q9=>exact q9
          | 6,hj,q9=>exact q9
          | 7,hj,q9=>exact q9
          | 8,hj,q9=>exact q9
          | 9,hj,q9=>exact q9
          | 10,hj,q9=>exact q9
          | 11,hj,q9=>exact q9
          | 12,hj,q9=>exact q9
          | 13,hj,q9=>exact q9
          | m+14,_,q9=>exact q9
       ·exact fun ρ X9 fl hg hn hl hp ho hc hf hr=>⟨rfl,Runs.val _ (op_f35_4 (show ρ (.tmp 7)=.pointer (some ⟨Q,0,none⟩) from ho 7 rfl)) ⟨hg,fun _ _ _ q=>q,rfl⟩⟩
       ·intro ρ X9 fl hg hn hl hp ho hc hf hr
        have hgx:GWo X0 X1 X2 X3 X4 (fl 0) (fl 5) (fl 11) (fl 13) X9:=hg
        have h13f:fl 13=false:=(show fl 13=false from by cases q9:fl 13 with | false=>rfl | true=>exact absurd (hl 10 _ 7 rfl (by kernel_rfl) (hl 11 _ 10 rfl (by kernel_rfl) (hl 13 _ 11 rfl (by kernel_rfl) q9))) (by rw [hn];decide))
        have hcell:X9.cell? ⟨Q,4,none⟩=some (.slice (some ⟨cb,co,none⟩) t.fks.length kc):=by
         rw [h13f] at hgx
         cases q0:fl 0 <;> cases q5:fl 5 <;> cases q11:fl 11 <;> rw [q0,q5,q11] at hgx
         all_goals first
          | (rw [show X9=X0 from hgx];exact CQ.out.1)
          | (rw [show X9=X1 from hgx];exact CQ.out.2.1)
          | (rw [show X9=X2 from hgx];exact CQ.out.2.2.1)
          | (rw [show X9=X3 from hgx];exact CQ.out.2.2.2)
        exact ⟨rfl,Runs.val _ (op_load33 (show ρ (.tmp 112)=.pointer (some ⟨Q,4,none⟩) from hr 6 112 rfl rfl) hcell) ⟨hg,fun _ _ _ q=>q,rfl⟩⟩
       ·exact fun ρ X9 fl hg hn hl hp ho hc hf hr=>⟨rfl,Runs.val _ (op_move (show ρ (.tmp 10)=.int .i64 (k:Int) from ho 10 rfl)) ⟨hg,fun _ _ _ q=>q,rfl⟩⟩
       ·exact fun ρ X9 fl hg hn hl hp ho hc hf hr=>⟨rfl,Runs.val _ (op_add3m (show ρ (.tmp 114)=.int .i64 (k:Int) from hr 8 114 rfl rfl) (hc _) rfl (by omega) HKM.out) ⟨hg,fun _ _ _ q=>q,rfl⟩⟩
       ·exact fun ρ X9 fl hg hn hl hp ho hc hf hr=>⟨rfl,Runs.val _ (op_slice33lo (show ρ (.tmp 113)=.slice (some ⟨cb,co,none⟩) t.fks.length kc from hr 7 113 rfl rfl) (show ρ (.tmp 115)=.int .i64 ((k:Int)+1) from hr 9 115 rfl rfl) SL2.out) ⟨hg,fun _ _ _ q=>q,rfl⟩⟩
       ·intro ρ X9 fl hg hn hl hp ho hc hf hr
        have hgx:GWo X0 X1 X2 X3 X4 (fl 0) (fl 5) (fl 11) (fl 13) X9:=hg
        have h5t:fl 5=true:=hp 5 (by kernel_rfl)
        have h13f:fl 13=false:=(show fl 13=false from by cases q9:fl 13 with | false=>rfl | true=>exact absurd (hl 13 _ 11 rfl (by kernel_rfl) q9) (by rw [hn];decide))
        rw [hn,h5t,h13f] at hgx
        have hX:X9=X2:=hgx
        have hrun9:=RUN2.out
        rw [← hX] at hrun9
        refine ⟨rfl,Runs.val _ (op_append33 (show ρ (.tmp 111)=.slice a1 k c1 from hr 5 111 rfl rfl) (show ρ (.tmp 116)=.slice sa (t.fks.length - (k+1)) sc from hr 10 116 rfl rfl) hrun9) ⟨?_,?_,rfl⟩⟩
        ·show GWo X0 X1 X2 X3 X4 (fl 0) (fl 5) true (fl 13) X3
         rw [h13f]
         exact (rfl:X3=X3)
        ·intro j hj u q9
         match j,hj,q9 with
          | 0,hj,q9=>exact q9
          | 1,hj,q9=>exact q9
          | 2,hj,q9=>exact q9
          | 3,hj,q9=>exact q9
          | 4,hj,q9=>exact q9
          | 5,hj,q9=>exact q9
          | 6,hj,q9=>exact q9
          | 7,hj,q9=>exact q9
          | 8,hj,q9=>exact q9
          | 9,hj,q9=>exact q9
          | 10,hj,q9=>exact q9
          | 11,hj,q9=>exact q9
          | 12,hj,q9=>exact q9
          | 13,hj,q9=>exact q9
          | m+14,_,q9=>exact q9
       ·exact fun ρ X9 fl hg hn hl hp ho hc hf hr=>⟨rfl,Runs.val _ (op_f35_4 (show ρ (.tmp 7)=.pointer (some ⟨Q,0,none⟩) from ho 7 rfl)) ⟨hg,fun _ _ _ q=>q,rfl⟩⟩
       ·intro ρ X9 fl hg hn hl hp ho hc hf hr
        have hgx:GWo X0 X1 X2 X3 X4 (fl 0) (fl 5) (fl 11) (fl 13) X9:=hg
        have h11t:fl 11=true:=hp 11 (by kernel_rfl)
        rw [hn,h11t] at hgx
        have hX:X9=X3:=hgx
        have hA9:=X3B.out
        rw [← hX] at hA9
        refine ⟨rfl,Runs.skips (op_store33 (show ρ (.tmp 118)=.pointer (some ⟨Q,4,none⟩) from hr 12 118 rfl rfl) (show ρ (.tmp 117)=.slice a2 (t.fks.length - 1) c2 from hr 11 117 rfl rfl) (cell_blk hA9 4) (frozen_blk hA9 4)) ⟨?_,?_,trivial⟩⟩
        ·show GWo X0 X1 X2 X3 X4 (fl 0) (fl 5) (fl 11) true (X9.setCell ⟨Q,4,none⟩ (.slice a2 (t.fks.length - 1) c2))
         rw [hX]
         exact HX4.out.symm
        ·intro j hj u q9
         match j,hj,q9 with
          | 0,hj,q9=>exact q9
          | 1,hj,q9=>exact q9
          | 2,hj,q9=>exact q9
          | 3,hj,q9=>exact q9
          | 4,hj,q9=>exact q9
          | 5,hj,q9=>exact q9
          | 6,hj,q9=>exact q9
          | 7,hj,q9=>exact q9
          | 8,hj,q9=>exact q9
          | 9,hj,q9=>exact q9
          | 10,hj,q9=>exact q9
          | 11,hj,q9=>exact q9
          | 12,hj,q9=>exact q9
          | 13,hj,q9=>exact q9
          | m+14,_,q9=>exact q9
      case end5 =>
       intro a9 X9 fl hfl hG hs9 hd9 ho9 hr9
       rw [hfl 13 (by decide)] at hG
       have hX9:X9=X4:=hG
       obtain ⟨x',hx',hxt⟩:=act_put hs9 hd9 ho9
       change a9=putAll _ x' [106,107,108,109,110,111,112,113,114,115,116,117,118] at hx'
       simp only [putAll,Act.put,List.setIfInBounds_toArray,List.set_cons_zero,List.set_cons_succ] at hx'
       clear hG hs9 hd9 ho9 hr9 hxt hfl
       subst hx'
       rw [hX9]
       clear hX9 JQ JD OC OI OK WV HBV1
       have JQ:=JQn
       have JD:=JDn
       have OC:=OCn
       have OI:=OIn
       have OK:=OKn
       have WV:=WVn
       have HBV1:=HBn
       clear JQn JDn OCn OIn OKn WVn HBn
       generalize x' 106=z106,x' 107=z107,x' 108=z108,x' 109=z109,x' 110=z110,x' 111=z111,x' 112=z112,x' 113=z113,x' 114=z114,x' 115=z115,x' 116=z116,x' 117=z117,x' 118=z118
       have y0:X4.cell? ⟨Q,0,none⟩=some (.int .i64 t.id):=cell_blk JQ.out 0
       have y1:X4.cell? ⟨Q,1,none⟩=some (.string t.nm):=cell_blk JQ.out 1
       have y2:X4.cell? ⟨Q,2,none⟩=some (.slice ca t.cols.length cc):=cell_blk JQ.out 2
       have y3:X4.cell? ⟨Q,3,none⟩=some (.slice ia t.ixs.length ic):=cell_blk JQ.out 3
       have y4:X4.cell? ⟨Q,4,none⟩=some (.slice a2 (t.fks.length - 1) c2):=cell_blk JQ.out 4
       have e0:X4.cell? ⟨Y1,0,none⟩=some (.int .i64 kd):=cell_blk JD.out 0
       have e2:X4.cell? ⟨Y1,2,none⟩=some (.string d.name):=cell_blk JD.out 2
       have e3:X4.cell? ⟨Y1,3,none⟩=some (.string d.column):=cell_blk JD.out 3
       obtain ⟨ad,cap,w',hrun,hnew,hbn⟩:=WV.out.push (by have:=HBV1.out.size;omega) (tbK t (t.fks.take k ++ t.fks.drop (k+1))) OC.out OI.out OK.out HRZ.out
       have HN2:=lh hnew
       have HB2:=lh (HBV1.out.trans hbn)
       have HR2:Hid ((R ++ [((tbK t (t.fks.take k ++ t.fks.drop (k+1)),.slice ca t.cols.length cc,.slice ia t.ixs.length ic,.slice a2 (t.fks.length - 1) c2):Gt)]).map Prod.fst=(s.tabs.take (i+1)).flatMap (withoutT d)):=lh (by
        rw [HRT.out,List.map_append,HR.out]
        congr 1
        show [tbK t (t.fks.take k ++ t.fks.drop (k+1))]=_
        unfold withoutT
        rw [if_neg (by simpa using HQN.out),if_neg (by have:=HKD.out;omega),if_neg (by have:=HKD.out;omega),if_neg (by have:=HKD.out;omega),if_pos (by have:=HKD.out;omega),(cut_at HC1.out).2])
       clear hnew hbn
       go_wp2_with (at_builtin;refine wpl_run2 _ _ rfl (by simp [Act.eval]) (by simp [Act.eval]) hrun ?_)
       go_roundw
       case rel=>exact ⟨i+1,_,hlt,by go_num,HR2.out,HN2.out,HB2.out⟩
       case measure=>simp [intOf];omega
    have k6:¬ (6:Int)≤kd:=k6
    have hat:=ixAt_any (w:=x1) (t:=t) ⟨Lr.own colL_len OC.out,Lr.own ixL_len OI.out,Lr.own fkL_len OK.out⟩ d.name
    rw [HFI.out] at hat
    go_wp2_with (go_at_call 29;refine hat.mono ?_;rintro e x2 ⟨rfl,bx2⟩;refine Hid.out ?_)
    refine lh ?_
    clear y0 y1 y2 y3 y4 e0 e2 e3 hat
    have JQ':Hid (x2.heap[Q]?=some (.cells (tbA t (.slice ca t.cols.length cc) (.slice ia t.ixs.length ic) (.slice ka t.fks.length kc)) 35 (0,0))):=lh ((bx2.block Q (blk_lt JQ.out)).trans JQ.out)
    have JD':Hid (x2.heap[Y1]?=some (.cells #[.int .i64 kd,.string d.table,.string d.name,.string d.column,.string d.parent,.bool d.uq,.int .i64 d.ty,.int .i64 d.df.k,.int .i64 d.df.n,.string d.df.s,cv] 31 (0,0))):=lh ((bx2.block Y1 (blk_lt JD.out)).trans JD.out)
    have OC':=lh (own_below OC.out bx2)
    have OI':=lh (own_below OI.out bx2)
    have OK':=lh (own_below OK.out bx2)
    have WV':=lh (WV.out.below bx2)
    have HBV':=lh (HBV1.out.trans (bx2.mono HBV1.out.size))
    clear JQ JD OC OI OK WV HBV1
    have JQ:=JQ'
    have JD:=JD'
    have OC:=OC'
    have OI:=OI'
    have OK:=OK'
    have WV:=WV'
    have HBV1:=HBV'
    clear JQ' JD' OC' OI' OK' WV' HBV'
    clear bx2
    have y0:x2.cell? ⟨Q,0,none⟩=some (.int .i64 t.id):=cell_blk JQ.out 0
    have y1:x2.cell? ⟨Q,1,none⟩=some (.string t.nm):=cell_blk JQ.out 1
    have y2:x2.cell? ⟨Q,2,none⟩=some (.slice ca t.cols.length cc):=cell_blk JQ.out 2
    have y3:x2.cell? ⟨Q,3,none⟩=some (.slice ia t.ixs.length ic):=cell_blk JQ.out 3
    have y4:x2.cell? ⟨Q,4,none⟩=some (.slice ka t.fks.length kc):=cell_blk JQ.out 4
    have e0:x2.cell? ⟨Y1,0,none⟩=some (.int .i64 kd):=cell_blk JD.out 0
    have e2:x2.cell? ⟨Y1,2,none⟩=some (.string d.name):=cell_blk JD.out 2
    have e3:x2.cell? ⟨Y1,3,none⟩=some (.string d.column):=cell_blk JD.out 3
    have hat:=keyAt_any (w:=x2) (t:=t) ⟨Lr.own colL_len OC.out,Lr.own ixL_len OI.out,Lr.own fkL_len OK.out⟩ d.name
    rw [HFK.out] at hat
    go_wp2_with (go_at_call 32;refine hat.mono ?_;rintro e x3 ⟨rfl,bx3⟩;refine Hid.out ?_)
    refine lh ?_
    clear y0 y1 y2 y3 y4 e0 e2 e3 hat
    have JQ':Hid (x3.heap[Q]?=some (.cells (tbA t (.slice ca t.cols.length cc) (.slice ia t.ixs.length ic) (.slice ka t.fks.length kc)) 35 (0,0))):=lh ((bx3.block Q (blk_lt JQ.out)).trans JQ.out)
    have JD':Hid (x3.heap[Y1]?=some (.cells #[.int .i64 kd,.string d.table,.string d.name,.string d.column,.string d.parent,.bool d.uq,.int .i64 d.ty,.int .i64 d.df.k,.int .i64 d.df.n,.string d.df.s,cv] 31 (0,0))):=lh ((bx3.block Y1 (blk_lt JD.out)).trans JD.out)
    have OC':=lh (own_below OC.out bx3)
    have OI':=lh (own_below OI.out bx3)
    have OK':=lh (own_below OK.out bx3)
    have WV':=lh (WV.out.below bx3)
    have HBV':=lh (HBV1.out.trans (bx3.mono HBV1.out.size))
    clear JQ JD OC OI OK WV HBV1
    have JQ:=JQ'
    have JD:=JD'
    have OC:=OC'
    have OI:=OI'
    have OK:=OK'
    have WV:=WV'
    have HBV1:=HBV'
    clear JQ' JD' OC' OI' OK' WV' HBV'
    clear bx3
    have y0:x3.cell? ⟨Q,0,none⟩=some (.int .i64 t.id):=cell_blk JQ.out 0
    have y1:x3.cell? ⟨Q,1,none⟩=some (.string t.nm):=cell_blk JQ.out 1
    have y2:x3.cell? ⟨Q,2,none⟩=some (.slice ca t.cols.length cc):=cell_blk JQ.out 2
    have y3:x3.cell? ⟨Q,3,none⟩=some (.slice ia t.ixs.length ic):=cell_blk JQ.out 3
    have y4:x3.cell? ⟨Q,4,none⟩=some (.slice ka t.fks.length kc):=cell_blk JQ.out 4
    have e0:x3.cell? ⟨Y1,0,none⟩=some (.int .i64 kd):=cell_blk JD.out 0
    have e2:x3.cell? ⟨Y1,2,none⟩=some (.string d.name):=cell_blk JD.out 2
    have e3:x3.cell? ⟨Y1,3,none⟩=some (.string d.column):=cell_blk JD.out 3
    obtain ⟨ad,cap,w',hrun,hnew,hbn⟩:=WV.out.push (by have:=HBV1.out.size;omega) (t) OC.out OI.out OK.out HRZ.out
    have HN2:=lh hnew
    have HB2:=lh (HBV1.out.trans hbn)
    have HR2:Hid ((R ++ [((t,.slice ca t.cols.length cc,.slice ia t.ixs.length ic,.slice ka t.fks.length kc):Gt)]).map Prod.fst=(s.tabs.take (i+1)).flatMap (withoutT d)):=lh (by
     rw [HRT.out,List.map_append,HR.out]
     congr 1
     show [t]=_
     unfold withoutT
     rw [if_neg (by simpa using HQN.out),if_neg (by have:=HKD.out;omega),if_neg (by have:=HKD.out;omega),if_neg (by have:=HKD.out;omega),if_neg (by have:=HKD.out;omega)])
    clear hnew hbn
    go_wp2_with (at_builtin;refine wpl_run2 _ _ rfl (by simp [Act.eval]) (by simp [Act.eval]) hrun ?_)
    go_roundw
    case rel=>exact ⟨i+1,_,hlt,by go_num,HR2.out,HN2.out,HB2.out⟩
    case measure=>simp [intOf];omega
   ·rw [decide_eq_false q] at hs
    have HQN:=lh q
    clear q y1
    have y0:V1.cell? ⟨Q,0,none⟩=some (.int .i64 t.id):=cell_blk JQ.out 0
    have y1:V1.cell? ⟨Q,1,none⟩=some (.string t.nm):=cell_blk JQ.out 1
    have y2:V1.cell? ⟨Q,2,none⟩=some (.slice ca t.cols.length cc):=cell_blk JQ.out 2
    have y3:V1.cell? ⟨Q,3,none⟩=some (.slice ia t.ixs.length ic):=cell_blk JQ.out 3
    have y4:V1.cell? ⟨Q,4,none⟩=some (.slice ka t.fks.length kc):=cell_blk JQ.out 4
    have e0:V1.cell? ⟨Y1,0,none⟩=some (.int .i64 kd):=cell_blk JD.out 0
    have e2:V1.cell? ⟨Y1,2,none⟩=some (.string d.name):=cell_blk JD.out 2
    have e3:V1.cell? ⟨Y1,3,none⟩=some (.string d.column):=cell_blk JD.out 3
    obtain ⟨ad,cap,w',hrun,hnew,hbn⟩:=WV.out.push (by have:=HBV1.out.size;omega) (t) OC.out OI.out OK.out HRZ.out
    have HN2:=lh hnew
    have HB2:=lh (HBV1.out.trans hbn)
    have HR2:Hid ((R ++ [((t,.slice ca t.cols.length cc,.slice ia t.ixs.length ic,.slice ka t.fks.length kc):Gt)]).map Prod.fst=(s.tabs.take (i+1)).flatMap (withoutT d)):=lh (by
     rw [HRT.out,List.map_append,HR.out]
     congr 1
     show [t]=_
     unfold withoutT
     rw [if_pos HQN.out])
    clear hnew hbn
    go_wp2_with (at_builtin;refine wpl_run2 _ _ rfl (by simp [Act.eval]) (by simp [Act.eval]) hrun ?_)
    go_roundw
    case rel=>exact ⟨i+1,_,hlt,by go_num,HR2.out,HN2.out,HB2.out⟩
    case measure=>simp [intOf];omega
  ·skip
   have k1:¬ (i:Int) < n:=by omega
   have hin:i=n:=by omega
   have HGE:Hid (R.map Prod.fst=(withoutP s d).tabs):=lh (by
    rw [HR.out,hin,List.take_of_length_le (by rw [← HG.out,List.length_map,HN.out];exact Nat.le_refl _)]
    rfl)
   have g0:V.cell? ⟨Y0,2,none⟩=some (.slice ta1 n tc1):=cell_blk jV0 2
   have f0:V.frozen? ⟨Y0,2,none⟩=false:=frozen_blk jV0 2
   obtain ⟨X1,hX1⟩:∃ X1,X1=V.setCell ⟨Y0,2,none⟩ (.slice la R.length lc):=⟨_,rfl⟩
   have x1:X1.heap[Y0]?=some (.cells #[.int .i64 s.ver,.int .i64 s.last,.slice la R.length lc] 24 (0,0)):=by rw [hX1];exact set_blk jV0 _
   obtain ⟨X2,hX2⟩:∃ X2,X2=X1.setCell ⟨Y0,0,none⟩ (.int .i64 0):=⟨_,rfl⟩
   have x2:X2.heap[Y0]?=some (.cells #[.int .i64 0,.int .i64 s.last,.slice la R.length lc] 24 (0,0)):=by rw [hX2];exact set_blk x1 _
   obtain ⟨X3,hX3⟩:∃ X3,X3=X2.setCell ⟨Y0,1,none⟩ (.int .i64 0):=⟨_,rfl⟩
   have x3:X3.heap[Y0]?=some (.cells #[.int .i64 0,.int .i64 0,.slice la R.length lc] 24 (0,0)):=by rw [hX3];exact set_blk x2 _
   have fr3:Fr V X3 (fun k9=>k9=Y0):=by
    have h1:Fr V X1 (fun k9=>k9=Y0):=by rw [hX1];exact Fr.set (S:=fun k9=>k9=Y0) (a:=⟨Y0,2,none⟩) (Fr.refl _ _) (.inl rfl) _
    have h2:Fr V X2 (fun k9=>k9=Y0):=by rw [hX2];exact Fr.set (S:=fun k9=>k9=Y0) (a:=⟨Y0,0,none⟩) h1 (.inl rfl) _
    rw [hX3]
    exact Fr.set (S:=fun k9=>k9=Y0) (a:=⟨Y0,1,none⟩) h2 (.inl rfl) _
   have x3':X3.heap[Y2]?=some (.cells #[.int .i64 0,.int .i64 0,.slice none 0 0] 24 (0,0)):=by rw [fr3.block Y2 (blk_lt jV2) (fun q=>GE.out.2.2.1 q.symm)];exact jV2
   have g1:X1.cell? ⟨Y0,0,none⟩=some (.int .i64 s.ver):=cell_blk x1 0
   have f1:X1.frozen? ⟨Y0,0,none⟩=false:=frozen_blk x1 0
   have g2:X2.cell? ⟨Y0,1,none⟩=some (.int .i64 s.last):=cell_blk x2 1
   have f2:X2.frozen? ⟨Y0,1,none⟩=false:=frozen_blk x2 1
   have hld:=load_row x3 Tryz.underlying24 rfl size24
   obtain ⟨X4,e4,j4,f4⟩:=sets_row x3' #[.int .i64 0,.int .i64 0,.slice la R.length lc] rfl
   have hst:(Instr.storeAt 24 (.pointer (some ⟨Y2,0,none⟩)) (.agg #[.int .i64 0,.int .i64 0,.slice la R.length lc])).run Tryz.prog X3=.ok () X4:=by
    rw [e4]
    exact store_row x3' rfl size24 (by simp [Value.oneCell'])
   have fV:Fr V X4 (fun k9=>k9=Y0 ∨ k9=Y2):=(fr3.mono (fun k9 hk9=>.inl hk9)).trans (f4.mono (fun k9 hk9=>.inr hk9))
   have HE:Hid (Lr tbE 5 X4 (withoutP s d).tabs (.slice la R.length lc)∧Below w.heap.size w X4):=lh (by
    have hbw:=HBV.out.trans (HB.out.mono HBV.out.size)
    refine ⟨?_,hbw.trans (fV.toBelow (fun k9 hk9 q9=>?_) hbw.size)⟩
    ·rw [← HGE.out]
     refine (HWL.out.keep fV (fun k9 hk9 cs9 e9 q9=>?_)).reads
     rcases hk9 with rfl | rfl
     ·rw [jV0] at q9
      simp only [Option.some.injEq,Obj.cells.injEq] at q9
      rw [← q9.2.1]
      decide
     ·rw [jV2] at q9
      simp only [Option.some.injEq,Obj.cells.injEq] at q9
      rw [← q9.2.1]
      decide
    ·have:=GE.out
     rcases q9 with q9 | q9 <;> omega)
   have J4:=lh j4
   have HX1:=lh hX1
   have HX2:=lh hX2
   have HX3:=lh hX3
   clear hX1 hX2 hX3 x1 x2 x3 x3' fr3 e4 f4 fV j4 hb hw hR hRl jV0 jV1 jV2 hin JY1
   go_upto_region 21 with fail
   rw [← HX1.out]
   clear g0 f0 d2
   go_upto_region 22 with fail
   rw [← HX2.out]
   clear g1 f1
   go_upto_region 23 with fail
   rw [← HX3.out]
   clear g2 f2
   go_wp2_with (first | (refine wpl_load _ rfl (by simp [Act.eval]) hld ?_) | (refine wpl_store _ _ rfl (by simp [Act.eval,Act.put]) (by simp [Act.eval,Act.put]) hst ?_))
   refine bodyPost_ret (results_one rfl rfl (load_var J4.out Tryz.underlying24 rfl size24)) rfl ?_
   exact ⟨_,rfl,HE.out.1,HE.out.2⟩
end
end Go.Proofs.YtongmhfpoopebaaGreat
