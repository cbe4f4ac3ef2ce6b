import Derived.Test.YtongmhfpoopebaaGreatPRb
namespace Go.Proofs.YtongmhfpoopebaaGreat
open Go.RowKit
section
variable {w : World}
set_option maxHeartbeats 16000000 in
set_option maxRecDepth 100000 in
theorem column_ref {B:Nat} {s:Sc} {G:List Gt} {tv:Value} {d:Dd} {kd st:Int} {i:Nat} {t:Tb} {da:Option Addr} {dn dc:Nat} (hD:Dr w B G tv) (hB:B≤w.heap.size) (hG:G.map Prod.fst=s.tabs) (hcs:∀ t ∈ s.tabs,tabB t=true) (hi:i<s.tabs.length) (ht:s.tabs[i]=t) (hn6:s.tabs.length≤6) (hl:farB s.last=true) (hkd:d.kind=kd) (hk9:kd=4∨kd=5):Calls Tryz.prog 37 #[.agg #[.int .i64 (s.ver+1),.int .i64 s.last,tv],.int .i64 (i:Int),.agg #[.int .i64 kd,.string d.table,.string d.name,.string d.column,.string d.parent,.bool d.uq,.int .i64 d.ty,.int .i64 d.df.k,.int .i64 d.df.n,.string d.df.s,.slice da dn dc],.int .i64 st] w (CrAns B w s tv (changeT s d st i t)):=by
 have htb:tabB t=true:=by rw [←ht];exact hcs _ (List.getElem_mem hi)
 have hpb:=tabB_facts htb
 have hlen:G.length=s.tabs.length:=by rw [←hG,List.length_map]
 have hiG:i<G.length:=by omega
 obtain ⟨tad,tcap,hsh0⟩:=own_shape hD.row
 obtain ⟨TB,hTB⟩:∃ TB,tad=some ⟨TB,0,none⟩:=by
  rcases hD.row.2 with ⟨_,h0⟩ | ⟨g,cap',cur,hv',_⟩
  ·omega
  ·rw [hsh0] at hv'
   simp only [Value.slice.injEq] at hv'
   exact ⟨g,hv'.1⟩
 subst hTB
 subst hsh0
 obtain ⟨g,hg⟩:∃ g,G[i]=g:=⟨_,rfl⟩
 have hg1:g.1=t:=by
  rw [←hg,←ht]
  have:s.tabs[i]=(G.map Prod.fst)[i]'(by rw [List.length_map];exact hiG):=by simp only [hG]
  rw [this,List.getElem_map]
 obtain ⟨t',cv,iv,kv⟩:=g
 simp only at hg1
 subst hg1
 have hc0:=hD.c G[i] (List.getElem_mem hiG)
 have hi0:=hD.i G[i] (List.getElem_mem hiG)
 have hk0:=hD.k G[i] (List.getElem_mem hiG)
 rw [hg] at hc0 hi0 hk0
 simp only at hc0 hi0 hk0
 obtain ⟨t,htt⟩:∃ t,t=t':=⟨_,rfl⟩
 subst htt
 obtain ⟨ca,cc,e1⟩:=own_shape hc0
 obtain ⟨ia,ic,e2⟩:=own_shape hi0
 obtain ⟨ka,kc,e3⟩:=own_shape hk0
 subst e1 e2 e3
 have HGI:=lh hg
 have HPB:=lh hpb
 have HLN:=lh hlen
 obtain ⟨W,hW⟩:∃ W,W=((w.alloc (.cells #[.int .i64 (s.ver+1),.int .i64 s.last,.slice (some ⟨TB,0,none⟩) G.length tcap] 24)).alloc (.cells #[.int .i64 kd,.string d.table,.string d.name,.string d.column,.string d.parent,.bool d.uq,.int .i64 d.ty,.int .i64 d.df.k,.int .i64 d.df.n,.string d.df.s,.slice da dn dc] 31)).alloc (.cells #[.int .i64 0,.int .i64 0,.slice none 0 0] 24):=⟨_,rfl⟩
 have hbW:Below w.heap.size w W:=by rw [hW];exact (((Below.refl _ w).alloc (Nat.le_refl _) _).alloc (by simp) _).alloc (by simp only [World.size_alloc];omega) _
 obtain ⟨Y0,hY0⟩:∃ Y0,w.heap.size=Y0:=⟨_,rfl⟩
 obtain ⟨Y1,hY1⟩:∃ Y1,Y0+1=Y1:=⟨_,rfl⟩
 obtain ⟨Y2,hY2⟩:∃ Y2,Y1+1=Y2:=⟨_,rfl⟩
 have j0:W.heap[Y0]?=some (.cells #[.int .i64 (s.ver+1),.int .i64 s.last,.slice (some ⟨TB,0,none⟩) G.length tcap] 24 (0,0)):=by
  have:=heap_alloc_new w (.cells #[.int .i64 (s.ver+1),.int .i64 s.last,.slice (some ⟨TB,0,none⟩) G.length tcap] 24)
  rw [hW,←hY0,Below.heap_alloc _ _ _ (by simp only [World.size_alloc];omega),Below.heap_alloc _ _ _ (by simp only [World.size_alloc];omega)]
  exact this
 have j1:W.heap[Y1]?=some (.cells #[.int .i64 kd,.string d.table,.string d.name,.string d.column,.string d.parent,.bool d.uq,.int .i64 d.ty,.int .i64 d.df.k,.int .i64 d.df.n,.string d.df.s,.slice da dn dc] 31 (0,0)):=by
  have:=heap_alloc_new (w.alloc (.cells #[.int .i64 (s.ver+1),.int .i64 s.last,.slice (some ⟨TB,0,none⟩) G.length tcap] 24)) (.cells #[.int .i64 kd,.string d.table,.string d.name,.string d.column,.string d.parent,.bool d.uq,.int .i64 d.ty,.int .i64 d.df.k,.int .i64 d.df.n,.string d.df.s,.slice da dn dc] 31)
  simp only [World.size_alloc] at this
  rw [hW,←hY1,←hY0,Below.heap_alloc _ _ _ (by simp only [World.size_alloc];omega)]
  exact this
 have j2:W.heap[Y2]?=some (.cells #[.int .i64 0,.int .i64 0,.slice none 0 0] 24 (0,0)):=by
  have:=heap_alloc_new ((w.alloc (.cells #[.int .i64 (s.ver+1),.int .i64 s.last,.slice (some ⟨TB,0,none⟩) G.length tcap] 24)).alloc (.cells #[.int .i64 kd,.string d.table,.string d.name,.string d.column,.string d.parent,.bool d.uq,.int .i64 d.ty,.int .i64 d.df.k,.int .i64 d.df.n,.string d.df.s,.slice da dn dc] 31)) (.cells #[.int .i64 0,.int .i64 0,.slice none 0 0] 24)
  simp only [World.size_alloc] at this
  rw [hW,←hY2,←hY1,←hY0]
  exact this
 have hDW:=hD.below hbW
 have hcell:∀ j u,(gL G[i])[j]?=some u→W.cell? ⟨TB,i*5+j,none⟩=some u:=fun j u hu=>by
  obtain ⟨_,_,e',_,_,_,hX⟩:=Lr.own gL_len hDW.row
  cases e'
  obtain ⟨b,o,cs,e2,_,hE,_,hh⟩:=hX i hiG
  cases e2
  rw [hE] at hh
  have:=hh j u hu
  rw [Nat.zero_add] at this
  exact this
 rw [hg] at hcell
 have q0:W.cell? ⟨TB,i*5,none⟩=some (.int .i64 t.id):=hcell 0 _ rfl
 have q1:W.cell? ⟨TB,i*5+1,none⟩=some (.string t.nm):=hcell 1 _ rfl
 have q2:W.cell? ⟨TB,i*5+2,none⟩=some (.slice ca t.cols.length cc):=hcell 2 _ rfl
 have q3:W.cell? ⟨TB,i*5+3,none⟩=some (.slice ia t.ixs.length ic):=hcell 3 _ rfl
 have q4:W.cell? ⟨TB,i*5+4,none⟩=some (.slice ka t.fks.length kc):=hcell 4 _ rfl
 have q5:W.cell? ⟨Y0,2,none⟩=some (.slice (some ⟨TB,0,none⟩) G.length tcap):=cell_blk j0 2
 obtain ⟨V1,hV1⟩:∃ V1,V1=W.alloc (.cells (tbA t (.slice ca t.cols.length cc) (.slice ia t.ixs.length ic) (.slice ka t.fks.length kc)) 35):=⟨_,rfl⟩
 obtain ⟨Q,hQ⟩:∃ Q,W.heap.size=Q:=⟨_,rfl⟩
 have jQ:V1.heap[Q]?=some (.cells (tbA t (.slice ca t.cols.length cc) (.slice ia t.ixs.length ic) (.slice ka t.fks.length kc)) 35 (0,0)):=by rw [hV1,←hQ];exact heap_alloc_new W _
 have bV:Below W.heap.size W V1:=by rw [hV1];exact bnew _ _
 have HV1:=lh hV1
 have HQ:=lh hQ
 have JQ:=lh jQ
 have J0:=lh ((bV.block Y0 (blk_lt j0)).trans j0)
 have J1:=lh ((bV.block Y1 (blk_lt j1)).trans j1)
 have J2:=lh ((bV.block Y2 (blk_lt j2)).trans j2)
 have GE:Hid (w.heap.size≤Y0∧w.heap.size≤Y2∧Y0≠Y2∧Y0≠Y1∧Y1≠Y2∧W.heap.size=Q∧Y0<Q∧Y1<Q∧Y2<Q):=lh ⟨by omega,by omega,by omega,by omega,by omega,hQ,by have:=blk_lt j0;omega,by have:=blk_lt j1;omega,by have:=blk_lt j2;omega⟩
 have HB:=lh (bgo hbW bV)
 have HD:=lh (hDW.below bV)
 have HW:=lh hW
 have HY0:=lh hY0
 have HY1:=lh hY1
 have HY2:=lh hY2
 have HKD:=lh hkd
 have HK9:=lh hk9
 have HBB:=lh hB
 have HG:=lh hG
 have HCS:=lh hcs
 have HIT:=lh ht
 have HI6:Hid (i<s.tabs.length∧i<G.length∧s.tabs.length≤6):=lh ⟨hi,hiG,hn6⟩
 have HFL:=lh (far_in hl)
 have k0:(0:Int)≤(i:Int):=by omega
 have k1:(i:Int)<(G.length:Int):=by omega
 clear hW hbW hY0 hY1 hY2 j0 j1 j2 hDW hcell hV1 hQ jQ bV hkd hk9 hB hG hcs hl hn6 htb hpb hlen hD hc0 hi0 hk0 hg ht
 go_enter Tryz.func37,Tryz.ntmps37
 go_upto_region 1 with fail
 rw [←HW.out,HY0.out,HY1.out,HY2.out]
 go_upto_region 2 with fail
 rw [←HV1.out,HQ.out]
 clear q0 q1 q2 q3 q4 q5 k0 k1
 rcases findIdx_fidx (fun x=>decide (x.nm=d.column)) t.cols with ⟨q,q8⟩ | ⟨k,hk,q,q8,q9⟩
 ·skip
  have HFQ:=lh q
  have HF8:=lh q8
  clear q q8
  have x0:V1.cell? ⟨Y0,0,none⟩=some (.int .i64 (s.ver+1)):=cell_blk J0.out 0
  have x1:V1.cell? ⟨Y0,1,none⟩=some (.int .i64 (s.last)):=cell_blk J0.out 1
  have x2:V1.cell? ⟨Y0,2,none⟩=some (.slice (some ⟨TB,0,none⟩) G.length tcap):=cell_blk J0.out 2
  have y0:V1.cell? ⟨Q,0,none⟩=some (.int .i64 t.id):=cell_blk JQ.out 0
  have y1:V1.cell? ⟨Q,1,none⟩=some (.string t.nm):=cell_blk JQ.out 1
  have y2:V1.cell? ⟨Q,2,none⟩=some (.slice ca t.cols.length cc):=cell_blk JQ.out 2
  have y3:V1.cell? ⟨Q,3,none⟩=some (.slice ia t.ixs.length ic):=cell_blk JQ.out 3
  have y4:V1.cell? ⟨Q,4,none⟩=some (.slice ka t.fks.length kc):=cell_blk JQ.out 4
  have e0:V1.cell? ⟨Y1,0,none⟩=some (.int .i64 kd):=cell_blk J1.out 0
  have e2:V1.cell? ⟨Y1,2,none⟩=some (.string d.name):=cell_blk J1.out 2
  have e3:V1.cell? ⟨Y1,3,none⟩=some (.string d.column):=cell_blk J1.out 3
  have e4:V1.cell? ⟨Y1,4,none⟩=some (.string d.parent):=cell_blk J1.out 4
  have e6:V1.cell? ⟨Y1,6,none⟩=some (.int .i64 d.ty):=cell_blk J1.out 6
  have e7:V1.cell? ⟨Y1,7,none⟩=some (.int .i64 d.df.k):=cell_blk J1.out 7
  have e8:V1.cell? ⟨Y1,8,none⟩=some (.int .i64 d.df.n):=cell_blk J1.out 8
  have e9:V1.cell? ⟨Y1,9,none⟩=some (.string d.df.s):=cell_blk J1.out 9
  have HOC:V1.ownsRow B 50 7 (.slice ca t.cols.length cc) t.cols.length (t.cols.flatMap colL):=by have:=HD.out.c G[i] (List.getElem_mem HI6.out.2.1);rw [HGI.out] at this;exact this
  have HOI:V1.ownsRow B 71 5 (.slice ia t.ixs.length ic) t.ixs.length (t.ixs.flatMap ixL):=by have:=HD.out.i G[i] (List.getElem_mem HI6.out.2.1);rw [HGI.out] at this;exact this
  have HOK:V1.ownsRow B 74 5 (.slice ka t.fks.length kc) t.fks.length (t.fks.flatMap fkL):=by have:=HD.out.k G[i] (List.getElem_mem HI6.out.2.1);rw [HGI.out] at this;exact this
  have hat:=colAt_any (w:=V1) (t:=t) ⟨Lr.own colL_len HOC,Lr.own ixL_len HOI,Lr.own fkL_len HOK⟩ d.column
  rw [HFQ.out] at hat
  clear HOC HOI HOK
  go_wp2_with (go_at_call 26;refine hat.mono ?_;rintro e w1 ⟨rfl,bw1⟩;refine Hid.out ?_)
  refine lh ?_
  clear x0 x1 x2 y0 y1 y2 y3 y4 e0 e2 e3 e4 e6 e7 e8 e9 hat
  have JQ':=lh ((bw1.block Q (blk_lt JQ.out)).trans JQ.out)
  have J0':=lh ((bw1.block Y0 (blk_lt J0.out)).trans J0.out)
  have J1':=lh ((bw1.block Y1 (blk_lt J1.out)).trans J1.out)
  have J2':=lh ((bw1.block Y2 (blk_lt J2.out)).trans J2.out)
  have HD':=lh (HD.out.below bw1)
  have HB':=lh (bgo HB.out bw1)
  clear JQ J0 J1 J2 HD HB bw1
  have JQ:=JQ'
  have J0:=J0'
  have J1:=J1'
  have J2:=J2'
  have HD:=HD'
  have HB:=HB'
  clear JQ' J0' J1' J2' HD' HB'
  have x0:w1.cell? ⟨Y0,0,none⟩=some (.int .i64 (s.ver+1)):=cell_blk J0.out 0
  have x1:w1.cell? ⟨Y0,1,none⟩=some (.int .i64 (s.last)):=cell_blk J0.out 1
  have x2:w1.cell? ⟨Y0,2,none⟩=some (.slice (some ⟨TB,0,none⟩) G.length tcap):=cell_blk J0.out 2
  have y0:w1.cell? ⟨Q,0,none⟩=some (.int .i64 t.id):=cell_blk JQ.out 0
  have y1:w1.cell? ⟨Q,1,none⟩=some (.string t.nm):=cell_blk JQ.out 1
  have y2:w1.cell? ⟨Q,2,none⟩=some (.slice ca t.cols.length cc):=cell_blk JQ.out 2
  have y3:w1.cell? ⟨Q,3,none⟩=some (.slice ia t.ixs.length ic):=cell_blk JQ.out 3
  have y4:w1.cell? ⟨Q,4,none⟩=some (.slice ka t.fks.length kc):=cell_blk JQ.out 4
  have e0:w1.cell? ⟨Y1,0,none⟩=some (.int .i64 kd):=cell_blk J1.out 0
  have e2:w1.cell? ⟨Y1,2,none⟩=some (.string d.name):=cell_blk J1.out 2
  have e3:w1.cell? ⟨Y1,3,none⟩=some (.string d.column):=cell_blk J1.out 3
  have e4:w1.cell? ⟨Y1,4,none⟩=some (.string d.parent):=cell_blk J1.out 4
  have e6:w1.cell? ⟨Y1,6,none⟩=some (.int .i64 d.ty):=cell_blk J1.out 6
  have e7:w1.cell? ⟨Y1,7,none⟩=some (.int .i64 d.df.k):=cell_blk J1.out 7
  have e8:w1.cell? ⟨Y1,8,none⟩=some (.int .i64 d.df.n):=cell_blk J1.out 8
  have e9:w1.cell? ⟨Y1,9,none⟩=some (.string d.df.s):=cell_blk J1.out 9
  rcases HK9.out with hk | hk
  ·skip
   have HK9:=lh hk
   clear hk
   rw [HK9.out] at e0
   have hat:=fresh_ref (w:=w1) d.column (t.cols.length:Int)
   obtain ⟨fr,hfr⟩:∃ fr,(if nameB d.column=false then (100:Int) else if 8≤(t.cols.length:Int) then 156 else 0)=fr:=⟨_,rfl⟩
   rw [hfr] at hat
   have hmx:(t.cols.length:Int)≤9223372036854775807:=by have:=HPB.out;omega
   go_wp2_with (go_at_call 83;refine hat.mono ?_;rintro e w2 ⟨rfl,h9⟩;refine Hid.out ?_)
   refine lh ?_
   subst h9
   clear hat
   by_cases hnm:nameB d.column=false
   ·rw [if_pos hnm] at hfr
    subst hfr
    have HR:Hid (changeT s d st i t=.error 100):=lh (by
     unfold changeT
     rw [if_pos (by rw [HKD.out,HK9.out])]
     unfold addL
     rw [HF8.out]
     simp only [hnm,if_true])
    have hld:=load_row J0.out Tryz.underlying24 rfl size24
    obtain ⟨X4,e44,j4,f4⟩:=sets_row J2.out (#[.int .i64 (s.ver+1),.int .i64 s.last,.slice (some ⟨TB,0,none⟩) G.length tcap]) rfl
    have hst:(Instr.storeAt 24 (.pointer (some ⟨Y2,0,none⟩)) (.agg #[.int .i64 (s.ver+1),.int .i64 s.last,.slice (some ⟨TB,0,none⟩) G.length tcap])).run Tryz.prog w2=.ok () X4:=by
     rw [e44]
     exact store_row J2.out rfl size24 (by simp [Value.oneCell'])
    have J4:=lh j4
    have HE:Hid (Below w.heap.size w X4):=lh (HB.out.trans (f4.toBelow (fun k9 hk9 q9=>by have:=GE.out;omega) HB.out.size))
    clear e44 j4 f4 x0 x1 x2 y0 y1 y2 y3 y4 e0 e2 e3 e4 e6 e7 e8 e9
    go_upto_region 6 with fail
    go_wp2_with (first | (refine wpl_load _ rfl (by first | rfl | (simp [Act.eval];done)) hld ?_) | (refine wpl_store _ _ rfl (by first | rfl | (simp [Act.eval];done)) (by first | rfl | (simp [Act.eval];done)) hst ?_))
    refine bodyPost_ret (results_two rfl rfl rfl (load_var J4.out Tryz.underlying24 rfl size24)) rfl ?_
    exact CrAns.err HR.out (by decide) HBB.out HE.out
   by_cases hl8:8≤(t.cols.length:Int)
   ·rw [if_neg hnm,if_pos hl8] at hfr
    subst hfr
    have HR:Hid (changeT s d st i t=.error 156):=lh (by
     unfold changeT
     rw [if_pos (by rw [HKD.out,HK9.out])]
     unfold addL
     rw [HF8.out]
     simp only
     rw [if_neg hnm,if_pos (by have:=HPB.out;omega)])
    have hld:=load_row J0.out Tryz.underlying24 rfl size24
    obtain ⟨X4,e44,j4,f4⟩:=sets_row J2.out (#[.int .i64 (s.ver+1),.int .i64 s.last,.slice (some ⟨TB,0,none⟩) G.length tcap]) rfl
    have hst:(Instr.storeAt 24 (.pointer (some ⟨Y2,0,none⟩)) (.agg #[.int .i64 (s.ver+1),.int .i64 s.last,.slice (some ⟨TB,0,none⟩) G.length tcap])).run Tryz.prog w2=.ok () X4:=by
     rw [e44]
     exact store_row J2.out rfl size24 (by simp [Value.oneCell'])
    have J4:=lh j4
    have HE:Hid (Below w.heap.size w X4):=lh (HB.out.trans (f4.toBelow (fun k9 hk9 q9=>by have:=GE.out;omega) HB.out.size))
    clear e44 j4 f4 x0 x1 x2 y0 y1 y2 y3 y4 e0 e2 e3 e4 e6 e7 e8 e9
    go_upto_region 6 with fail
    go_wp2_with (first | (refine wpl_load _ rfl (by first | rfl | (simp [Act.eval];done)) hld ?_) | (refine wpl_store _ _ rfl (by first | rfl | (simp [Act.eval];done)) (by first | rfl | (simp [Act.eval];done)) hst ?_))
    refine bodyPost_ret (results_two rfl rfl rfl (load_var J4.out Tryz.underlying24 rfl size24)) rfl ?_
    exact CrAns.err HR.out (by decide) HBB.out HE.out
   rw [if_neg hnm,if_neg hl8] at hfr
   subst hfr
   have HNM:=lh hnm
   have HL8:Hid (¬ t.cols.length=8):=lh (by omega)
   clear hnm hl8
   have hat:=kind_ref (w:=w2) d.ty
   obtain ⟨kb,hkb⟩:∃ kb,kindB d.ty=kb:=⟨_,rfl⟩
   rw [hkb] at hat
   have HKB:=lh hkb
   clear hkb
   go_wp2_with (go_at_call 27;refine hat.mono ?_;rintro e w3 ⟨rfl,h9⟩;refine Hid.out ?_)
   refine lh ?_
   subst h9
   clear hat
   cases kb with
   | false =>
    have HR:Hid (changeT s d st i t=.error 154):=lh (by
     unfold changeT
     rw [if_pos (by rw [HKD.out,HK9.out])]
     unfold addL
     rw [HF8.out]
     simp only
     rw [if_neg HNM.out,if_neg HL8.out]
     unfold newC
     rw [if_neg (by rw [HKB.out];simp)])
    have hld:=load_row J0.out Tryz.underlying24 rfl size24
    obtain ⟨X4,e44,j4,f4⟩:=sets_row J2.out (#[.int .i64 (s.ver+1),.int .i64 s.last,.slice (some ⟨TB,0,none⟩) G.length tcap]) rfl
    have hst:(Instr.storeAt 24 (.pointer (some ⟨Y2,0,none⟩)) (.agg #[.int .i64 (s.ver+1),.int .i64 s.last,.slice (some ⟨TB,0,none⟩) G.length tcap])).run Tryz.prog w3=.ok () X4:=by
     rw [e44]
     exact store_row J2.out rfl size24 (by simp [Value.oneCell'])
    have J4:=lh j4
    have HE:Hid (Below w.heap.size w X4):=lh (HB.out.trans (f4.toBelow (fun k9 hk9 q9=>by have:=GE.out;omega) HB.out.size))
    clear e44 j4 f4 x0 x1 x2 y0 y1 y2 y3 y4 e0 e2 e3 e4 e6 e7 e8 e9
    go_upto_region 8 with fail
    go_wp2_with (first | (refine wpl_load _ rfl (by first | rfl | (simp [Act.eval];done)) hld ?_) | (refine wpl_store _ _ rfl (by first | rfl | (simp [Act.eval];done)) (by first | rfl | (simp [Act.eval];done)) hst ?_))
    refine bodyPost_ret (results_two rfl rfl rfl (load_var J4.out Tryz.underlying24 rfl size24)) rfl ?_
    exact CrAns.err HR.out (by decide) HBB.out HE.out
   | true =>
    have hat:=fits_ref (w:=w3) d.df d.ty
    obtain ⟨fb,hfb⟩:∃ fb,fitB d.df d.ty=fb:=⟨_,rfl⟩
    rw [hfb] at hat
    have HFB:=lh hfb
    clear hfb
    skip
    go_wp2_with (go_at_call 28;refine hat.mono ?_;rintro e w4 ⟨rfl,bw4⟩;refine Hid.out ?_)
    refine lh ?_
    clear x0 x1 x2 y0 y1 y2 y3 y4 e0 e2 e3 e4 e6 e7 e8 e9 hat
    have JQ':=lh ((bw4.block Q (blk_lt JQ.out)).trans JQ.out)
    have J0':=lh ((bw4.block Y0 (blk_lt J0.out)).trans J0.out)
    have J1':=lh ((bw4.block Y1 (blk_lt J1.out)).trans J1.out)
    have J2':=lh ((bw4.block Y2 (blk_lt J2.out)).trans J2.out)
    have HD':=lh (HD.out.below bw4)
    have HB':=lh (bgo HB.out bw4)
    clear JQ J0 J1 J2 HD HB bw4
    have JQ:=JQ'
    have J0:=J0'
    have J1:=J1'
    have J2:=J2'
    have HD:=HD'
    have HB:=HB'
    clear JQ' J0' J1' J2' HD' HB'
    have x0:w4.cell? ⟨Y0,0,none⟩=some (.int .i64 (s.ver+1)):=cell_blk J0.out 0
    have x1:w4.cell? ⟨Y0,1,none⟩=some (.int .i64 (s.last)):=cell_blk J0.out 1
    have x2:w4.cell? ⟨Y0,2,none⟩=some (.slice (some ⟨TB,0,none⟩) G.length tcap):=cell_blk J0.out 2
    have y0:w4.cell? ⟨Q,0,none⟩=some (.int .i64 t.id):=cell_blk JQ.out 0
    have y1:w4.cell? ⟨Q,1,none⟩=some (.string t.nm):=cell_blk JQ.out 1
    have y2:w4.cell? ⟨Q,2,none⟩=some (.slice ca t.cols.length cc):=cell_blk JQ.out 2
    have y3:w4.cell? ⟨Q,3,none⟩=some (.slice ia t.ixs.length ic):=cell_blk JQ.out 3
    have y4:w4.cell? ⟨Q,4,none⟩=some (.slice ka t.fks.length kc):=cell_blk JQ.out 4
    have e0:w4.cell? ⟨Y1,0,none⟩=some (.int .i64 kd):=cell_blk J1.out 0
    rw [HK9.out] at e0
    have e2:w4.cell? ⟨Y1,2,none⟩=some (.string d.name):=cell_blk J1.out 2
    have e3:w4.cell? ⟨Y1,3,none⟩=some (.string d.column):=cell_blk J1.out 3
    have e4:w4.cell? ⟨Y1,4,none⟩=some (.string d.parent):=cell_blk J1.out 4
    have e6:w4.cell? ⟨Y1,6,none⟩=some (.int .i64 d.ty):=cell_blk J1.out 6
    have e7:w4.cell? ⟨Y1,7,none⟩=some (.int .i64 d.df.k):=cell_blk J1.out 7
    have e8:w4.cell? ⟨Y1,8,none⟩=some (.int .i64 d.df.n):=cell_blk J1.out 8
    have e9:w4.cell? ⟨Y1,9,none⟩=some (.string d.df.s):=cell_blk J1.out 9
    cases fb with
    | false =>
     have HR:Hid (changeT s d st i t=.error 154):=lh (by
      unfold changeT
      rw [if_pos (by rw [HKD.out,HK9.out])]
      unfold addL
      rw [HF8.out]
      simp only
      rw [if_neg HNM.out,if_neg HL8.out]
      unfold newC
      rw [if_neg (by rw [HKB.out,HFB.out];simp)])
     have hld:=load_row J0.out Tryz.underlying24 rfl size24
     obtain ⟨X4,e44,j4,f4⟩:=sets_row J2.out (#[.int .i64 (s.ver+1),.int .i64 s.last,.slice (some ⟨TB,0,none⟩) G.length tcap]) rfl
     have hst:(Instr.storeAt 24 (.pointer (some ⟨Y2,0,none⟩)) (.agg #[.int .i64 (s.ver+1),.int .i64 s.last,.slice (some ⟨TB,0,none⟩) G.length tcap])).run Tryz.prog w4=.ok () X4:=by
      rw [e44]
      exact store_row J2.out rfl size24 (by simp [Value.oneCell'])
     have J4:=lh j4
     have HE:Hid (Below w.heap.size w X4):=lh (HB.out.trans (f4.toBelow (fun k9 hk9 q9=>by have:=GE.out;omega) HB.out.size))
     clear e44 j4 f4 x0 x1 x2 y0 y1 y2 y3 y4 e0 e2 e3 e4 e6 e7 e8 e9
     go_upto_region 8 with fail
     go_wp2_with (first | (refine wpl_load _ rfl (by first | rfl | (simp [Act.eval];done)) hld ?_) | (refine wpl_store _ _ rfl (by first | rfl | (simp [Act.eval];done)) (by first | rfl | (simp [Act.eval];done)) hst ?_))
     refine bodyPost_ret (results_two rfl rfl rfl (load_var J4.out Tryz.underlying24 rfl size24)) rfl ?_
     exact CrAns.err HR.out (by decide) HBB.out HE.out
    | true =>
     by_cases s0:st=0
     ·skip
      have s1:(st == 0)=true:=by simpa using s0
      have HS0:=lh s0
      clear s0
      have HR:Hid (changeT s d st i t=.error 1):=lh (by
       unfold changeT
       rw [if_pos (by rw [HKD.out,HK9.out])]
       unfold addL
       rw [HF8.out]
       simp only
       rw [if_neg HNM.out,if_neg HL8.out]
       unfold newC
       rw [if_pos (by rw [HKB.out,HFB.out];rfl)]
       simp only
       rw [if_pos HS0.out])
      have hld:=load_row J0.out Tryz.underlying24 rfl size24
      obtain ⟨X4,e44,j4,f4⟩:=sets_row J2.out (#[.int .i64 (s.ver+1),.int .i64 s.last,.slice (some ⟨TB,0,none⟩) G.length tcap]) rfl
      have hst:(Instr.storeAt 24 (.pointer (some ⟨Y2,0,none⟩)) (.agg #[.int .i64 (s.ver+1),.int .i64 s.last,.slice (some ⟨TB,0,none⟩) G.length tcap])).run Tryz.prog w4=.ok () X4:=by
       rw [e44]
       exact store_row J2.out rfl size24 (by simp [Value.oneCell'])
      have J4:=lh j4
      have HE:Hid (Below w.heap.size w X4):=lh (HB.out.trans (f4.toBelow (fun k9 hk9 q9=>by have:=GE.out;omega) HB.out.size))
      clear e44 j4 f4 x0 x1 x2 y0 y1 y2 y3 y4 e0 e2 e3 e4 e6 e7 e8 e9
      go_upto_region 10 with fail
      go_wp2_with (first | (refine wpl_load _ rfl (by first | rfl | (simp [Act.eval];done)) hld ?_) | (refine wpl_store _ _ rfl (by first | rfl | (simp [Act.eval];done)) (by first | rfl | (simp [Act.eval];done)) hst ?_))
      refine bodyPost_ret (results_two rfl rfl rfl (load_var J4.out Tryz.underlying24 rfl size24)) rfl ?_
      exact CrAns.err HR.out (by decide) HBB.out HE.out
     have s1:(st == 0)=false:=by simpa using s0
     have HS0:=lh s0
     have f1:w4.frozen? ⟨Y0,1,none⟩=false:=frozen_blk J0.out 1
     have z1:-9223372036854775808≤s.last+1:=by have:=HFL.out;omega
     have z2:s.last+1≤9223372036854775807:=by have:=HFL.out;omega
     obtain ⟨U,hU⟩:∃ U,U=w4.setCell ⟨Y0,1,none⟩ (.int .i64 (s.last+1)):=⟨_,rfl⟩
     have fU:Fr w4 U (fun k9=>k9=Y0):=by rw [hU];exact Fr.set (S:=fun k9=>k9=Y0) (a:=⟨Y0,1,none⟩) (Fr.refl _ _) (.inl rfl) _
     have u0:U.heap[Y0]?=some (.cells #[.int .i64 (s.ver+1),.int .i64 (s.last+1),.slice (some ⟨TB,0,none⟩) G.length tcap] 24 (0,0)):=by rw [hU];exact set_blk J0.out _
     have u1:U.heap[Y1]?=some (.cells #[.int .i64 kd,.string d.table,.string d.name,.string d.column,.string d.parent,.bool d.uq,.int .i64 d.ty,.int .i64 d.df.k,.int .i64 d.df.n,.string d.df.s,.slice da dn dc] 31 (0,0)):=(fU.block Y1 (blk_lt J1.out) (fun q=>GE.out.2.2.2.1 q.symm)).trans J1.out
     have u2:U.heap[Y2]?=some (.cells #[.int .i64 0,.int .i64 0,.slice none 0 0] 24 (0,0)):=(fU.block Y2 (blk_lt J2.out) (fun q=>GE.out.2.2.1 q.symm)).trans J2.out
     have uq:U.heap[Q]?=some (.cells (tbA t (.slice ca t.cols.length cc) (.slice ia t.ixs.length ic) (.slice ka t.fks.length kc)) 35 (0,0)):=(fU.block Q (blk_lt JQ.out) (fun q=>by have:=GE.out;omega)).trans JQ.out
     have uD:Dr U B G (.slice (some ⟨TB,0,none⟩) G.length tcap):=HD.out.keep fU (fun k9 hk9=>.inr (fun cs e tg=>by
      rw [hk9,J0.out] at tg
      simp only [Option.some.injEq,Obj.cells.injEq] at tg
      rw [←tg.2.1]
      decide))
     have uB:Below w.heap.size w U:=HB.out.trans (fU.toBelow (fun k9 hk9 q9=>by have:=GE.out;omega) HB.out.size)
     have JQ':=lh uq
     have J0':=lh u0
     have J1':=lh u1
     have J2':=lh u2
     have HD':=lh uD
     have HB':=lh uB
     have HU:=lh hU
     clear JQ J1 J2 HD HB fU u0 u1 u2 uq uD uB hU
     go_upto_region 12 with fail
     rw [←HU.out]
     clear x0 x1 x2 y0 y1 y2 y3 y4 e0 e2 e3 e4 e6 e7 e8 e9 f1
     clear J0
     have JQ:=JQ'
     have J0:=J0'
     have J1:=J1'
     have J2:=J2'
     have HD:=HD'
     have HB:=HB'
     clear JQ' J0' J1' J2' HD' HB'
     obtain ⟨X0,hX0⟩:∃ X0,X0=U.drew:=⟨_,rfl⟩
     have bX0:Below U.heap.size U X0:=by rw [hX0];exact ⟨rfl,rfl,rfl,Nat.le_refl _,fun _ _=>rfl⟩
     have dX:=HD.out.below bX0
     have own0:X0.ownsRow B 50 7 (.slice ca t.cols.length cc) t.cols.length (t.cols.flatMap colL):=by have:=dX.c G[i] (List.getElem_mem HI6.out.2.1);rw [HGI.out] at this;exact this
     obtain ⟨nx,hnx⟩:∃ nx:Col,nx=⟨s.last+1,d.column,d.ty,st,d.df⟩:=⟨_,rfl⟩
     obtain ⟨ad,cap,X2,r1,o2,fr2,ob2⟩:=pushC (own_mono own0 (Nat.zero_le _)) nx (by have:=HPB.out;omega)
     obtain ⟨X1,hX1⟩:∃ X1,X1=X0.alloc (.cells (colA nx) 50):=⟨_,rfl⟩
     rw [←hX1] at r1
     have b1:Below X0.heap.size X0 X1:=by rw [hX1];exact bnew _ _
     obtain ⟨cT,hcT,_,_,_,_⟩:=row_blk (own_mono dX.row (Nat.zero_le _))
     obtain ⟨nl,hnl⟩:∃ nl,t.cols.length+1=nl:=⟨_,rfl⟩
     rw [hnl] at r1 o2 ob2
     obtain ⟨X3,hX3⟩:∃ X3,X3=X2.setCell ⟨TB,i*5+2,none⟩ (.slice ad nl cap):=⟨_,rfl⟩
     have keep2:∀ {k9:Nat} {cs:Array Value} {e:TypeId},X0.heap[k9]?=some (.cells cs e (0,0))→e≠50→X2.heap[k9]?=some (.cells cs e (0,0)):=fun {k9 cs e} h he=>(fr2.block k9 (blk_lt h) (fun q=>by
      obtain ⟨cs2,t2⟩:=own_tag own0 k9 q
      rw [t2] at h
      simp only [Option.some.injEq,Obj.cells.injEq] at h
      exact he h.2.1.symm)).trans h
     have a0:=(bX0.block Y0 (blk_lt J0.out)).trans J0.out
     have a1:=(bX0.block Y1 (blk_lt J1.out)).trans J1.out
     have a2:=(bX0.block Y2 (blk_lt J2.out)).trans J2.out
     have aq:=(bX0.block Q (blk_lt JQ.out)).trans JQ.out
     have h2T:=keep2 hcT (by decide)
     have x3T:X3.heap[TB]?=some (.cells (cT.setIfInBounds (i*5+2) (.slice ad nl cap)) 35 (0,0)):=by rw [hX3];exact set_blk h2T _
     have fX3:Fr X2 X3 (fun k9=>k9=TB):=by rw [hX3];exact Fr.set (S:=fun k9=>k9=TB) (a:=⟨TB,i*5+2,none⟩) (Fr.refl _ _) (.inl rfl) _
     have f03:Fr X0 X3 (fun k9=>(Value.slice ca t.cols.length cc).ownBlock=some k9∨k9=TB):=(fr2.mono (fun k9 q9=>.inl q9)).step fX3 (fun k9 q9=>.inl (.inr q9))
     have c03:X3.ownsRow 0 50 7 (.slice ad nl cap) (t.cols ++ [nx]).length ((t.cols ++ [nx]).flatMap colL):=keep_rowB o2 fX3 (fun k9 hk9 cs9 tg=>by
      rw [hk9,h2T] at tg
      simp only [Option.some.injEq,Obj.cells.injEq] at tg
      exact absurd tg.2.1 (by decide))
     have hcellT:∀ j u,(gL G[i])[j]?=some u→cT[i*5+j]?=some u:=fun j u hu=>by
      obtain ⟨_,_,e',_,_,_,hX⟩:=Lr.own gL_len dX.row
      cases e'
      obtain ⟨b,o,cs,e2,_,hE,_,hh⟩:=hX i HI6.out.2.1
      cases e2
      rw [hE] at hh
      have:=hh j u hu
      rw [Nat.zero_add,cell_blk hcT] at this
      exact this
     have hold:cT[i*5+2]?=some (.slice ca t.cols.length cc):=by have:=hcellT 2 _ rfl;rw [HGI.out] at this;exact this
     obtain ⟨G2,hG2⟩:∃ G2:List Gt,G2=G.set i (tbC G[i].1 (t.cols ++ [nx]),.slice ad nl cap,G[i].2.2.1,G[i].2.2.2):=⟨_,rfl⟩
     have D3:Dr X3 B G2 (.slice (some ⟨TB,0,none⟩) G.length tcap):=by
      rw [hG2]
      refine dX.setC HI6.out.2.1 a0 (by have:=HB.out.size;have:=HBB.out;have:=bX0.size;omega) f03 (fun k9 q9=>by
       rcases q9 with q9 | q9
       ·exact .inr (.inr (by rw [HGI.out];exact q9))
       ·exact .inr (.inl (by rw [q9];rfl))) ?_ c03 (fun k9 q9=>by
       rcases ob2 k9 q9 with z | z
       ·exact .inl (by rw [HGI.out];exact z)
       ·exact .inr z)
      exact tab_row (own_mono dX.row (Nat.zero_le _)) hcT HI6.out.2.1 (by decide) x3T (by rw [HGI.out];rfl)
     have B3:Below B w X3:=((bgo HB.out bX0).mono HBB.out).trans (f03.toBelow (fun k9 hk9 q9=>by
      rcases q9 with q9 | q9
      ·have:=(own_ge own0 k9 q9).1
       omega
      ·have:=(own_ge dX.row TB rfl).1
       omega) (by have:=HB.out.size;have:=HBB.out;have:=bX0.size;omega))
     have hX3s:X0.heap.size≤X3.heap.size:=f03.size
     have k30:X3.heap[Y0]?=some (.cells #[.int .i64 (s.ver+1),.int .i64 (s.last+1),.slice (some ⟨TB,0,none⟩) G.length tcap] 24 (0,0)):=(fX3.block Y0 (blk_lt (keep2 a0 (by decide))) (fun q9=>by rw [q9,hcT] at a0;simp only [Option.some.injEq,Obj.cells.injEq] at a0;exact absurd a0.2.1 (by decide))).trans (keep2 a0 (by decide))
     have k32:X3.heap[Y2]?=some (.cells #[.int .i64 0,.int .i64 0,.slice none 0 0] 24 (0,0)):=(fX3.block Y2 (blk_lt (keep2 a2 (by decide))) (fun q9=>by rw [q9,hcT] at a2;simp only [Option.some.injEq,Obj.cells.injEq] at a2;exact absurd a2.2.1 (by decide))).trans (keep2 a2 (by decide))
     have HK24:Hid (Kp24 w X3):=lh (fun k9 cs9 hk9=>by
      have h1:=(HB.out.block k9 (blk_lt hk9)).trans hk9
      have h2:=keep2 ((bX0.block k9 (blk_lt h1)).trans h1) (by decide)
      exact (fX3.block k9 (blk_lt h2) (fun z=>by
       rw [z,h2T] at h2
       simp only [Option.some.injEq,Obj.cells.injEq] at h2
       exact absurd h2.2.1 (by decide))).trans h2)
     have HT2:Hid (X2.heap[TB]?=some (.cells cT 35 (0,0))):=lh h2T
     have CQ:∀ (b9:Nat) (cs9:Array Value) (e9:TypeId),X0.heap[b9]?=some (.cells cs9 e9 (0,0))→e9≠50→∀ X9 a9 b9',GW3 X0 X1 X2 X3 a9 b9' false X9→X9.heap[b9]?=some (.cells cs9 e9 (0,0)):=fun b9 cs9 e9 h he X9 p9 q9 hg=>by
      cases p9 <;> cases q9
      ·rw [show X9=X0 from hg];exact h
      ·rw [show X9=X2 from hg];exact keep2 h he
      ·rw [show X9=X1 from hg];exact (b1.block _ (blk_lt h)).trans h
      ·rw [show X9=X2 from hg];exact keep2 h he
     have HCQ:=lh CQ
     have A0:=lh a0
     have A1:=lh a1
     have AQ:=lh aq
     have AT:=lh hcT
     have HOLD:=lh hold
     have HX0:=lh hX0
     have HX1:=lh hX1
     have HX3:=lh hX3
     have RUN:=lh r1
     have HD3:=lh D3
     have HB3:=lh B3
     have K30:=lh k30
     have K32:=lh k32
     have HG2:=lh hG2
     have HNX:=lh hnx
     clear dX own0 r1 o2 fr2 ob2 b1 hcT x3T fX3 f03 c03 hcellT hold D3 B3 hX3s k30 k32 a0 a1 a2 aq h2T keep2 hX0 hX1 hX3 CQ bX0 hG2 hnx hnl
     refine wp_region_fs (fun fl X9=>GW3 X0 X1 X2 X3 (fl 19) (fl 20) (fl 23) X9) [
      fun v9 _=>v9=.pointer (some ⟨Y0,2,none⟩),
      fun v9 _=>v9=.slice (some ⟨TB,0,none⟩) G.length tcap,
      fun v9 _=>v9=.int .i64 (i:Int),
      fun v9 _=>v9=.pointer (some ⟨Y0,2,none⟩),
      fun v9 _=>v9=.slice (some ⟨TB,0,none⟩) G.length tcap,
      fun v9 _=>v9=.int .i64 (i:Int),
      fun v9 _=>v9=.pointer (some ⟨TB,i*5,none⟩),
      fun v9 _=>v9=.pointer (some ⟨TB,i*5+2,none⟩),
      fun v9 _=>v9=.slice ca t.cols.length cc,
      fun v9 _=>v9=.pointer (some ⟨Y0,1,none⟩),
      fun v9 _=>v9=.int .i64 (s.last+1),
      fun v9 _=>v9=.pointer (some ⟨Y1,3,none⟩),
      fun v9 _=>v9=.string d.column,
      fun v9 _=>v9=.pointer (some ⟨Y1,6,none⟩),
      fun v9 _=>v9=.int .i64 d.ty,
      fun v9 _=>v9=.int .i64 st,
      fun v9 _=>v9=.pointer (some ⟨Y1,7,none⟩),
      fun v9 _=>v9=vlV d.df,
      fun v9 _=>v9=.agg (colA nx),
      fun v9 _=>v9=.slice (some ⟨X0.heap.size,0,none⟩) 1 1,
      fun v9 _=>v9=.slice ad nl cap,
      fun v9 _=>v9=.pointer (some ⟨TB,i*5,none⟩),
      fun v9 _=>v9=.pointer (some ⟨TB,i*5+2,none⟩),
      fun _ _=>True]
      (by kernel_rfl) (by kernel_rfl) (by kernel_rfl) ?g0e ?ose ?end5
     case g0e=>exact HX0.out.symm
     case ose =>
      refine ⟨?_,?_,?_,?_,?_,?_,?_,?_,?_,?_,?_,?_,?_,?_,?_,?_,?_,?_,?_,?_,?_,?_,?_,?_,trivial⟩
      ·exact fun ρ X9 fl hg hn hl hp ho hc hf hr=>⟨rfl,Runs.val _ (op_f24_2 (show ρ (.tmp 4)=.pointer (some ⟨Y0,0,none⟩) from ho 4 rfl)) ⟨hg,fun _ _ _ q=>q,rfl⟩⟩
      ·intro ρ X9 fl hg hn hl hp ho hc hf hr
       have hgx:GW3 X0 X1 X2 X3 (fl 19) (fl 20) (fl 23) X9:=hg
       have h23f:fl 23=false:=(show fl 23=false from by cases q9:fl 23 with | false=>rfl | true=>exact absurd (hl 21 _ 1 rfl (by kernel_rfl) (hl 22 _ 21 rfl (by kernel_rfl) (hl 23 _ 22 rfl (by kernel_rfl) q9))) (by rw [hn];decide))
       rw [h23f] at hgx
       have hcell:X9.cell? ⟨Y0,2,none⟩=some (.slice (some ⟨TB,0,none⟩) G.length tcap):=cell_blk (HCQ.out _ _ _ A0.out (by decide) X9 _ _ hgx) 2
       exact ⟨rfl,Runs.val _ (op_load22 (show ρ (.tmp 65)=.pointer (some ⟨Y0,2,none⟩) from hr 0 65 rfl rfl) hcell) ⟨hg,fun _ _ _ q=>q,rfl⟩⟩
      ·exact fun ρ X9 fl hg hn hl hp ho hc hf hr=>⟨rfl,Runs.val _ (op_move (show ρ (.tmp 1)=.int .i64 (i:Int) from ho 1 rfl)) ⟨hg,fun _ _ _ q=>q,rfl⟩⟩
      ·exact fun ρ X9 fl hg hn hl hp ho hc hf hr=>⟨rfl,Runs.val _ (op_f24_2 (show ρ (.tmp 4)=.pointer (some ⟨Y0,0,none⟩) from ho 4 rfl)) ⟨hg,fun _ _ _ q=>q,rfl⟩⟩
      ·intro ρ X9 fl hg hn hl hp ho hc hf hr
       have hgx:GW3 X0 X1 X2 X3 (fl 19) (fl 20) (fl 23) X9:=hg
       have h23f:fl 23=false:=(show fl 23=false from by cases q9:fl 23 with | false=>rfl | true=>exact absurd (hl 6 _ 4 rfl (by kernel_rfl) (hl 7 _ 6 rfl (by kernel_rfl) (hl 8 _ 7 rfl (by kernel_rfl) (hl 20 _ 8 rfl (by kernel_rfl) (hl 23 _ 20 rfl (by kernel_rfl) q9))))) (by rw [hn];decide))
       rw [h23f] at hgx
       have hcell:X9.cell? ⟨Y0,2,none⟩=some (.slice (some ⟨TB,0,none⟩) G.length tcap):=cell_blk (HCQ.out _ _ _ A0.out (by decide) X9 _ _ hgx) 2
       exact ⟨rfl,Runs.val _ (op_load22 (show ρ (.tmp 68)=.pointer (some ⟨Y0,2,none⟩) from hr 3 68 rfl rfl) hcell) ⟨hg,fun _ _ _ q=>q,rfl⟩⟩
      ·exact fun ρ X9 fl hg hn hl hp ho hc hf hr=>⟨rfl,Runs.val _ (op_move (show ρ (.tmp 1)=.int .i64 (i:Int) from ho 1 rfl)) ⟨hg,fun _ _ _ q=>q,rfl⟩⟩
      ·exact fun ρ X9 fl hg hn hl hp ho hc hf hr=>⟨rfl,Runs.val _ (op_i22z (show ρ (.tmp 69)=.slice (some ⟨TB,0,none⟩) G.length tcap from hr 4 69 rfl rfl) (show ρ (.tmp 70)=.int .i64 (i:Int) from hr 5 70 rfl rfl) HI6.out.2.1) ⟨hg,fun _ _ _ q=>q,rfl⟩⟩
      ·exact fun ρ X9 fl hg hn hl hp ho hc hf hr=>⟨rfl,Runs.val _ (op_f35_2 (show ρ (.tmp 71)=.pointer (some ⟨TB,i*5,none⟩) from hr 6 71 rfl rfl)) ⟨hg,fun _ _ _ q=>q,rfl⟩⟩
      ·intro ρ X9 fl hg hn hl hp ho hc hf hr
       have hgx:GW3 X0 X1 X2 X3 (fl 19) (fl 20) (fl 23) X9:=hg
       have h23f:fl 23=false:=(show fl 23=false from by cases q9:fl 23 with | false=>rfl | true=>exact absurd (hl 20 _ 8 rfl (by kernel_rfl) (hl 23 _ 20 rfl (by kernel_rfl) q9)) (by rw [hn];decide))
       rw [h23f] at hgx
       have hcell:X9.cell? ⟨TB,i*5+2,none⟩=some (.slice ca t.cols.length cc):=(cell_blk (HCQ.out _ _ _ AT.out (by decide) X9 _ _ hgx) (i*5+2)).trans HOLD.out
       exact ⟨rfl,Runs.val _ (op_load29 (show ρ (.tmp 72)=.pointer (some ⟨TB,i*5+2,none⟩) from hr 7 72 rfl rfl) hcell) ⟨hg,fun _ _ _ q=>q,rfl⟩⟩
      ·exact fun ρ X9 fl hg hn hl hp ho hc hf hr=>⟨rfl,Runs.val _ (op_f24_1 (show ρ (.tmp 4)=.pointer (some ⟨Y0,0,none⟩) from ho 4 rfl)) ⟨hg,fun _ _ _ q=>q,rfl⟩⟩
      ·intro ρ X9 fl hg hn hl hp ho hc hf hr
       have hgx:GW3 X0 X1 X2 X3 (fl 19) (fl 20) (fl 23) X9:=hg
       have h23f:fl 23=false:=(show fl 23=false from by cases q9:fl 23 with | false=>rfl | true=>exact absurd (hl 18 _ 10 rfl (by kernel_rfl) (hl 19 _ 18 rfl (by kernel_rfl) (hl 20 _ 19 rfl (by kernel_rfl) (hl 23 _ 20 rfl (by kernel_rfl) q9)))) (by rw [hn];decide))
       rw [h23f] at hgx
       have hcell:X9.cell? ⟨Y0,1,none⟩=some (.int .i64 (s.last+1)):=cell_blk (HCQ.out _ _ _ A0.out (by decide) X9 _ _ hgx) 1
       exact ⟨rfl,Runs.val _ (op_load3 (show ρ (.tmp 74)=.pointer (some ⟨Y0,1,none⟩) from hr 9 74 rfl rfl) hcell) ⟨hg,fun _ _ _ q=>q,rfl⟩⟩
      ·exact fun ρ X9 fl hg hn hl hp ho hc hf hr=>⟨rfl,Runs.val _ (op_f31_3 (show ρ (.tmp 6)=.pointer (some ⟨Y1,0,none⟩) from ho 6 rfl)) ⟨hg,fun _ _ _ q=>q,rfl⟩⟩
      ·intro ρ X9 fl hg hn hl hp ho hc hf hr
       have hgx:GW3 X0 X1 X2 X3 (fl 19) (fl 20) (fl 23) X9:=hg
       have h23f:fl 23=false:=(show fl 23=false from by cases q9:fl 23 with | false=>rfl | true=>exact absurd (hl 18 _ 12 rfl (by kernel_rfl) (hl 19 _ 18 rfl (by kernel_rfl) (hl 20 _ 19 rfl (by kernel_rfl) (hl 23 _ 20 rfl (by kernel_rfl) q9)))) (by rw [hn];decide))
       rw [h23f] at hgx
       have hcell:X9.cell? ⟨Y1,3,none⟩=some (.string d.column):=cell_blk (HCQ.out _ _ _ A1.out (by decide) X9 _ _ hgx) 3
       exact ⟨rfl,Runs.val _ (op_load9 (show ρ (.tmp 76)=.pointer (some ⟨Y1,3,none⟩) from hr 11 76 rfl rfl) hcell) ⟨hg,fun _ _ _ q=>q,rfl⟩⟩
      ·exact fun ρ X9 fl hg hn hl hp ho hc hf hr=>⟨rfl,Runs.val _ (op_f31_6 (show ρ (.tmp 6)=.pointer (some ⟨Y1,0,none⟩) from ho 6 rfl)) ⟨hg,fun _ _ _ q=>q,rfl⟩⟩
      ·intro ρ X9 fl hg hn hl hp ho hc hf hr
       have hgx:GW3 X0 X1 X2 X3 (fl 19) (fl 20) (fl 23) X9:=hg
       have h23f:fl 23=false:=(show fl 23=false from by cases q9:fl 23 with | false=>rfl | true=>exact absurd (hl 18 _ 14 rfl (by kernel_rfl) (hl 19 _ 18 rfl (by kernel_rfl) (hl 20 _ 19 rfl (by kernel_rfl) (hl 23 _ 20 rfl (by kernel_rfl) q9)))) (by rw [hn];decide))
       rw [h23f] at hgx
       have hcell:X9.cell? ⟨Y1,6,none⟩=some (.int .i64 d.ty):=cell_blk (HCQ.out _ _ _ A1.out (by decide) X9 _ _ hgx) 6
       exact ⟨rfl,Runs.val _ (op_load3 (show ρ (.tmp 78)=.pointer (some ⟨Y1,6,none⟩) from hr 13 78 rfl rfl) hcell) ⟨hg,fun _ _ _ q=>q,rfl⟩⟩
      ·exact fun ρ X9 fl hg hn hl hp ho hc hf hr=>⟨rfl,Runs.val _ (op_move (show ρ (.tmp 3)=.int .i64 st from ho 3 rfl)) ⟨hg,fun _ _ _ q=>q,rfl⟩⟩
      ·exact fun ρ X9 fl hg hn hl hp ho hc hf hr=>⟨rfl,Runs.val _ (op_f31_7 (show ρ (.tmp 6)=.pointer (some ⟨Y1,0,none⟩) from ho 6 rfl)) ⟨hg,fun _ _ _ q=>q,rfl⟩⟩
      ·intro ρ X9 fl hg hn hl hp ho hc hf hr
       have hgx:GW3 X0 X1 X2 X3 (fl 19) (fl 20) (fl 23) X9:=hg
       have h23f:fl 23=false:=(show fl 23=false from by cases q9:fl 23 with | false=>rfl | true=>exact absurd (hl 18 _ 17 rfl (by kernel_rfl) (hl 19 _ 18 rfl (by kernel_rfl) (hl 20 _ 19 rfl (by kernel_rfl) (hl 23 _ 20 rfl (by kernel_rfl) q9)))) (by rw [hn];decide))
       rw [h23f] at hgx
       have hb28:=HCQ.out _ _ _ A1.out (by decide) X9 _ _ hgx
       have hl28:(Instr.loadAt 28 (.pointer (some ⟨Y1,7,none⟩))).run Tryz.prog X9=.ok (vlV d.df) X9:=run_loadAt_mid (P:=Tryz.prog) X9 Y1 7 28 (vlL d.df) _ (fun j u hu=>by
       have hj:j<3:=(List.getElem?_eq_some_iff.1 hu).1
       rw [cell_blk hb28]
       match j,hj,hu with
       | 0,_,hu=>exact hu
       | 1,_,hu=>exact hu
       | 2,_,hu=>exact hu) Tryz.underlying28 rfl size28
       exact ⟨rfl,Runs.val _ (op_loadAt (show ρ (.tmp 81)=.pointer (some ⟨Y1,7,none⟩) from hr 16 81 rfl rfl) hl28) ⟨hg,fun _ _ _ q=>q,rfl⟩⟩
      ·intro ρ X9 fl hg hn hl hp ho hc hf hr
       rw [HNX.out]
       exact ⟨rfl,Runs.val _ (op_b50 (show ρ (.tmp 75)=.int .i64 (s.last+1) from hr 10 75 rfl rfl) (show ρ (.tmp 77)=.string d.column from hr 12 77 rfl rfl) (show ρ (.tmp 79)=.int .i64 d.ty from hr 14 79 rfl rfl) (show ρ (.tmp 80)=.int .i64 st from hr 15 80 rfl rfl) (show ρ (.tmp 82)=vlV d.df from hr 17 82 rfl rfl)) ⟨hg,fun _ _ _ q=>q,rfl⟩⟩
      ·intro ρ X9 fl hg hn hl hp ho hc hf hr
       have hgx:GW3 X0 X1 X2 X3 (fl 19) (fl 20) (fl 23) X9:=hg
       have h20f:fl 20=false:=(show fl 20=false from by cases q9:fl 20 with | false=>rfl | true=>exact absurd (hl 20 _ 19 rfl (by kernel_rfl) q9) (by rw [hn];decide))
       have h23f:fl 23=false:=(show fl 23=false from by cases q9:fl 23 with | false=>rfl | true=>exact absurd (hl 20 _ 19 rfl (by kernel_rfl) (hl 23 _ 20 rfl (by kernel_rfl) q9)) (by rw [hn];decide))
       rw [hn,h20f,h23f] at hgx
       have hX:X9=X0:=hgx
       refine ⟨rfl,Runs.val _ (op_s29 (show ρ (.tmp 83)=.agg (colA nx) from hr 18 83 rfl rfl)) ⟨?_,?_,(show Value.slice (some ⟨X9.heap.size,0,none⟩) 1 1=Value.slice (some ⟨X0.heap.size,0,none⟩) 1 1 from by rw [hX])⟩⟩
       ·show GW3 X0 X1 X2 X3 true (fl 20) (fl 23) (X9.alloc _)
        rw [h20f,h23f,hX]
        exact HX1.out.symm
       ·intro j hj u q9
        match j,hj,q9 with
         | 0,hj,q9=>exact q9
         | 1,hj,q9=>exact q9
         | 2,hj,q9=>exact q9
         | 3,hj,q9=>exact q9
         | 4,hj,q9=>exact q9
         | 5,hj,q9=>exact q9
         | 6,hj,q9=>exact q9
         | 7,hj,q9=>exact q9
         | 8,hj,q9=>exact q9
         | 9,hj,q9=>exact q9
         | 10,hj,q9=>exact q9
         | 11,hj,q9=>exact q9
         | 12,hj,q9=>exact q9
         | 13,hj,q9=>exact q9
         | 14,hj,q9=>exact q9
         | 15,hj,q9=>exact q9
         | 16,hj,q9=>exact q9
         | 17,hj,q9=>exact q9
         | 18,hj,q9=>exact q9
         | 19,hj,q9=>exact q9
         | 20,hj,q9=>exact q9
         | 21,hj,q9=>exact q9
         | 22,hj,q9=>exact q9
         | 23,hj,q9=>exact q9
         | m+24,_,q9=>exact q9
      ·intro ρ X9 fl hg hn hl hp ho hc hf hr
       have hgx:GW3 X0 X1 X2 X3 (fl 19) (fl 20) (fl 23) X9:=hg
       have hBt:fl 19=true:=hp 19 (by kernel_rfl)
       have h23f:fl 23=false:=(show fl 23=false from by cases q9:fl 23 with | false=>rfl | true=>exact absurd (hl 23 _ 20 rfl (by kernel_rfl) q9) (by rw [hn];decide))
       rw [hn,hBt,h23f] at hgx
       have hX:X9=X1:=hgx
       have hrun9:=RUN.out
       rw [←hX] at hrun9
       refine ⟨rfl,Runs.val _ (op_append29 (show ρ (.tmp 73)=.slice ca t.cols.length cc from hr 8 73 rfl rfl) (show ρ (.tmp 84)=.slice (some ⟨X0.heap.size,0,none⟩) 1 1 from hr 19 84 rfl rfl) hrun9) ⟨?_,?_,rfl⟩⟩
       ·show GW3 X0 X1 X2 X3 (fl 19) true (fl 23) X2
        rw [h23f]
        exact (rfl:X2=X2)
       ·intro j hj u q9
        match j,hj,q9 with
         | 0,hj,q9=>exact q9
         | 1,hj,q9=>exact q9
         | 2,hj,q9=>exact q9
         | 3,hj,q9=>exact q9
         | 4,hj,q9=>exact q9
         | 5,hj,q9=>exact q9
         | 6,hj,q9=>exact q9
         | 7,hj,q9=>exact q9
         | 8,hj,q9=>exact q9
         | 9,hj,q9=>exact q9
         | 10,hj,q9=>exact q9
         | 11,hj,q9=>exact q9
         | 12,hj,q9=>exact q9
         | 13,hj,q9=>exact q9
         | 14,hj,q9=>exact q9
         | 15,hj,q9=>exact q9
         | 16,hj,q9=>exact q9
         | 17,hj,q9=>exact q9
         | 18,hj,q9=>exact q9
         | 19,hj,q9=>exact q9
         | 20,hj,q9=>exact q9
         | 21,hj,q9=>exact q9
         | 22,hj,q9=>exact q9
         | 23,hj,q9=>exact q9
         | m+24,_,q9=>exact q9
      ·exact fun ρ X9 fl hg hn hl hp ho hc hf hr=>⟨rfl,Runs.val _ (op_i22z (show ρ (.tmp 66)=.slice (some ⟨TB,0,none⟩) G.length tcap from hr 1 66 rfl rfl) (show ρ (.tmp 67)=.int .i64 (i:Int) from hr 2 67 rfl rfl) HI6.out.2.1) ⟨hg,fun _ _ _ q=>q,rfl⟩⟩
      ·exact fun ρ X9 fl hg hn hl hp ho hc hf hr=>⟨rfl,Runs.val _ (op_f35_2 (show ρ (.tmp 86)=.pointer (some ⟨TB,i*5,none⟩) from hr 21 86 rfl rfl)) ⟨hg,fun _ _ _ q=>q,rfl⟩⟩
      ·intro ρ X9 fl hg hn hl hp ho hc hf hr
       have hgx:GW3 X0 X1 X2 X3 (fl 19) (fl 20) (fl 23) X9:=hg
       have hAt:fl 20=true:=hp 20 (by kernel_rfl)
       rw [hn,hAt] at hgx
       have hX:X9=X2:=hgx
       have hA9:=HT2.out
       rw [←hX] at hA9
       refine ⟨rfl,Runs.skips (op_store29 (show ρ (.tmp 87)=.pointer (some ⟨TB,i*5+2,none⟩) from hr 22 87 rfl rfl) (show ρ (.tmp 85)=.slice ad nl cap from hr 20 85 rfl rfl) ((cell_blk hA9 (i*5+2)).trans HOLD.out) (frozen_blk hA9 (i*5+2))) ⟨?_,?_,trivial⟩⟩
       ·show GW3 X0 X1 X2 X3 (fl 19) (fl 20) true (X9.setCell ⟨TB,i*5+2,none⟩ (.slice ad nl cap))
        rw [hX]
        exact HX3.out.symm
       ·intro j hj u q9
        match j,hj,q9 with
         | 0,hj,q9=>exact q9
         | 1,hj,q9=>exact q9
         | 2,hj,q9=>exact q9
         | 3,hj,q9=>exact q9
         | 4,hj,q9=>exact q9
         | 5,hj,q9=>exact q9
         | 6,hj,q9=>exact q9
         | 7,hj,q9=>exact q9
         | 8,hj,q9=>exact q9
         | 9,hj,q9=>exact q9
         | 10,hj,q9=>exact q9
         | 11,hj,q9=>exact q9
         | 12,hj,q9=>exact q9
         | 13,hj,q9=>exact q9
         | 14,hj,q9=>exact q9
         | 15,hj,q9=>exact q9
         | 16,hj,q9=>exact q9
         | 17,hj,q9=>exact q9
         | 18,hj,q9=>exact q9
         | 19,hj,q9=>exact q9
         | 20,hj,q9=>exact q9
         | 21,hj,q9=>exact q9
         | 22,hj,q9=>exact q9
         | 23,hj,q9=>exact q9
         | m+24,_,q9=>exact q9
     case end5 =>
      intro a9 X9 fl hfl hG9 hs9 hd9 ho9 hr9
      rw [hfl 23 (by decide)] at hG9
      have hX9:X9=X3:=hG9
      obtain ⟨x',hx',hxt⟩:=act_put hs9 hd9 ho9
      change a9=putAll _ x' [65,66,67,68,69,70,71,72,73,74,75,76,77,78,79,80,81,82,83,84,85,86,87] at hx'
      simp only [putAll,Act.put,List.setIfInBounds_toArray,List.set_cons_zero,List.set_cons_succ] at hx'
      clear hG9 hs9 hd9 ho9 hr9 hxt hfl
      subst hx'
      rw [hX9]
      clear hX9
      generalize x' 65=z65,x' 66=z66,x' 67=z67,x' 68=z68,x' 69=z69,x' 70=z70,x' 71=z71,x' 72=z72,x' 73=z73,x' 74=z74,x' 75=z75,x' 76=z76,x' 77=z77,x' 78=z78,x' 79=z79,x' 80=z80,x' 81=z81,x' 82=z82,x' 83=z83,x' 84=z84,x' 85=z85,x' 86=z86,x' 87=z87
      have hld:=load_row K30.out Tryz.underlying24 rfl size24
      obtain ⟨X4,e44,j4,f4⟩:=sets_row K32.out (#[.int .i64 (s.ver+1),.int .i64 (s.last+1),.slice (some ⟨TB,0,none⟩) G.length tcap]) rfl
      have hst:(Instr.storeAt 24 (.pointer (some ⟨Y2,0,none⟩)) (.agg #[.int .i64 (s.ver+1),.int .i64 (s.last+1),.slice (some ⟨TB,0,none⟩) G.length tcap])).run Tryz.prog X3=.ok () X4:=by
       rw [e44]
       exact store_row K32.out rfl size24 (by simp [Value.oneCell'])
      have J4:=lh j4
      have HE:Hid (Below B w X4):=lh (HB3.out.trans (f4.toBelow (fun k9 hk9 q9=>by have:=GE.out;have:=HBB.out;omega) (by have:=HB3.out.size;have:=HBB.out;omega)))
      have HD4:Hid (Dr X4 B G2 (.slice (some ⟨TB,0,none⟩) G.length tcap)):=lh (HD3.out.keep f4 (fun k9 hk9=>.inr (fun cs e tg=>by
       rw [hk9,K32.out] at tg
       simp only [Option.some.injEq,Obj.cells.injEq] at tg
       rw [←tg.2.1]
       decide)))
      have HK4:Hid (Kp24 w X4):=lh (fun k9 cs9 hk9=>by
       have h1:=HK24.out k9 cs9 hk9
       exact (f4.block k9 (blk_lt h1) (fun z=>by have:=blk_lt hk9;have:=GE.out;omega)).trans h1)
      clear e44 j4 f4
      go_wp2_with (first | (refine wpl_load _ rfl (by first | rfl | (simp [Act.eval];done)) hld ?_) | (refine wpl_store _ _ rfl (by first | rfl | (simp [Act.eval];done)) (by first | rfl | (simp [Act.eval];done)) hst ?_))
      refine bodyPost_ret (results_two rfl rfl rfl (load_var J4.out Tryz.underlying24 rfl size24)) rfl ?_
      refine CrAns.ok (s':=withC s i t (t.cols ++ [nx]) true) ?_ ?_ HD4.out HE.out HK4.out
      ·unfold changeT
       rw [if_pos (by rw [HKD.out,HK9.out])]
       unfold addL
       rw [HF8.out]
       simp only
       rw [if_neg HNM.out,if_neg HL8.out]
       unfold newC
       rw [if_pos (by rw [HKB.out,HFB.out];rfl)]
       simp only
       rw [if_neg HS0.out,HNX.out]
       rfl
      ·rw [HG2.out,List.map_set,HG.out,HGI.out]
       rfl
  ·skip
   have HK9:=lh hk
   clear hk
   rw [HK9.out] at e0
   have HR:Hid (changeT s d st i t=.error 151):=lh (by
    unfold changeT
    rw [if_neg (by rw [HKD.out,HK9.out];decide),if_neg (by rw [HKD.out,HK9.out];decide),if_neg (by rw [HKD.out,HK9.out];decide),if_pos (by rw [HKD.out,HK9.out])]
    unfold dropL
    rw [HF8.out])
   have hld:=load_row J0.out Tryz.underlying24 rfl size24
   obtain ⟨X4,e44,j4,f4⟩:=sets_row J2.out (#[.int .i64 (s.ver+1),.int .i64 s.last,.slice (some ⟨TB,0,none⟩) G.length tcap]) rfl
   have hst:(Instr.storeAt 24 (.pointer (some ⟨Y2,0,none⟩)) (.agg #[.int .i64 (s.ver+1),.int .i64 s.last,.slice (some ⟨TB,0,none⟩) G.length tcap])).run Tryz.prog w1=.ok () X4:=by
    rw [e44]
    exact store_row J2.out rfl size24 (by simp [Value.oneCell'])
   have J4:=lh j4
   have HE:Hid (Below w.heap.size w X4):=lh (HB.out.trans (f4.toBelow (fun k9 hk9 q9=>by have:=GE.out;omega) HB.out.size))
   clear e44 j4 f4 x0 x1 x2 y0 y1 y2 y3 y4 e2 e3 e4 e6 e7 e8 e9
   go_upto_region 17 with fail
   go_wp2_with (first | (refine wpl_load _ rfl (by first | rfl | (simp [Act.eval];done)) hld ?_) | (refine wpl_store _ _ rfl (by first | rfl | (simp [Act.eval];done)) (by first | rfl | (simp [Act.eval];done)) hst ?_))
   refine bodyPost_ret (results_two rfl rfl rfl (load_var J4.out Tryz.underlying24 rfl size24)) rfl ?_
   exact CrAns.err HR.out (by decide) HBB.out HE.out
 ·skip
  have HFQ:=lh q
  have HF8:=lh q8
  have HK:=lh hk
  have kk0:(0:Int)≤(k:Int):=by omega
  have kk1:¬ (k:Int)<0:=by omega
  have kk2:(k:Int)<(t.cols.length:Int):=by omega
  clear q q8 q9
  obtain ⟨xk,hxk⟩:∃ xk,t.cols[k]=xk:=⟨_,rfl⟩
  obtain ⟨sx,hsx⟩:∃ sx,xk.st=sx:=⟨_,rfl⟩
  have HXK:Hid ((t.cols[k]?.map Col.st)=some sx):=lh (by rw [List.getElem?_eq_getElem hk];subst hsx;subst hxk;rfl)
  have HXE:=lh (And.intro hxk hsx)
  clear hxk hsx hk
  have x0:V1.cell? ⟨Y0,0,none⟩=some (.int .i64 (s.ver+1)):=cell_blk J0.out 0
  have x1:V1.cell? ⟨Y0,1,none⟩=some (.int .i64 (s.last)):=cell_blk J0.out 1
  have x2:V1.cell? ⟨Y0,2,none⟩=some (.slice (some ⟨TB,0,none⟩) G.length tcap):=cell_blk J0.out 2
  have y0:V1.cell? ⟨Q,0,none⟩=some (.int .i64 t.id):=cell_blk JQ.out 0
  have y1:V1.cell? ⟨Q,1,none⟩=some (.string t.nm):=cell_blk JQ.out 1
  have y2:V1.cell? ⟨Q,2,none⟩=some (.slice ca t.cols.length cc):=cell_blk JQ.out 2
  have y3:V1.cell? ⟨Q,3,none⟩=some (.slice ia t.ixs.length ic):=cell_blk JQ.out 3
  have y4:V1.cell? ⟨Q,4,none⟩=some (.slice ka t.fks.length kc):=cell_blk JQ.out 4
  have e0:V1.cell? ⟨Y1,0,none⟩=some (.int .i64 kd):=cell_blk J1.out 0
  have e2:V1.cell? ⟨Y1,2,none⟩=some (.string d.name):=cell_blk J1.out 2
  have e3:V1.cell? ⟨Y1,3,none⟩=some (.string d.column):=cell_blk J1.out 3
  have e4:V1.cell? ⟨Y1,4,none⟩=some (.string d.parent):=cell_blk J1.out 4
  have e6:V1.cell? ⟨Y1,6,none⟩=some (.int .i64 d.ty):=cell_blk J1.out 6
  have e7:V1.cell? ⟨Y1,7,none⟩=some (.int .i64 d.df.k):=cell_blk J1.out 7
  have e8:V1.cell? ⟨Y1,8,none⟩=some (.int .i64 d.df.n):=cell_blk J1.out 8
  have e9:V1.cell? ⟨Y1,9,none⟩=some (.string d.df.s):=cell_blk J1.out 9
  have HOC:V1.ownsRow B 50 7 (.slice ca t.cols.length cc) t.cols.length (t.cols.flatMap colL):=by have:=HD.out.c G[i] (List.getElem_mem HI6.out.2.1);rw [HGI.out] at this;exact this
  have HOI:V1.ownsRow B 71 5 (.slice ia t.ixs.length ic) t.ixs.length (t.ixs.flatMap ixL):=by have:=HD.out.i G[i] (List.getElem_mem HI6.out.2.1);rw [HGI.out] at this;exact this
  have HOK:V1.ownsRow B 74 5 (.slice ka t.fks.length kc) t.fks.length (t.fks.flatMap fkL):=by have:=HD.out.k G[i] (List.getElem_mem HI6.out.2.1);rw [HGI.out] at this;exact this
  have hat:=colAt_any (w:=V1) (t:=t) ⟨Lr.own colL_len HOC,Lr.own ixL_len HOI,Lr.own fkL_len HOK⟩ d.column
  rw [HFQ.out] at hat
  clear HOC HOI HOK
  go_wp2_with (go_at_call 26;refine hat.mono ?_;rintro e w1 ⟨rfl,bw1⟩;refine Hid.out ?_)
  refine lh ?_
  clear x0 x1 x2 y0 y1 y2 y3 y4 e0 e2 e3 e4 e6 e7 e8 e9 hat
  have JQ':=lh ((bw1.block Q (blk_lt JQ.out)).trans JQ.out)
  have J0':=lh ((bw1.block Y0 (blk_lt J0.out)).trans J0.out)
  have J1':=lh ((bw1.block Y1 (blk_lt J1.out)).trans J1.out)
  have J2':=lh ((bw1.block Y2 (blk_lt J2.out)).trans J2.out)
  have HD':=lh (HD.out.below bw1)
  have HB':=lh (bgo HB.out bw1)
  clear JQ J0 J1 J2 HD HB bw1
  have JQ:=JQ'
  have J0:=J0'
  have J1:=J1'
  have J2:=J2'
  have HD:=HD'
  have HB:=HB'
  clear JQ' J0' J1' J2' HD' HB'
  have x0:w1.cell? ⟨Y0,0,none⟩=some (.int .i64 (s.ver+1)):=cell_blk J0.out 0
  have x1:w1.cell? ⟨Y0,1,none⟩=some (.int .i64 (s.last)):=cell_blk J0.out 1
  have x2:w1.cell? ⟨Y0,2,none⟩=some (.slice (some ⟨TB,0,none⟩) G.length tcap):=cell_blk J0.out 2
  have y0:w1.cell? ⟨Q,0,none⟩=some (.int .i64 t.id):=cell_blk JQ.out 0
  have y1:w1.cell? ⟨Q,1,none⟩=some (.string t.nm):=cell_blk JQ.out 1
  have y2:w1.cell? ⟨Q,2,none⟩=some (.slice ca t.cols.length cc):=cell_blk JQ.out 2
  have y3:w1.cell? ⟨Q,3,none⟩=some (.slice ia t.ixs.length ic):=cell_blk JQ.out 3
  have y4:w1.cell? ⟨Q,4,none⟩=some (.slice ka t.fks.length kc):=cell_blk JQ.out 4
  have e0:w1.cell? ⟨Y1,0,none⟩=some (.int .i64 kd):=cell_blk J1.out 0
  have e2:w1.cell? ⟨Y1,2,none⟩=some (.string d.name):=cell_blk J1.out 2
  have e3:w1.cell? ⟨Y1,3,none⟩=some (.string d.column):=cell_blk J1.out 3
  have e4:w1.cell? ⟨Y1,4,none⟩=some (.string d.parent):=cell_blk J1.out 4
  have e6:w1.cell? ⟨Y1,6,none⟩=some (.int .i64 d.ty):=cell_blk J1.out 6
  have e7:w1.cell? ⟨Y1,7,none⟩=some (.int .i64 d.df.k):=cell_blk J1.out 7
  have e8:w1.cell? ⟨Y1,8,none⟩=some (.int .i64 d.df.n):=cell_blk J1.out 8
  have e9:w1.cell? ⟨Y1,9,none⟩=some (.string d.df.s):=cell_blk J1.out 9
  obtain ⟨eb,eo,hea,hall⟩:∃ (eb eo:Nat),ca=some (⟨eb,eo,none⟩:Addr)∧Hid (∀ j (hj:j<t.cols.length) q u,(colL t.cols[j])[q]?=some u→w1.cell? ⟨eb,eo+j*7+q,none⟩=some u):=by
   have ho:w1.ownsRow B 50 7 (.slice ca t.cols.length cc) t.cols.length (t.cols.flatMap colL):=by have:=HD.out.c G[i] (List.getElem_mem HI6.out.2.1);rw [HGI.out] at this;exact this
   obtain ⟨_,_,ee,_,_,_,hcs9⟩:=Lr.own colL_len ho
   cases ee
   obtain ⟨b,o,cs,e9,_,_,_,_⟩:=hcs9 k HK.out
   refine ⟨b,o,e9,lh fun j hj q u hu=>?_⟩
   obtain ⟨b',o',cs',e9',_,h9,_,hh⟩:=hcs9 j hj
   rw [e9] at e9'
   cases e9'
   rw [h9] at hh
   exact hh q u hu
  subst hea
  have ysx:w1.cell? ⟨eb,eo+k*7+3,none⟩=some (.int .i64 sx):=by
   have:=hall.out k HK.out 3 _ rfl
   rw [←HXE.out.2,←HXE.out.1]
   exact this
  have HALL:=hall
  clear hall
  by_cases c3:kd=4∧sx=3
  ·skip
   have HK9:=lh c3.1
   have s3:=c3.2
   subst s3
   clear c3
   rw [HK9.out] at e0
   have HR:Hid (changeT s d st i t=.error 152):=lh (by
    unfold changeT
    rw [if_pos (by rw [HKD.out,HK9.out])]
    unfold addL
    rw [HF8.out]
    simp only
    rw [if_pos HXK.out])
   have hld:=load_row J0.out Tryz.underlying24 rfl size24
   obtain ⟨X4,e44,j4,f4⟩:=sets_row J2.out (#[.int .i64 (s.ver+1),.int .i64 s.last,.slice (some ⟨TB,0,none⟩) G.length tcap]) rfl
   have hst:(Instr.storeAt 24 (.pointer (some ⟨Y2,0,none⟩)) (.agg #[.int .i64 (s.ver+1),.int .i64 s.last,.slice (some ⟨TB,0,none⟩) G.length tcap])).run Tryz.prog w1=.ok () X4:=by
    rw [e44]
    exact store_row J2.out rfl size24 (by simp [Value.oneCell'])
   have J4:=lh j4
   have HE:Hid (Below w.heap.size w X4):=lh (HB.out.trans (f4.toBelow (fun k9 hk9 q9=>by have:=GE.out;omega) HB.out.size))
   clear e44 j4 f4 x0 x1 x2 y0 y1 y3 y4 e2 e3 e4 e6 e7 e8 e9
   go_upto_region 15 with fail
   go_wp2_with (first | (refine wpl_load _ rfl (by first | rfl | (simp [Act.eval];done)) hld ?_) | (refine wpl_store _ _ rfl (by first | rfl | (simp [Act.eval];done)) (by first | rfl | (simp [Act.eval];done)) hst ?_))
   refine bodyPost_ret (results_two rfl rfl rfl (load_var J4.out Tryz.underlying24 rfl size24)) rfl ?_
   exact CrAns.err HR.out (by decide) HBB.out HE.out
  ·skip
   have HC3:=lh c3
   clear c3
   rcases HK9.out with hk | hk
   ·skip
    have HK9:=lh hk
    clear hk
    rw [HK9.out] at e0
    have g3:(sx == 3)=false:=by simpa using fun q=>HC3.out ⟨HK9.out,q⟩
    have HR:Hid (changeT s d st i t=.ok (withC s i t (setAt st k (putC st) t.cols) false)):=lh (by unfold changeT;rw [if_pos (by rw [HKD.out,HK9.out])];unfold addL;rw [HF8.out];simp only;rw [if_neg (by rw [HXK.out];exact fun q=>HC3.out ⟨HK9.out,Option.some.inj q⟩)])
    obtain ⟨n,hn⟩:∃ n,t.cols.length=n:=⟨_,rfl⟩
    have hmn:(n:Int)≤9223372036854775807:=by have:=HPB.out;omega
    have hn8:n≤8:=by have:=HPB.out;omega
    have HN:=lh (And.intro hn hn8)
    rw [hn] at y2
    rw [hn] at kk2
    clear hn hn8
    rw [show t.cols.length=n from HN.out.1] at JQ
    go_upto_region 30 with fail
    clear e0 ysx x0 x1 y0 y1 y2 y3 y4 e2 e3 e4 e6 e7 e8 e9
    try clear g3
    go_wp2
    go_loopw [16,17] (fun lv iv wr=>∃ (j:Nat) (R:List Col),j≤n∧iv=.int .i64 (j:Int)∧R=lpX Col.st (putC st) k 0 (t.cols.take j)∧wr.ownsRow w1.heap.size 50 7 lv R.length (R.flatMap colL)∧Below w1.heap.size w1 wr) (fun _ iv _=>n - (intOf iv).toNat)
    case atStart=>exact ⟨0,[],Nat.zero_le _,rfl,rfl,World.ownsRow_nil _ _ 50 7,Below.refl _ _⟩
    case round =>
     obtain ⟨j,R,hj,rfl,hR,hrow,hb⟩:=hrel
     obtain ⟨V,rfl⟩:∃ V,V=wr:=⟨_,rfl⟩
     obtain ⟨la,lc,hsh⟩:=own_shape hrow
     subst hsh
     have hRl:R.length≤8:=by
      have h1:=lpX_len Col.st (putC st) k 0 (t.cols.take j)
      rw [←hR,List.length_take] at h1
      have:=HN.out
      omega
     have HB0:=lh hb
     have HROW:=lh hrow
     have HRR:=lh hR
     have HRL:=lh hRl
     have HJ:=lh hj
     have GQ:=lh ((hb.block Q (blk_lt JQ.out)).trans JQ.out)
     have yL:V.cell? ⟨Q,2,none⟩=some (.slice (some ⟨eb,eo,none⟩) n cc):=cell_blk GQ.out 2
     clear hb hrow hR hRl hj x2
     by_cases hlt:j<n
     ·skip
      have hjL:j<t.cols.length:=by rw [HN.out.1];exact hlt
      have j0:(0:Int)≤(j:Int):=by omega
      have j1:(j:Int)<(n:Int):=by omega
      obtain ⟨x,hx⟩:∃ x,t.cols[j]=x:=⟨_,rfl⟩
      have HXJ:=lh hx
      have hxs:x.st≠0:=by
       rw [←hx]
       exact HPB.out.2.2.2.2.2.1 _ (List.getElem_mem hjL)
      have hcx:∀ q u,(colL x)[q]?=some u→V.cell? ⟨eb,eo+j*7+q,none⟩=some u:=fun q u hu=>cell_on HB0.out (HALL.out j hjL q u (by subst hx;exact hu))
      have c0:V.cell? ⟨eb,eo+j*7,none⟩=some (.int .i64 x.id):=hcx 0 _ rfl
      have c1:V.cell? ⟨eb,eo+j*7+1,none⟩=some (.string x.nm):=hcx 1 _ rfl
      have c2:V.cell? ⟨eb,eo+j*7+2,none⟩=some (.int .i64 x.kd):=hcx 2 _ rfl
      have c3:V.cell? ⟨eb,eo+j*7+3,none⟩=some (.int .i64 x.st):=hcx 3 _ rfl
      have c4:V.cell? ⟨eb,eo+j*7+4,none⟩=some (.int .i64 x.df.k):=hcx 4 _ rfl
      have c5:V.cell? ⟨eb,eo+j*7+5,none⟩=some (.int .i64 x.df.n):=hcx 5 _ rfl
      have c6:V.cell? ⟨eb,eo+j*7+6,none⟩=some (.string x.df.s):=hcx 6 _ rfl
      obtain ⟨V2,hV2⟩:∃ V2,V2=V.alloc (.cells (colA x) 50):=⟨_,rfl⟩
      obtain ⟨E,hE⟩:∃ E,V.heap.size=E:=⟨_,rfl⟩
      have jE:V2.heap[E]?=some (.cells (colA x) 50 (0,0)):=by rw [hV2,←hE];exact heap_alloc_new V _
      have bV2:Below V.heap.size V V2:=by rw [hV2];exact bnew _ _
      have HV2:=lh hV2
      have HEE:=lh hE
      have JE:=lh jE
      have BV2:=lh bV2
      have HTK:Hid (t.cols.take (j+1)=t.cols.take (j+1)∧lpX Col.st (putC st) k 0 (t.cols.take (j+1))=R ++ stX Col.st (putC st) k j x):=lh ⟨rfl,by rw [lpX_take hjL,←HXJ.out,HRR.out]⟩
      have HXS:=lh hxs
      have kj0:((j:Int) == (k:Int))=decide (j=k):=by
       by_cases q:j=k
       ·subst q;simp
       ·have:¬ (j:Int)=(k:Int):=by omega
        simp [q,this]
      clear hcx hV2 hE jE bV2 hx hxs
      go_upto_region 35 with fail
      rw [←HV2.out,HEE.out]
      clear c0 c1 c2 c3 c4 c5 c6 yL
      by_cases jk:j=k
      ·skip
       have HJK:=lh jk
       rw [decide_eq_true jk] at kj0
       clear jk
       have g4:V2.cell? ⟨E,3,none⟩=some (.int .i64 x.st):=cell_blk JE.out 3
       have f4:V2.frozen? ⟨E,3,none⟩=false:=frozen_blk JE.out 3
       obtain ⟨V3,hV3⟩:∃ V3,V3=V2.setCell ⟨E,3,none⟩ (.int .i64 st):=⟨_,rfl⟩
       have jE3:V3.heap[E]?=some (.cells (colA (putC st x)) 50 (0,0)):=by rw [hV3];exact set_blk JE.out _
       have fV3:Fr V2 V3 (fun q9=>q9=E):=by rw [hV3];exact Fr.set (S:=fun q9=>q9=E) (a:=⟨E,3,none⟩) (Fr.refl _ _) (.inl rfl) _
       have hb2:=HB0.out.trans (BV2.out.mono HB0.out.size)
       have HB2:Hid (Below w1.heap.size w1 V3):=lh (hb2.trans (fV3.toBelow (fun q9 hq9 z=>by have:=HB0.out.size;have:=HEE.out;omega) hb2.size))
       have OW:Hid (V3.ownsRow w1.heap.size 50 7 (.slice la R.length lc) R.length (R.flatMap colL)):=lh (row_keep (own_below HROW.out BV2.out) fV3 (fun q9 hq9 z=>by have:=(own_ge HROW.out q9 hq9).2;have:=HEE.out;omega))
       have HV3:=lh hV3
       have JE3:=lh jE3
       clear hV3 jE3 fV3 hb2
       go_upto_region 37 with fail
       rw [←HV3.out]
       clear g4 f4
       have d0:V3.cell? ⟨E,0,none⟩=some (.int .i64 x.id):=cell_blk JE3.out 0
       have d1:V3.cell? ⟨E,1,none⟩=some (.string x.nm):=cell_blk JE3.out 1
       have d2:V3.cell? ⟨E,2,none⟩=some (.int .i64 x.kd):=cell_blk JE3.out 2
       have d3:V3.cell? ⟨E,3,none⟩=some (.int .i64 st):=cell_blk JE3.out 3
       have d4:V3.cell? ⟨E,4,none⟩=some (.int .i64 x.df.k):=cell_blk JE3.out 4
       have d5:V3.cell? ⟨E,5,none⟩=some (.int .i64 x.df.n):=cell_blk JE3.out 5
       have d6:V3.cell? ⟨E,6,none⟩=some (.string x.df.s):=cell_blk JE3.out 6
       by_cases s0:st=0
       ·have s1:(st == 0)=true:=by simpa using s0
        have s2:(st != 0)=false:=by simp [s0]
        have HR2:Hid (R=lpX Col.st (putC st) k 0 (t.cols.take (j+1))):=lh (by
         rw [HTK.out.2]
         unfold stX
         rw [if_pos HJK.out,if_pos (show (putC st x).st=0 from s0),List.append_nil])
        have HS0:=lh s0
        clear s0
        go_wp2
        go_roundw
        case rel=>exact ⟨j+1,_,hlt,by go_num,HR2.out,OW.out,HB2.out⟩
        case measure=>simp [intOf];omega
       ·have s1:(st == 0)=false:=by simpa using s0
        have s2:(st != 0)=true:=by simpa using s0
        have HS0:=lh s0
        clear s0
        obtain ⟨ad,cap,w',hrun,hnew,hfr,hob⟩:=pushC (own_mono OW.out (Nat.zero_le _)) (putC st x) (by have:=HRL.out;omega)
        have HN2:Hid (w'.ownsRow w1.heap.size 50 7 (.slice ad (R.length+1) cap) (R ++ [putC st x]).length ((R ++ [putC st x]).flatMap colL)):=lh (own_base hnew (fun q9 hq9=>by
         rcases hob q9 hq9 with z | z
         ·exact (own_ge OW.out q9 z).1
         ·have:=HB2.out.size
          omega))
        have HB3:Hid (Below w1.heap.size w1 w'):=lh (HB2.out.trans (hfr.toBelow (fun q9 hq9 z=>by have:=(own_ge OW.out q9 z).1;omega) HB2.out.size))
        have HR2:Hid (R ++ [putC st x]=lpX Col.st (putC st) k 0 (t.cols.take (j+1))):=lh (by
         rw [HTK.out.2]
         unfold stX
         rw [if_pos HJK.out,if_neg (show ¬ (putC st x).st=0 from HS0.out)])
        clear hnew hfr hob
        go_wp2_with (at_builtin;refine wpl_run2 _ _ rfl (by simp [Act.eval]) (by simp [Act.eval]) hrun ?_)
        go_roundw
        case rel=>exact ⟨j+1,_,hlt,by go_num,HR2.out,HN2.out,HB3.out⟩
        case measure=>simp [intOf];omega
      ·skip
       have HJK:=lh jk
       rw [decide_eq_false jk] at kj0
       clear jk
       have HB2:Hid (Below w1.heap.size w1 V2):=lh (HB0.out.trans (BV2.out.mono HB0.out.size))
       have OW:Hid (V2.ownsRow w1.heap.size 50 7 (.slice la R.length lc) R.length (R.flatMap colL)):=lh (own_below HROW.out BV2.out)
       obtain ⟨xs,hxs⟩:∃ xs,x.st=xs:=⟨_,rfl⟩
       have s1:(xs == 0)=false:=by rw [←hxs];simpa using HXS.out
       have s2:(xs != 0)=true:=by rw [←hxs];simpa using HXS.out
       have d0:V2.cell? ⟨E,0,none⟩=some (.int .i64 x.id):=cell_blk JE.out 0
       have d1:V2.cell? ⟨E,1,none⟩=some (.string x.nm):=cell_blk JE.out 1
       have d2:V2.cell? ⟨E,2,none⟩=some (.int .i64 x.kd):=cell_blk JE.out 2
       have d3:V2.cell? ⟨E,3,none⟩=some (.int .i64 x.st):=cell_blk JE.out 3
       have d4:V2.cell? ⟨E,4,none⟩=some (.int .i64 x.df.k):=cell_blk JE.out 4
       have d5:V2.cell? ⟨E,5,none⟩=some (.int .i64 x.df.n):=cell_blk JE.out 5
       have d6:V2.cell? ⟨E,6,none⟩=some (.string x.df.s):=cell_blk JE.out 6
       rw [hxs] at d3
       have HXS2:=lh hxs
       clear hxs
       obtain ⟨ad,cap,w',hrun,hnew,hfr,hob⟩:=pushC (own_mono OW.out (Nat.zero_le _)) x (by have:=HRL.out;omega)
       have HN2:Hid (w'.ownsRow w1.heap.size 50 7 (.slice ad (R.length+1) cap) (R ++ [x]).length ((R ++ [x]).flatMap colL)):=lh (own_base hnew (fun q9 hq9=>by
        rcases hob q9 hq9 with z | z
        ·exact (own_ge OW.out q9 z).1
        ·have:=HB2.out.size
         omega))
       have HB3:Hid (Below w1.heap.size w1 w'):=lh (HB2.out.trans (hfr.toBelow (fun q9 hq9 z=>by have:=(own_ge OW.out q9 z).1;omega) HB2.out.size))
       have HR2:Hid (R ++ [x]=lpX Col.st (putC st) k 0 (t.cols.take (j+1))):=lh (by
        rw [HTK.out.2]
        unfold stX
        rw [if_neg HJK.out,if_neg HXS.out])
       change (Builtin.append_ #[29,29] 29 #[.slice la R.length lc,.slice (some ⟨V2.heap.size,0,none⟩) 1 1]).run Tryz.prog (V2.alloc (.cells #[.int .i64 x.id,.string x.nm,.int .i64 x.kd,.int .i64 x.st,.int .i64 x.df.k,.int .i64 x.df.n,.string x.df.s] 50))=_ at hrun
       rw [HXS2.out] at hrun
       clear hnew hfr hob
       go_wp2_with (at_builtin;refine wpl_run2 _ _ rfl (by simp [Act.eval]) (by simp [Act.eval]) hrun ?_)
       go_roundw
       case rel=>exact ⟨j+1,_,hlt,by go_num,HR2.out,HN2.out,HB3.out⟩
       case measure=>simp [intOf];omega
     ·skip
      have j1:¬ (j:Int)<(n:Int):=by omega
      have hjn:j=n:=by have:=HJ.out;omega
      have HRF:Hid (R=setAt st k (putC st) t.cols):=lh (by
       rw [HRR.out,hjn,List.take_of_length_le (by rw [HN.out.1];exact Nat.le_refl _)]
       exact lpX_all HK.out (fun x hx=>HPB.out.2.2.2.2.2.1 x hx) (fun _=>rfl))
      have k0:(0:Int)≤(i:Int):=by omega
      have k1:(i:Int)<(G.length:Int):=by have:=HI6.out.2.1;omega
      have dV:=HD.out.below HB0.out
      obtain ⟨cT,hcT,_,_,_,_⟩:=row_blk (own_mono dV.row (Nat.zero_le _))
      have i0:=(HB0.out.block Y0 (blk_lt J0.out)).trans J0.out
      have i2:=(HB0.out.block Y2 (blk_lt J2.out)).trans J2.out
      have x2:V.cell? ⟨Y0,2,none⟩=some (.slice (some ⟨TB,0,none⟩) G.length tcap):=cell_blk i0 2
      have hold:cT[i*5+2]?=some (.slice (some ⟨eb,eo,none⟩) n cc):=by
       obtain ⟨_,_,e',_,_,_,hX⟩:=Lr.own gL_len dV.row
       cases e'
       obtain ⟨b,o,cs,e2,_,hE,_,hh⟩:=hX i HI6.out.2.1
       cases e2
       rw [hE] at hh
       have:=hh 2 _ (by rw [HGI.out];rfl)
       rw [Nat.zero_add,cell_blk hcT,HN.out.1] at this
       exact this
      have t0:V.cell? ⟨TB,i*5+2,none⟩=some (.slice (some ⟨eb,eo,none⟩) n cc):=(cell_blk hcT (i*5+2)).trans hold
      have t1:V.frozen? ⟨TB,i*5+2,none⟩=false:=frozen_blk hcT (i*5+2)
      obtain ⟨X3,hX3⟩:∃ X3,X3=V.setCell ⟨TB,i*5+2,none⟩ (.slice la R.length lc):=⟨_,rfl⟩
      have x3T:X3.heap[TB]?=some (.cells (cT.setIfInBounds (i*5+2) (.slice la R.length lc)) 35 (0,0)):=by rw [hX3];exact set_blk hcT _
      have fX3:Fr V X3 (fun q9=>q9=TB):=by rw [hX3];exact Fr.set (S:=fun q9=>q9=TB) (a:=⟨TB,i*5+2,none⟩) (Fr.refl _ _) (.inl rfl) _
      obtain ⟨G2,hG2⟩:∃ G2:List Gt,G2=G.set i (tbC G[i].1 R,.slice la R.length lc,G[i].2.2.1,G[i].2.2.2):=⟨_,rfl⟩
      have hsz:w.heap.size≤w1.heap.size:=HB.out.size
      have D3:Dr X3 B G2 (.slice (some ⟨TB,0,none⟩) G.length tcap):=by
       rw [hG2]
       refine HD.out.setC HI6.out.2.1 J0.out (by have:=HBB.out;omega) ((Fr.ofBelow _ HB0.out).trans fX3) (fun q9 z=>.inr (.inl (by rw [z];rfl))) (tab_row (own_mono HD.out.row (Nat.zero_le _)) ((HB0.out.block TB (own_ge HD.out.row TB rfl).2).symm.trans hcT) HI6.out.2.1 (by decide) x3T (by rw [HGI.out];rfl)) (own_mono (row_keep HROW.out fX3 (fun q9 hq9 z=>by
        obtain ⟨cs9,tg⟩:=own_tag HROW.out q9 hq9
        rw [z,hcT] at tg
        simp only [Option.some.injEq,Obj.cells.injEq] at tg
        exact absurd tg.2.1 (by decide))) (Nat.zero_le _)) ?_
       intro q9 hq9
       exact .inr ((own_ge HROW.out q9 hq9).1)
      have hBV:Below w.heap.size w V:=bgo HB.out HB0.out
      have B3:Below B w X3:=(hBV.mono HBB.out).trans (fX3.toBelow (fun q9 hq9 z=>by have:=(own_ge dV.row TB rfl).1;omega) (by have:=hBV.size;have:=HBB.out;omega))
      have k30:X3.heap[Y0]?=some (.cells #[.int .i64 (s.ver+1),.int .i64 s.last,.slice (some ⟨TB,0,none⟩) G.length tcap] 24 (0,0)):=(fX3.block Y0 (blk_lt i0) (fun z=>by rw [z,hcT] at i0;simp only [Option.some.injEq,Obj.cells.injEq] at i0;exact absurd i0.2.1 (by decide))).trans i0
      have k32:X3.heap[Y2]?=some (.cells #[.int .i64 0,.int .i64 0,.slice none 0 0] 24 (0,0)):=(fX3.block Y2 (blk_lt i2) (fun z=>by rw [z,hcT] at i2;simp only [Option.some.injEq,Obj.cells.injEq] at i2;exact absurd i2.2.1 (by decide))).trans i2
      have HX3:=lh hX3
      have hld:=load_row k30 Tryz.underlying24 rfl size24
      obtain ⟨X4,e44,j4,f4⟩:=sets_row k32 (#[.int .i64 (s.ver+1),.int .i64 s.last,.slice (some ⟨TB,0,none⟩) G.length tcap]) rfl
      have hst:(Instr.storeAt 24 (.pointer (some ⟨Y2,0,none⟩)) (.agg #[.int .i64 (s.ver+1),.int .i64 s.last,.slice (some ⟨TB,0,none⟩) G.length tcap])).run Tryz.prog X3=.ok () X4:=by
       rw [e44]
       exact store_row k32 rfl size24 (by simp [Value.oneCell'])
      have J4:=lh j4
      have HE:Hid (Below B w X4):=lh (B3.trans (f4.toBelow (fun k9 hk9 q9=>by have:=GE.out;have:=HBB.out;omega) (by have:=B3.size;have:=HBB.out;omega)))
      have HD4:Hid (Dr X4 B G2 (.slice (some ⟨TB,0,none⟩) G.length tcap)):=lh (D3.keep f4 (fun k9 hk9=>.inr (fun cs e tg=>by
       rw [hk9,k32] at tg
       simp only [Option.some.injEq,Obj.cells.injEq] at tg
       rw [←tg.2.1]
       decide)))
      have HK4:Hid (Kp24 w X4):=lh (fun k9 cs9 hk9=>by
       have h1:=(hBV.block k9 (blk_lt hk9)).trans hk9
       have h2:=(fX3.block k9 (blk_lt h1) (fun z=>by
        rw [z,hcT] at h1
        simp only [Option.some.injEq,Obj.cells.injEq] at h1
        exact absurd h1.2.1 (by decide))).trans h1
       exact (f4.block k9 (blk_lt h2) (fun z=>by have:=blk_lt hk9;have:=GE.out;omega)).trans h2)
      have HG2:=lh hG2
      clear e44 j4 f4 k30 k32 B3 hBV D3 hG2 hX3 fX3 x3T hold i0 i2 hcT dV hjn hsz
      go_upto_region 40 with fail
      rw [←HX3.out]
      clear x2 t0 t1 yL
      go_wp2_with (first | (refine wpl_load _ rfl (by first | rfl | (simp [Act.eval];done)) hld ?_) | (refine wpl_store _ _ rfl (by first | rfl | (simp [Act.eval];done)) (by first | rfl | (simp [Act.eval];done)) hst ?_))
      refine bodyPost_ret (results_two rfl rfl rfl (load_var J4.out Tryz.underlying24 rfl size24)) rfl ?_
      refine CrAns.ok (s':=withC s i t (setAt st k (putC st) t.cols) false) HR.out ?_ HD4.out HE.out HK4.out
      rw [HG2.out,List.map_set,HG.out,HGI.out,HRF.out]
      rfl
   ·skip
    have HK9:=lh hk
    clear hk
    rw [HK9.out] at e0
    obtain ⟨ci,hci⟩:∃ ci,xk.id=ci:=⟨_,rfl⟩
    have HCI:=lh hci
    have yci:w1.cell? ⟨eb,eo+k*7,none⟩=some (.int .i64 ci):=by
     have:=HALL.out k HK.out 0 _ rfl
     rw [←hci,←HXE.out.1]
     exact this
    clear hci
    obtain ⟨b0,hb0⟩:∃ b0,decide (k=0)=b0:=⟨_,rfl⟩
    have kz:((k:Int) == 0)=b0:=by
     rw [←hb0]
     by_cases q:k=0
     ·subst q;rfl
     ·simp [q]
    have HB9:=lh hb0
    clear hb0
    go_upto_region 20 with fail
    clear x0 x1 x2 y0 y1 y2 y3 y4 e0 e2 e3 e4 e6 e7 e8 e9 ysx kk2
    have YCI:=lh yci
    clear yci kz
    have OI:=lh (by have:=HD.out.i G[i] (List.getElem_mem HI6.out.2.1);rw [HGI.out] at this;exact this:w1.ownsRow B 71 5 (.slice ia t.ixs.length ic) t.ixs.length (t.ixs.flatMap ixL))
    have OK:=lh (by have:=HD.out.k G[i] (List.getElem_mem HI6.out.2.1);rw [HGI.out] at this;exact this:w1.ownsRow B 74 5 (.slice ka t.fks.length kc) t.fks.length (t.fks.flatMap fkL))
    obtain ⟨n1,hn1⟩:∃ n1,t.ixs.length=n1:=⟨_,rfl⟩
    obtain ⟨n2,hn2⟩:∃ n2,t.fks.length=n2:=⟨_,rfl⟩
    have hm1:(n1:Int)≤9223372036854775807:=by have:=HPB.out;omega
    have hm2:(n2:Int)≤9223372036854775807:=by have:=HPB.out;omega
    have HN1:=lh hn1
    have HN2:=lh hn2
    clear hn1 hn2
    go_wp2
    go_loopw [13,14] (fun uv iv wr=>∃ j:Nat,j≤n1∧iv=.int .i64 (j:Int)∧uv=.bool (b0 || (t.ixs.take j).any (fun x=>decide (x.col=ci)))∧Below w1.heap.size w1 wr) (fun _ iv _=>n1 - (intOf iv).toNat)
    case atStart=>exact ⟨0,Nat.zero_le _,rfl,by simp,by first | exact Below.refl _ _ | exact HBL.out⟩
    case round =>
     obtain ⟨j,hj,rfl,rfl,hb⟩:=hrel
     obtain ⟨W9,rfl⟩:∃ W9,W9=wr:=⟨_,rfl⟩
     have HBL:=lh hb
     have HJ:=lh hj
     have GQ:=lh ((hb.block Q (blk_lt JQ.out)).trans JQ.out)
     have yL:W9.cell? ⟨Q,3,none⟩=some (.slice ia n1 ic):=by rw [←HN1.out];exact cell_blk GQ.out 3
     clear hb hj
     by_cases hlt:j<n1
     ·skip
      have hjL:j<t.ixs.length:=by rw [HN1.out];exact hlt
      have j0:(0:Int)≤(j:Int):=by omega
      have j1:(j:Int)<(n1:Int):=by omega
      obtain ⟨u0,hu0⟩:∃ u0,(b0 || (t.ixs.take j).any (fun x=>decide (x.col=ci)))=u0:=⟨_,rfl⟩
      rw [hu0]
      obtain ⟨x,hx⟩:∃ x,t.ixs[j]=x:=⟨_,rfl⟩
      have HUN:Hid ((u0 || decide (x.col=ci))=(b0 || (t.ixs.take (j+1)).any (fun x=>decide (x.col=ci)))):=lh (by
       rw [←hu0,List.take_succ_eq_append_getElem hjL,List.any_append,←hx]
       simp only [List.any_cons,List.any_nil,Bool.or_false,Bool.or_assoc])
      obtain ⟨xb,xo,hxa,hxc⟩:∃ (xb xo:Nat),ia=some (⟨xb,xo,none⟩:Addr)∧w1.cell? ⟨xb,xo+j*5+2,none⟩=some (.int .i64 x.col):=by
       obtain ⟨_,_,ee,_,_,_,hcs9⟩:=Lr.own ixL_len OI.out
       cases ee
       obtain ⟨b,o,cs,e9,_,h9,_,hh⟩:=hcs9 j hjL
       rw [h9] at hh
       subst hx
       exact ⟨b,o,e9,hh 2 _ rfl⟩
      subst hxa
      have HXC:=lh (cell_on HBL.out hxc)
      have HYC:=lh (cell_on HBL.out YCI.out)
      have HYQ:Hid (W9.cell? ⟨Q,3,none⟩=some (.slice (some ⟨xb,xo,none⟩) n1 ic)∧W9.cell? ⟨Q,2,none⟩=some (.slice (some ⟨eb,eo,none⟩) t.cols.length cc)):=lh ⟨yL,cell_blk GQ.out 2⟩
      have HLT:=lh hlt
      clear hxc hu0
      go_upto_region 23 with fail
      clear yL
      refine wp_region_fo (fun _ X9=>Below W9.heap.size W9 X9) (fun X9 X'=>Below X9.heap.size X9 X') [
       fun v9 _=>v9=.bool u0,
       fun v9 _=>v9=.bool u0,
       fun v9 _=>v9=(match u0 with | true=>undef | false=>.pointer (some ⟨Q,3,none⟩)),
       fun v9 _=>v9=(match u0 with | true=>undef | false=>.slice (some ⟨xb,xo,none⟩) n1 ic),
       fun v9 _=>v9=(match u0 with | true=>undef | false=>.int .i64 (j:Int)),
       fun v9 _=>v9=(match u0 with | true=>undef | false=>.pointer (some ⟨xb,xo+j*5,none⟩)),
       fun v9 _=>v9=(match u0 with | true=>undef | false=>.pointer (some ⟨xb,xo+j*5+2,none⟩)),
       fun v9 _=>v9=(match u0 with | true=>undef | false=>.int .i64 x.col),
       fun v9 _=>v9=(match u0 with | true=>undef | false=>.pointer (some ⟨Q,2,none⟩)),
       fun v9 _=>v9=(match u0 with | true=>undef | false=>.slice (some ⟨eb,eo,none⟩) t.cols.length cc),
       fun v9 _=>v9=(match u0 with | true=>undef | false=>.int .i64 (k:Int)),
       fun v9 _=>v9=(match u0 with | true=>undef | false=>.pointer (some ⟨eb,eo+k*7,none⟩)),
       fun v9 _=>v9=(match u0 with | true=>undef | false=>.pointer (some ⟨eb,eo+k*7,none⟩)),
       fun v9 _=>v9=(match u0 with | true=>undef | false=>.int .i64 ci),
       fun v9 _=>v9=(match u0 with | true=>undef | false=>.bool (decide (x.col=ci))),
       fun v9 _=>v9=.bool (u0 || decide (x.col=ci)),
       fun v9 _=>v9=.bool (u0 || decide (x.col=ci))]
       (by kernel_rfl) (by kernel_rfl) (by kernel_rfl) ?st ?g0 ?os ?en
      case st=>exact ⟨fun _ _ _ _ h=>h,fun _ _ _ _ h=>h,fun _ _ _ _ h=>h,fun _ _ _ _ h=>h,fun _ _ _ _ h=>h,fun _ _ _ _ h=>h,fun _ _ _ _ h=>h,fun _ _ _ _ h=>h,fun _ _ _ _ h=>h,fun _ _ _ _ h=>h,fun _ _ _ _ h=>h,fun _ _ _ _ h=>h,fun _ _ _ _ h=>h,fun _ _ _ _ h=>h,fun _ _ _ _ h=>h,fun _ _ _ _ h=>h,fun _ _ _ _ h=>h,trivial⟩
      case g0=>exact ⟨rfl,rfl,rfl,Nat.le_refl _,fun _ _=>rfl⟩
      case os =>
       refine ⟨?_,?_,?_,?_,?_,?_,?_,?_,?_,?_,?_,?_,?_,?_,?_,?_,?_,trivial⟩
       ·intro ρ X9 fl hg hn hl hp ho ho2 hc hf hr
        have h16:fl 16=false:=by
         cases h:fl 16 with
         | false=>rfl
         | true=>exact absurd (hl 1 _ 0 rfl (by kernel_rfl) (hl 15 _ 1 rfl (by kernel_rfl) (hl 16 _ 15 rfl (by kernel_rfl) h))) (by rw [hn];decide)
        exact .inl ⟨rfl,Runs.val _ (op_move (show ρ (.tmp 13)=.bool u0 from ho2 16 13 rfl h16)) ⟨hg,Below.refl _ _,rfl⟩⟩
       ·exact fun ρ X9 fl hg hn hl hp ho ho2 hc hf hr=>.inl ⟨rfl,Runs.val _ (op_move (show ρ (.tmp 117)=.bool u0 from hr 0 117 rfl rfl)) ⟨hg,Below.refl _ _,rfl⟩⟩
       ·cases u0 with
        | false=>exact fun ρ X9 fl hg hn hl hp ho ho2 hc hf hr=>.inr (.inl ⟨1,118,false,fun _=>rfl,rfl,hr 1 118 rfl rfl,Runs.val _ (op_f35_3 (show ρ (.tmp 10)=.pointer (some ⟨Q,0,none⟩) from ho 10 rfl)) ⟨hg,Below.refl _ _,rfl⟩⟩)
        | true=>exact fun ρ X9 fl hg hn hl hp ho ho2 hc hf hr=>.inr (.inr ⟨1,118,false,fun _=>rfl,rfl,(by rw [show ρ (.tmp 118)=.bool true from hr 1 118 rfl rfl];simp),hg,Below.refl _ _,rfl⟩)
       ·cases u0 with
        | false=>exact fun ρ X9 fl hg hn hl hp ho ho2 hc hf hr=>.inr (.inl ⟨1,118,false,fun _=>rfl,rfl,hr 1 118 rfl rfl,Runs.val _ (op_load32 (show ρ (.tmp 119)=.pointer (some ⟨Q,3,none⟩) from hr 2 119 rfl rfl) (cell_on hg HYQ.out.1)) ⟨hg,Below.refl _ _,rfl⟩⟩)
        | true=>exact fun ρ X9 fl hg hn hl hp ho ho2 hc hf hr=>.inr (.inr ⟨1,118,false,fun _=>rfl,rfl,(by rw [show ρ (.tmp 118)=.bool true from hr 1 118 rfl rfl];simp),hg,Below.refl _ _,rfl⟩)
       ·cases u0 with
        | false=>exact fun ρ X9 fl hg hn hl hp ho ho2 hc hf hr=>.inr (.inl ⟨1,118,false,fun _=>rfl,rfl,hr 1 118 rfl rfl,Runs.val _ (op_move (show ρ (.tmp 14)=.int .i64 (j:Int) from ho 14 rfl)) ⟨hg,Below.refl _ _,rfl⟩⟩)
        | true=>exact fun ρ X9 fl hg hn hl hp ho ho2 hc hf hr=>.inr (.inr ⟨1,118,false,fun _=>rfl,rfl,(by rw [show ρ (.tmp 118)=.bool true from hr 1 118 rfl rfl];simp),hg,Below.refl _ _,rfl⟩)
       ·cases u0 with
        | false=>exact fun ρ X9 fl hg hn hl hp ho ho2 hc hf hr=>.inr (.inl ⟨1,118,false,fun _=>rfl,rfl,hr 1 118 rfl rfl,Runs.val _ (op_i32 (show ρ (.tmp 120)=.slice (some ⟨xb,xo,none⟩) n1 ic from hr 3 120 rfl rfl) (show ρ (.tmp 121)=.int .i64 (j:Int) from hr 4 121 rfl rfl) HLT.out) ⟨hg,Below.refl _ _,rfl⟩⟩)
        | true=>exact fun ρ X9 fl hg hn hl hp ho ho2 hc hf hr=>.inr (.inr ⟨1,118,false,fun _=>rfl,rfl,(by rw [show ρ (.tmp 118)=.bool true from hr 1 118 rfl rfl];simp),hg,Below.refl _ _,rfl⟩)
       ·cases u0 with
        | false=>exact fun ρ X9 fl hg hn hl hp ho ho2 hc hf hr=>.inr (.inl ⟨1,118,false,fun _=>rfl,rfl,hr 1 118 rfl rfl,Runs.val _ (op_f71_2 (show ρ (.tmp 122)=.pointer (some ⟨xb,xo+j*5,none⟩) from hr 5 122 rfl rfl)) ⟨hg,Below.refl _ _,rfl⟩⟩)
        | true=>exact fun ρ X9 fl hg hn hl hp ho ho2 hc hf hr=>.inr (.inr ⟨1,118,false,fun _=>rfl,rfl,(by rw [show ρ (.tmp 118)=.bool true from hr 1 118 rfl rfl];simp),hg,Below.refl _ _,rfl⟩)
       ·cases u0 with
        | false=>exact fun ρ X9 fl hg hn hl hp ho ho2 hc hf hr=>.inr (.inl ⟨1,118,false,fun _=>rfl,rfl,hr 1 118 rfl rfl,Runs.val _ (op_load3 (show ρ (.tmp 123)=.pointer (some ⟨xb,xo+j*5+2,none⟩) from hr 6 123 rfl rfl) (cell_on hg HXC.out)) ⟨hg,Below.refl _ _,rfl⟩⟩)
        | true=>exact fun ρ X9 fl hg hn hl hp ho ho2 hc hf hr=>.inr (.inr ⟨1,118,false,fun _=>rfl,rfl,(by rw [show ρ (.tmp 118)=.bool true from hr 1 118 rfl rfl];simp),hg,Below.refl _ _,rfl⟩)
       ·cases u0 with
        | false=>exact fun ρ X9 fl hg hn hl hp ho ho2 hc hf hr=>.inr (.inl ⟨1,118,false,fun _=>rfl,rfl,hr 1 118 rfl rfl,Runs.val _ (op_f35_2 (show ρ (.tmp 10)=.pointer (some ⟨Q,0,none⟩) from ho 10 rfl)) ⟨hg,Below.refl _ _,rfl⟩⟩)
        | true=>exact fun ρ X9 fl hg hn hl hp ho ho2 hc hf hr=>.inr (.inr ⟨1,118,false,fun _=>rfl,rfl,(by rw [show ρ (.tmp 118)=.bool true from hr 1 118 rfl rfl];simp),hg,Below.refl _ _,rfl⟩)
       ·cases u0 with
        | false=>exact fun ρ X9 fl hg hn hl hp ho ho2 hc hf hr=>.inr (.inl ⟨1,118,false,fun _=>rfl,rfl,hr 1 118 rfl rfl,Runs.val _ (op_load29 (show ρ (.tmp 125)=.pointer (some ⟨Q,2,none⟩) from hr 8 125 rfl rfl) (cell_on hg HYQ.out.2)) ⟨hg,Below.refl _ _,rfl⟩⟩)
        | true=>exact fun ρ X9 fl hg hn hl hp ho ho2 hc hf hr=>.inr (.inr ⟨1,118,false,fun _=>rfl,rfl,(by rw [show ρ (.tmp 118)=.bool true from hr 1 118 rfl rfl];simp),hg,Below.refl _ _,rfl⟩)
       ·cases u0 with
        | false=>exact fun ρ X9 fl hg hn hl hp ho ho2 hc hf hr=>.inr (.inl ⟨1,118,false,fun _=>rfl,rfl,hr 1 118 rfl rfl,Runs.val _ (op_move (show ρ (.tmp 11)=.int .i64 (k:Int) from ho 11 rfl)) ⟨hg,Below.refl _ _,rfl⟩⟩)
        | true=>exact fun ρ X9 fl hg hn hl hp ho ho2 hc hf hr=>.inr (.inr ⟨1,118,false,fun _=>rfl,rfl,(by rw [show ρ (.tmp 118)=.bool true from hr 1 118 rfl rfl];simp),hg,Below.refl _ _,rfl⟩)
       ·cases u0 with
        | false=>exact fun ρ X9 fl hg hn hl hp ho ho2 hc hf hr=>.inr (.inl ⟨1,118,false,fun _=>rfl,rfl,hr 1 118 rfl rfl,Runs.val _ (op_i29 (show ρ (.tmp 126)=.slice (some ⟨eb,eo,none⟩) t.cols.length cc from hr 9 126 rfl rfl) (show ρ (.tmp 127)=.int .i64 (k:Int) from hr 10 127 rfl rfl) HK.out) ⟨hg,Below.refl _ _,rfl⟩⟩)
        | true=>exact fun ρ X9 fl hg hn hl hp ho ho2 hc hf hr=>.inr (.inr ⟨1,118,false,fun _=>rfl,rfl,(by rw [show ρ (.tmp 118)=.bool true from hr 1 118 rfl rfl];simp),hg,Below.refl _ _,rfl⟩)
       ·cases u0 with
        | false=>exact fun ρ X9 fl hg hn hl hp ho ho2 hc hf hr=>.inr (.inl ⟨1,118,false,fun _=>rfl,rfl,hr 1 118 rfl rfl,Runs.val _ (op_f50_0 (show ρ (.tmp 128)=.pointer (some ⟨eb,eo+k*7,none⟩) from hr 11 128 rfl rfl)) ⟨hg,Below.refl _ _,rfl⟩⟩)
        | true=>exact fun ρ X9 fl hg hn hl hp ho ho2 hc hf hr=>.inr (.inr ⟨1,118,false,fun _=>rfl,rfl,(by rw [show ρ (.tmp 118)=.bool true from hr 1 118 rfl rfl];simp),hg,Below.refl _ _,rfl⟩)
       ·cases u0 with
        | false=>exact fun ρ X9 fl hg hn hl hp ho ho2 hc hf hr=>.inr (.inl ⟨1,118,false,fun _=>rfl,rfl,hr 1 118 rfl rfl,Runs.val _ (op_load3 (show ρ (.tmp 129)=.pointer (some ⟨eb,eo+k*7,none⟩) from hr 12 129 rfl rfl) (cell_on hg HYC.out)) ⟨hg,Below.refl _ _,rfl⟩⟩)
        | true=>exact fun ρ X9 fl hg hn hl hp ho ho2 hc hf hr=>.inr (.inr ⟨1,118,false,fun _=>rfl,rfl,(by rw [show ρ (.tmp 118)=.bool true from hr 1 118 rfl rfl];simp),hg,Below.refl _ _,rfl⟩)
       ·cases u0 with
        | false=>exact fun ρ X9 fl hg hn hl hp ho ho2 hc hf hr=>.inr (.inl ⟨1,118,false,fun _=>rfl,rfl,hr 1 118 rfl rfl,Runs.val _ (op_eql3 (show ρ (.tmp 124)=.int .i64 x.col from hr 7 124 rfl rfl) (show ρ (.tmp 130)=.int .i64 ci from hr 13 130 rfl rfl) rfl) ⟨hg,Below.refl _ _,rfl⟩⟩)
        | true=>exact fun ρ X9 fl hg hn hl hp ho ho2 hc hf hr=>.inr (.inr ⟨1,118,false,fun _=>rfl,rfl,(by rw [show ρ (.tmp 118)=.bool true from hr 1 118 rfl rfl];simp),hg,Below.refl _ _,rfl⟩)
       ·cases u0 with
        | false=>exact fun ρ X9 fl hg hn hl hp ho ho2 hc hf hr=>.inl ⟨rfl,Runs.val _ (op_pick (show ρ (.tmp 118)=.bool false from hr 1 118 rfl rfl) (show ρ (.tmp 131)=.bool (decide (x.col=ci)) from hr 14 131 rfl rfl)) ⟨hg,Below.refl _ _,rfl⟩⟩
        | true=>exact fun ρ X9 fl hg hn hl hp ho ho2 hc hf hr=>.inl ⟨rfl,Runs.val _ (op_pick (show ρ (.tmp 118)=.bool true from hr 1 118 rfl rfl) (hc _)) ⟨hg,Below.refl _ _,rfl⟩⟩
       ·exact fun ρ X9 fl hg hn hl hp ho ho2 hc hf hr=>.inl ⟨rfl,Runs.val _ (op_assign (show ρ (.tmp 132)=.bool (u0 || decide (x.col=ci)) from hr 15 132 rfl rfl)) ⟨hg,Below.refl _ _,rfl⟩⟩
      case en =>
       intro a9 N9 fl hfl b9 hs9 hd9 ho9 hr9
       obtain ⟨x9,hx9,hxt⟩:=act_put hs9 hd9 ho9
       have p13:x9 13=.bool (u0 || decide (x.col=ci)):=(hxt 13).symm.trans (hr9 16 13 rfl)
       change a9=putAll _ x9 [117,118,119,120,121,122,123,124,125,126,127,128,129,130,131,132,13] at hx9
       simp only [putAll,Act.put,List.setIfInBounds_toArray,List.set_cons_zero,List.set_cons_succ,p13] at hx9
       clear hs9 hd9 ho9 hr9 hxt hfl p13
       subst hx9
       generalize x9 117=z117,x9 118=z118,x9 119=z119,x9 120=z120,x9 121=z121,x9 122=z122,x9 123=z123,x9 124=z124,x9 125=z125,x9 126=z126,x9 127=z127,x9 128=z128,x9 129=z129,x9 130=z130,x9 131=z131,x9 132=z132
       rw [HUN.out]
       have HB8:=lh (bgo HBL.out b9)
       clear b9
       go_wp2
       go_roundw
       case rel=>exact ⟨j+1,hlt,by go_num,rfl,HB8.out⟩
       case measure=>simp [intOf];omega
     ·skip
      have j1:¬ (j:Int)<(n1:Int):=by omega
      have hjn:j=n1:=by have:=HJ.out;omega
      have HTA:Hid (t.ixs.take j=t.ixs):=lh (by rw [hjn,←HN1.out];exact List.take_length)
      rw [HTA.out]
      clear hjn hlt
      go_upto_region 24 with fail
      clear yL j1
      obtain ⟨b1,hb1⟩:∃ b1,(b0 || t.ixs.any (fun x=>decide (x.col=ci)))=b1:=⟨_,rfl⟩
      have HB1:=lh hb1
      rw [hb1]
      clear hb1
      go_wp2
      go_loopw [13,15] (fun uv iv wr=>∃ j:Nat,j≤n2∧iv=.int .i64 (j:Int)∧uv=.bool (b1 || (t.fks.take j).any (fun x=>decide (x.col=ci)))∧Below w1.heap.size w1 wr) (fun _ iv _=>n2 - (intOf iv).toNat)
      case atStart=>exact ⟨0,Nat.zero_le _,rfl,by simp,by first | exact Below.refl _ _ | exact HBL.out⟩
      case round =>
       obtain ⟨j,hj,rfl,rfl,hb⟩:=hrel
       obtain ⟨W9,rfl⟩:∃ W9,W9=wr:=⟨_,rfl⟩
       have HBL:=lh hb
       have HJ:=lh hj
       have GQ:=lh ((hb.block Q (blk_lt JQ.out)).trans JQ.out)
       have yL:W9.cell? ⟨Q,4,none⟩=some (.slice ka n2 kc):=by rw [←HN2.out];exact cell_blk GQ.out 4
       clear hb hj
       by_cases hlt:j<n2
       ·skip
        have hjL:j<t.fks.length:=by rw [HN2.out];exact hlt
        have j0:(0:Int)≤(j:Int):=by omega
        have j1:(j:Int)<(n2:Int):=by omega
        obtain ⟨u0,hu0⟩:∃ u0,(b1 || (t.fks.take j).any (fun x=>decide (x.col=ci)))=u0:=⟨_,rfl⟩
        rw [hu0]
        obtain ⟨x,hx⟩:∃ x,t.fks[j]=x:=⟨_,rfl⟩
        have HUN:Hid ((u0 || decide (x.col=ci))=(b1 || (t.fks.take (j+1)).any (fun x=>decide (x.col=ci)))):=lh (by
         rw [←hu0,List.take_succ_eq_append_getElem hjL,List.any_append,←hx]
         simp only [List.any_cons,List.any_nil,Bool.or_false,Bool.or_assoc])
        obtain ⟨xb,xo,hxa,hxc⟩:∃ (xb xo:Nat),ka=some (⟨xb,xo,none⟩:Addr)∧w1.cell? ⟨xb,xo+j*5+2,none⟩=some (.int .i64 x.col):=by
         obtain ⟨_,_,ee,_,_,_,hcs9⟩:=Lr.own fkL_len OK.out
         cases ee
         obtain ⟨b,o,cs,e9,_,h9,_,hh⟩:=hcs9 j hjL
         rw [h9] at hh
         subst hx
         exact ⟨b,o,e9,hh 2 _ rfl⟩
        subst hxa
        have HXC:=lh (cell_on HBL.out hxc)
        have HYC:=lh (cell_on HBL.out YCI.out)
        have HYQ:Hid (W9.cell? ⟨Q,4,none⟩=some (.slice (some ⟨xb,xo,none⟩) n2 kc)∧W9.cell? ⟨Q,2,none⟩=some (.slice (some ⟨eb,eo,none⟩) t.cols.length cc)):=lh ⟨yL,cell_blk GQ.out 2⟩
        have HLT:=lh hlt
        clear hxc hu0
        go_upto_region 27 with fail
        clear yL
        refine wp_region_fo (fun _ X9=>Below W9.heap.size W9 X9) (fun X9 X'=>Below X9.heap.size X9 X') [
         fun v9 _=>v9=.bool u0,
         fun v9 _=>v9=.bool u0,
         fun v9 _=>v9=(match u0 with | true=>undef | false=>.pointer (some ⟨Q,4,none⟩)),
         fun v9 _=>v9=(match u0 with | true=>undef | false=>.slice (some ⟨xb,xo,none⟩) n2 kc),
         fun v9 _=>v9=(match u0 with | true=>undef | false=>.int .i64 (j:Int)),
         fun v9 _=>v9=(match u0 with | true=>undef | false=>.pointer (some ⟨xb,xo+j*5,none⟩)),
         fun v9 _=>v9=(match u0 with | true=>undef | false=>.pointer (some ⟨xb,xo+j*5+2,none⟩)),
         fun v9 _=>v9=(match u0 with | true=>undef | false=>.int .i64 x.col),
         fun v9 _=>v9=(match u0 with | true=>undef | false=>.pointer (some ⟨Q,2,none⟩)),
         fun v9 _=>v9=(match u0 with | true=>undef | false=>.slice (some ⟨eb,eo,none⟩) t.cols.length cc),
         fun v9 _=>v9=(match u0 with | true=>undef | false=>.int .i64 (k:Int)),
         fun v9 _=>v9=(match u0 with | true=>undef | false=>.pointer (some ⟨eb,eo+k*7,none⟩)),
         fun v9 _=>v9=(match u0 with | true=>undef | false=>.pointer (some ⟨eb,eo+k*7,none⟩)),
         fun v9 _=>v9=(match u0 with | true=>undef | false=>.int .i64 ci),
         fun v9 _=>v9=(match u0 with | true=>undef | false=>.bool (decide (x.col=ci))),
         fun v9 _=>v9=.bool (u0 || decide (x.col=ci)),
         fun v9 _=>v9=.bool (u0 || decide (x.col=ci))]
         (by kernel_rfl) (by kernel_rfl) (by kernel_rfl) ?st ?g0 ?os ?en
        case st=>exact ⟨fun _ _ _ _ h=>h,fun _ _ _ _ h=>h,fun _ _ _ _ h=>h,fun _ _ _ _ h=>h,fun _ _ _ _ h=>h,fun _ _ _ _ h=>h,fun _ _ _ _ h=>h,fun _ _ _ _ h=>h,fun _ _ _ _ h=>h,fun _ _ _ _ h=>h,fun _ _ _ _ h=>h,fun _ _ _ _ h=>h,fun _ _ _ _ h=>h,fun _ _ _ _ h=>h,fun _ _ _ _ h=>h,fun _ _ _ _ h=>h,fun _ _ _ _ h=>h,trivial⟩
        case g0=>exact ⟨rfl,rfl,rfl,Nat.le_refl _,fun _ _=>rfl⟩
        case os =>
         refine ⟨?_,?_,?_,?_,?_,?_,?_,?_,?_,?_,?_,?_,?_,?_,?_,?_,?_,trivial⟩
         ·intro ρ X9 fl hg hn hl hp ho ho2 hc hf hr
          have h16:fl 16=false:=by
           cases h:fl 16 with
           | false=>rfl
           | true=>exact absurd (hl 1 _ 0 rfl (by kernel_rfl) (hl 15 _ 1 rfl (by kernel_rfl) (hl 16 _ 15 rfl (by kernel_rfl) h))) (by rw [hn];decide)
          exact .inl ⟨rfl,Runs.val _ (op_move (show ρ (.tmp 13)=.bool u0 from ho2 16 13 rfl h16)) ⟨hg,Below.refl _ _,rfl⟩⟩
         ·exact fun ρ X9 fl hg hn hl hp ho ho2 hc hf hr=>.inl ⟨rfl,Runs.val _ (op_move (show ρ (.tmp 140)=.bool u0 from hr 0 140 rfl rfl)) ⟨hg,Below.refl _ _,rfl⟩⟩
         ·cases u0 with
          | false=>exact fun ρ X9 fl hg hn hl hp ho ho2 hc hf hr=>.inr (.inl ⟨1,141,false,fun _=>rfl,rfl,hr 1 141 rfl rfl,Runs.val _ (op_f35_4 (show ρ (.tmp 10)=.pointer (some ⟨Q,0,none⟩) from ho 10 rfl)) ⟨hg,Below.refl _ _,rfl⟩⟩)
          | true=>exact fun ρ X9 fl hg hn hl hp ho ho2 hc hf hr=>.inr (.inr ⟨1,141,false,fun _=>rfl,rfl,(by rw [show ρ (.tmp 141)=.bool true from hr 1 141 rfl rfl];simp),hg,Below.refl _ _,rfl⟩)
         ·cases u0 with
          | false=>exact fun ρ X9 fl hg hn hl hp ho ho2 hc hf hr=>.inr (.inl ⟨1,141,false,fun _=>rfl,rfl,hr 1 141 rfl rfl,Runs.val _ (op_load33 (show ρ (.tmp 142)=.pointer (some ⟨Q,4,none⟩) from hr 2 142 rfl rfl) (cell_on hg HYQ.out.1)) ⟨hg,Below.refl _ _,rfl⟩⟩)
          | true=>exact fun ρ X9 fl hg hn hl hp ho ho2 hc hf hr=>.inr (.inr ⟨1,141,false,fun _=>rfl,rfl,(by rw [show ρ (.tmp 141)=.bool true from hr 1 141 rfl rfl];simp),hg,Below.refl _ _,rfl⟩)
         ·cases u0 with
          | false=>exact fun ρ X9 fl hg hn hl hp ho ho2 hc hf hr=>.inr (.inl ⟨1,141,false,fun _=>rfl,rfl,hr 1 141 rfl rfl,Runs.val _ (op_move (show ρ (.tmp 15)=.int .i64 (j:Int) from ho 15 rfl)) ⟨hg,Below.refl _ _,rfl⟩⟩)
          | true=>exact fun ρ X9 fl hg hn hl hp ho ho2 hc hf hr=>.inr (.inr ⟨1,141,false,fun _=>rfl,rfl,(by rw [show ρ (.tmp 141)=.bool true from hr 1 141 rfl rfl];simp),hg,Below.refl _ _,rfl⟩)
         ·cases u0 with
          | false=>exact fun ρ X9 fl hg hn hl hp ho ho2 hc hf hr=>.inr (.inl ⟨1,141,false,fun _=>rfl,rfl,hr 1 141 rfl rfl,Runs.val _ (op_i33 (show ρ (.tmp 143)=.slice (some ⟨xb,xo,none⟩) n2 kc from hr 3 143 rfl rfl) (show ρ (.tmp 144)=.int .i64 (j:Int) from hr 4 144 rfl rfl) HLT.out) ⟨hg,Below.refl _ _,rfl⟩⟩)
          | true=>exact fun ρ X9 fl hg hn hl hp ho ho2 hc hf hr=>.inr (.inr ⟨1,141,false,fun _=>rfl,rfl,(by rw [show ρ (.tmp 141)=.bool true from hr 1 141 rfl rfl];simp),hg,Below.refl _ _,rfl⟩)
         ·cases u0 with
          | false=>exact fun ρ X9 fl hg hn hl hp ho ho2 hc hf hr=>.inr (.inl ⟨1,141,false,fun _=>rfl,rfl,hr 1 141 rfl rfl,Runs.val _ (op_f74_2 (show ρ (.tmp 145)=.pointer (some ⟨xb,xo+j*5,none⟩) from hr 5 145 rfl rfl)) ⟨hg,Below.refl _ _,rfl⟩⟩)
          | true=>exact fun ρ X9 fl hg hn hl hp ho ho2 hc hf hr=>.inr (.inr ⟨1,141,false,fun _=>rfl,rfl,(by rw [show ρ (.tmp 141)=.bool true from hr 1 141 rfl rfl];simp),hg,Below.refl _ _,rfl⟩)
         ·cases u0 with
          | false=>exact fun ρ X9 fl hg hn hl hp ho ho2 hc hf hr=>.inr (.inl ⟨1,141,false,fun _=>rfl,rfl,hr 1 141 rfl rfl,Runs.val _ (op_load3 (show ρ (.tmp 146)=.pointer (some ⟨xb,xo+j*5+2,none⟩) from hr 6 146 rfl rfl) (cell_on hg HXC.out)) ⟨hg,Below.refl _ _,rfl⟩⟩)
          | true=>exact fun ρ X9 fl hg hn hl hp ho ho2 hc hf hr=>.inr (.inr ⟨1,141,false,fun _=>rfl,rfl,(by rw [show ρ (.tmp 141)=.bool true from hr 1 141 rfl rfl];simp),hg,Below.refl _ _,rfl⟩)
         ·cases u0 with
          | false=>exact fun ρ X9 fl hg hn hl hp ho ho2 hc hf hr=>.inr (.inl ⟨1,141,false,fun _=>rfl,rfl,hr 1 141 rfl rfl,Runs.val _ (op_f35_2 (show ρ (.tmp 10)=.pointer (some ⟨Q,0,none⟩) from ho 10 rfl)) ⟨hg,Below.refl _ _,rfl⟩⟩)
          | true=>exact fun ρ X9 fl hg hn hl hp ho ho2 hc hf hr=>.inr (.inr ⟨1,141,false,fun _=>rfl,rfl,(by rw [show ρ (.tmp 141)=.bool true from hr 1 141 rfl rfl];simp),hg,Below.refl _ _,rfl⟩)
         ·cases u0 with
          | false=>exact fun ρ X9 fl hg hn hl hp ho ho2 hc hf hr=>.inr (.inl ⟨1,141,false,fun _=>rfl,rfl,hr 1 141 rfl rfl,Runs.val _ (op_load29 (show ρ (.tmp 148)=.pointer (some ⟨Q,2,none⟩) from hr 8 148 rfl rfl) (cell_on hg HYQ.out.2)) ⟨hg,Below.refl _ _,rfl⟩⟩)
          | true=>exact fun ρ X9 fl hg hn hl hp ho ho2 hc hf hr=>.inr (.inr ⟨1,141,false,fun _=>rfl,rfl,(by rw [show ρ (.tmp 141)=.bool true from hr 1 141 rfl rfl];simp),hg,Below.refl _ _,rfl⟩)
         ·cases u0 with
          | false=>exact fun ρ X9 fl hg hn hl hp ho ho2 hc hf hr=>.inr (.inl ⟨1,141,false,fun _=>rfl,rfl,hr 1 141 rfl rfl,Runs.val _ (op_move (show ρ (.tmp 11)=.int .i64 (k:Int) from ho 11 rfl)) ⟨hg,Below.refl _ _,rfl⟩⟩)
          | true=>exact fun ρ X9 fl hg hn hl hp ho ho2 hc hf hr=>.inr (.inr ⟨1,141,false,fun _=>rfl,rfl,(by rw [show ρ (.tmp 141)=.bool true from hr 1 141 rfl rfl];simp),hg,Below.refl _ _,rfl⟩)
         ·cases u0 with
          | false=>exact fun ρ X9 fl hg hn hl hp ho ho2 hc hf hr=>.inr (.inl ⟨1,141,false,fun _=>rfl,rfl,hr 1 141 rfl rfl,Runs.val _ (op_i29 (show ρ (.tmp 149)=.slice (some ⟨eb,eo,none⟩) t.cols.length cc from hr 9 149 rfl rfl) (show ρ (.tmp 150)=.int .i64 (k:Int) from hr 10 150 rfl rfl) HK.out) ⟨hg,Below.refl _ _,rfl⟩⟩)
          | true=>exact fun ρ X9 fl hg hn hl hp ho ho2 hc hf hr=>.inr (.inr ⟨1,141,false,fun _=>rfl,rfl,(by rw [show ρ (.tmp 141)=.bool true from hr 1 141 rfl rfl];simp),hg,Below.refl _ _,rfl⟩)
         ·cases u0 with
          | false=>exact fun ρ X9 fl hg hn hl hp ho ho2 hc hf hr=>.inr (.inl ⟨1,141,false,fun _=>rfl,rfl,hr 1 141 rfl rfl,Runs.val _ (op_f50_0 (show ρ (.tmp 151)=.pointer (some ⟨eb,eo+k*7,none⟩) from hr 11 151 rfl rfl)) ⟨hg,Below.refl _ _,rfl⟩⟩)
          | true=>exact fun ρ X9 fl hg hn hl hp ho ho2 hc hf hr=>.inr (.inr ⟨1,141,false,fun _=>rfl,rfl,(by rw [show ρ (.tmp 141)=.bool true from hr 1 141 rfl rfl];simp),hg,Below.refl _ _,rfl⟩)
         ·cases u0 with
          | false=>exact fun ρ X9 fl hg hn hl hp ho ho2 hc hf hr=>.inr (.inl ⟨1,141,false,fun _=>rfl,rfl,hr 1 141 rfl rfl,Runs.val _ (op_load3 (show ρ (.tmp 152)=.pointer (some ⟨eb,eo+k*7,none⟩) from hr 12 152 rfl rfl) (cell_on hg HYC.out)) ⟨hg,Below.refl _ _,rfl⟩⟩)
          | true=>exact fun ρ X9 fl hg hn hl hp ho ho2 hc hf hr=>.inr (.inr ⟨1,141,false,fun _=>rfl,rfl,(by rw [show ρ (.tmp 141)=.bool true from hr 1 141 rfl rfl];simp),hg,Below.refl _ _,rfl⟩)
         ·cases u0 with
          | false=>exact fun ρ X9 fl hg hn hl hp ho ho2 hc hf hr=>.inr (.inl ⟨1,141,false,fun _=>rfl,rfl,hr 1 141 rfl rfl,Runs.val _ (op_eql3 (show ρ (.tmp 147)=.int .i64 x.col from hr 7 147 rfl rfl) (show ρ (.tmp 153)=.int .i64 ci from hr 13 153 rfl rfl) rfl) ⟨hg,Below.refl _ _,rfl⟩⟩)
          | true=>exact fun ρ X9 fl hg hn hl hp ho ho2 hc hf hr=>.inr (.inr ⟨1,141,false,fun _=>rfl,rfl,(by rw [show ρ (.tmp 141)=.bool true from hr 1 141 rfl rfl];simp),hg,Below.refl _ _,rfl⟩)
         ·cases u0 with
          | false=>exact fun ρ X9 fl hg hn hl hp ho ho2 hc hf hr=>.inl ⟨rfl,Runs.val _ (op_pick (show ρ (.tmp 141)=.bool false from hr 1 141 rfl rfl) (show ρ (.tmp 154)=.bool (decide (x.col=ci)) from hr 14 154 rfl rfl)) ⟨hg,Below.refl _ _,rfl⟩⟩
          | true=>exact fun ρ X9 fl hg hn hl hp ho ho2 hc hf hr=>.inl ⟨rfl,Runs.val _ (op_pick (show ρ (.tmp 141)=.bool true from hr 1 141 rfl rfl) (hc _)) ⟨hg,Below.refl _ _,rfl⟩⟩
         ·exact fun ρ X9 fl hg hn hl hp ho ho2 hc hf hr=>.inl ⟨rfl,Runs.val _ (op_assign (show ρ (.tmp 155)=.bool (u0 || decide (x.col=ci)) from hr 15 155 rfl rfl)) ⟨hg,Below.refl _ _,rfl⟩⟩
        case en =>
         intro a9 N9 fl hfl b9 hs9 hd9 ho9 hr9
         obtain ⟨x9,hx9,hxt⟩:=act_put hs9 hd9 ho9
         have p13:x9 13=.bool (u0 || decide (x.col=ci)):=(hxt 13).symm.trans (hr9 16 13 rfl)
         change a9=putAll _ x9 [140,141,142,143,144,145,146,147,148,149,150,151,152,153,154,155,13] at hx9
         simp only [putAll,Act.put,List.setIfInBounds_toArray,List.set_cons_zero,List.set_cons_succ,p13] at hx9
         clear hs9 hd9 ho9 hr9 hxt hfl p13
         subst hx9
         generalize x9 140=z140,x9 141=z141,x9 142=z142,x9 143=z143,x9 144=z144,x9 145=z145,x9 146=z146,x9 147=z147,x9 148=z148,x9 149=z149,x9 150=z150,x9 151=z151,x9 152=z152,x9 153=z153,x9 154=z154,x9 155=z155
         rw [HUN.out]
         have HB8:=lh (bgo HBL.out b9)
         clear b9
         go_wp2
         go_roundw
         case rel=>exact ⟨j+1,hlt,by go_num,rfl,HB8.out⟩
         case measure=>simp [intOf];omega
       ·skip
        have j1:¬ (j:Int)<(n2:Int):=by omega
        have hjn:j=n2:=by have:=HJ.out;omega
        have HTA:Hid (t.fks.take j=t.fks):=lh (by rw [hjn,←HN2.out];exact List.take_length)
        rw [HTA.out]
        clear hjn hlt
        go_upto_region 28 with fail
        clear j1 yL
        obtain ⟨u1,hu1⟩:∃ u1,(b1 || t.fks.any (fun x=>decide (x.col=ci)))=u1:=⟨_,rfl⟩
        rw [hu1]
        have HU1:Hid (usedB t k (t.cols[k]'HK.out)=u1):=lh (by
         unfold usedB
         have e1:=HCI.out
         rw [←HXE.out.1] at e1
         rw [←hu1,←HB1.out,←HB9.out,←e1]
         first | rfl | skip)
        clear hu1
        have hb9:=HBL.out
        have YSX:=lh hb9
        clear hb9
        have hb9:=YSX.out
        clear YSX
        have JQ':=lh ((hb9.block Q (blk_lt JQ.out)).trans JQ.out)
        have J0':=lh ((hb9.block Y0 (blk_lt J0.out)).trans J0.out)
        have J1':=lh ((hb9.block Y1 (blk_lt J1.out)).trans J1.out)
        have J2':=lh ((hb9.block Y2 (blk_lt J2.out)).trans J2.out)
        have HD':=lh (HD.out.below hb9)
        have HB':=lh (bgo HB.out hb9)
        clear JQ J0 J1 J2 HD HB hb9
        have JQ:=JQ'
        have J0:=J0'
        have J1:=J1'
        have J2:=J2'
        have HD:=HD'
        have HB:=HB'
        clear JQ' J0' J1' J2' HD' HB'
        cases u1 with
        | true =>
         have HR:Hid (changeT s d st i t=.error 155):=lh (by
          unfold changeT
          rw [if_neg (by rw [HKD.out,HK9.out];decide),if_neg (by rw [HKD.out,HK9.out];decide),if_neg (by rw [HKD.out,HK9.out];decide),if_pos (by rw [HKD.out,HK9.out])]
          unfold dropL
          rw [HF8.out]
          simp only
          rw [if_pos (by rw [List.getElem?_eq_getElem HK.out];exact congrArg some HU1.out)])
         have hld:=load_row J0.out Tryz.underlying24 rfl size24
         obtain ⟨X4,e44,j4,f4⟩:=sets_row J2.out (#[.int .i64 (s.ver+1),.int .i64 s.last,.slice (some ⟨TB,0,none⟩) G.length tcap]) rfl
         have hst:(Instr.storeAt 24 (.pointer (some ⟨Y2,0,none⟩)) (.agg #[.int .i64 (s.ver+1),.int .i64 s.last,.slice (some ⟨TB,0,none⟩) G.length tcap])).run Tryz.prog W9=.ok () X4:=by
          rw [e44]
          exact store_row J2.out rfl size24 (by simp [Value.oneCell'])
         have J4:=lh j4
         have HE:Hid (Below w.heap.size w X4):=lh (HB.out.trans (f4.toBelow (fun k9 hk9 q9=>by have:=GE.out;omega) HB.out.size))
         clear e44 j4 f4
         go_upto_region 29 with fail
         go_wp2_with (first | (refine wpl_load _ rfl (by first | rfl | (simp [Act.eval];done)) hld ?_) | (refine wpl_store _ _ rfl (by first | rfl | (simp [Act.eval];done)) (by first | rfl | (simp [Act.eval];done)) hst ?_))
         refine bodyPost_ret (results_two rfl rfl rfl (load_var J4.out Tryz.underlying24 rfl size24)) rfl ?_
         exact CrAns.err HR.out (by decide) HBB.out HE.out
        | false =>
         have HUS:Hid (¬ (Option.map (usedB t k) (some (t.cols[k]'HK.out)))=some true):=lh (by
          rw [Option.map_some,HU1.out]
          simp)
         have HALL':=lh fun j9 (hj9:j9<t.cols.length) q9 u9 (hu9:(colL t.cols[j9])[q9]?=some u9)=>cell_on HBL.out (HALL.out j9 hj9 q9 u9 hu9)
         clear HALL
         have HALL:=HALL'
         clear HALL'
         have ysx:W9.cell? ⟨eb,eo+k*7+3,none⟩=some (.int .i64 sx):=by
          have:=HALL.out k HK.out 3 _ rfl
          rw [←HXE.out.2,←HXE.out.1]
          exact this
         have kk2:(k:Int)<(t.cols.length:Int):=by have:=HK.out;omega
         clear HBL GQ HJ OI OK YCI
         have x0:W9.cell? ⟨Y0,0,none⟩=some (.int .i64 (s.ver+1)):=cell_blk J0.out 0
         have x1:W9.cell? ⟨Y0,1,none⟩=some (.int .i64 (s.last)):=cell_blk J0.out 1
         have x2:W9.cell? ⟨Y0,2,none⟩=some (.slice (some ⟨TB,0,none⟩) G.length tcap):=cell_blk J0.out 2
         have y0:W9.cell? ⟨Q,0,none⟩=some (.int .i64 t.id):=cell_blk JQ.out 0
         have y1:W9.cell? ⟨Q,1,none⟩=some (.string t.nm):=cell_blk JQ.out 1
         have y2:W9.cell? ⟨Q,2,none⟩=some (.slice (some ⟨eb,eo,none⟩) t.cols.length cc):=cell_blk JQ.out 2
         have y3:W9.cell? ⟨Q,3,none⟩=some (.slice ia t.ixs.length ic):=cell_blk JQ.out 3
         have y4:W9.cell? ⟨Q,4,none⟩=some (.slice ka t.fks.length kc):=cell_blk JQ.out 4
         have e0:W9.cell? ⟨Y1,0,none⟩=some (.int .i64 kd):=cell_blk J1.out 0
         rw [HK9.out] at e0
         have e2:W9.cell? ⟨Y1,2,none⟩=some (.string d.name):=cell_blk J1.out 2
         have e3:W9.cell? ⟨Y1,3,none⟩=some (.string d.column):=cell_blk J1.out 3
         have e4:W9.cell? ⟨Y1,4,none⟩=some (.string d.parent):=cell_blk J1.out 4
         have e6:W9.cell? ⟨Y1,6,none⟩=some (.int .i64 d.ty):=cell_blk J1.out 6
         have e7:W9.cell? ⟨Y1,7,none⟩=some (.int .i64 d.df.k):=cell_blk J1.out 7
         have e8:W9.cell? ⟨Y1,8,none⟩=some (.int .i64 d.df.n):=cell_blk J1.out 8
         have e9:W9.cell? ⟨Y1,9,none⟩=some (.string d.df.s):=cell_blk J1.out 9
         have HR:Hid (changeT s d st i t=.ok (withC s i t (setAt st k (putC st) t.cols) false)):=lh (by unfold changeT;rw [if_neg (by rw [HKD.out,HK9.out];decide),if_neg (by rw [HKD.out,HK9.out];decide),if_neg (by rw [HKD.out,HK9.out];decide),if_pos (by rw [HKD.out,HK9.out])];unfold dropL;rw [HF8.out];simp only;rw [if_neg (by rw [List.getElem?_eq_getElem HK.out];exact HUS.out)])
         obtain ⟨n,hn⟩:∃ n,t.cols.length=n:=⟨_,rfl⟩
         have hmn:(n:Int)≤9223372036854775807:=by have:=HPB.out;omega
         have hn8:n≤8:=by have:=HPB.out;omega
         have HN:=lh (And.intro hn hn8)
         rw [hn] at y2
         rw [hn] at kk2
         clear hn hn8
         rw [show t.cols.length=n from HN.out.1] at JQ
         go_upto_region 30 with fail
         clear e0 ysx x0 x1 y0 y1 y2 y3 y4 e2 e3 e4 e6 e7 e8 e9
         try clear g3
         go_wp2
         go_loopw [16,17] (fun lv iv wr=>∃ (j:Nat) (R:List Col),j≤n∧iv=.int .i64 (j:Int)∧R=lpX Col.st (putC st) k 0 (t.cols.take j)∧wr.ownsRow W9.heap.size 50 7 lv R.length (R.flatMap colL)∧Below W9.heap.size W9 wr) (fun _ iv _=>n - (intOf iv).toNat)
         case atStart=>exact ⟨0,[],Nat.zero_le _,rfl,rfl,World.ownsRow_nil _ _ 50 7,Below.refl _ _⟩
         case round =>
          obtain ⟨j,R,hj,rfl,hR,hrow,hb⟩:=hrel
          obtain ⟨V,rfl⟩:∃ V,V=wr:=⟨_,rfl⟩
          obtain ⟨la,lc,hsh⟩:=own_shape hrow
          subst hsh
          have hRl:R.length≤8:=by
           have h1:=lpX_len Col.st (putC st) k 0 (t.cols.take j)
           rw [←hR,List.length_take] at h1
           have:=HN.out
           omega
          have HB0:=lh hb
          have HROW:=lh hrow
          have HRR:=lh hR
          have HRL:=lh hRl
          have HJ:=lh hj
          have GQ:=lh ((hb.block Q (blk_lt JQ.out)).trans JQ.out)
          have yL:V.cell? ⟨Q,2,none⟩=some (.slice (some ⟨eb,eo,none⟩) n cc):=cell_blk GQ.out 2
          clear hb hrow hR hRl hj x2
          by_cases hlt:j<n
          ·skip
           have hjL:j<t.cols.length:=by rw [HN.out.1];exact hlt
           have j0:(0:Int)≤(j:Int):=by omega
           have j1:(j:Int)<(n:Int):=by omega
           obtain ⟨x,hx⟩:∃ x,t.cols[j]=x:=⟨_,rfl⟩
           have HXJ:=lh hx
           have hxs:x.st≠0:=by
            rw [←hx]
            exact HPB.out.2.2.2.2.2.1 _ (List.getElem_mem hjL)
           have hcx:∀ q u,(colL x)[q]?=some u→V.cell? ⟨eb,eo+j*7+q,none⟩=some u:=fun q u hu=>cell_on HB0.out (HALL.out j hjL q u (by subst hx;exact hu))
           have c0:V.cell? ⟨eb,eo+j*7,none⟩=some (.int .i64 x.id):=hcx 0 _ rfl
           have c1:V.cell? ⟨eb,eo+j*7+1,none⟩=some (.string x.nm):=hcx 1 _ rfl
           have c2:V.cell? ⟨eb,eo+j*7+2,none⟩=some (.int .i64 x.kd):=hcx 2 _ rfl
           have c3:V.cell? ⟨eb,eo+j*7+3,none⟩=some (.int .i64 x.st):=hcx 3 _ rfl
           have c4:V.cell? ⟨eb,eo+j*7+4,none⟩=some (.int .i64 x.df.k):=hcx 4 _ rfl
           have c5:V.cell? ⟨eb,eo+j*7+5,none⟩=some (.int .i64 x.df.n):=hcx 5 _ rfl
           have c6:V.cell? ⟨eb,eo+j*7+6,none⟩=some (.string x.df.s):=hcx 6 _ rfl
           obtain ⟨V2,hV2⟩:∃ V2,V2=V.alloc (.cells (colA x) 50):=⟨_,rfl⟩
           obtain ⟨E,hE⟩:∃ E,V.heap.size=E:=⟨_,rfl⟩
           have jE:V2.heap[E]?=some (.cells (colA x) 50 (0,0)):=by rw [hV2,←hE];exact heap_alloc_new V _
           have bV2:Below V.heap.size V V2:=by rw [hV2];exact bnew _ _
           have HV2:=lh hV2
           have HEE:=lh hE
           have JE:=lh jE
           have BV2:=lh bV2
           have HTK:Hid (t.cols.take (j+1)=t.cols.take (j+1)∧lpX Col.st (putC st) k 0 (t.cols.take (j+1))=R ++ stX Col.st (putC st) k j x):=lh ⟨rfl,by rw [lpX_take hjL,←HXJ.out,HRR.out]⟩
           have HXS:=lh hxs
           have kj0:((j:Int) == (k:Int))=decide (j=k):=by
            by_cases q:j=k
            ·subst q;simp
            ·have:¬ (j:Int)=(k:Int):=by omega
             simp [q,this]
           clear hcx hV2 hE jE bV2 hx hxs
           go_upto_region 35 with fail
           rw [←HV2.out,HEE.out]
           clear c0 c1 c2 c3 c4 c5 c6 yL
           by_cases jk:j=k
           ·skip
            have HJK:=lh jk
            rw [decide_eq_true jk] at kj0
            clear jk
            have g4:V2.cell? ⟨E,3,none⟩=some (.int .i64 x.st):=cell_blk JE.out 3
            have f4:V2.frozen? ⟨E,3,none⟩=false:=frozen_blk JE.out 3
            obtain ⟨V3,hV3⟩:∃ V3,V3=V2.setCell ⟨E,3,none⟩ (.int .i64 st):=⟨_,rfl⟩
            have jE3:V3.heap[E]?=some (.cells (colA (putC st x)) 50 (0,0)):=by rw [hV3];exact set_blk JE.out _
            have fV3:Fr V2 V3 (fun q9=>q9=E):=by rw [hV3];exact Fr.set (S:=fun q9=>q9=E) (a:=⟨E,3,none⟩) (Fr.refl _ _) (.inl rfl) _
            have hb2:=HB0.out.trans (BV2.out.mono HB0.out.size)
            have HB2:Hid (Below W9.heap.size W9 V3):=lh (hb2.trans (fV3.toBelow (fun q9 hq9 z=>by have:=HB0.out.size;have:=HEE.out;omega) hb2.size))
            have OW:Hid (V3.ownsRow W9.heap.size 50 7 (.slice la R.length lc) R.length (R.flatMap colL)):=lh (row_keep (own_below HROW.out BV2.out) fV3 (fun q9 hq9 z=>by have:=(own_ge HROW.out q9 hq9).2;have:=HEE.out;omega))
            have HV3:=lh hV3
            have JE3:=lh jE3
            clear hV3 jE3 fV3 hb2
            go_upto_region 37 with fail
            rw [←HV3.out]
            clear g4 f4
            have d0:V3.cell? ⟨E,0,none⟩=some (.int .i64 x.id):=cell_blk JE3.out 0
            have d1:V3.cell? ⟨E,1,none⟩=some (.string x.nm):=cell_blk JE3.out 1
            have d2:V3.cell? ⟨E,2,none⟩=some (.int .i64 x.kd):=cell_blk JE3.out 2
            have d3:V3.cell? ⟨E,3,none⟩=some (.int .i64 st):=cell_blk JE3.out 3
            have d4:V3.cell? ⟨E,4,none⟩=some (.int .i64 x.df.k):=cell_blk JE3.out 4
            have d5:V3.cell? ⟨E,5,none⟩=some (.int .i64 x.df.n):=cell_blk JE3.out 5
            have d6:V3.cell? ⟨E,6,none⟩=some (.string x.df.s):=cell_blk JE3.out 6
            by_cases s0:st=0
            ·have s1:(st == 0)=true:=by simpa using s0
             have s2:(st != 0)=false:=by simp [s0]
             have HR2:Hid (R=lpX Col.st (putC st) k 0 (t.cols.take (j+1))):=lh (by
              rw [HTK.out.2]
              unfold stX
              rw [if_pos HJK.out,if_pos (show (putC st x).st=0 from s0),List.append_nil])
             have HS0:=lh s0
             clear s0
             go_wp2
             go_roundw
             case rel=>exact ⟨j+1,_,hlt,by go_num,HR2.out,OW.out,HB2.out⟩
             case measure=>simp [intOf];omega
            ·have s1:(st == 0)=false:=by simpa using s0
             have s2:(st != 0)=true:=by simpa using s0
             have HS0:=lh s0
             clear s0
             obtain ⟨ad,cap,w',hrun,hnew,hfr,hob⟩:=pushC (own_mono OW.out (Nat.zero_le _)) (putC st x) (by have:=HRL.out;omega)
             have HN2:Hid (w'.ownsRow W9.heap.size 50 7 (.slice ad (R.length+1) cap) (R ++ [putC st x]).length ((R ++ [putC st x]).flatMap colL)):=lh (own_base hnew (fun q9 hq9=>by
              rcases hob q9 hq9 with z | z
              ·exact (own_ge OW.out q9 z).1
              ·have:=HB2.out.size
               omega))
             have HB3:Hid (Below W9.heap.size W9 w'):=lh (HB2.out.trans (hfr.toBelow (fun q9 hq9 z=>by have:=(own_ge OW.out q9 z).1;omega) HB2.out.size))
             have HR2:Hid (R ++ [putC st x]=lpX Col.st (putC st) k 0 (t.cols.take (j+1))):=lh (by
              rw [HTK.out.2]
              unfold stX
              rw [if_pos HJK.out,if_neg (show ¬ (putC st x).st=0 from HS0.out)])
             clear hnew hfr hob
             go_wp2_with (at_builtin;refine wpl_run2 _ _ rfl (by simp [Act.eval]) (by simp [Act.eval]) hrun ?_)
             go_roundw
             case rel=>exact ⟨j+1,_,hlt,by go_num,HR2.out,HN2.out,HB3.out⟩
             case measure=>simp [intOf];omega
           ·skip
            have HJK:=lh jk
            rw [decide_eq_false jk] at kj0
            clear jk
            have HB2:Hid (Below W9.heap.size W9 V2):=lh (HB0.out.trans (BV2.out.mono HB0.out.size))
            have OW:Hid (V2.ownsRow W9.heap.size 50 7 (.slice la R.length lc) R.length (R.flatMap colL)):=lh (own_below HROW.out BV2.out)
            obtain ⟨xs,hxs⟩:∃ xs,x.st=xs:=⟨_,rfl⟩
            have s1:(xs == 0)=false:=by rw [←hxs];simpa using HXS.out
            have s2:(xs != 0)=true:=by rw [←hxs];simpa using HXS.out
            have d0:V2.cell? ⟨E,0,none⟩=some (.int .i64 x.id):=cell_blk JE.out 0
            have d1:V2.cell? ⟨E,1,none⟩=some (.string x.nm):=cell_blk JE.out 1
            have d2:V2.cell? ⟨E,2,none⟩=some (.int .i64 x.kd):=cell_blk JE.out 2
            have d3:V2.cell? ⟨E,3,none⟩=some (.int .i64 x.st):=cell_blk JE.out 3
            have d4:V2.cell? ⟨E,4,none⟩=some (.int .i64 x.df.k):=cell_blk JE.out 4
            have d5:V2.cell? ⟨E,5,none⟩=some (.int .i64 x.df.n):=cell_blk JE.out 5
            have d6:V2.cell? ⟨E,6,none⟩=some (.string x.df.s):=cell_blk JE.out 6
            rw [hxs] at d3
            have HXS2:=lh hxs
            clear hxs
            obtain ⟨ad,cap,w',hrun,hnew,hfr,hob⟩:=pushC (own_mono OW.out (Nat.zero_le _)) x (by have:=HRL.out;omega)
            have HN2:Hid (w'.ownsRow W9.heap.size 50 7 (.slice ad (R.length+1) cap) (R ++ [x]).length ((R ++ [x]).flatMap colL)):=lh (own_base hnew (fun q9 hq9=>by
             rcases hob q9 hq9 with z | z
             ·exact (own_ge OW.out q9 z).1
             ·have:=HB2.out.size
              omega))
            have HB3:Hid (Below W9.heap.size W9 w'):=lh (HB2.out.trans (hfr.toBelow (fun q9 hq9 z=>by have:=(own_ge OW.out q9 z).1;omega) HB2.out.size))
            have HR2:Hid (R ++ [x]=lpX Col.st (putC st) k 0 (t.cols.take (j+1))):=lh (by
             rw [HTK.out.2]
             unfold stX
             rw [if_neg HJK.out,if_neg HXS.out])
            change (Builtin.append_ #[29,29] 29 #[.slice la R.length lc,.slice (some ⟨V2.heap.size,0,none⟩) 1 1]).run Tryz.prog (V2.alloc (.cells #[.int .i64 x.id,.string x.nm,.int .i64 x.kd,.int .i64 x.st,.int .i64 x.df.k,.int .i64 x.df.n,.string x.df.s] 50))=_ at hrun
            rw [HXS2.out] at hrun
            clear hnew hfr hob
            go_wp2_with (at_builtin;refine wpl_run2 _ _ rfl (by simp [Act.eval]) (by simp [Act.eval]) hrun ?_)
            go_roundw
            case rel=>exact ⟨j+1,_,hlt,by go_num,HR2.out,HN2.out,HB3.out⟩
            case measure=>simp [intOf];omega
          ·skip
           have j1:¬ (j:Int)<(n:Int):=by omega
           have hjn:j=n:=by have:=HJ.out;omega
           have HRF:Hid (R=setAt st k (putC st) t.cols):=lh (by
            rw [HRR.out,hjn,List.take_of_length_le (by rw [HN.out.1];exact Nat.le_refl _)]
            exact lpX_all HK.out (fun x hx=>HPB.out.2.2.2.2.2.1 x hx) (fun _=>rfl))
           have k0:(0:Int)≤(i:Int):=by omega
           have k1:(i:Int)<(G.length:Int):=by have:=HI6.out.2.1;omega
           have dV:=HD.out.below HB0.out
           obtain ⟨cT,hcT,_,_,_,_⟩:=row_blk (own_mono dV.row (Nat.zero_le _))
           have i0:=(HB0.out.block Y0 (blk_lt J0.out)).trans J0.out
           have i2:=(HB0.out.block Y2 (blk_lt J2.out)).trans J2.out
           have x2:V.cell? ⟨Y0,2,none⟩=some (.slice (some ⟨TB,0,none⟩) G.length tcap):=cell_blk i0 2
           have hold:cT[i*5+2]?=some (.slice (some ⟨eb,eo,none⟩) n cc):=by
            obtain ⟨_,_,e',_,_,_,hX⟩:=Lr.own gL_len dV.row
            cases e'
            obtain ⟨b,o,cs,e2,_,hE,_,hh⟩:=hX i HI6.out.2.1
            cases e2
            rw [hE] at hh
            have:=hh 2 _ (by rw [HGI.out];rfl)
            rw [Nat.zero_add,cell_blk hcT,HN.out.1] at this
            exact this
           have t0:V.cell? ⟨TB,i*5+2,none⟩=some (.slice (some ⟨eb,eo,none⟩) n cc):=(cell_blk hcT (i*5+2)).trans hold
           have t1:V.frozen? ⟨TB,i*5+2,none⟩=false:=frozen_blk hcT (i*5+2)
           obtain ⟨X3,hX3⟩:∃ X3,X3=V.setCell ⟨TB,i*5+2,none⟩ (.slice la R.length lc):=⟨_,rfl⟩
           have x3T:X3.heap[TB]?=some (.cells (cT.setIfInBounds (i*5+2) (.slice la R.length lc)) 35 (0,0)):=by rw [hX3];exact set_blk hcT _
           have fX3:Fr V X3 (fun q9=>q9=TB):=by rw [hX3];exact Fr.set (S:=fun q9=>q9=TB) (a:=⟨TB,i*5+2,none⟩) (Fr.refl _ _) (.inl rfl) _
           obtain ⟨G2,hG2⟩:∃ G2:List Gt,G2=G.set i (tbC G[i].1 R,.slice la R.length lc,G[i].2.2.1,G[i].2.2.2):=⟨_,rfl⟩
           have hsz:w.heap.size≤W9.heap.size:=HB.out.size
           have D3:Dr X3 B G2 (.slice (some ⟨TB,0,none⟩) G.length tcap):=by
            rw [hG2]
            refine HD.out.setC HI6.out.2.1 J0.out (by have:=HBB.out;omega) ((Fr.ofBelow _ HB0.out).trans fX3) (fun q9 z=>.inr (.inl (by rw [z];rfl))) (tab_row (own_mono HD.out.row (Nat.zero_le _)) ((HB0.out.block TB (own_ge HD.out.row TB rfl).2).symm.trans hcT) HI6.out.2.1 (by decide) x3T (by rw [HGI.out];rfl)) (own_mono (row_keep HROW.out fX3 (fun q9 hq9 z=>by
             obtain ⟨cs9,tg⟩:=own_tag HROW.out q9 hq9
             rw [z,hcT] at tg
             simp only [Option.some.injEq,Obj.cells.injEq] at tg
             exact absurd tg.2.1 (by decide))) (Nat.zero_le _)) ?_
            intro q9 hq9
            exact .inr ((own_ge HROW.out q9 hq9).1)
           have hBV:Below w.heap.size w V:=bgo HB.out HB0.out
           have B3:Below B w X3:=(hBV.mono HBB.out).trans (fX3.toBelow (fun q9 hq9 z=>by have:=(own_ge dV.row TB rfl).1;omega) (by have:=hBV.size;have:=HBB.out;omega))
           have k30:X3.heap[Y0]?=some (.cells #[.int .i64 (s.ver+1),.int .i64 s.last,.slice (some ⟨TB,0,none⟩) G.length tcap] 24 (0,0)):=(fX3.block Y0 (blk_lt i0) (fun z=>by rw [z,hcT] at i0;simp only [Option.some.injEq,Obj.cells.injEq] at i0;exact absurd i0.2.1 (by decide))).trans i0
           have k32:X3.heap[Y2]?=some (.cells #[.int .i64 0,.int .i64 0,.slice none 0 0] 24 (0,0)):=(fX3.block Y2 (blk_lt i2) (fun z=>by rw [z,hcT] at i2;simp only [Option.some.injEq,Obj.cells.injEq] at i2;exact absurd i2.2.1 (by decide))).trans i2
           have HX3:=lh hX3
           have hld:=load_row k30 Tryz.underlying24 rfl size24
           obtain ⟨X4,e44,j4,f4⟩:=sets_row k32 (#[.int .i64 (s.ver+1),.int .i64 s.last,.slice (some ⟨TB,0,none⟩) G.length tcap]) rfl
           have hst:(Instr.storeAt 24 (.pointer (some ⟨Y2,0,none⟩)) (.agg #[.int .i64 (s.ver+1),.int .i64 s.last,.slice (some ⟨TB,0,none⟩) G.length tcap])).run Tryz.prog X3=.ok () X4:=by
            rw [e44]
            exact store_row k32 rfl size24 (by simp [Value.oneCell'])
           have J4:=lh j4
           have HE:Hid (Below B w X4):=lh (B3.trans (f4.toBelow (fun k9 hk9 q9=>by have:=GE.out;have:=HBB.out;omega) (by have:=B3.size;have:=HBB.out;omega)))
           have HD4:Hid (Dr X4 B G2 (.slice (some ⟨TB,0,none⟩) G.length tcap)):=lh (D3.keep f4 (fun k9 hk9=>.inr (fun cs e tg=>by
            rw [hk9,k32] at tg
            simp only [Option.some.injEq,Obj.cells.injEq] at tg
            rw [←tg.2.1]
            decide)))
           have HK4:Hid (Kp24 w X4):=lh (fun k9 cs9 hk9=>by
            have h1:=(hBV.block k9 (blk_lt hk9)).trans hk9
            have h2:=(fX3.block k9 (blk_lt h1) (fun z=>by
             rw [z,hcT] at h1
             simp only [Option.some.injEq,Obj.cells.injEq] at h1
             exact absurd h1.2.1 (by decide))).trans h1
            exact (f4.block k9 (blk_lt h2) (fun z=>by have:=blk_lt hk9;have:=GE.out;omega)).trans h2)
           have HG2:=lh hG2
           clear e44 j4 f4 k30 k32 B3 hBV D3 hG2 hX3 fX3 x3T hold i0 i2 hcT dV hjn hsz
           go_upto_region 40 with fail
           rw [←HX3.out]
           clear x2 t0 t1 yL
           go_wp2_with (first | (refine wpl_load _ rfl (by first | rfl | (simp [Act.eval];done)) hld ?_) | (refine wpl_store _ _ rfl (by first | rfl | (simp [Act.eval];done)) (by first | rfl | (simp [Act.eval];done)) hst ?_))
           refine bodyPost_ret (results_two rfl rfl rfl (load_var J4.out Tryz.underlying24 rfl size24)) rfl ?_
           refine CrAns.ok (s':=withC s i t (setAt st k (putC st) t.cols) false) HR.out ?_ HD4.out HE.out HK4.out
           rw [HG2.out,List.map_set,HG.out,HGI.out,HRF.out]
           rfl
end
end Go.Proofs.YtongmhfpoopebaaGreat
