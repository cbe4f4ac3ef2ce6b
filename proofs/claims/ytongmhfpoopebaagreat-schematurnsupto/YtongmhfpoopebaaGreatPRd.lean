import Derived.Test.YtongmhfpoopebaaGreatPRb
namespace Go.Proofs.YtongmhfpoopebaaGreat
open Go.RowKit
section
variable {w : World}
set_option maxHeartbeats 16000000 in
set_option maxRecDepth 100000 in
theorem foreign_ref {B:Nat} {s:Sc} {G:List Gt} {tv:Value} {d:Dd} {kd st:Int} {i:Nat} {t:Tb} {da:Option Addr} {dn dc:Nat} (hD:Dr w B G tv) (hB:B≤w.heap.size) (hG:G.map Prod.fst=s.tabs) (hcs:∀ t ∈ s.tabs,tabB t=true) (hi:i<s.tabs.length) (ht:s.tabs[i]=t) (hn6:s.tabs.length≤6) (hl:farB s.last=true) (hkd:d.kind=kd) (hk9:kd=6∨kd=7):Calls Tryz.prog 39 #[.agg #[.int .i64 (s.ver+1),.int .i64 s.last,tv],.int .i64 (i:Int),.agg #[.int .i64 kd,.string d.table,.string d.name,.string d.column,.string d.parent,.bool d.uq,.int .i64 d.ty,.int .i64 d.df.k,.int .i64 d.df.n,.string d.df.s,.slice da dn dc],.int .i64 st] w (CrAns B w s tv (changeT s d st i t)):=by
 have htb:tabB t=true:=by rw [←ht];exact hcs _ (List.getElem_mem hi)
 have hpb:=tabB_facts htb
 have hlen:G.length=s.tabs.length:=by rw [←hG,List.length_map]
 have hiG:i<G.length:=by omega
 obtain ⟨tad,tcap,hsh0⟩:=own_shape hD.row
 obtain ⟨TB,hTB⟩:∃ TB,tad=some ⟨TB,0,none⟩:=by
  rcases hD.row.2 with ⟨_,h0⟩ | ⟨g,cap',cur,hv',_⟩
  ·omega
  ·rw [hsh0] at hv'
   simp only [Value.slice.injEq] at hv'
   exact ⟨g,hv'.1⟩
 subst hTB
 subst hsh0
 obtain ⟨g,hg⟩:∃ g,G[i]=g:=⟨_,rfl⟩
 have hg1:g.1=t:=by
  rw [←hg,←ht]
  have:s.tabs[i]=(G.map Prod.fst)[i]'(by rw [List.length_map];exact hiG):=by simp only [hG]
  rw [this,List.getElem_map]
 obtain ⟨t',cv,iv,kv⟩:=g
 simp only at hg1
 subst hg1
 have hc0:=hD.c G[i] (List.getElem_mem hiG)
 have hi0:=hD.i G[i] (List.getElem_mem hiG)
 have hk0:=hD.k G[i] (List.getElem_mem hiG)
 rw [hg] at hc0 hi0 hk0
 simp only at hc0 hi0 hk0
 obtain ⟨t,htt⟩:∃ t,t=t':=⟨_,rfl⟩
 subst htt
 obtain ⟨ca,cc,e1⟩:=own_shape hc0
 obtain ⟨ia,ic,e2⟩:=own_shape hi0
 obtain ⟨ka,kc,e3⟩:=own_shape hk0
 subst e1 e2 e3
 have HGI:=lh hg
 have HPB:=lh hpb
 have HLN:=lh hlen
 obtain ⟨W,hW⟩:∃ W,W=((w.alloc (.cells #[.int .i64 (s.ver+1),.int .i64 s.last,.slice (some ⟨TB,0,none⟩) G.length tcap] 24)).alloc (.cells #[.int .i64 kd,.string d.table,.string d.name,.string d.column,.string d.parent,.bool d.uq,.int .i64 d.ty,.int .i64 d.df.k,.int .i64 d.df.n,.string d.df.s,.slice da dn dc] 31)).alloc (.cells #[.int .i64 0,.int .i64 0,.slice none 0 0] 24):=⟨_,rfl⟩
 have hbW:Below w.heap.size w W:=by rw [hW];exact (((Below.refl _ w).alloc (Nat.le_refl _) _).alloc (by simp) _).alloc (by simp only [World.size_alloc];omega) _
 obtain ⟨Y0,hY0⟩:∃ Y0,w.heap.size=Y0:=⟨_,rfl⟩
 obtain ⟨Y1,hY1⟩:∃ Y1,Y0+1=Y1:=⟨_,rfl⟩
 obtain ⟨Y2,hY2⟩:∃ Y2,Y1+1=Y2:=⟨_,rfl⟩
 have j0:W.heap[Y0]?=some (.cells #[.int .i64 (s.ver+1),.int .i64 s.last,.slice (some ⟨TB,0,none⟩) G.length tcap] 24 (0,0)):=by
  have:=heap_alloc_new w (.cells #[.int .i64 (s.ver+1),.int .i64 s.last,.slice (some ⟨TB,0,none⟩) G.length tcap] 24)
  rw [hW,←hY0,Below.heap_alloc _ _ _ (by simp only [World.size_alloc];omega),Below.heap_alloc _ _ _ (by simp only [World.size_alloc];omega)]
  exact this
 have j1:W.heap[Y1]?=some (.cells #[.int .i64 kd,.string d.table,.string d.name,.string d.column,.string d.parent,.bool d.uq,.int .i64 d.ty,.int .i64 d.df.k,.int .i64 d.df.n,.string d.df.s,.slice da dn dc] 31 (0,0)):=by
  have:=heap_alloc_new (w.alloc (.cells #[.int .i64 (s.ver+1),.int .i64 s.last,.slice (some ⟨TB,0,none⟩) G.length tcap] 24)) (.cells #[.int .i64 kd,.string d.table,.string d.name,.string d.column,.string d.parent,.bool d.uq,.int .i64 d.ty,.int .i64 d.df.k,.int .i64 d.df.n,.string d.df.s,.slice da dn dc] 31)
  simp only [World.size_alloc] at this
  rw [hW,←hY1,←hY0,Below.heap_alloc _ _ _ (by simp only [World.size_alloc];omega)]
  exact this
 have j2:W.heap[Y2]?=some (.cells #[.int .i64 0,.int .i64 0,.slice none 0 0] 24 (0,0)):=by
  have:=heap_alloc_new ((w.alloc (.cells #[.int .i64 (s.ver+1),.int .i64 s.last,.slice (some ⟨TB,0,none⟩) G.length tcap] 24)).alloc (.cells #[.int .i64 kd,.string d.table,.string d.name,.string d.column,.string d.parent,.bool d.uq,.int .i64 d.ty,.int .i64 d.df.k,.int .i64 d.df.n,.string d.df.s,.slice da dn dc] 31)) (.cells #[.int .i64 0,.int .i64 0,.slice none 0 0] 24)
  simp only [World.size_alloc] at this
  rw [hW,←hY2,←hY1,←hY0]
  exact this
 have hDW:=hD.below hbW
 have hcell:∀ j u,(gL G[i])[j]?=some u→W.cell? ⟨TB,i*5+j,none⟩=some u:=fun j u hu=>by
  obtain ⟨_,_,e',_,_,_,hX⟩:=Lr.own gL_len hDW.row
  cases e'
  obtain ⟨b,o,cs,e2,_,hE,_,hh⟩:=hX i hiG
  cases e2
  rw [hE] at hh
  have:=hh j u hu
  rw [Nat.zero_add] at this
  exact this
 rw [hg] at hcell
 have q0:W.cell? ⟨TB,i*5,none⟩=some (.int .i64 t.id):=hcell 0 _ rfl
 have q1:W.cell? ⟨TB,i*5+1,none⟩=some (.string t.nm):=hcell 1 _ rfl
 have q2:W.cell? ⟨TB,i*5+2,none⟩=some (.slice ca t.cols.length cc):=hcell 2 _ rfl
 have q3:W.cell? ⟨TB,i*5+3,none⟩=some (.slice ia t.ixs.length ic):=hcell 3 _ rfl
 have q4:W.cell? ⟨TB,i*5+4,none⟩=some (.slice ka t.fks.length kc):=hcell 4 _ rfl
 have q5:W.cell? ⟨Y0,2,none⟩=some (.slice (some ⟨TB,0,none⟩) G.length tcap):=cell_blk j0 2
 obtain ⟨V1,hV1⟩:∃ V1,V1=W.alloc (.cells (tbA t (.slice ca t.cols.length cc) (.slice ia t.ixs.length ic) (.slice ka t.fks.length kc)) 35):=⟨_,rfl⟩
 obtain ⟨Q,hQ⟩:∃ Q,W.heap.size=Q:=⟨_,rfl⟩
 have jQ:V1.heap[Q]?=some (.cells (tbA t (.slice ca t.cols.length cc) (.slice ia t.ixs.length ic) (.slice ka t.fks.length kc)) 35 (0,0)):=by rw [hV1,←hQ];exact heap_alloc_new W _
 have bV:Below W.heap.size W V1:=by rw [hV1];exact bnew _ _
 have HV1:=lh hV1
 have HQ:=lh hQ
 have JQ:=lh jQ
 have J0:=lh ((bV.block Y0 (blk_lt j0)).trans j0)
 have J1:=lh ((bV.block Y1 (blk_lt j1)).trans j1)
 have J2:=lh ((bV.block Y2 (blk_lt j2)).trans j2)
 have GE:Hid (w.heap.size≤Y0∧w.heap.size≤Y2∧Y0≠Y2∧Y0≠Y1∧Y1≠Y2∧W.heap.size=Q∧Y0<Q∧Y1<Q∧Y2<Q):=lh ⟨by omega,by omega,by omega,by omega,by omega,hQ,by have:=blk_lt j0;omega,by have:=blk_lt j1;omega,by have:=blk_lt j2;omega⟩
 have HB:=lh (bgo hbW bV)
 have HD:=lh (hDW.below bV)
 have HW:=lh hW
 have HY0:=lh hY0
 have HY1:=lh hY1
 have HY2:=lh hY2
 have HKD:=lh hkd
 have HK9:=lh hk9
 have HBB:=lh hB
 have HG:=lh hG
 have HCS:=lh hcs
 have HIT:=lh ht
 have HI6:Hid (i<s.tabs.length∧i<G.length∧s.tabs.length≤6):=lh ⟨hi,hiG,hn6⟩
 have HFL:=lh (far_in hl)
 have k0:(0:Int)≤(i:Int):=by omega
 have k1:(i:Int)<(G.length:Int):=by omega
 clear hW hbW hY0 hY1 hY2 j0 j1 j2 hDW hcell hV1 hQ jQ bV hkd hk9 hB hG hcs hl hn6 htb hpb hlen hD hc0 hi0 hk0 hg ht
 go_enter Tryz.func39,Tryz.ntmps39
 go_upto_region 1 with fail
 rw [←HW.out,HY0.out,HY1.out,HY2.out]
 go_upto_region 2 with fail
 rw [←HV1.out,HQ.out]
 clear q0 q1 q2 q3 q4 q5 k0 k1
 rcases findIdx_fidx (fun x=>decide (x.nm=d.name)) t.fks with ⟨q,q8⟩ | ⟨k,hk,q,q8,q9⟩
 ·skip
  have HFQ:=lh q
  have HF8:=lh q8
  clear q q8
  have x0:V1.cell? ⟨Y0,0,none⟩=some (.int .i64 (s.ver+1)):=cell_blk J0.out 0
  have x1:V1.cell? ⟨Y0,1,none⟩=some (.int .i64 (s.last)):=cell_blk J0.out 1
  have x2:V1.cell? ⟨Y0,2,none⟩=some (.slice (some ⟨TB,0,none⟩) G.length tcap):=cell_blk J0.out 2
  have y0:V1.cell? ⟨Q,0,none⟩=some (.int .i64 t.id):=cell_blk JQ.out 0
  have y1:V1.cell? ⟨Q,1,none⟩=some (.string t.nm):=cell_blk JQ.out 1
  have y2:V1.cell? ⟨Q,2,none⟩=some (.slice ca t.cols.length cc):=cell_blk JQ.out 2
  have y3:V1.cell? ⟨Q,3,none⟩=some (.slice ia t.ixs.length ic):=cell_blk JQ.out 3
  have y4:V1.cell? ⟨Q,4,none⟩=some (.slice ka t.fks.length kc):=cell_blk JQ.out 4
  have e0:V1.cell? ⟨Y1,0,none⟩=some (.int .i64 kd):=cell_blk J1.out 0
  have e2:V1.cell? ⟨Y1,2,none⟩=some (.string d.name):=cell_blk J1.out 2
  have e3:V1.cell? ⟨Y1,3,none⟩=some (.string d.column):=cell_blk J1.out 3
  have e4:V1.cell? ⟨Y1,4,none⟩=some (.string d.parent):=cell_blk J1.out 4
  have e6:V1.cell? ⟨Y1,6,none⟩=some (.int .i64 d.ty):=cell_blk J1.out 6
  have e7:V1.cell? ⟨Y1,7,none⟩=some (.int .i64 d.df.k):=cell_blk J1.out 7
  have e8:V1.cell? ⟨Y1,8,none⟩=some (.int .i64 d.df.n):=cell_blk J1.out 8
  have e9:V1.cell? ⟨Y1,9,none⟩=some (.string d.df.s):=cell_blk J1.out 9
  have HOC:V1.ownsRow B 50 7 (.slice ca t.cols.length cc) t.cols.length (t.cols.flatMap colL):=by have:=HD.out.c G[i] (List.getElem_mem HI6.out.2.1);rw [HGI.out] at this;exact this
  have HOI:V1.ownsRow B 71 5 (.slice ia t.ixs.length ic) t.ixs.length (t.ixs.flatMap ixL):=by have:=HD.out.i G[i] (List.getElem_mem HI6.out.2.1);rw [HGI.out] at this;exact this
  have HOK:V1.ownsRow B 74 5 (.slice ka t.fks.length kc) t.fks.length (t.fks.flatMap fkL):=by have:=HD.out.k G[i] (List.getElem_mem HI6.out.2.1);rw [HGI.out] at this;exact this
  have hat:=keyAt_any (w:=V1) (t:=t) ⟨Lr.own colL_len HOC,Lr.own ixL_len HOI,Lr.own fkL_len HOK⟩ d.name
  rw [HFQ.out] at hat
  clear HOC HOI HOK
  go_wp2_with (go_at_call 32;refine hat.mono ?_;rintro e w1 ⟨rfl,bw1⟩;refine Hid.out ?_)
  refine lh ?_
  clear x0 x1 x2 y0 y1 y2 y3 y4 e0 e2 e3 e4 e6 e7 e8 e9 hat
  have JQ':=lh ((bw1.block Q (blk_lt JQ.out)).trans JQ.out)
  have J0':=lh ((bw1.block Y0 (blk_lt J0.out)).trans J0.out)
  have J1':=lh ((bw1.block Y1 (blk_lt J1.out)).trans J1.out)
  have J2':=lh ((bw1.block Y2 (blk_lt J2.out)).trans J2.out)
  have HD':=lh (HD.out.below bw1)
  have HB':=lh (bgo HB.out bw1)
  clear JQ J0 J1 J2 HD HB bw1
  have JQ:=JQ'
  have J0:=J0'
  have J1:=J1'
  have J2:=J2'
  have HD:=HD'
  have HB:=HB'
  clear JQ' J0' J1' J2' HD' HB'
  have x0:w1.cell? ⟨Y0,0,none⟩=some (.int .i64 (s.ver+1)):=cell_blk J0.out 0
  have x1:w1.cell? ⟨Y0,1,none⟩=some (.int .i64 (s.last)):=cell_blk J0.out 1
  have x2:w1.cell? ⟨Y0,2,none⟩=some (.slice (some ⟨TB,0,none⟩) G.length tcap):=cell_blk J0.out 2
  have y0:w1.cell? ⟨Q,0,none⟩=some (.int .i64 t.id):=cell_blk JQ.out 0
  have y1:w1.cell? ⟨Q,1,none⟩=some (.string t.nm):=cell_blk JQ.out 1
  have y2:w1.cell? ⟨Q,2,none⟩=some (.slice ca t.cols.length cc):=cell_blk JQ.out 2
  have y3:w1.cell? ⟨Q,3,none⟩=some (.slice ia t.ixs.length ic):=cell_blk JQ.out 3
  have y4:w1.cell? ⟨Q,4,none⟩=some (.slice ka t.fks.length kc):=cell_blk JQ.out 4
  have e0:w1.cell? ⟨Y1,0,none⟩=some (.int .i64 kd):=cell_blk J1.out 0
  have e2:w1.cell? ⟨Y1,2,none⟩=some (.string d.name):=cell_blk J1.out 2
  have e3:w1.cell? ⟨Y1,3,none⟩=some (.string d.column):=cell_blk J1.out 3
  have e4:w1.cell? ⟨Y1,4,none⟩=some (.string d.parent):=cell_blk J1.out 4
  have e6:w1.cell? ⟨Y1,6,none⟩=some (.int .i64 d.ty):=cell_blk J1.out 6
  have e7:w1.cell? ⟨Y1,7,none⟩=some (.int .i64 d.df.k):=cell_blk J1.out 7
  have e8:w1.cell? ⟨Y1,8,none⟩=some (.int .i64 d.df.n):=cell_blk J1.out 8
  have e9:w1.cell? ⟨Y1,9,none⟩=some (.string d.df.s):=cell_blk J1.out 9
  rcases HK9.out with hk | hk
  ·skip
   have HK9:=lh hk
   clear hk
   rw [HK9.out] at e0
   have hat:=fresh_ref (w:=w1) d.name (t.fks.length:Int)
   obtain ⟨fr,hfr⟩:∃ fr,(if nameB d.name=false then (100:Int) else if 8≤(t.fks.length:Int) then 156 else 0)=fr:=⟨_,rfl⟩
   rw [hfr] at hat
   have hmx:(t.fks.length:Int)≤9223372036854775807:=by have:=HPB.out;omega
   go_wp2_with (go_at_call 83;refine hat.mono ?_;rintro e w2 ⟨rfl,h9⟩;refine Hid.out ?_)
   refine lh ?_
   subst h9
   clear hat
   by_cases hnm:nameB d.name=false
   ·rw [if_pos hnm] at hfr
    subst hfr
    have HR:Hid (changeT s d st i t=.error 100):=lh (by
     unfold changeT
     rw [if_neg (by rw [HKD.out,HK9.out];decide),if_neg (by rw [HKD.out,HK9.out];decide),if_pos (by rw [HKD.out,HK9.out])]
     unfold addL
     rw [HF8.out]
     simp only [hnm,if_true])
    have hld:=load_row J0.out Tryz.underlying24 rfl size24
    obtain ⟨X4,e44,j4,f4⟩:=sets_row J2.out (#[.int .i64 (s.ver+1),.int .i64 s.last,.slice (some ⟨TB,0,none⟩) G.length tcap]) rfl
    have hst:(Instr.storeAt 24 (.pointer (some ⟨Y2,0,none⟩)) (.agg #[.int .i64 (s.ver+1),.int .i64 s.last,.slice (some ⟨TB,0,none⟩) G.length tcap])).run Tryz.prog w2=.ok () X4:=by
     rw [e44]
     exact store_row J2.out rfl size24 (by simp [Value.oneCell'])
    have J4:=lh j4
    have HE:Hid (Below w.heap.size w X4):=lh (HB.out.trans (f4.toBelow (fun k9 hk9 q9=>by have:=GE.out;omega) HB.out.size))
    clear e44 j4 f4 x0 x1 x2 y0 y1 y2 y3 y4 e0 e2 e3 e4 e6 e7 e8 e9
    go_upto_region 6 with fail
    go_wp2_with (first | (refine wpl_load _ rfl (by first | rfl | (simp [Act.eval];done)) hld ?_) | (refine wpl_store _ _ rfl (by first | rfl | (simp [Act.eval];done)) (by first | rfl | (simp [Act.eval];done)) hst ?_))
    refine bodyPost_ret (results_two rfl rfl rfl (load_var J4.out Tryz.underlying24 rfl size24)) rfl ?_
    exact CrAns.err HR.out (by decide) HBB.out HE.out
   by_cases hl8:8≤(t.fks.length:Int)
   ·rw [if_neg hnm,if_pos hl8] at hfr
    subst hfr
    have HR:Hid (changeT s d st i t=.error 156):=lh (by
     unfold changeT
     rw [if_neg (by rw [HKD.out,HK9.out];decide),if_neg (by rw [HKD.out,HK9.out];decide),if_pos (by rw [HKD.out,HK9.out])]
     unfold addL
     rw [HF8.out]
     simp only
     rw [if_neg hnm,if_pos (by have:=HPB.out;omega)])
    have hld:=load_row J0.out Tryz.underlying24 rfl size24
    obtain ⟨X4,e44,j4,f4⟩:=sets_row J2.out (#[.int .i64 (s.ver+1),.int .i64 s.last,.slice (some ⟨TB,0,none⟩) G.length tcap]) rfl
    have hst:(Instr.storeAt 24 (.pointer (some ⟨Y2,0,none⟩)) (.agg #[.int .i64 (s.ver+1),.int .i64 s.last,.slice (some ⟨TB,0,none⟩) G.length tcap])).run Tryz.prog w2=.ok () X4:=by
     rw [e44]
     exact store_row J2.out rfl size24 (by simp [Value.oneCell'])
    have J4:=lh j4
    have HE:Hid (Below w.heap.size w X4):=lh (HB.out.trans (f4.toBelow (fun k9 hk9 q9=>by have:=GE.out;omega) HB.out.size))
    clear e44 j4 f4 x0 x1 x2 y0 y1 y2 y3 y4 e0 e2 e3 e4 e6 e7 e8 e9
    go_upto_region 6 with fail
    go_wp2_with (first | (refine wpl_load _ rfl (by first | rfl | (simp [Act.eval];done)) hld ?_) | (refine wpl_store _ _ rfl (by first | rfl | (simp [Act.eval];done)) (by first | rfl | (simp [Act.eval];done)) hst ?_))
    refine bodyPost_ret (results_two rfl rfl rfl (load_var J4.out Tryz.underlying24 rfl size24)) rfl ?_
    exact CrAns.err HR.out (by decide) HBB.out HE.out
   rw [if_neg hnm,if_neg hl8] at hfr
   subst hfr
   have HNM:=lh hnm
   have HL8:Hid (¬ t.fks.length=8):=lh (by omega)
   clear hnm hl8
   have HOC:w2.ownsRow B 50 7 (.slice ca t.cols.length cc) t.cols.length (t.cols.flatMap colL):=by have:=HD.out.c G[i] (List.getElem_mem HI6.out.2.1);rw [HGI.out] at this;exact this
   have HOI:w2.ownsRow B 71 5 (.slice ia t.ixs.length ic) t.ixs.length (t.ixs.flatMap ixL):=by have:=HD.out.i G[i] (List.getElem_mem HI6.out.2.1);rw [HGI.out] at this;exact this
   have HOK:w2.ownsRow B 74 5 (.slice ka t.fks.length kc) t.fks.length (t.fks.flatMap fkL):=by have:=HD.out.k G[i] (List.getElem_mem HI6.out.2.1);rw [HGI.out] at this;exact this
   have hat:=public_ref (w:=w2) (t:=t) ⟨Lr.own colL_len HOC,Lr.own ixL_len HOI,Lr.own fkL_len HOK⟩ d.column
   clear HOC HOI HOK
   rcases pub_cases HPB.out.2.2.2.2.1 d.column with ⟨p1,p2⟩ | ⟨m,hm,p1,p2⟩
   ·skip
    rw [p1] at hat
    have HP2:=lh p2
    clear p1 p2
    skip
    go_wp2_with (go_at_call 84;refine hat.mono ?_;rintro e w3 ⟨rfl,bw3⟩;refine Hid.out ?_)
    refine lh ?_
    clear x0 x1 x2 y0 y1 y2 y3 y4 e0 e2 e3 e4 e6 e7 e8 e9 hat
    have JQ':=lh ((bw3.block Q (blk_lt JQ.out)).trans JQ.out)
    have J0':=lh ((bw3.block Y0 (blk_lt J0.out)).trans J0.out)
    have J1':=lh ((bw3.block Y1 (blk_lt J1.out)).trans J1.out)
    have J2':=lh ((bw3.block Y2 (blk_lt J2.out)).trans J2.out)
    have HD':=lh (HD.out.below bw3)
    have HB':=lh (bgo HB.out bw3)
    clear JQ J0 J1 J2 HD HB bw3
    have JQ:=JQ'
    have J0:=J0'
    have J1:=J1'
    have J2:=J2'
    have HD:=HD'
    have HB:=HB'
    clear JQ' J0' J1' J2' HD' HB'
    have x0:w3.cell? ⟨Y0,0,none⟩=some (.int .i64 (s.ver+1)):=cell_blk J0.out 0
    have x1:w3.cell? ⟨Y0,1,none⟩=some (.int .i64 (s.last)):=cell_blk J0.out 1
    have x2:w3.cell? ⟨Y0,2,none⟩=some (.slice (some ⟨TB,0,none⟩) G.length tcap):=cell_blk J0.out 2
    have y0:w3.cell? ⟨Q,0,none⟩=some (.int .i64 t.id):=cell_blk JQ.out 0
    have y1:w3.cell? ⟨Q,1,none⟩=some (.string t.nm):=cell_blk JQ.out 1
    have y2:w3.cell? ⟨Q,2,none⟩=some (.slice ca t.cols.length cc):=cell_blk JQ.out 2
    have y3:w3.cell? ⟨Q,3,none⟩=some (.slice ia t.ixs.length ic):=cell_blk JQ.out 3
    have y4:w3.cell? ⟨Q,4,none⟩=some (.slice ka t.fks.length kc):=cell_blk JQ.out 4
    have e0:w3.cell? ⟨Y1,0,none⟩=some (.int .i64 kd):=cell_blk J1.out 0
    rw [HK9.out] at e0
    have e2:w3.cell? ⟨Y1,2,none⟩=some (.string d.name):=cell_blk J1.out 2
    have e3:w3.cell? ⟨Y1,3,none⟩=some (.string d.column):=cell_blk J1.out 3
    have e4:w3.cell? ⟨Y1,4,none⟩=some (.string d.parent):=cell_blk J1.out 4
    have e6:w3.cell? ⟨Y1,6,none⟩=some (.int .i64 d.ty):=cell_blk J1.out 6
    have e7:w3.cell? ⟨Y1,7,none⟩=some (.int .i64 d.df.k):=cell_blk J1.out 7
    have e8:w3.cell? ⟨Y1,8,none⟩=some (.int .i64 d.df.n):=cell_blk J1.out 8
    have e9:w3.cell? ⟨Y1,9,none⟩=some (.string d.df.s):=cell_blk J1.out 9
    have HR:Hid (changeT s d st i t=.error 151):=lh (by
     unfold changeT
     rw [if_neg (by rw [HKD.out,HK9.out];decide),if_neg (by rw [HKD.out,HK9.out];decide),if_pos (by rw [HKD.out,HK9.out])]
     unfold addL
     rw [HF8.out]
     simp only
     rw [if_neg HNM.out,if_neg HL8.out]
     unfold newK
     rw [HP2.out])
    have hld:=load_row J0.out Tryz.underlying24 rfl size24
    obtain ⟨X4,e44,j4,f4⟩:=sets_row J2.out (#[.int .i64 (s.ver+1),.int .i64 s.last,.slice (some ⟨TB,0,none⟩) G.length tcap]) rfl
    have hst:(Instr.storeAt 24 (.pointer (some ⟨Y2,0,none⟩)) (.agg #[.int .i64 (s.ver+1),.int .i64 s.last,.slice (some ⟨TB,0,none⟩) G.length tcap])).run Tryz.prog w3=.ok () X4:=by
     rw [e44]
     exact store_row J2.out rfl size24 (by simp [Value.oneCell'])
    have J4:=lh j4
    have HE:Hid (Below w.heap.size w X4):=lh (HB.out.trans (f4.toBelow (fun k9 hk9 q9=>by have:=GE.out;omega) HB.out.size))
    clear e44 j4 f4 x0 x1 x2 y0 y1 y2 y3 y4 e0 e2 e3 e4 e6 e7 e8 e9
    go_upto_region 9 with fail
    go_wp2_with (first | (refine wpl_load _ rfl (by first | rfl | (simp [Act.eval];done)) hld ?_) | (refine wpl_store _ _ rfl (by first | rfl | (simp [Act.eval];done)) (by first | rfl | (simp [Act.eval];done)) hst ?_))
    refine bodyPost_ret (results_two rfl rfl rfl (load_var J4.out Tryz.underlying24 rfl size24)) rfl ?_
    exact CrAns.err HR.out (by decide) HBB.out HE.out
   rw [p1] at hat
   have HP2:=lh p2
   have HM:=lh hm
   have m0:(0:Int)≤(m:Int):=by omega
   have m1:¬ (m:Int)<0:=by omega
   clear p1 p2
   skip
   go_wp2_with (go_at_call 84;refine hat.mono ?_;rintro e w4 ⟨rfl,bw4⟩;refine Hid.out ?_)
   refine lh ?_
   clear x0 x1 x2 y0 y1 y2 y3 y4 e0 e2 e3 e4 e6 e7 e8 e9 hat
   have JQ':=lh ((bw4.block Q (blk_lt JQ.out)).trans JQ.out)
   have J0':=lh ((bw4.block Y0 (blk_lt J0.out)).trans J0.out)
   have J1':=lh ((bw4.block Y1 (blk_lt J1.out)).trans J1.out)
   have J2':=lh ((bw4.block Y2 (blk_lt J2.out)).trans J2.out)
   have HD':=lh (HD.out.below bw4)
   have HB':=lh (bgo HB.out bw4)
   clear JQ J0 J1 J2 HD HB bw4
   have JQ:=JQ'
   have J0:=J0'
   have J1:=J1'
   have J2:=J2'
   have HD:=HD'
   have HB:=HB'
   clear JQ' J0' J1' J2' HD' HB'
   have x0:w4.cell? ⟨Y0,0,none⟩=some (.int .i64 (s.ver+1)):=cell_blk J0.out 0
   have x1:w4.cell? ⟨Y0,1,none⟩=some (.int .i64 (s.last)):=cell_blk J0.out 1
   have x2:w4.cell? ⟨Y0,2,none⟩=some (.slice (some ⟨TB,0,none⟩) G.length tcap):=cell_blk J0.out 2
   have y0:w4.cell? ⟨Q,0,none⟩=some (.int .i64 t.id):=cell_blk JQ.out 0
   have y1:w4.cell? ⟨Q,1,none⟩=some (.string t.nm):=cell_blk JQ.out 1
   have y2:w4.cell? ⟨Q,2,none⟩=some (.slice ca t.cols.length cc):=cell_blk JQ.out 2
   have y3:w4.cell? ⟨Q,3,none⟩=some (.slice ia t.ixs.length ic):=cell_blk JQ.out 3
   have y4:w4.cell? ⟨Q,4,none⟩=some (.slice ka t.fks.length kc):=cell_blk JQ.out 4
   have e0:w4.cell? ⟨Y1,0,none⟩=some (.int .i64 kd):=cell_blk J1.out 0
   rw [HK9.out] at e0
   have e2:w4.cell? ⟨Y1,2,none⟩=some (.string d.name):=cell_blk J1.out 2
   have e3:w4.cell? ⟨Y1,3,none⟩=some (.string d.column):=cell_blk J1.out 3
   have e4:w4.cell? ⟨Y1,4,none⟩=some (.string d.parent):=cell_blk J1.out 4
   have e6:w4.cell? ⟨Y1,6,none⟩=some (.int .i64 d.ty):=cell_blk J1.out 6
   have e7:w4.cell? ⟨Y1,7,none⟩=some (.int .i64 d.df.k):=cell_blk J1.out 7
   have e8:w4.cell? ⟨Y1,8,none⟩=some (.int .i64 d.df.n):=cell_blk J1.out 8
   have e9:w4.cell? ⟨Y1,9,none⟩=some (.string d.df.s):=cell_blk J1.out 9
   obtain ⟨mb,mo,mcs,hme,_,hmE,_,hmc⟩:∃ b o cs,ca=some (⟨b,o,none⟩:Addr)∧True∧cs=colL t.cols[m]∧True∧True:=by
    obtain ⟨_,_,ee,_,_,_,hcs9⟩:=Lr.own colL_len (by have:=HD.out.c G[i] (List.getElem_mem HI6.out.2.1);rw [HGI.out] at this;exact this:w4.ownsRow B 50 7 (.slice ca t.cols.length cc) t.cols.length (t.cols.flatMap colL))
    cases ee
    obtain ⟨b,o,cs,e9,_,h9,_,_⟩:=hcs9 m hm
    exact ⟨b,o,_,e9,trivial,rfl,trivial,trivial⟩
   subst hme
   clear hmE hmc
   have HCB:Hid (∃ cs9,w4.heap[mb]?=some (.cells cs9 50 (0,0))∧cs9[mo+m*7]?=some (.int .i64 t.cols[m].id)∧cs9[mo+m*7+2]?=some (.int .i64 t.cols[m].kd)):=lh (by
    have ho:=(by have:=HD.out.c G[i] (List.getElem_mem HI6.out.2.1);rw [HGI.out] at this;exact this:w4.ownsRow B 50 7 (.slice (some ⟨mb,mo,none⟩) t.cols.length cc) t.cols.length (t.cols.flatMap colL))
    obtain ⟨cs9,tg⟩:=own_tag ho mb rfl
    refine ⟨cs9,tg,?_⟩
    obtain ⟨_,_,ee,_,_,_,hcs9⟩:=Lr.own colL_len ho
    cases ee
    obtain ⟨b,o,cs,e9,_,h9,_,hh⟩:=hcs9 m hm
    cases e9
    rw [h9] at hh
    have h0:=hh 0 _ rfl
    have h2:=hh 2 _ rfl
    rw [cell_blk tg] at h0 h2
    exact ⟨h0,h2⟩)
   obtain ⟨ci,hci⟩:∃ ci,t.cols[m].id=ci:=⟨_,rfl⟩
   obtain ⟨ck,hck⟩:∃ ck,t.cols[m].kd=ck:=⟨_,rfl⟩
   rw [hci,hck] at HCB
   have HCK:=lh hck
   clear hck
   obtain ⟨csm,hcm⟩:∃ cs9,w4.heap[mb]?=some (.cells cs9 50 (0,0))∧cs9[mo+m*7]?=some (.int .i64 ci)∧cs9[mo+m*7+2]?=some (.int .i64 ck):=HCB.out
   have HCM:Hid (w4.heap[mb]?=some (.cells csm 50 (0,0))∧csm[mo+m*7]?=some (.int .i64 ci)∧mb≠Y0∧csm[mo+m*7+2]?=some (.int .i64 ck)):=lh ⟨hcm.1,hcm.2.1,fun q=>by
    rw [q,J0.out] at hcm
    have:=hcm.1
    simp only [Option.some.injEq,Obj.cells.injEq] at this
    exact absurd this.2.1 (by decide),hcm.2.2⟩
   have HCI:=lh hci
   clear HCB hcm hci
   have hat:=tabAt_any (w:=w4) (s:=⟨s.ver+1,s.last,s.tabs⟩) (tv:=.slice (some ⟨TB,0,none⟩) G.length tcap) (by have:=HD.out.reads;rw [HG.out] at this;exact this) d.parent
   change Calls Tryz.prog 10 #[.agg #[.int .i64 (s.ver+1),.int .i64 s.last,.slice (some ⟨TB,0,none⟩) G.length tcap],.string d.parent] w4 (fun e w'=>e=.returned (.int .i64 (fidx (fun x=>decide (x.nm=d.parent)) s.tabs))∧Below w4.heap.size w4 w') at hat
   rcases findIdx_fidx (fun x=>decide (x.nm=d.parent)) s.tabs with ⟨p1,p2⟩ | ⟨p,hp,p1,p2,p3⟩
   ·skip
    rw [p1] at hat
    have HPN:=lh (find_no p2)
    clear p1 p2
    go_wp2_with (go_at_call 10;refine hat.mono ?_;rintro e w5 ⟨rfl,bw5⟩;refine Hid.out ?_)
    refine lh ?_
    clear x0 x1 x2 y0 y1 y2 y3 y4 e0 e2 e3 e4 e6 e7 e8 e9 hat
    have HCM':Hid (w5.heap[mb]?=some (.cells csm 50 (0,0))∧csm[mo+m*7]?=some (.int .i64 ci)∧mb≠Y0∧csm[mo+m*7+2]?=some (.int .i64 ck)):=lh ⟨(bw5.block mb (blk_lt HCM.out.1)).trans HCM.out.1,HCM.out.2⟩
    clear HCM
    have HCM:=HCM'
    clear HCM'
    have JQ':=lh ((bw5.block Q (blk_lt JQ.out)).trans JQ.out)
    have J0':=lh ((bw5.block Y0 (blk_lt J0.out)).trans J0.out)
    have J1':=lh ((bw5.block Y1 (blk_lt J1.out)).trans J1.out)
    have J2':=lh ((bw5.block Y2 (blk_lt J2.out)).trans J2.out)
    have HD':=lh (HD.out.below bw5)
    have HB':=lh (bgo HB.out bw5)
    clear JQ J0 J1 J2 HD HB bw5
    have JQ:=JQ'
    have J0:=J0'
    have J1:=J1'
    have J2:=J2'
    have HD:=HD'
    have HB:=HB'
    clear JQ' J0' J1' J2' HD' HB'
    have x0:w5.cell? ⟨Y0,0,none⟩=some (.int .i64 (s.ver+1)):=cell_blk J0.out 0
    have x1:w5.cell? ⟨Y0,1,none⟩=some (.int .i64 (s.last)):=cell_blk J0.out 1
    have x2:w5.cell? ⟨Y0,2,none⟩=some (.slice (some ⟨TB,0,none⟩) G.length tcap):=cell_blk J0.out 2
    have y0:w5.cell? ⟨Q,0,none⟩=some (.int .i64 t.id):=cell_blk JQ.out 0
    have y1:w5.cell? ⟨Q,1,none⟩=some (.string t.nm):=cell_blk JQ.out 1
    have y2:w5.cell? ⟨Q,2,none⟩=some (.slice (some ⟨mb,mo,none⟩) t.cols.length cc):=cell_blk JQ.out 2
    have y3:w5.cell? ⟨Q,3,none⟩=some (.slice ia t.ixs.length ic):=cell_blk JQ.out 3
    have y4:w5.cell? ⟨Q,4,none⟩=some (.slice ka t.fks.length kc):=cell_blk JQ.out 4
    have e0:w5.cell? ⟨Y1,0,none⟩=some (.int .i64 kd):=cell_blk J1.out 0
    rw [HK9.out] at e0
    have e2:w5.cell? ⟨Y1,2,none⟩=some (.string d.name):=cell_blk J1.out 2
    have e3:w5.cell? ⟨Y1,3,none⟩=some (.string d.column):=cell_blk J1.out 3
    have e4:w5.cell? ⟨Y1,4,none⟩=some (.string d.parent):=cell_blk J1.out 4
    have e6:w5.cell? ⟨Y1,6,none⟩=some (.int .i64 d.ty):=cell_blk J1.out 6
    have e7:w5.cell? ⟨Y1,7,none⟩=some (.int .i64 d.df.k):=cell_blk J1.out 7
    have e8:w5.cell? ⟨Y1,8,none⟩=some (.int .i64 d.df.n):=cell_blk J1.out 8
    have e9:w5.cell? ⟨Y1,9,none⟩=some (.string d.df.s):=cell_blk J1.out 9
    have HR:Hid (changeT s d st i t=.error 150):=lh (by
     unfold changeT
     rw [if_neg (by rw [HKD.out,HK9.out];decide),if_neg (by rw [HKD.out,HK9.out];decide),if_pos (by rw [HKD.out,HK9.out])]
     unfold addL
     rw [HF8.out]
     simp only
     rw [if_neg HNM.out,if_neg HL8.out]
     unfold newK
     rw [HP2.out]
     simp only
     rw [HPN.out])
    have hld:=load_row J0.out Tryz.underlying24 rfl size24
    obtain ⟨X4,e44,j4,f4⟩:=sets_row J2.out (#[.int .i64 (s.ver+1),.int .i64 s.last,.slice (some ⟨TB,0,none⟩) G.length tcap]) rfl
    have hst:(Instr.storeAt 24 (.pointer (some ⟨Y2,0,none⟩)) (.agg #[.int .i64 (s.ver+1),.int .i64 s.last,.slice (some ⟨TB,0,none⟩) G.length tcap])).run Tryz.prog w5=.ok () X4:=by
     rw [e44]
     exact store_row J2.out rfl size24 (by simp [Value.oneCell'])
    have J4:=lh j4
    have HE:Hid (Below w.heap.size w X4):=lh (HB.out.trans (f4.toBelow (fun k9 hk9 q9=>by have:=GE.out;omega) HB.out.size))
    clear e44 j4 f4 x0 x1 x2 y0 y1 y2 y3 y4 e0 e2 e3 e4 e6 e7 e8 e9
    go_upto_region 12 with fail
    go_wp2_with (first | (refine wpl_load _ rfl (by first | rfl | (simp [Act.eval];done)) hld ?_) | (refine wpl_store _ _ rfl (by first | rfl | (simp [Act.eval];done)) (by first | rfl | (simp [Act.eval];done)) hst ?_))
    refine bodyPost_ret (results_two rfl rfl rfl (load_var J4.out Tryz.underlying24 rfl size24)) rfl ?_
    exact CrAns.err HR.out (by decide) HBB.out HE.out
   ·skip
    rw [p1] at hat
    have HPL:=lh hp
    have HPN:=lh (find_yes p2 HPL.out)
    have p0:(0:Int)≤(p:Int):=by omega
    have p9:¬ (p:Int)<0:=by omega
    clear p1 p2 p3 hp
    go_wp2_with (go_at_call 10;refine hat.mono ?_;rintro e w6 ⟨rfl,bw6⟩;refine Hid.out ?_)
    refine lh ?_
    clear x0 x1 x2 y0 y1 y2 y3 y4 e0 e2 e3 e4 e6 e7 e8 e9 hat
    have HCM':Hid (w6.heap[mb]?=some (.cells csm 50 (0,0))∧csm[mo+m*7]?=some (.int .i64 ci)∧mb≠Y0∧csm[mo+m*7+2]?=some (.int .i64 ck)):=lh ⟨(bw6.block mb (blk_lt HCM.out.1)).trans HCM.out.1,HCM.out.2⟩
    clear HCM
    have HCM:=HCM'
    clear HCM'
    have JQ':=lh ((bw6.block Q (blk_lt JQ.out)).trans JQ.out)
    have J0':=lh ((bw6.block Y0 (blk_lt J0.out)).trans J0.out)
    have J1':=lh ((bw6.block Y1 (blk_lt J1.out)).trans J1.out)
    have J2':=lh ((bw6.block Y2 (blk_lt J2.out)).trans J2.out)
    have HD':=lh (HD.out.below bw6)
    have HB':=lh (bgo HB.out bw6)
    clear JQ J0 J1 J2 HD HB bw6
    have JQ:=JQ'
    have J0:=J0'
    have J1:=J1'
    have J2:=J2'
    have HD:=HD'
    have HB:=HB'
    clear JQ' J0' J1' J2' HD' HB'
    have x0:w6.cell? ⟨Y0,0,none⟩=some (.int .i64 (s.ver+1)):=cell_blk J0.out 0
    have x1:w6.cell? ⟨Y0,1,none⟩=some (.int .i64 (s.last)):=cell_blk J0.out 1
    have x2:w6.cell? ⟨Y0,2,none⟩=some (.slice (some ⟨TB,0,none⟩) G.length tcap):=cell_blk J0.out 2
    have y0:w6.cell? ⟨Q,0,none⟩=some (.int .i64 t.id):=cell_blk JQ.out 0
    have y1:w6.cell? ⟨Q,1,none⟩=some (.string t.nm):=cell_blk JQ.out 1
    have y2:w6.cell? ⟨Q,2,none⟩=some (.slice (some ⟨mb,mo,none⟩) t.cols.length cc):=cell_blk JQ.out 2
    have y3:w6.cell? ⟨Q,3,none⟩=some (.slice ia t.ixs.length ic):=cell_blk JQ.out 3
    have y4:w6.cell? ⟨Q,4,none⟩=some (.slice ka t.fks.length kc):=cell_blk JQ.out 4
    have e0:w6.cell? ⟨Y1,0,none⟩=some (.int .i64 kd):=cell_blk J1.out 0
    rw [HK9.out] at e0
    have e2:w6.cell? ⟨Y1,2,none⟩=some (.string d.name):=cell_blk J1.out 2
    have e3:w6.cell? ⟨Y1,3,none⟩=some (.string d.column):=cell_blk J1.out 3
    have e4:w6.cell? ⟨Y1,4,none⟩=some (.string d.parent):=cell_blk J1.out 4
    have e6:w6.cell? ⟨Y1,6,none⟩=some (.int .i64 d.ty):=cell_blk J1.out 6
    have e7:w6.cell? ⟨Y1,7,none⟩=some (.int .i64 d.df.k):=cell_blk J1.out 7
    have e8:w6.cell? ⟨Y1,8,none⟩=some (.int .i64 d.df.n):=cell_blk J1.out 8
    have e9:w6.cell? ⟨Y1,9,none⟩=some (.string d.df.s):=cell_blk J1.out 9
    obtain ⟨tp,htp⟩:∃ tp,s.tabs[p]'HPL.out=tp:=⟨_,rfl⟩
    have hpf:=tabB_facts (HCS.out _ (List.getElem_mem HPL.out))
    have HPG:Hid (p<G.length):=lh (by have:=HPL.out;have:=HLN.out;omega)
    obtain ⟨gp,hgp⟩:∃ gp,G[p]'HPG.out=gp:=⟨_,rfl⟩
    have hgt:gp.1=tp:=by
     rw [←hgp,←htp]
     have:s.tabs[p]'HPL.out=(G.map Prod.fst)[p]'(by rw [List.length_map];exact HPG.out):=by simp only [HG.out]
     rw [this,List.getElem_map]
    obtain ⟨tp',pcv,piv,pkv⟩:=gp
    simp only at hgt
    subst hgt
    have hpc:=HD.out.c (G[p]'HPG.out) (List.getElem_mem HPG.out)
    rw [hgp] at hpc
    simp only at hpc
    obtain ⟨pca,pcc,e5⟩:=own_shape hpc
    subst e5
    have hp1:1≤tp'.cols.length:=by rw [←htp];exact hpf.1
    obtain ⟨pb,po,hpa,hpx⟩:∃ (pb po:Nat),pca=some (⟨pb,po,none⟩:Addr)∧w6.cell? ⟨pb,po+0*7+2,none⟩=some (.int .i64 (tp'.cols[0]'(by omega)).kd):=by
     obtain ⟨_,_,ee,_,_,_,hcs9⟩:=Lr.own colL_len hpc
     cases ee
     obtain ⟨b,o,cs,e9,_,h9,_,hh⟩:=hcs9 0 (by omega)
     rw [h9] at hh
     exact ⟨b,o,e9,hh 2 _ rfl⟩
    subst hpa
    obtain ⟨k0,hk0⟩:∃ k0,(tp'.cols[0]'(by omega)).kd=k0:=⟨_,rfl⟩
    rw [hk0] at hpx
    have hkk:keyKd tp'=some k0:=by
     unfold keyKd
     rw [List.head?_eq_getElem?,List.getElem?_eq_getElem (by omega),Option.map_some,hk0]
    have hcellp:∀ j u,(gL (G[p]'HPG.out))[j]?=some u→w6.cell? ⟨TB,p*5+j,none⟩=some u:=fun j u hu=>by
     obtain ⟨_,_,e',_,_,_,hX⟩:=Lr.own gL_len HD.out.row
     cases e'
     obtain ⟨b,o,cs,e2,_,hE,_,hh⟩:=hX p HPG.out
     cases e2
     rw [hE] at hh
     have:=hh j u hu
     rw [Nat.zero_add] at this
     exact this
    rw [hgp] at hcellp
    have n2:w6.cell? ⟨TB,p*5+2,none⟩=some (.slice (some ⟨pb,po,none⟩) tp'.cols.length pcc):=hcellp 2 _ rfl
    have nm2:w6.cell? ⟨mb,mo+m*7+2,none⟩=some (.int .i64 ck):=(cell_blk HCM.out.1 _).trans HCM.out.2.2.2
    have HTP:Hid (s.tabs[p]'HPL.out=tp'∧G[p]'HPG.out=(tp',.slice (some ⟨pb,po,none⟩) tp'.cols.length pcc,piv,pkv)∧p<G.length∧1≤tp'.cols.length∧keyKd tp'=some k0):=lh ⟨htp,hgp,HPG.out,hp1,hkk⟩
    have HP1:=lh hp1
    clear htp hgp hp1 hpc hpf hcellp hkk hk0
    obtain ⟨nb,hnb⟩:∃ nb,(!decide (k0=ck))=nb:=⟨_,rfl⟩
    have HNB:=lh hnb
    clear hnb
    go_upto_region 13 with fail
    refine wp_region_fb (fun _ X9=>Below w6.heap.size w6 X9) (fun X9 X'=>Below X9.heap.size X9 X') [
     fun v9 _=>v9=.pointer (some ⟨Y0,2,none⟩),
     fun v9 _=>v9=.slice (some ⟨TB,0,none⟩) G.length tcap,
     fun v9 _=>v9=.int .i64 (p:Int),
     fun v9 _=>v9=.pointer (some ⟨TB,p*5,none⟩),
     fun v9 _=>v9=.pointer (some ⟨TB,p*5+2,none⟩),
     fun v9 _=>v9=.slice (some ⟨pb,po,none⟩) tp'.cols.length pcc,
     fun v9 _=>v9=.pointer (some ⟨pb,po+0*7,none⟩),
     fun v9 _=>v9=.pointer (some ⟨pb,po+0*7+2,none⟩),
     fun v9 _=>v9=.int .i64 k0,
     fun v9 _=>v9=.pointer (some ⟨Q,2,none⟩),
     fun v9 _=>v9=.slice (some ⟨mb,mo,none⟩) t.cols.length cc,
     fun v9 _=>v9=.int .i64 (m:Int),
     fun v9 _=>v9=.pointer (some ⟨mb,mo+m*7,none⟩),
     fun v9 _=>v9=.pointer (some ⟨mb,mo+m*7+2,none⟩),
     fun v9 _=>v9=.int .i64 ck,
     fun v9 _=>v9=.bool nb]
     (by kernel_rfl) (by kernel_rfl) (by kernel_rfl) ?st ?g0 ?os ?en
    case st=>exact ⟨fun _ _ _ _ h=>h,fun _ _ _ _ h=>h,fun _ _ _ _ h=>h,fun _ _ _ _ h=>h,fun _ _ _ _ h=>h,fun _ _ _ _ h=>h,fun _ _ _ _ h=>h,fun _ _ _ _ h=>h,fun _ _ _ _ h=>h,fun _ _ _ _ h=>h,fun _ _ _ _ h=>h,fun _ _ _ _ h=>h,fun _ _ _ _ h=>h,fun _ _ _ _ h=>h,fun _ _ _ _ h=>h,fun _ _ _ _ h=>h,trivial⟩
    case g0=>exact ⟨rfl,rfl,rfl,Nat.le_refl _,fun _ _=>rfl⟩
    case os =>
     refine ⟨?_,?_,?_,?_,?_,?_,?_,?_,?_,?_,?_,?_,?_,?_,?_,?_,trivial⟩
     ·exact fun ρ X9 fl hg hn hl hp ho hc hf hr=>.inl ⟨rfl,Runs.val _ (op_f24_2 (show ρ (.tmp 4)=.pointer (some ⟨Y0,0,none⟩) from ho 4 rfl)) ⟨hg,Below.refl _ _,rfl⟩⟩
     ·exact fun ρ X9 fl hg hn hl hp ho hc hf hr=>.inl ⟨rfl,Runs.val _ (op_load22 (show ρ (.tmp 58)=.pointer (some ⟨Y0,2,none⟩) from hr 0 58 rfl rfl) (cell_on hg x2)) ⟨hg,Below.refl _ _,rfl⟩⟩
     ·exact fun ρ X9 fl hg hn hl hp ho hc hf hr=>.inl ⟨rfl,Runs.val _ (op_move (show ρ (.tmp 14)=.int .i64 (p:Int) from ho 14 rfl)) ⟨hg,Below.refl _ _,rfl⟩⟩
     ·exact fun ρ X9 fl hg hn hl hp ho hc hf hr=>.inl ⟨rfl,Runs.val _ (op_i22z (show ρ (.tmp 59)=.slice (some ⟨TB,0,none⟩) G.length tcap from hr 1 59 rfl rfl) (show ρ (.tmp 60)=.int .i64 (p:Int) from hr 2 60 rfl rfl) HTP.out.2.2.1) ⟨hg,Below.refl _ _,rfl⟩⟩
     ·exact fun ρ X9 fl hg hn hl hp ho hc hf hr=>.inl ⟨rfl,Runs.val _ (op_f35_2 (show ρ (.tmp 61)=.pointer (some ⟨TB,p*5,none⟩) from hr 3 61 rfl rfl)) ⟨hg,Below.refl _ _,rfl⟩⟩
     ·exact fun ρ X9 fl hg hn hl hp ho hc hf hr=>.inl ⟨rfl,Runs.val _ (op_load29 (show ρ (.tmp 62)=.pointer (some ⟨TB,p*5+2,none⟩) from hr 4 62 rfl rfl) (cell_on hg n2)) ⟨hg,Below.refl _ _,rfl⟩⟩
     ·exact fun ρ X9 fl hg hn hl hp ho hc hf hr=>.inl ⟨rfl,Runs.val _ (op_i29 (show ρ (.tmp 63)=.slice (some ⟨pb,po,none⟩) tp'.cols.length pcc from hr 5 63 rfl rfl) (show ρ (.const (.int .i64 0))=.int .i64 ((0:Nat):Int) from hc _) HP1.out) ⟨hg,Below.refl _ _,rfl⟩⟩
     ·exact fun ρ X9 fl hg hn hl hp ho hc hf hr=>.inl ⟨rfl,Runs.val _ (op_f50_2 (show ρ (.tmp 64)=.pointer (some ⟨pb,po+0*7,none⟩) from hr 6 64 rfl rfl)) ⟨hg,Below.refl _ _,rfl⟩⟩
     ·exact fun ρ X9 fl hg hn hl hp ho hc hf hr=>.inl ⟨rfl,Runs.val _ (op_load3 (show ρ (.tmp 65)=.pointer (some ⟨pb,po+0*7+2,none⟩) from hr 7 65 rfl rfl) (cell_on hg hpx)) ⟨hg,Below.refl _ _,rfl⟩⟩
     ·exact fun ρ X9 fl hg hn hl hp ho hc hf hr=>.inl ⟨rfl,Runs.val _ (op_f35_2 (show ρ (.tmp 10)=.pointer (some ⟨Q,0,none⟩) from ho 10 rfl)) ⟨hg,Below.refl _ _,rfl⟩⟩
     ·exact fun ρ X9 fl hg hn hl hp ho hc hf hr=>.inl ⟨rfl,Runs.val _ (op_load29 (show ρ (.tmp 67)=.pointer (some ⟨Q,2,none⟩) from hr 9 67 rfl rfl) (cell_on hg y2)) ⟨hg,Below.refl _ _,rfl⟩⟩
     ·exact fun ρ X9 fl hg hn hl hp ho hc hf hr=>.inl ⟨rfl,Runs.val _ (op_move (show ρ (.tmp 13)=.int .i64 (m:Int) from ho 13 rfl)) ⟨hg,Below.refl _ _,rfl⟩⟩
     ·exact fun ρ X9 fl hg hn hl hp ho hc hf hr=>.inl ⟨rfl,Runs.val _ (op_i29 (show ρ (.tmp 68)=.slice (some ⟨mb,mo,none⟩) t.cols.length cc from hr 10 68 rfl rfl) (show ρ (.tmp 69)=.int .i64 (m:Int) from hr 11 69 rfl rfl) HM.out) ⟨hg,Below.refl _ _,rfl⟩⟩
     ·exact fun ρ X9 fl hg hn hl hp ho hc hf hr=>.inl ⟨rfl,Runs.val _ (op_f50_2 (show ρ (.tmp 70)=.pointer (some ⟨mb,mo+m*7,none⟩) from hr 12 70 rfl rfl)) ⟨hg,Below.refl _ _,rfl⟩⟩
     ·exact fun ρ X9 fl hg hn hl hp ho hc hf hr=>.inl ⟨rfl,Runs.val _ (op_load3 (show ρ (.tmp 71)=.pointer (some ⟨mb,mo+m*7+2,none⟩) from hr 13 71 rfl rfl) (cell_on hg nm2)) ⟨hg,Below.refl _ _,rfl⟩⟩
     ·exact fun ρ X9 fl hg hn hl hp ho hc hf hr=>.inl ⟨rfl,Runs.val _ (op_neq3 (show ρ (.tmp 66)=.int .i64 k0 from hr 8 66 rfl rfl) (show ρ (.tmp 72)=.int .i64 ck from hr 14 72 rfl rfl) HNB.out) ⟨hg,Below.refl _ _,rfl⟩⟩
    case en =>
     intro a9 N9 fl hfl b9 hs9 hd9 ho9 hr9
     obtain ⟨x9,hx,hxt⟩:=act_put hs9 hd9 ho9
     have p73:x9 73=.bool nb:=(hxt 73).symm.trans (hr9 15 73 rfl)
     change a9=putAll _ x9 [58,59,60,61,62,63,64,65,66,67,68,69,70,71,72,73] at hx
     simp only [putAll,Act.put,List.setIfInBounds_toArray,List.set_cons_zero,List.set_cons_succ,p73] at hx
     clear hs9 hd9 ho9 hr9 hxt hfl p73
     subst hx
     generalize x9 58=z58,x9 59=z59,x9 60=z60,x9 61=z61,x9 62=z62,x9 63=z63,x9 64=z64,x9 65=z65,x9 66=z66,x9 67=z67,x9 68=z68,x9 69=z69,x9 70=z70,x9 71=z71,x9 72=z72
     clear x0 x1 x2 y0 y1 y2 y3 y4 e0 e2 e3 e4 e6 e7 e8 e9 n2 nm2 hpx
     have HCM':Hid (N9.heap[mb]?=some (.cells csm 50 (0,0))∧csm[mo+m*7]?=some (.int .i64 ci)∧mb≠Y0):=lh ⟨(b9.block mb (blk_lt HCM.out.1)).trans HCM.out.1,HCM.out.2.1,HCM.out.2.2.1⟩
     clear HCM
     have HCM:=HCM'
     clear HCM'
     have JQ':=lh ((b9.block Q (blk_lt JQ.out)).trans JQ.out)
     have J0':=lh ((b9.block Y0 (blk_lt J0.out)).trans J0.out)
     have J1':=lh ((b9.block Y1 (blk_lt J1.out)).trans J1.out)
     have J2':=lh ((b9.block Y2 (blk_lt J2.out)).trans J2.out)
     have HD':=lh (HD.out.below b9)
     have HB':=lh (bgo HB.out b9)
     clear JQ J0 J1 J2 HD HB b9
     have JQ:=JQ'
     have J0:=J0'
     have J1:=J1'
     have J2:=J2'
     have HD:=HD'
     have HB:=HB'
     clear JQ' J0' J1' J2' HD' HB'
     have x0:N9.cell? ⟨Y0,0,none⟩=some (.int .i64 (s.ver+1)):=cell_blk J0.out 0
     have x1:N9.cell? ⟨Y0,1,none⟩=some (.int .i64 (s.last)):=cell_blk J0.out 1
     have x2:N9.cell? ⟨Y0,2,none⟩=some (.slice (some ⟨TB,0,none⟩) G.length tcap):=cell_blk J0.out 2
     have y0:N9.cell? ⟨Q,0,none⟩=some (.int .i64 t.id):=cell_blk JQ.out 0
     have y1:N9.cell? ⟨Q,1,none⟩=some (.string t.nm):=cell_blk JQ.out 1
     have y2:N9.cell? ⟨Q,2,none⟩=some (.slice (some ⟨mb,mo,none⟩) t.cols.length cc):=cell_blk JQ.out 2
     have y3:N9.cell? ⟨Q,3,none⟩=some (.slice ia t.ixs.length ic):=cell_blk JQ.out 3
     have y4:N9.cell? ⟨Q,4,none⟩=some (.slice ka t.fks.length kc):=cell_blk JQ.out 4
     have e0:N9.cell? ⟨Y1,0,none⟩=some (.int .i64 kd):=cell_blk J1.out 0
     rw [HK9.out] at e0
     have e2:N9.cell? ⟨Y1,2,none⟩=some (.string d.name):=cell_blk J1.out 2
     have e3:N9.cell? ⟨Y1,3,none⟩=some (.string d.column):=cell_blk J1.out 3
     have e4:N9.cell? ⟨Y1,4,none⟩=some (.string d.parent):=cell_blk J1.out 4
     have e6:N9.cell? ⟨Y1,6,none⟩=some (.int .i64 d.ty):=cell_blk J1.out 6
     have e7:N9.cell? ⟨Y1,7,none⟩=some (.int .i64 d.df.k):=cell_blk J1.out 7
     have e8:N9.cell? ⟨Y1,8,none⟩=some (.int .i64 d.df.n):=cell_blk J1.out 8
     have e9:N9.cell? ⟨Y1,9,none⟩=some (.string d.df.s):=cell_blk J1.out 9
     by_cases ke:k0=ck
     ·skip
      have HKE:Hid (keyKd (s.tabs[p]'HPL.out)=some (t.cols[m]'HM.out).kd):=lh (by rw [HTP.out.1,HTP.out.2.2.2.2,ke,←HCK.out];rfl)
      have nb0:nb=false:=by rw [←HNB.out,ke];simp
      subst nb0
      clear ke
      by_cases s0:st=0
      ·skip
       have s1:(st == 0)=true:=by simpa using s0
       have HS0:=lh s0
       clear s0
       have HR:Hid (changeT s d st i t=.error 1):=lh (by
        unfold changeT
        rw [if_neg (by rw [HKD.out,HK9.out];decide),if_neg (by rw [HKD.out,HK9.out];decide),if_pos (by rw [HKD.out,HK9.out])]
        unfold addL
        rw [HF8.out]
        simp only
        rw [if_neg HNM.out,if_neg HL8.out]
        unfold newK
        rw [HP2.out]
        simp only
        rw [HPN.out]
        simp only
        rw [if_pos HKE.out]
        simp only
        rw [if_pos HS0.out])
       have hld:=load_row J0.out Tryz.underlying24 rfl size24
       obtain ⟨X4,e44,j4,f4⟩:=sets_row J2.out (#[.int .i64 (s.ver+1),.int .i64 s.last,.slice (some ⟨TB,0,none⟩) G.length tcap]) rfl
       have hst:(Instr.storeAt 24 (.pointer (some ⟨Y2,0,none⟩)) (.agg #[.int .i64 (s.ver+1),.int .i64 s.last,.slice (some ⟨TB,0,none⟩) G.length tcap])).run Tryz.prog N9=.ok () X4:=by
        rw [e44]
        exact store_row J2.out rfl size24 (by simp [Value.oneCell'])
       have J4:=lh j4
       have HE:Hid (Below w.heap.size w X4):=lh (HB.out.trans (f4.toBelow (fun k9 hk9 q9=>by have:=GE.out;omega) HB.out.size))
       clear e44 j4 f4 x0 x1 x2 y0 y1 y2 y3 y4 e0 e2 e3 e4 e6 e7 e8 e9
       go_upto_region 16 with fail
       go_wp2_with (first | (refine wpl_load _ rfl (by first | rfl | (simp [Act.eval];done)) hld ?_) | (refine wpl_store _ _ rfl (by first | rfl | (simp [Act.eval];done)) (by first | rfl | (simp [Act.eval];done)) hst ?_))
       refine bodyPost_ret (results_two rfl rfl rfl (load_var J4.out Tryz.underlying24 rfl size24)) rfl ?_
       exact CrAns.err HR.out (by decide) HBB.out HE.out
      have s1:(st == 0)=false:=by simpa using s0
      have HS0:=lh s0
      have f1:N9.frozen? ⟨Y0,1,none⟩=false:=frozen_blk J0.out 1
      have z1:-9223372036854775808≤s.last+1:=by have:=HFL.out;omega
      have z2:s.last+1≤9223372036854775807:=by have:=HFL.out;omega
      obtain ⟨U,hU⟩:∃ U,U=N9.setCell ⟨Y0,1,none⟩ (.int .i64 (s.last+1)):=⟨_,rfl⟩
      have fU:Fr N9 U (fun k9=>k9=Y0):=by rw [hU];exact Fr.set (S:=fun k9=>k9=Y0) (a:=⟨Y0,1,none⟩) (Fr.refl _ _) (.inl rfl) _
      have u0:U.heap[Y0]?=some (.cells #[.int .i64 (s.ver+1),.int .i64 (s.last+1),.slice (some ⟨TB,0,none⟩) G.length tcap] 24 (0,0)):=by rw [hU];exact set_blk J0.out _
      have u1:U.heap[Y1]?=some (.cells #[.int .i64 kd,.string d.table,.string d.name,.string d.column,.string d.parent,.bool d.uq,.int .i64 d.ty,.int .i64 d.df.k,.int .i64 d.df.n,.string d.df.s,.slice da dn dc] 31 (0,0)):=(fU.block Y1 (blk_lt J1.out) (fun q=>GE.out.2.2.2.1 q.symm)).trans J1.out
      have u2:U.heap[Y2]?=some (.cells #[.int .i64 0,.int .i64 0,.slice none 0 0] 24 (0,0)):=(fU.block Y2 (blk_lt J2.out) (fun q=>GE.out.2.2.1 q.symm)).trans J2.out
      have uq:U.heap[Q]?=some (.cells (tbA t (.slice (some ⟨mb,mo,none⟩) t.cols.length cc) (.slice ia t.ixs.length ic) (.slice ka t.fks.length kc)) 35 (0,0)):=(fU.block Q (blk_lt JQ.out) (fun q=>by have:=GE.out;omega)).trans JQ.out
      have uD:Dr U B G (.slice (some ⟨TB,0,none⟩) G.length tcap):=HD.out.keep fU (fun k9 hk9=>.inr (fun cs e tg=>by
       rw [hk9,J0.out] at tg
       simp only [Option.some.injEq,Obj.cells.injEq] at tg
       rw [←tg.2.1]
       decide))
      have uB:Below w.heap.size w U:=HB.out.trans (fU.toBelow (fun k9 hk9 q9=>by have:=GE.out;omega) HB.out.size)
      have JQ':=lh uq
      have J0':=lh u0
      have J1':=lh u1
      have J2':=lh u2
      have HD':=lh uD
      have HB':=lh uB
      have HU:=lh hU
      clear JQ J1 J2 HD HB fU u0 u1 u2 uq uD uB hU
      go_upto_region 18 with fail
      rw [←HU.out]
      clear x0 x1 x2 y0 y1 y2 y3 y4 e0 e2 e3 e4 e6 e7 e8 e9 f1
      clear J0
      have JQ:=JQ'
      have J0:=J0'
      have J1:=J1'
      have J2:=J2'
      have HD:=HD'
      have HB:=HB'
      clear JQ' J0' J1' J2' HD' HB'
      obtain ⟨X0,hX0⟩:∃ X0,X0=U.drew:=⟨_,rfl⟩
      have bX0:Below U.heap.size U X0:=by rw [hX0];exact ⟨rfl,rfl,rfl,Nat.le_refl _,fun _ _=>rfl⟩
      have dX:=HD.out.below bX0
      have own0:X0.ownsRow B 74 5 (.slice ka t.fks.length kc) t.fks.length (t.fks.flatMap fkL):=by have:=dX.k G[i] (List.getElem_mem HI6.out.2.1);rw [HGI.out] at this;exact this
      obtain ⟨nx,hnx⟩:∃ nx:Fk,nx=⟨s.last+1,d.name,ci,tp'.id,st⟩:=⟨_,rfl⟩
      obtain ⟨ad,cap,X2,r1,o2,fr2,ob2⟩:=pushK (own_mono own0 (Nat.zero_le _)) nx (by have:=HPB.out;omega)
      obtain ⟨X1,hX1⟩:∃ X1,X1=X0.alloc (.cells (fkA nx) 74):=⟨_,rfl⟩
      rw [←hX1] at r1
      have b1:Below X0.heap.size X0 X1:=by rw [hX1];exact bnew _ _
      obtain ⟨cT,hcT,_,_,_,_⟩:=row_blk (own_mono dX.row (Nat.zero_le _))
      obtain ⟨nl,hnl⟩:∃ nl,t.fks.length+1=nl:=⟨_,rfl⟩
      rw [hnl] at r1 o2 ob2
      obtain ⟨X3,hX3⟩:∃ X3,X3=X2.setCell ⟨TB,i*5+4,none⟩ (.slice ad nl cap):=⟨_,rfl⟩
      have keep2:∀ {k9:Nat} {cs:Array Value} {e:TypeId},X0.heap[k9]?=some (.cells cs e (0,0))→e≠74→X2.heap[k9]?=some (.cells cs e (0,0)):=fun {k9 cs e} h he=>(fr2.block k9 (blk_lt h) (fun q=>by
       obtain ⟨cs2,t2⟩:=own_tag own0 k9 q
       rw [t2] at h
       simp only [Option.some.injEq,Obj.cells.injEq] at h
       exact he h.2.1.symm)).trans h
      have hcmU:U.heap[mb]?=some (.cells csm 50 (0,0)):=by rw [HU.out];rw [set_other _ (fun q=>HCM.out.2.2 q)];exact HCM.out.1
      have AM:=lh ((bX0.block mb (blk_lt hcmU)).trans hcmU)
      clear hcmU
      have a0:=(bX0.block Y0 (blk_lt J0.out)).trans J0.out
      have a1:=(bX0.block Y1 (blk_lt J1.out)).trans J1.out
      have a2:=(bX0.block Y2 (blk_lt J2.out)).trans J2.out
      have aq:=(bX0.block Q (blk_lt JQ.out)).trans JQ.out
      have h2T:=keep2 hcT (by decide)
      have x3T:X3.heap[TB]?=some (.cells (cT.setIfInBounds (i*5+4) (.slice ad nl cap)) 35 (0,0)):=by rw [hX3];exact set_blk h2T _
      have fX3:Fr X2 X3 (fun k9=>k9=TB):=by rw [hX3];exact Fr.set (S:=fun k9=>k9=TB) (a:=⟨TB,i*5+4,none⟩) (Fr.refl _ _) (.inl rfl) _
      have f03:Fr X0 X3 (fun k9=>(Value.slice ka t.fks.length kc).ownBlock=some k9∨k9=TB):=(fr2.mono (fun k9 q9=>.inl q9)).step fX3 (fun k9 q9=>.inl (.inr q9))
      have c03:X3.ownsRow 0 74 5 (.slice ad nl cap) (t.fks ++ [nx]).length ((t.fks ++ [nx]).flatMap fkL):=keep_rowB o2 fX3 (fun k9 hk9 cs9 tg=>by
       rw [hk9,h2T] at tg
       simp only [Option.some.injEq,Obj.cells.injEq] at tg
       exact absurd tg.2.1 (by decide))
      have hcellT:∀ j u,(gL G[i])[j]?=some u→cT[i*5+j]?=some u:=fun j u hu=>by
       obtain ⟨_,_,e',_,_,_,hX⟩:=Lr.own gL_len dX.row
       cases e'
       obtain ⟨b,o,cs,e2,_,hE,_,hh⟩:=hX i HI6.out.2.1
       cases e2
       rw [hE] at hh
       have:=hh j u hu
       rw [Nat.zero_add,cell_blk hcT] at this
       exact this
      have hold:cT[i*5+4]?=some (.slice ka t.fks.length kc):=by have:=hcellT 4 _ rfl;rw [HGI.out] at this;exact this
      have holdp:cT[p*5]?=some (.int .i64 tp'.id):=by
       obtain ⟨_,_,e',_,_,_,hX⟩:=Lr.own gL_len dX.row
       cases e'
       obtain ⟨b,o,cs,e2,_,hE,_,hh⟩:=hX p HTP.out.2.2.1
       cases e2
       rw [hE] at hh
       have:=hh 0 _ (by rw [HTP.out.2.1];rfl)
       rw [Nat.zero_add,Nat.add_zero,cell_blk hcT] at this
       exact this
      have HOLDP:=lh holdp
      clear holdp
      obtain ⟨G2,hG2⟩:∃ G2:List Gt,G2=G.set i (tbK G[i].1 (t.fks ++ [nx]),G[i].2.1,G[i].2.2.1,.slice ad nl cap):=⟨_,rfl⟩
      have D3:Dr X3 B G2 (.slice (some ⟨TB,0,none⟩) G.length tcap):=by
       rw [hG2]
       refine dX.setK HI6.out.2.1 a0 (by have:=HB.out.size;have:=HBB.out;have:=bX0.size;omega) f03 (fun k9 q9=>by
        rcases q9 with q9 | q9
        ·exact .inr (.inr (by rw [HGI.out];exact q9))
        ·exact .inr (.inl (by rw [q9];rfl))) ?_ c03 (fun k9 q9=>by
        rcases ob2 k9 q9 with z | z
        ·exact .inl (by rw [HGI.out];exact z)
        ·exact .inr z)
       exact tab_row (own_mono dX.row (Nat.zero_le _)) hcT HI6.out.2.1 (by decide) x3T (by rw [HGI.out];rfl)
      have B3:Below B w X3:=((bgo HB.out bX0).mono HBB.out).trans (f03.toBelow (fun k9 hk9 q9=>by
       rcases q9 with q9 | q9
       ·have:=(own_ge own0 k9 q9).1
        omega
       ·have:=(own_ge dX.row TB rfl).1
        omega) (by have:=HB.out.size;have:=HBB.out;have:=bX0.size;omega))
      have hX3s:X0.heap.size≤X3.heap.size:=f03.size
      have k30:X3.heap[Y0]?=some (.cells #[.int .i64 (s.ver+1),.int .i64 (s.last+1),.slice (some ⟨TB,0,none⟩) G.length tcap] 24 (0,0)):=(fX3.block Y0 (blk_lt (keep2 a0 (by decide))) (fun q9=>by rw [q9,hcT] at a0;simp only [Option.some.injEq,Obj.cells.injEq] at a0;exact absurd a0.2.1 (by decide))).trans (keep2 a0 (by decide))
      have k32:X3.heap[Y2]?=some (.cells #[.int .i64 0,.int .i64 0,.slice none 0 0] 24 (0,0)):=(fX3.block Y2 (blk_lt (keep2 a2 (by decide))) (fun q9=>by rw [q9,hcT] at a2;simp only [Option.some.injEq,Obj.cells.injEq] at a2;exact absurd a2.2.1 (by decide))).trans (keep2 a2 (by decide))
      have HK24:Hid (Kp24 w X3):=lh (fun k9 cs9 hk9=>by
       have h1:=(HB.out.block k9 (blk_lt hk9)).trans hk9
       have h2:=keep2 ((bX0.block k9 (blk_lt h1)).trans h1) (by decide)
       exact (fX3.block k9 (blk_lt h2) (fun z=>by
        rw [z,h2T] at h2
        simp only [Option.some.injEq,Obj.cells.injEq] at h2
        exact absurd h2.2.1 (by decide))).trans h2)
      have HT2:Hid (X2.heap[TB]?=some (.cells cT 35 (0,0))):=lh h2T
      have CQ:∀ (b9:Nat) (cs9:Array Value) (e9:TypeId),X0.heap[b9]?=some (.cells cs9 e9 (0,0))→e9≠74→∀ X9 a9 b9',GW3 X0 X1 X2 X3 a9 b9' false X9→X9.heap[b9]?=some (.cells cs9 e9 (0,0)):=fun b9 cs9 e9 h he X9 p9 q9 hg=>by
       cases p9 <;> cases q9
       ·rw [show X9=X0 from hg];exact h
       ·rw [show X9=X2 from hg];exact keep2 h he
       ·rw [show X9=X1 from hg];exact (b1.block _ (blk_lt h)).trans h
       ·rw [show X9=X2 from hg];exact keep2 h he
      have HCQ:=lh CQ
      have A0:=lh a0
      have A1:=lh a1
      have AQ:=lh aq
      have AT:=lh hcT
      have HOLD:=lh hold
      have HX0:=lh hX0
      have HX1:=lh hX1
      have HX3:=lh hX3
      have RUN:=lh r1
      have HD3:=lh D3
      have HB3:=lh B3
      have K30:=lh k30
      have K32:=lh k32
      have HG2:=lh hG2
      have HNX:=lh hnx
      clear dX own0 r1 o2 fr2 ob2 b1 hcT x3T fX3 f03 c03 hcellT hold D3 B3 hX3s k30 k32 a0 a1 a2 aq h2T keep2 hX0 hX1 hX3 CQ bX0 hG2 hnx hnl
      refine wp_region_fs (fun fl X9=>GW3 X0 X1 X2 X3 (fl 27) (fl 28) (fl 31) X9) [
       fun v9 _=>v9=.pointer (some ⟨Y0,2,none⟩),
       fun v9 _=>v9=.slice (some ⟨TB,0,none⟩) G.length tcap,
       fun v9 _=>v9=.int .i64 (i:Int),
       fun v9 _=>v9=.pointer (some ⟨Y0,2,none⟩),
       fun v9 _=>v9=.slice (some ⟨TB,0,none⟩) G.length tcap,
       fun v9 _=>v9=.int .i64 (i:Int),
       fun v9 _=>v9=.pointer (some ⟨TB,i*5,none⟩),
       fun v9 _=>v9=.pointer (some ⟨TB,i*5+4,none⟩),
       fun v9 _=>v9=.slice ka t.fks.length kc,
       fun v9 _=>v9=.pointer (some ⟨Y0,1,none⟩),
       fun v9 _=>v9=.int .i64 (s.last+1),
       fun v9 _=>v9=.pointer (some ⟨Y1,2,none⟩),
       fun v9 _=>v9=.string d.name,
       fun v9 _=>v9=.pointer (some ⟨Q,2,none⟩),
       fun v9 _=>v9=.slice (some ⟨mb,mo,none⟩) t.cols.length cc,
       fun v9 _=>v9=.int .i64 (m:Int),
       fun v9 _=>v9=.pointer (some ⟨mb,mo+m*7,none⟩),
       fun v9 _=>v9=.pointer (some ⟨mb,mo+m*7,none⟩),
       fun v9 _=>v9=.int .i64 ci,
       fun v9 _=>v9=.pointer (some ⟨Y0,2,none⟩),
       fun v9 _=>v9=.slice (some ⟨TB,0,none⟩) G.length tcap,
       fun v9 _=>v9=.int .i64 (p:Int),
       fun v9 _=>v9=.pointer (some ⟨TB,p*5,none⟩),
       fun v9 _=>v9=.pointer (some ⟨TB,p*5,none⟩),
       fun v9 _=>v9=.int .i64 tp'.id,
       fun v9 _=>v9=.int .i64 st,
       fun v9 _=>v9=.agg (fkA nx),
       fun v9 _=>v9=.slice (some ⟨X0.heap.size,0,none⟩) 1 1,
       fun v9 _=>v9=.slice ad nl cap,
       fun v9 _=>v9=.pointer (some ⟨TB,i*5,none⟩),
       fun v9 _=>v9=.pointer (some ⟨TB,i*5+4,none⟩),
       fun _ _=>True]
       (by kernel_rfl) (by kernel_rfl) (by kernel_rfl) ?g0e ?ose ?end5
      case g0e=>exact HX0.out.symm
      case ose =>
       refine ⟨?_,?_,?_,?_,?_,?_,?_,?_,?_,?_,?_,?_,?_,?_,?_,?_,?_,?_,?_,?_,?_,?_,?_,?_,?_,?_,?_,?_,?_,?_,?_,?_,trivial⟩
       ·exact fun ρ X9 fl hg hn hl hp ho hc hf hr=>⟨rfl,Runs.val _ (op_f24_2 (show ρ (.tmp 4)=.pointer (some ⟨Y0,0,none⟩) from ho 4 rfl)) ⟨hg,fun _ _ _ q=>q,rfl⟩⟩
       ·intro ρ X9 fl hg hn hl hp ho hc hf hr
        have hgx:GW3 X0 X1 X2 X3 (fl 27) (fl 28) (fl 31) X9:=hg
        have h31f:fl 31=false:=(show fl 31=false from by cases q9:fl 31 with | false=>rfl | true=>exact absurd (hl 29 _ 1 rfl (by kernel_rfl) (hl 30 _ 29 rfl (by kernel_rfl) (hl 31 _ 30 rfl (by kernel_rfl) q9))) (by rw [hn];decide))
        rw [h31f] at hgx
        have hcell:X9.cell? ⟨Y0,2,none⟩=some (.slice (some ⟨TB,0,none⟩) G.length tcap):=cell_blk (HCQ.out _ _ _ A0.out (by decide) X9 _ _ hgx) 2
        exact ⟨rfl,Runs.val _ (op_load22 (show ρ (.tmp 82)=.pointer (some ⟨Y0,2,none⟩) from hr 0 82 rfl rfl) hcell) ⟨hg,fun _ _ _ q=>q,rfl⟩⟩
       ·exact fun ρ X9 fl hg hn hl hp ho hc hf hr=>⟨rfl,Runs.val _ (op_move (show ρ (.tmp 1)=.int .i64 (i:Int) from ho 1 rfl)) ⟨hg,fun _ _ _ q=>q,rfl⟩⟩
       ·exact fun ρ X9 fl hg hn hl hp ho hc hf hr=>⟨rfl,Runs.val _ (op_f24_2 (show ρ (.tmp 4)=.pointer (some ⟨Y0,0,none⟩) from ho 4 rfl)) ⟨hg,fun _ _ _ q=>q,rfl⟩⟩
       ·intro ρ X9 fl hg hn hl hp ho hc hf hr
        have hgx:GW3 X0 X1 X2 X3 (fl 27) (fl 28) (fl 31) X9:=hg
        have h31f:fl 31=false:=(show fl 31=false from by cases q9:fl 31 with | false=>rfl | true=>exact absurd (hl 6 _ 4 rfl (by kernel_rfl) (hl 7 _ 6 rfl (by kernel_rfl) (hl 8 _ 7 rfl (by kernel_rfl) (hl 28 _ 8 rfl (by kernel_rfl) (hl 31 _ 28 rfl (by kernel_rfl) q9))))) (by rw [hn];decide))
        rw [h31f] at hgx
        have hcell:X9.cell? ⟨Y0,2,none⟩=some (.slice (some ⟨TB,0,none⟩) G.length tcap):=cell_blk (HCQ.out _ _ _ A0.out (by decide) X9 _ _ hgx) 2
        exact ⟨rfl,Runs.val _ (op_load22 (show ρ (.tmp 85)=.pointer (some ⟨Y0,2,none⟩) from hr 3 85 rfl rfl) hcell) ⟨hg,fun _ _ _ q=>q,rfl⟩⟩
       ·exact fun ρ X9 fl hg hn hl hp ho hc hf hr=>⟨rfl,Runs.val _ (op_move (show ρ (.tmp 1)=.int .i64 (i:Int) from ho 1 rfl)) ⟨hg,fun _ _ _ q=>q,rfl⟩⟩
       ·exact fun ρ X9 fl hg hn hl hp ho hc hf hr=>⟨rfl,Runs.val _ (op_i22z (show ρ (.tmp 86)=.slice (some ⟨TB,0,none⟩) G.length tcap from hr 4 86 rfl rfl) (show ρ (.tmp 87)=.int .i64 (i:Int) from hr 5 87 rfl rfl) HI6.out.2.1) ⟨hg,fun _ _ _ q=>q,rfl⟩⟩
       ·exact fun ρ X9 fl hg hn hl hp ho hc hf hr=>⟨rfl,Runs.val _ (op_f35_4 (show ρ (.tmp 88)=.pointer (some ⟨TB,i*5,none⟩) from hr 6 88 rfl rfl)) ⟨hg,fun _ _ _ q=>q,rfl⟩⟩
       ·intro ρ X9 fl hg hn hl hp ho hc hf hr
        have hgx:GW3 X0 X1 X2 X3 (fl 27) (fl 28) (fl 31) X9:=hg
        have h31f:fl 31=false:=(show fl 31=false from by cases q9:fl 31 with | false=>rfl | true=>exact absurd (hl 28 _ 8 rfl (by kernel_rfl) (hl 31 _ 28 rfl (by kernel_rfl) q9)) (by rw [hn];decide))
        rw [h31f] at hgx
        have hcell:X9.cell? ⟨TB,i*5+4,none⟩=some (.slice ka t.fks.length kc):=(cell_blk (HCQ.out _ _ _ AT.out (by decide) X9 _ _ hgx) (i*5+4)).trans HOLD.out
        exact ⟨rfl,Runs.val _ (op_load33 (show ρ (.tmp 89)=.pointer (some ⟨TB,i*5+4,none⟩) from hr 7 89 rfl rfl) hcell) ⟨hg,fun _ _ _ q=>q,rfl⟩⟩
       ·exact fun ρ X9 fl hg hn hl hp ho hc hf hr=>⟨rfl,Runs.val _ (op_f24_1 (show ρ (.tmp 4)=.pointer (some ⟨Y0,0,none⟩) from ho 4 rfl)) ⟨hg,fun _ _ _ q=>q,rfl⟩⟩
       ·intro ρ X9 fl hg hn hl hp ho hc hf hr
        have hgx:GW3 X0 X1 X2 X3 (fl 27) (fl 28) (fl 31) X9:=hg
        have h31f:fl 31=false:=(show fl 31=false from by cases q9:fl 31 with | false=>rfl | true=>exact absurd (hl 26 _ 10 rfl (by kernel_rfl) (hl 27 _ 26 rfl (by kernel_rfl) (hl 28 _ 27 rfl (by kernel_rfl) (hl 31 _ 28 rfl (by kernel_rfl) q9)))) (by rw [hn];decide))
        rw [h31f] at hgx
        have hcell:X9.cell? ⟨Y0,1,none⟩=some (.int .i64 (s.last+1)):=cell_blk (HCQ.out _ _ _ A0.out (by decide) X9 _ _ hgx) 1
        exact ⟨rfl,Runs.val _ (op_load3 (show ρ (.tmp 91)=.pointer (some ⟨Y0,1,none⟩) from hr 9 91 rfl rfl) hcell) ⟨hg,fun _ _ _ q=>q,rfl⟩⟩
       ·exact fun ρ X9 fl hg hn hl hp ho hc hf hr=>⟨rfl,Runs.val _ (op_f31_2 (show ρ (.tmp 6)=.pointer (some ⟨Y1,0,none⟩) from ho 6 rfl)) ⟨hg,fun _ _ _ q=>q,rfl⟩⟩
       ·intro ρ X9 fl hg hn hl hp ho hc hf hr
        have hgx:GW3 X0 X1 X2 X3 (fl 27) (fl 28) (fl 31) X9:=hg
        have h31f:fl 31=false:=(show fl 31=false from by cases q9:fl 31 with | false=>rfl | true=>exact absurd (hl 26 _ 12 rfl (by kernel_rfl) (hl 27 _ 26 rfl (by kernel_rfl) (hl 28 _ 27 rfl (by kernel_rfl) (hl 31 _ 28 rfl (by kernel_rfl) q9)))) (by rw [hn];decide))
        rw [h31f] at hgx
        have hcell:X9.cell? ⟨Y1,2,none⟩=some (.string d.name):=cell_blk (HCQ.out _ _ _ A1.out (by decide) X9 _ _ hgx) 2
        exact ⟨rfl,Runs.val _ (op_load9 (show ρ (.tmp 93)=.pointer (some ⟨Y1,2,none⟩) from hr 11 93 rfl rfl) hcell) ⟨hg,fun _ _ _ q=>q,rfl⟩⟩
       ·exact fun ρ X9 fl hg hn hl hp ho hc hf hr=>⟨rfl,Runs.val _ (op_f35_2 (show ρ (.tmp 10)=.pointer (some ⟨Q,0,none⟩) from ho 10 rfl)) ⟨hg,fun _ _ _ q=>q,rfl⟩⟩
       ·intro ρ X9 fl hg hn hl hp ho hc hf hr
        have hgx:GW3 X0 X1 X2 X3 (fl 27) (fl 28) (fl 31) X9:=hg
        have h31f:fl 31=false:=(show fl 31=false from by cases q9:fl 31 with | false=>rfl | true=>exact absurd (hl 16 _ 14 rfl (by kernel_rfl) (hl 17 _ 16 rfl (by kernel_rfl) (hl 18 _ 17 rfl (by kernel_rfl) (hl 26 _ 18 rfl (by kernel_rfl) (hl 27 _ 26 rfl (by kernel_rfl) (hl 28 _ 27 rfl (by kernel_rfl) (hl 31 _ 28 rfl (by kernel_rfl) q9))))))) (by rw [hn];decide))
        rw [h31f] at hgx
        have hcell:X9.cell? ⟨Q,2,none⟩=some (.slice (some ⟨mb,mo,none⟩) t.cols.length cc):=cell_blk (HCQ.out _ _ _ AQ.out (by decide) X9 _ _ hgx) 2
        exact ⟨rfl,Runs.val _ (op_load29 (show ρ (.tmp 95)=.pointer (some ⟨Q,2,none⟩) from hr 13 95 rfl rfl) hcell) ⟨hg,fun _ _ _ q=>q,rfl⟩⟩
       ·exact fun ρ X9 fl hg hn hl hp ho hc hf hr=>⟨rfl,Runs.val _ (op_move (show ρ (.tmp 13)=.int .i64 (m:Int) from ho 13 rfl)) ⟨hg,fun _ _ _ q=>q,rfl⟩⟩
       ·exact fun ρ X9 fl hg hn hl hp ho hc hf hr=>⟨rfl,Runs.val _ (op_i29 (show ρ (.tmp 96)=.slice (some ⟨mb,mo,none⟩) t.cols.length cc from hr 14 96 rfl rfl) (show ρ (.tmp 97)=.int .i64 (m:Int) from hr 15 97 rfl rfl) HM.out) ⟨hg,fun _ _ _ q=>q,rfl⟩⟩
       ·exact fun ρ X9 fl hg hn hl hp ho hc hf hr=>⟨rfl,Runs.val _ (op_f50_0 (show ρ (.tmp 98)=.pointer (some ⟨mb,mo+m*7,none⟩) from hr 16 98 rfl rfl)) ⟨hg,fun _ _ _ q=>q,rfl⟩⟩
       ·intro ρ X9 fl hg hn hl hp ho hc hf hr
        have hgx:GW3 X0 X1 X2 X3 (fl 27) (fl 28) (fl 31) X9:=hg
        have h31f:fl 31=false:=(show fl 31=false from by cases q9:fl 31 with | false=>rfl | true=>exact absurd (hl 26 _ 18 rfl (by kernel_rfl) (hl 27 _ 26 rfl (by kernel_rfl) (hl 28 _ 27 rfl (by kernel_rfl) (hl 31 _ 28 rfl (by kernel_rfl) q9)))) (by rw [hn];decide))
        rw [h31f] at hgx
        have hcell:X9.cell? ⟨mb,mo+m*7,none⟩=some (.int .i64 ci):=(cell_blk (HCQ.out _ _ _ AM.out (by decide) X9 _ _ hgx) (mo+m*7)).trans HCM.out.2.1
        exact ⟨rfl,Runs.val _ (op_load3 (show ρ (.tmp 99)=.pointer (some ⟨mb,mo+m*7,none⟩) from hr 17 99 rfl rfl) hcell) ⟨hg,fun _ _ _ q=>q,rfl⟩⟩
       ·exact fun ρ X9 fl hg hn hl hp ho hc hf hr=>⟨rfl,Runs.val _ (op_f24_2 (show ρ (.tmp 4)=.pointer (some ⟨Y0,0,none⟩) from ho 4 rfl)) ⟨hg,fun _ _ _ q=>q,rfl⟩⟩
       ·intro ρ X9 fl hg hn hl hp ho hc hf hr
        have hgx:GW3 X0 X1 X2 X3 (fl 27) (fl 28) (fl 31) X9:=hg
        have h31f:fl 31=false:=(show fl 31=false from by cases q9:fl 31 with | false=>rfl | true=>exact absurd (hl 22 _ 20 rfl (by kernel_rfl) (hl 23 _ 22 rfl (by kernel_rfl) (hl 24 _ 23 rfl (by kernel_rfl) (hl 26 _ 24 rfl (by kernel_rfl) (hl 27 _ 26 rfl (by kernel_rfl) (hl 28 _ 27 rfl (by kernel_rfl) (hl 31 _ 28 rfl (by kernel_rfl) q9))))))) (by rw [hn];decide))
        rw [h31f] at hgx
        have hcell:X9.cell? ⟨Y0,2,none⟩=some (.slice (some ⟨TB,0,none⟩) G.length tcap):=cell_blk (HCQ.out _ _ _ A0.out (by decide) X9 _ _ hgx) 2
        exact ⟨rfl,Runs.val _ (op_load22 (show ρ (.tmp 101)=.pointer (some ⟨Y0,2,none⟩) from hr 19 101 rfl rfl) hcell) ⟨hg,fun _ _ _ q=>q,rfl⟩⟩
       ·exact fun ρ X9 fl hg hn hl hp ho hc hf hr=>⟨rfl,Runs.val _ (op_move (show ρ (.tmp 14)=.int .i64 (p:Int) from ho 14 rfl)) ⟨hg,fun _ _ _ q=>q,rfl⟩⟩
       ·exact fun ρ X9 fl hg hn hl hp ho hc hf hr=>⟨rfl,Runs.val _ (op_i22z (show ρ (.tmp 102)=.slice (some ⟨TB,0,none⟩) G.length tcap from hr 20 102 rfl rfl) (show ρ (.tmp 103)=.int .i64 (p:Int) from hr 21 103 rfl rfl) HTP.out.2.2.1) ⟨hg,fun _ _ _ q=>q,rfl⟩⟩
       ·exact fun ρ X9 fl hg hn hl hp ho hc hf hr=>⟨rfl,Runs.val _ (op_f35_0 (show ρ (.tmp 104)=.pointer (some ⟨TB,p*5,none⟩) from hr 22 104 rfl rfl)) ⟨hg,fun _ _ _ q=>q,rfl⟩⟩
       ·intro ρ X9 fl hg hn hl hp ho hc hf hr
        have hgx:GW3 X0 X1 X2 X3 (fl 27) (fl 28) (fl 31) X9:=hg
        have h31f:fl 31=false:=(show fl 31=false from by cases q9:fl 31 with | false=>rfl | true=>exact absurd (hl 26 _ 24 rfl (by kernel_rfl) (hl 27 _ 26 rfl (by kernel_rfl) (hl 28 _ 27 rfl (by kernel_rfl) (hl 31 _ 28 rfl (by kernel_rfl) q9)))) (by rw [hn];decide))
        rw [h31f] at hgx
        have hcell:X9.cell? ⟨TB,p*5,none⟩=some (.int .i64 tp'.id):=(cell_blk (HCQ.out _ _ _ AT.out (by decide) X9 _ _ hgx) (p*5)).trans HOLDP.out
        exact ⟨rfl,Runs.val _ (op_load3 (show ρ (.tmp 105)=.pointer (some ⟨TB,p*5,none⟩) from hr 23 105 rfl rfl) hcell) ⟨hg,fun _ _ _ q=>q,rfl⟩⟩
       ·exact fun ρ X9 fl hg hn hl hp ho hc hf hr=>⟨rfl,Runs.val _ (op_move (show ρ (.tmp 3)=.int .i64 st from ho 3 rfl)) ⟨hg,fun _ _ _ q=>q,rfl⟩⟩
       ·intro ρ X9 fl hg hn hl hp ho hc hf hr
        rw [HNX.out]
        exact ⟨rfl,Runs.val _ (op_b74 (show ρ (.tmp 92)=.int .i64 (s.last+1) from hr 10 92 rfl rfl) (show ρ (.tmp 94)=.string d.name from hr 12 94 rfl rfl) (show ρ (.tmp 100)=.int .i64 ci from hr 18 100 rfl rfl) (show ρ (.tmp 106)=.int .i64 tp'.id from hr 24 106 rfl rfl) (show ρ (.tmp 107)=.int .i64 st from hr 25 107 rfl rfl)) ⟨hg,fun _ _ _ q=>q,rfl⟩⟩
       ·intro ρ X9 fl hg hn hl hp ho hc hf hr
        have hgx:GW3 X0 X1 X2 X3 (fl 27) (fl 28) (fl 31) X9:=hg
        have h28f:fl 28=false:=(show fl 28=false from by cases q9:fl 28 with | false=>rfl | true=>exact absurd (hl 28 _ 27 rfl (by kernel_rfl) q9) (by rw [hn];decide))
        have h31f:fl 31=false:=(show fl 31=false from by cases q9:fl 31 with | false=>rfl | true=>exact absurd (hl 28 _ 27 rfl (by kernel_rfl) (hl 31 _ 28 rfl (by kernel_rfl) q9)) (by rw [hn];decide))
        rw [hn,h28f,h31f] at hgx
        have hX:X9=X0:=hgx
        refine ⟨rfl,Runs.val _ (op_s33 (show ρ (.tmp 108)=.agg (fkA nx) from hr 26 108 rfl rfl)) ⟨?_,?_,(show Value.slice (some ⟨X9.heap.size,0,none⟩) 1 1=Value.slice (some ⟨X0.heap.size,0,none⟩) 1 1 from by rw [hX])⟩⟩
        ·show GW3 X0 X1 X2 X3 true (fl 28) (fl 31) (X9.alloc _)
         rw [h28f,h31f,hX]
         exact HX1.out.symm
        ·intro j hj u q9
         match j,hj,q9 with
          | 0,hj,q9=>exact q9
          | 1,hj,q9=>exact q9
          | 2,hj,q9=>exact q9
          | 3,hj,q9=>exact q9
          | 4,hj,q9=>exact q9
          | 5,hj,q9=>exact q9
          | 6,hj,q9=>exact q9
          | 7,hj,q9=>exact q9
          | 8,hj,q9=>exact q9
          | 9,hj,q9=>exact q9
          | 10,hj,q9=>exact q9
          | 11,hj,q9=>exact q9
          | 12,hj,q9=>exact q9
          | 13,hj,q9=>exact q9
          | 14,hj,q9=>exact q9
          | 15,hj,q9=>exact q9
          | 16,hj,q9=>exact q9
          | 17,hj,q9=>exact q9
          | 18,hj,q9=>exact q9
          | 19,hj,q9=>exact q9
          | 20,hj,q9=>exact q9
          | 21,hj,q9=>exact q9
          | 22,hj,q9=>exact q9
          | 23,hj,q9=>exact q9
          | 24,hj,q9=>exact q9
          | 25,hj,q9=>exact q9
          | 26,hj,q9=>exact q9
          | 27,hj,q9=>exact q9
          | 28,hj,q9=>exact q9
          | 29,hj,q9=>exact q9
          | 30,hj,q9=>exact q9
          | 31,hj,q9=>exact q9
          | m+32,_,q9=>exact q9
       ·intro ρ X9 fl hg hn hl hp ho hc hf hr
        have hgx:GW3 X0 X1 X2 X3 (fl 27) (fl 28) (fl 31) X9:=hg
        have hBt:fl 27=true:=hp 27 (by kernel_rfl)
        have h31f:fl 31=false:=(show fl 31=false from by cases q9:fl 31 with | false=>rfl | true=>exact absurd (hl 31 _ 28 rfl (by kernel_rfl) q9) (by rw [hn];decide))
        rw [hn,hBt,h31f] at hgx
        have hX:X9=X1:=hgx
        have hrun9:=RUN.out
        rw [←hX] at hrun9
        refine ⟨rfl,Runs.val _ (op_append33 (show ρ (.tmp 90)=.slice ka t.fks.length kc from hr 8 90 rfl rfl) (show ρ (.tmp 109)=.slice (some ⟨X0.heap.size,0,none⟩) 1 1 from hr 27 109 rfl rfl) hrun9) ⟨?_,?_,rfl⟩⟩
        ·show GW3 X0 X1 X2 X3 (fl 27) true (fl 31) X2
         rw [h31f]
         exact (rfl:X2=X2)
        ·intro j hj u q9
         match j,hj,q9 with
          | 0,hj,q9=>exact q9
          | 1,hj,q9=>exact q9
          | 2,hj,q9=>exact q9
          | 3,hj,q9=>exact q9
          | 4,hj,q9=>exact q9
          | 5,hj,q9=>exact q9
          | 6,hj,q9=>exact q9
          | 7,hj,q9=>exact q9
          | 8,hj,q9=>exact q9
          | 9,hj,q9=>exact q9
          | 10,hj,q9=>exact q9
          | 11,hj,q9=>exact q9
          | 12,hj,q9=>exact q9
          | 13,hj,q9=>exact q9
          | 14,hj,q9=>exact q9
          | 15,hj,q9=>exact q9
          | 16,hj,q9=>exact q9
          | 17,hj,q9=>exact q9
          | 18,hj,q9=>exact q9
          | 19,hj,q9=>exact q9
          | 20,hj,q9=>exact q9
          | 21,hj,q9=>exact q9
          | 22,hj,q9=>exact q9
          | 23,hj,q9=>exact q9
          | 24,hj,q9=>exact q9
          | 25,hj,q9=>exact q9
          | 26,hj,q9=>exact q9
          | 27,hj,q9=>exact q9
          | 28,hj,q9=>exact q9
          | 29,hj,q9=>exact q9
          | 30,hj,q9=>exact q9
          | 31,hj,q9=>exact q9
          | m+32,_,q9=>exact q9
       ·exact fun ρ X9 fl hg hn hl hp ho hc hf hr=>⟨rfl,Runs.val _ (op_i22z (show ρ (.tmp 83)=.slice (some ⟨TB,0,none⟩) G.length tcap from hr 1 83 rfl rfl) (show ρ (.tmp 84)=.int .i64 (i:Int) from hr 2 84 rfl rfl) HI6.out.2.1) ⟨hg,fun _ _ _ q=>q,rfl⟩⟩
       ·exact fun ρ X9 fl hg hn hl hp ho hc hf hr=>⟨rfl,Runs.val _ (op_f35_4 (show ρ (.tmp 111)=.pointer (some ⟨TB,i*5,none⟩) from hr 29 111 rfl rfl)) ⟨hg,fun _ _ _ q=>q,rfl⟩⟩
       ·intro ρ X9 fl hg hn hl hp ho hc hf hr
        have hgx:GW3 X0 X1 X2 X3 (fl 27) (fl 28) (fl 31) X9:=hg
        have hAt:fl 28=true:=hp 28 (by kernel_rfl)
        rw [hn,hAt] at hgx
        have hX:X9=X2:=hgx
        have hA9:=HT2.out
        rw [←hX] at hA9
        refine ⟨rfl,Runs.skips (op_store33 (show ρ (.tmp 112)=.pointer (some ⟨TB,i*5+4,none⟩) from hr 30 112 rfl rfl) (show ρ (.tmp 110)=.slice ad nl cap from hr 28 110 rfl rfl) ((cell_blk hA9 (i*5+4)).trans HOLD.out) (frozen_blk hA9 (i*5+4))) ⟨?_,?_,trivial⟩⟩
        ·show GW3 X0 X1 X2 X3 (fl 27) (fl 28) true (X9.setCell ⟨TB,i*5+4,none⟩ (.slice ad nl cap))
         rw [hX]
         exact HX3.out.symm
        ·intro j hj u q9
         match j,hj,q9 with
          | 0,hj,q9=>exact q9
          | 1,hj,q9=>exact q9
          | 2,hj,q9=>exact q9
          | 3,hj,q9=>exact q9
          | 4,hj,q9=>exact q9
          | 5,hj,q9=>exact q9
          | 6,hj,q9=>exact q9
          | 7,hj,q9=>exact q9
          | 8,hj,q9=>exact q9
          | 9,hj,q9=>exact q9
          | 10,hj,q9=>exact q9
          | 11,hj,q9=>exact q9
          | 12,hj,q9=>exact q9
          | 13,hj,q9=>exact q9
          | 14,hj,q9=>exact q9
          | 15,hj,q9=>exact q9
          | 16,hj,q9=>exact q9
          | 17,hj,q9=>exact q9
          | 18,hj,q9=>exact q9
          | 19,hj,q9=>exact q9
          | 20,hj,q9=>exact q9
          | 21,hj,q9=>exact q9
          | 22,hj,q9=>exact q9
          | 23,hj,q9=>exact q9
          | 24,hj,q9=>exact q9
          | 25,hj,q9=>exact q9
          | 26,hj,q9=>exact q9
          | 27,hj,q9=>exact q9
          | 28,hj,q9=>exact q9
          | 29,hj,q9=>exact q9
          | 30,hj,q9=>exact q9
          | 31,hj,q9=>exact q9
          | m+32,_,q9=>exact q9
      case end5 =>
       intro a9 X9 fl hfl hG9 hs9 hd9 ho9 hr9
       rw [hfl 31 (by decide)] at hG9
       have hX9:X9=X3:=hG9
       obtain ⟨x',hx',hxt⟩:=act_put hs9 hd9 ho9
       change a9=putAll _ x' [82,83,84,85,86,87,88,89,90,91,92,93,94,95,96,97,98,99,100,101,102,103,104,105,106,107,108,109,110,111,112] at hx'
       simp only [putAll,Act.put,List.setIfInBounds_toArray,List.set_cons_zero,List.set_cons_succ] at hx'
       clear hG9 hs9 hd9 ho9 hr9 hxt hfl
       subst hx'
       rw [hX9]
       clear hX9
       generalize x' 82=z82,x' 83=z83,x' 84=z84,x' 85=z85,x' 86=z86,x' 87=z87,x' 88=z88,x' 89=z89,x' 90=z90,x' 91=z91,x' 92=z92,x' 93=z93,x' 94=z94,x' 95=z95,x' 96=z96,x' 97=z97,x' 98=z98,x' 99=z99,x' 100=z100,x' 101=z101,x' 102=z102,x' 103=z103,x' 104=z104,x' 105=z105,x' 106=z106,x' 107=z107,x' 108=z108,x' 109=z109,x' 110=z110,x' 111=z111,x' 112=z112
       have hld:=load_row K30.out Tryz.underlying24 rfl size24
       obtain ⟨X4,e44,j4,f4⟩:=sets_row K32.out (#[.int .i64 (s.ver+1),.int .i64 (s.last+1),.slice (some ⟨TB,0,none⟩) G.length tcap]) rfl
       have hst:(Instr.storeAt 24 (.pointer (some ⟨Y2,0,none⟩)) (.agg #[.int .i64 (s.ver+1),.int .i64 (s.last+1),.slice (some ⟨TB,0,none⟩) G.length tcap])).run Tryz.prog X3=.ok () X4:=by
        rw [e44]
        exact store_row K32.out rfl size24 (by simp [Value.oneCell'])
       have J4:=lh j4
       have HE:Hid (Below B w X4):=lh (HB3.out.trans (f4.toBelow (fun k9 hk9 q9=>by have:=GE.out;have:=HBB.out;omega) (by have:=HB3.out.size;have:=HBB.out;omega)))
       have HD4:Hid (Dr X4 B G2 (.slice (some ⟨TB,0,none⟩) G.length tcap)):=lh (HD3.out.keep f4 (fun k9 hk9=>.inr (fun cs e tg=>by
        rw [hk9,K32.out] at tg
        simp only [Option.some.injEq,Obj.cells.injEq] at tg
        rw [←tg.2.1]
        decide)))
       have HK4:Hid (Kp24 w X4):=lh (fun k9 cs9 hk9=>by
        have h1:=HK24.out k9 cs9 hk9
        exact (f4.block k9 (blk_lt h1) (fun z=>by have:=blk_lt hk9;have:=GE.out;omega)).trans h1)
       clear e44 j4 f4
       go_wp2_with (first | (refine wpl_load _ rfl (by first | rfl | (simp [Act.eval];done)) hld ?_) | (refine wpl_store _ _ rfl (by first | rfl | (simp [Act.eval];done)) (by first | rfl | (simp [Act.eval];done)) hst ?_))
       refine bodyPost_ret (results_two rfl rfl rfl (load_var J4.out Tryz.underlying24 rfl size24)) rfl ?_
       refine CrAns.ok (s':=withK s i t (t.fks ++ [nx]) true) ?_ ?_ HD4.out HE.out HK4.out
       ·unfold changeT
        rw [if_neg (by rw [HKD.out,HK9.out];decide),if_neg (by rw [HKD.out,HK9.out];decide),if_pos (by rw [HKD.out,HK9.out])]
        unfold addL
        rw [HF8.out]
        simp only
        rw [if_neg HNM.out,if_neg HL8.out]
        unfold newK
        rw [HP2.out]
        simp only
        rw [HPN.out]
        simp only
        rw [if_pos HKE.out]
        simp only
        rw [if_neg HS0.out,HNX.out,HTP.out.1]
        obtain rfl:=HCI.out
        rfl
       ·rw [HG2.out,List.map_set,HG.out,HGI.out]
        rfl
     ·have nb1:nb=true:=by rw [←HNB.out];simp [ke]
      subst nb1
      have HKE:Hid (¬ keyKd (s.tabs[p]'HPL.out)=some (t.cols[m]'HM.out).kd):=lh (by rw [HTP.out.1,HTP.out.2.2.2.2];exact fun q=>ke ((Option.some.inj q).trans HCK.out))
      clear ke
      have HR:Hid (changeT s d st i t=.error 154):=lh (by
       unfold changeT
       rw [if_neg (by rw [HKD.out,HK9.out];decide),if_neg (by rw [HKD.out,HK9.out];decide),if_pos (by rw [HKD.out,HK9.out])]
       unfold addL
       rw [HF8.out]
       simp only
       rw [if_neg HNM.out,if_neg HL8.out]
       unfold newK
       rw [HP2.out]
       simp only
       rw [HPN.out]
       simp only
       rw [if_neg HKE.out])
      have hld:=load_row J0.out Tryz.underlying24 rfl size24
      obtain ⟨X4,e44,j4,f4⟩:=sets_row J2.out (#[.int .i64 (s.ver+1),.int .i64 s.last,.slice (some ⟨TB,0,none⟩) G.length tcap]) rfl
      have hst:(Instr.storeAt 24 (.pointer (some ⟨Y2,0,none⟩)) (.agg #[.int .i64 (s.ver+1),.int .i64 s.last,.slice (some ⟨TB,0,none⟩) G.length tcap])).run Tryz.prog N9=.ok () X4:=by
       rw [e44]
       exact store_row J2.out rfl size24 (by simp [Value.oneCell'])
      have J4:=lh j4
      have HE:Hid (Below w.heap.size w X4):=lh (HB.out.trans (f4.toBelow (fun k9 hk9 q9=>by have:=GE.out;omega) HB.out.size))
      clear e44 j4 f4 x0 x1 x2 y0 y1 y2 y3 y4 e0 e2 e3 e4 e6 e7 e8 e9
      go_upto_region 14 with fail
      go_wp2_with (first | (refine wpl_load _ rfl (by first | rfl | (simp [Act.eval];done)) hld ?_) | (refine wpl_store _ _ rfl (by first | rfl | (simp [Act.eval];done)) (by first | rfl | (simp [Act.eval];done)) hst ?_))
      refine bodyPost_ret (results_two rfl rfl rfl (load_var J4.out Tryz.underlying24 rfl size24)) rfl ?_
      exact CrAns.err HR.out (by decide) HBB.out HE.out
  ·skip
   have HK9:=lh hk
   clear hk
   rw [HK9.out] at e0
   have HR:Hid (changeT s d st i t=.error 153):=lh (by
    unfold changeT
    rw [if_neg (by rw [HKD.out,HK9.out];decide),if_neg (by rw [HKD.out,HK9.out];decide),if_neg (by rw [HKD.out,HK9.out];decide),if_neg (by rw [HKD.out,HK9.out];decide),if_neg (by rw [HKD.out,HK9.out];decide)]
    unfold dropL
    rw [HF8.out])
   have hld:=load_row J0.out Tryz.underlying24 rfl size24
   obtain ⟨X4,e44,j4,f4⟩:=sets_row J2.out (#[.int .i64 (s.ver+1),.int .i64 s.last,.slice (some ⟨TB,0,none⟩) G.length tcap]) rfl
   have hst:(Instr.storeAt 24 (.pointer (some ⟨Y2,0,none⟩)) (.agg #[.int .i64 (s.ver+1),.int .i64 s.last,.slice (some ⟨TB,0,none⟩) G.length tcap])).run Tryz.prog w1=.ok () X4:=by
    rw [e44]
    exact store_row J2.out rfl size24 (by simp [Value.oneCell'])
   have J4:=lh j4
   have HE:Hid (Below w.heap.size w X4):=lh (HB.out.trans (f4.toBelow (fun k9 hk9 q9=>by have:=GE.out;omega) HB.out.size))
   clear e44 j4 f4 x0 x1 x2 y0 y1 y2 y3 y4 e2 e3 e4 e6 e7 e8 e9
   go_upto_region 23 with fail
   go_wp2_with (first | (refine wpl_load _ rfl (by first | rfl | (simp [Act.eval];done)) hld ?_) | (refine wpl_store _ _ rfl (by first | rfl | (simp [Act.eval];done)) (by first | rfl | (simp [Act.eval];done)) hst ?_))
   refine bodyPost_ret (results_two rfl rfl rfl (load_var J4.out Tryz.underlying24 rfl size24)) rfl ?_
   exact CrAns.err HR.out (by decide) HBB.out HE.out
 ·skip
  have HFQ:=lh q
  have HF8:=lh q8
  have HK:=lh hk
  have kk0:(0:Int)≤(k:Int):=by omega
  have kk1:¬ (k:Int)<0:=by omega
  have kk2:(k:Int)<(t.fks.length:Int):=by omega
  clear q q8 q9
  obtain ⟨xk,hxk⟩:∃ xk,t.fks[k]=xk:=⟨_,rfl⟩
  obtain ⟨sx,hsx⟩:∃ sx,xk.st=sx:=⟨_,rfl⟩
  have HXK:Hid ((t.fks[k]?.map Fk.st)=some sx):=lh (by rw [List.getElem?_eq_getElem hk];subst hsx;subst hxk;rfl)
  have HXE:=lh (And.intro hxk hsx)
  clear hxk hsx hk
  have x0:V1.cell? ⟨Y0,0,none⟩=some (.int .i64 (s.ver+1)):=cell_blk J0.out 0
  have x1:V1.cell? ⟨Y0,1,none⟩=some (.int .i64 (s.last)):=cell_blk J0.out 1
  have x2:V1.cell? ⟨Y0,2,none⟩=some (.slice (some ⟨TB,0,none⟩) G.length tcap):=cell_blk J0.out 2
  have y0:V1.cell? ⟨Q,0,none⟩=some (.int .i64 t.id):=cell_blk JQ.out 0
  have y1:V1.cell? ⟨Q,1,none⟩=some (.string t.nm):=cell_blk JQ.out 1
  have y2:V1.cell? ⟨Q,2,none⟩=some (.slice ca t.cols.length cc):=cell_blk JQ.out 2
  have y3:V1.cell? ⟨Q,3,none⟩=some (.slice ia t.ixs.length ic):=cell_blk JQ.out 3
  have y4:V1.cell? ⟨Q,4,none⟩=some (.slice ka t.fks.length kc):=cell_blk JQ.out 4
  have e0:V1.cell? ⟨Y1,0,none⟩=some (.int .i64 kd):=cell_blk J1.out 0
  have e2:V1.cell? ⟨Y1,2,none⟩=some (.string d.name):=cell_blk J1.out 2
  have e3:V1.cell? ⟨Y1,3,none⟩=some (.string d.column):=cell_blk J1.out 3
  have e4:V1.cell? ⟨Y1,4,none⟩=some (.string d.parent):=cell_blk J1.out 4
  have e6:V1.cell? ⟨Y1,6,none⟩=some (.int .i64 d.ty):=cell_blk J1.out 6
  have e7:V1.cell? ⟨Y1,7,none⟩=some (.int .i64 d.df.k):=cell_blk J1.out 7
  have e8:V1.cell? ⟨Y1,8,none⟩=some (.int .i64 d.df.n):=cell_blk J1.out 8
  have e9:V1.cell? ⟨Y1,9,none⟩=some (.string d.df.s):=cell_blk J1.out 9
  have HOC:V1.ownsRow B 50 7 (.slice ca t.cols.length cc) t.cols.length (t.cols.flatMap colL):=by have:=HD.out.c G[i] (List.getElem_mem HI6.out.2.1);rw [HGI.out] at this;exact this
  have HOI:V1.ownsRow B 71 5 (.slice ia t.ixs.length ic) t.ixs.length (t.ixs.flatMap ixL):=by have:=HD.out.i G[i] (List.getElem_mem HI6.out.2.1);rw [HGI.out] at this;exact this
  have HOK:V1.ownsRow B 74 5 (.slice ka t.fks.length kc) t.fks.length (t.fks.flatMap fkL):=by have:=HD.out.k G[i] (List.getElem_mem HI6.out.2.1);rw [HGI.out] at this;exact this
  have hat:=keyAt_any (w:=V1) (t:=t) ⟨Lr.own colL_len HOC,Lr.own ixL_len HOI,Lr.own fkL_len HOK⟩ d.name
  rw [HFQ.out] at hat
  clear HOC HOI HOK
  go_wp2_with (go_at_call 32;refine hat.mono ?_;rintro e w1 ⟨rfl,bw1⟩;refine Hid.out ?_)
  refine lh ?_
  clear x0 x1 x2 y0 y1 y2 y3 y4 e0 e2 e3 e4 e6 e7 e8 e9 hat
  have JQ':=lh ((bw1.block Q (blk_lt JQ.out)).trans JQ.out)
  have J0':=lh ((bw1.block Y0 (blk_lt J0.out)).trans J0.out)
  have J1':=lh ((bw1.block Y1 (blk_lt J1.out)).trans J1.out)
  have J2':=lh ((bw1.block Y2 (blk_lt J2.out)).trans J2.out)
  have HD':=lh (HD.out.below bw1)
  have HB':=lh (bgo HB.out bw1)
  clear JQ J0 J1 J2 HD HB bw1
  have JQ:=JQ'
  have J0:=J0'
  have J1:=J1'
  have J2:=J2'
  have HD:=HD'
  have HB:=HB'
  clear JQ' J0' J1' J2' HD' HB'
  have x0:w1.cell? ⟨Y0,0,none⟩=some (.int .i64 (s.ver+1)):=cell_blk J0.out 0
  have x1:w1.cell? ⟨Y0,1,none⟩=some (.int .i64 (s.last)):=cell_blk J0.out 1
  have x2:w1.cell? ⟨Y0,2,none⟩=some (.slice (some ⟨TB,0,none⟩) G.length tcap):=cell_blk J0.out 2
  have y0:w1.cell? ⟨Q,0,none⟩=some (.int .i64 t.id):=cell_blk JQ.out 0
  have y1:w1.cell? ⟨Q,1,none⟩=some (.string t.nm):=cell_blk JQ.out 1
  have y2:w1.cell? ⟨Q,2,none⟩=some (.slice ca t.cols.length cc):=cell_blk JQ.out 2
  have y3:w1.cell? ⟨Q,3,none⟩=some (.slice ia t.ixs.length ic):=cell_blk JQ.out 3
  have y4:w1.cell? ⟨Q,4,none⟩=some (.slice ka t.fks.length kc):=cell_blk JQ.out 4
  have e0:w1.cell? ⟨Y1,0,none⟩=some (.int .i64 kd):=cell_blk J1.out 0
  have e2:w1.cell? ⟨Y1,2,none⟩=some (.string d.name):=cell_blk J1.out 2
  have e3:w1.cell? ⟨Y1,3,none⟩=some (.string d.column):=cell_blk J1.out 3
  have e4:w1.cell? ⟨Y1,4,none⟩=some (.string d.parent):=cell_blk J1.out 4
  have e6:w1.cell? ⟨Y1,6,none⟩=some (.int .i64 d.ty):=cell_blk J1.out 6
  have e7:w1.cell? ⟨Y1,7,none⟩=some (.int .i64 d.df.k):=cell_blk J1.out 7
  have e8:w1.cell? ⟨Y1,8,none⟩=some (.int .i64 d.df.n):=cell_blk J1.out 8
  have e9:w1.cell? ⟨Y1,9,none⟩=some (.string d.df.s):=cell_blk J1.out 9
  obtain ⟨eb,eo,hea,hall⟩:∃ (eb eo:Nat),ka=some (⟨eb,eo,none⟩:Addr)∧Hid (∀ j (hj:j<t.fks.length) q u,(fkL t.fks[j])[q]?=some u→w1.cell? ⟨eb,eo+j*5+q,none⟩=some u):=by
   have ho:w1.ownsRow B 74 5 (.slice ka t.fks.length kc) t.fks.length (t.fks.flatMap fkL):=by have:=HD.out.k G[i] (List.getElem_mem HI6.out.2.1);rw [HGI.out] at this;exact this
   obtain ⟨_,_,ee,_,_,_,hcs9⟩:=Lr.own fkL_len ho
   cases ee
   obtain ⟨b,o,cs,e9,_,_,_,_⟩:=hcs9 k HK.out
   refine ⟨b,o,e9,lh fun j hj q u hu=>?_⟩
   obtain ⟨b',o',cs',e9',_,h9,_,hh⟩:=hcs9 j hj
   rw [e9] at e9'
   cases e9'
   rw [h9] at hh
   exact hh q u hu
  subst hea
  have ysx:w1.cell? ⟨eb,eo+k*5+4,none⟩=some (.int .i64 sx):=by
   have:=hall.out k HK.out 4 _ rfl
   rw [←HXE.out.2,←HXE.out.1]
   exact this
  have HALL:=hall
  clear hall
  by_cases c3:kd=6∧sx=3
  ·skip
   have HK9:=lh c3.1
   have s3:=c3.2
   subst s3
   clear c3
   rw [HK9.out] at e0
   have HR:Hid (changeT s d st i t=.error 152):=lh (by
    unfold changeT
    rw [if_neg (by rw [HKD.out,HK9.out];decide),if_neg (by rw [HKD.out,HK9.out];decide),if_pos (by rw [HKD.out,HK9.out])]
    unfold addL
    rw [HF8.out]
    simp only
    rw [if_pos HXK.out])
   have hld:=load_row J0.out Tryz.underlying24 rfl size24
   obtain ⟨X4,e44,j4,f4⟩:=sets_row J2.out (#[.int .i64 (s.ver+1),.int .i64 s.last,.slice (some ⟨TB,0,none⟩) G.length tcap]) rfl
   have hst:(Instr.storeAt 24 (.pointer (some ⟨Y2,0,none⟩)) (.agg #[.int .i64 (s.ver+1),.int .i64 s.last,.slice (some ⟨TB,0,none⟩) G.length tcap])).run Tryz.prog w1=.ok () X4:=by
    rw [e44]
    exact store_row J2.out rfl size24 (by simp [Value.oneCell'])
   have J4:=lh j4
   have HE:Hid (Below w.heap.size w X4):=lh (HB.out.trans (f4.toBelow (fun k9 hk9 q9=>by have:=GE.out;omega) HB.out.size))
   clear e44 j4 f4 x0 x1 x2 y0 y1 y2 y3 e2 e3 e4 e6 e7 e8 e9
   go_upto_region 21 with fail
   go_wp2_with (first | (refine wpl_load _ rfl (by first | rfl | (simp [Act.eval];done)) hld ?_) | (refine wpl_store _ _ rfl (by first | rfl | (simp [Act.eval];done)) (by first | rfl | (simp [Act.eval];done)) hst ?_))
   refine bodyPost_ret (results_two rfl rfl rfl (load_var J4.out Tryz.underlying24 rfl size24)) rfl ?_
   exact CrAns.err HR.out (by decide) HBB.out HE.out
  ·skip
   have HC3:=lh c3
   clear c3
   rcases HK9.out with hk | hk
   all_goals
    have HK9:=lh hk
    clear hk
    rw [HK9.out] at e0
    try (have g3:(sx == 3)=false:=by simpa using fun q=>HC3.out ⟨HK9.out,q⟩)
    have HR:Hid (changeT s d st i t=.ok (withK s i t (setAt st k (putK st) t.fks) false)):=lh (by
     first
      | (unfold changeT;rw [if_neg (by rw [HKD.out,HK9.out];decide),if_neg (by rw [HKD.out,HK9.out];decide),if_pos (by rw [HKD.out,HK9.out])];unfold addL;rw [HF8.out];simp only;rw [if_neg (by rw [HXK.out];exact fun q=>HC3.out ⟨HK9.out,Option.some.inj q⟩)])
      | (unfold changeT;rw [if_neg (by rw [HKD.out,HK9.out];decide),if_neg (by rw [HKD.out,HK9.out];decide),if_neg (by rw [HKD.out,HK9.out];decide),if_neg (by rw [HKD.out,HK9.out];decide),if_neg (by rw [HKD.out,HK9.out];decide)];unfold dropL;rw [HF8.out];simp only;rw [if_neg (by rw [List.getElem?_eq_getElem HK.out];simp)]))
    obtain ⟨n,hn⟩:∃ n,t.fks.length=n:=⟨_,rfl⟩
    have hmn:(n:Int)≤9223372036854775807:=by have:=HPB.out;omega
    have hn8:n≤8:=by have:=HPB.out;omega
    have HN:=lh (And.intro hn hn8)
    rw [hn] at y4
    rw [hn] at kk2
    clear hn hn8
    rw [show t.fks.length=n from HN.out.1] at JQ
    go_upto_region 24 with fail
    clear e0 ysx x0 x1 y0 y1 y2 y3 y4 e2 e3 e4 e6 e7 e8 e9
    try clear g3
    go_wp2
    go_loopw [15,16] (fun lv iv wr=>∃ (j:Nat) (R:List Fk),j≤n∧iv=.int .i64 (j:Int)∧R=lpX Fk.st (putK st) k 0 (t.fks.take j)∧wr.ownsRow w1.heap.size 74 5 lv R.length (R.flatMap fkL)∧Below w1.heap.size w1 wr) (fun _ iv _=>n - (intOf iv).toNat)
    case atStart=>exact ⟨0,[],Nat.zero_le _,rfl,rfl,World.ownsRow_nil _ _ 74 5,Below.refl _ _⟩
    case round =>
     obtain ⟨j,R,hj,rfl,hR,hrow,hb⟩:=hrel
     obtain ⟨V,rfl⟩:∃ V,V=wr:=⟨_,rfl⟩
     obtain ⟨la,lc,hsh⟩:=own_shape hrow
     subst hsh
     have hRl:R.length≤8:=by
      have h1:=lpX_len Fk.st (putK st) k 0 (t.fks.take j)
      rw [←hR,List.length_take] at h1
      have:=HN.out
      omega
     have HB0:=lh hb
     have HROW:=lh hrow
     have HRR:=lh hR
     have HRL:=lh hRl
     have HJ:=lh hj
     have GQ:=lh ((hb.block Q (blk_lt JQ.out)).trans JQ.out)
     have yL:V.cell? ⟨Q,4,none⟩=some (.slice (some ⟨eb,eo,none⟩) n kc):=cell_blk GQ.out 4
     clear hb hrow hR hRl hj x2
     by_cases hlt:j<n
     ·skip
      have hjL:j<t.fks.length:=by rw [HN.out.1];exact hlt
      have j0:(0:Int)≤(j:Int):=by omega
      have j1:(j:Int)<(n:Int):=by omega
      obtain ⟨x,hx⟩:∃ x,t.fks[j]=x:=⟨_,rfl⟩
      have HXJ:=lh hx
      have hxs:x.st≠0:=by
       rw [←hx]
       exact HPB.out.2.2.2.2.2.2.2 _ (List.getElem_mem hjL)
      have hcx:∀ q u,(fkL x)[q]?=some u→V.cell? ⟨eb,eo+j*5+q,none⟩=some u:=fun q u hu=>cell_on HB0.out (HALL.out j hjL q u (by subst hx;exact hu))
      have c0:V.cell? ⟨eb,eo+j*5,none⟩=some (.int .i64 x.id):=hcx 0 _ rfl
      have c1:V.cell? ⟨eb,eo+j*5+1,none⟩=some (.string x.nm):=hcx 1 _ rfl
      have c2:V.cell? ⟨eb,eo+j*5+2,none⟩=some (.int .i64 x.col):=hcx 2 _ rfl
      have c3:V.cell? ⟨eb,eo+j*5+3,none⟩=some (.int .i64 x.par):=hcx 3 _ rfl
      have c4:V.cell? ⟨eb,eo+j*5+4,none⟩=some (.int .i64 x.st):=hcx 4 _ rfl
      obtain ⟨V2,hV2⟩:∃ V2,V2=V.alloc (.cells (fkA x) 74):=⟨_,rfl⟩
      obtain ⟨E,hE⟩:∃ E,V.heap.size=E:=⟨_,rfl⟩
      have jE:V2.heap[E]?=some (.cells (fkA x) 74 (0,0)):=by rw [hV2,←hE];exact heap_alloc_new V _
      have bV2:Below V.heap.size V V2:=by rw [hV2];exact bnew _ _
      have HV2:=lh hV2
      have HEE:=lh hE
      have JE:=lh jE
      have BV2:=lh bV2
      have HTK:Hid (t.fks.take (j+1)=t.fks.take (j+1)∧lpX Fk.st (putK st) k 0 (t.fks.take (j+1))=R ++ stX Fk.st (putK st) k j x):=lh ⟨rfl,by rw [lpX_take hjL,←HXJ.out,HRR.out]⟩
      have HXS:=lh hxs
      have kj0:((j:Int) == (k:Int))=decide (j=k):=by
       by_cases q:j=k
       ·subst q;simp
       ·have:¬ (j:Int)=(k:Int):=by omega
        simp [q,this]
      clear hcx hV2 hE jE bV2 hx hxs
      go_upto_region 29 with fail
      rw [←HV2.out,HEE.out]
      clear c0 c1 c2 c3 c4 yL
      by_cases jk:j=k
      ·skip
       have HJK:=lh jk
       rw [decide_eq_true jk] at kj0
       clear jk
       have g4:V2.cell? ⟨E,4,none⟩=some (.int .i64 x.st):=cell_blk JE.out 4
       have f4:V2.frozen? ⟨E,4,none⟩=false:=frozen_blk JE.out 4
       obtain ⟨V3,hV3⟩:∃ V3,V3=V2.setCell ⟨E,4,none⟩ (.int .i64 st):=⟨_,rfl⟩
       have jE3:V3.heap[E]?=some (.cells (fkA (putK st x)) 74 (0,0)):=by rw [hV3];exact set_blk JE.out _
       have fV3:Fr V2 V3 (fun q9=>q9=E):=by rw [hV3];exact Fr.set (S:=fun q9=>q9=E) (a:=⟨E,4,none⟩) (Fr.refl _ _) (.inl rfl) _
       have hb2:=HB0.out.trans (BV2.out.mono HB0.out.size)
       have HB2:Hid (Below w1.heap.size w1 V3):=lh (hb2.trans (fV3.toBelow (fun q9 hq9 z=>by have:=HB0.out.size;have:=HEE.out;omega) hb2.size))
       have OW:Hid (V3.ownsRow w1.heap.size 74 5 (.slice la R.length lc) R.length (R.flatMap fkL)):=lh (row_keep (own_below HROW.out BV2.out) fV3 (fun q9 hq9 z=>by have:=(own_ge HROW.out q9 hq9).2;have:=HEE.out;omega))
       have HV3:=lh hV3
       have JE3:=lh jE3
       clear hV3 jE3 fV3 hb2
       go_upto_region 31 with fail
       rw [←HV3.out]
       clear g4 f4
       have d0:V3.cell? ⟨E,0,none⟩=some (.int .i64 x.id):=cell_blk JE3.out 0
       have d1:V3.cell? ⟨E,1,none⟩=some (.string x.nm):=cell_blk JE3.out 1
       have d2:V3.cell? ⟨E,2,none⟩=some (.int .i64 x.col):=cell_blk JE3.out 2
       have d3:V3.cell? ⟨E,3,none⟩=some (.int .i64 x.par):=cell_blk JE3.out 3
       have d4:V3.cell? ⟨E,4,none⟩=some (.int .i64 st):=cell_blk JE3.out 4
       by_cases s0:st=0
       ·have s1:(st == 0)=true:=by simpa using s0
        have s2:(st != 0)=false:=by simp [s0]
        have HR2:Hid (R=lpX Fk.st (putK st) k 0 (t.fks.take (j+1))):=lh (by
         rw [HTK.out.2]
         unfold stX
         rw [if_pos HJK.out,if_pos (show (putK st x).st=0 from s0),List.append_nil])
        have HS0:=lh s0
        clear s0
        go_wp2
        go_roundw
        case rel=>exact ⟨j+1,_,hlt,by go_num,HR2.out,OW.out,HB2.out⟩
        case measure=>simp [intOf];omega
       ·have s1:(st == 0)=false:=by simpa using s0
        have s2:(st != 0)=true:=by simpa using s0
        have HS0:=lh s0
        clear s0
        obtain ⟨ad,cap,w',hrun,hnew,hfr,hob⟩:=pushK (own_mono OW.out (Nat.zero_le _)) (putK st x) (by have:=HRL.out;omega)
        have HN2:Hid (w'.ownsRow w1.heap.size 74 5 (.slice ad (R.length+1) cap) (R ++ [putK st x]).length ((R ++ [putK st x]).flatMap fkL)):=lh (own_base hnew (fun q9 hq9=>by
         rcases hob q9 hq9 with z | z
         ·exact (own_ge OW.out q9 z).1
         ·have:=HB2.out.size
          omega))
        have HB3:Hid (Below w1.heap.size w1 w'):=lh (HB2.out.trans (hfr.toBelow (fun q9 hq9 z=>by have:=(own_ge OW.out q9 z).1;omega) HB2.out.size))
        have HR2:Hid (R ++ [putK st x]=lpX Fk.st (putK st) k 0 (t.fks.take (j+1))):=lh (by
         rw [HTK.out.2]
         unfold stX
         rw [if_pos HJK.out,if_neg (show ¬ (putK st x).st=0 from HS0.out)])
        clear hnew hfr hob
        go_wp2_with (at_builtin;refine wpl_run2 _ _ rfl (by simp [Act.eval]) (by simp [Act.eval]) hrun ?_)
        go_roundw
        case rel=>exact ⟨j+1,_,hlt,by go_num,HR2.out,HN2.out,HB3.out⟩
        case measure=>simp [intOf];omega
      ·skip
       have HJK:=lh jk
       rw [decide_eq_false jk] at kj0
       clear jk
       have HB2:Hid (Below w1.heap.size w1 V2):=lh (HB0.out.trans (BV2.out.mono HB0.out.size))
       have OW:Hid (V2.ownsRow w1.heap.size 74 5 (.slice la R.length lc) R.length (R.flatMap fkL)):=lh (own_below HROW.out BV2.out)
       obtain ⟨xs,hxs⟩:∃ xs,x.st=xs:=⟨_,rfl⟩
       have s1:(xs == 0)=false:=by rw [←hxs];simpa using HXS.out
       have s2:(xs != 0)=true:=by rw [←hxs];simpa using HXS.out
       have d0:V2.cell? ⟨E,0,none⟩=some (.int .i64 x.id):=cell_blk JE.out 0
       have d1:V2.cell? ⟨E,1,none⟩=some (.string x.nm):=cell_blk JE.out 1
       have d2:V2.cell? ⟨E,2,none⟩=some (.int .i64 x.col):=cell_blk JE.out 2
       have d3:V2.cell? ⟨E,3,none⟩=some (.int .i64 x.par):=cell_blk JE.out 3
       have d4:V2.cell? ⟨E,4,none⟩=some (.int .i64 x.st):=cell_blk JE.out 4
       rw [hxs] at d4
       have HXS2:=lh hxs
       clear hxs
       obtain ⟨ad,cap,w',hrun,hnew,hfr,hob⟩:=pushK (own_mono OW.out (Nat.zero_le _)) x (by have:=HRL.out;omega)
       have HN2:Hid (w'.ownsRow w1.heap.size 74 5 (.slice ad (R.length+1) cap) (R ++ [x]).length ((R ++ [x]).flatMap fkL)):=lh (own_base hnew (fun q9 hq9=>by
        rcases hob q9 hq9 with z | z
        ·exact (own_ge OW.out q9 z).1
        ·have:=HB2.out.size
         omega))
       have HB3:Hid (Below w1.heap.size w1 w'):=lh (HB2.out.trans (hfr.toBelow (fun q9 hq9 z=>by have:=(own_ge OW.out q9 z).1;omega) HB2.out.size))
       have HR2:Hid (R ++ [x]=lpX Fk.st (putK st) k 0 (t.fks.take (j+1))):=lh (by
        rw [HTK.out.2]
        unfold stX
        rw [if_neg HJK.out,if_neg HXS.out])
       change (Builtin.append_ #[33,33] 33 #[.slice la R.length lc,.slice (some ⟨V2.heap.size,0,none⟩) 1 1]).run Tryz.prog (V2.alloc (.cells #[.int .i64 x.id,.string x.nm,.int .i64 x.col,.int .i64 x.par,.int .i64 x.st] 74))=_ at hrun
       rw [HXS2.out] at hrun
       clear hnew hfr hob
       go_wp2_with (at_builtin;refine wpl_run2 _ _ rfl (by simp [Act.eval]) (by simp [Act.eval]) hrun ?_)
       go_roundw
       case rel=>exact ⟨j+1,_,hlt,by go_num,HR2.out,HN2.out,HB3.out⟩
       case measure=>simp [intOf];omega
     ·skip
      have j1:¬ (j:Int)<(n:Int):=by omega
      have hjn:j=n:=by have:=HJ.out;omega
      have HRF:Hid (R=setAt st k (putK st) t.fks):=lh (by
       rw [HRR.out,hjn,List.take_of_length_le (by rw [HN.out.1];exact Nat.le_refl _)]
       exact lpX_all HK.out (fun x hx=>HPB.out.2.2.2.2.2.2.2 x hx) (fun _=>rfl))
      have k0:(0:Int)≤(i:Int):=by omega
      have k1:(i:Int)<(G.length:Int):=by have:=HI6.out.2.1;omega
      have dV:=HD.out.below HB0.out
      obtain ⟨cT,hcT,_,_,_,_⟩:=row_blk (own_mono dV.row (Nat.zero_le _))
      have i0:=(HB0.out.block Y0 (blk_lt J0.out)).trans J0.out
      have i2:=(HB0.out.block Y2 (blk_lt J2.out)).trans J2.out
      have x2:V.cell? ⟨Y0,2,none⟩=some (.slice (some ⟨TB,0,none⟩) G.length tcap):=cell_blk i0 2
      have hold:cT[i*5+4]?=some (.slice (some ⟨eb,eo,none⟩) n kc):=by
       obtain ⟨_,_,e',_,_,_,hX⟩:=Lr.own gL_len dV.row
       cases e'
       obtain ⟨b,o,cs,e2,_,hE,_,hh⟩:=hX i HI6.out.2.1
       cases e2
       rw [hE] at hh
       have:=hh 4 _ (by rw [HGI.out];rfl)
       rw [Nat.zero_add,cell_blk hcT,HN.out.1] at this
       exact this
      have t0:V.cell? ⟨TB,i*5+4,none⟩=some (.slice (some ⟨eb,eo,none⟩) n kc):=(cell_blk hcT (i*5+4)).trans hold
      have t1:V.frozen? ⟨TB,i*5+4,none⟩=false:=frozen_blk hcT (i*5+4)
      obtain ⟨X3,hX3⟩:∃ X3,X3=V.setCell ⟨TB,i*5+4,none⟩ (.slice la R.length lc):=⟨_,rfl⟩
      have x3T:X3.heap[TB]?=some (.cells (cT.setIfInBounds (i*5+4) (.slice la R.length lc)) 35 (0,0)):=by rw [hX3];exact set_blk hcT _
      have fX3:Fr V X3 (fun q9=>q9=TB):=by rw [hX3];exact Fr.set (S:=fun q9=>q9=TB) (a:=⟨TB,i*5+4,none⟩) (Fr.refl _ _) (.inl rfl) _
      obtain ⟨G2,hG2⟩:∃ G2:List Gt,G2=G.set i (tbK G[i].1 R,G[i].2.1,G[i].2.2.1,.slice la R.length lc):=⟨_,rfl⟩
      have hsz:w.heap.size≤w1.heap.size:=HB.out.size
      have D3:Dr X3 B G2 (.slice (some ⟨TB,0,none⟩) G.length tcap):=by
       rw [hG2]
       refine HD.out.setK HI6.out.2.1 J0.out (by have:=HBB.out;omega) ((Fr.ofBelow _ HB0.out).trans fX3) (fun q9 z=>.inr (.inl (by rw [z];rfl))) (tab_row (own_mono HD.out.row (Nat.zero_le _)) ((HB0.out.block TB (own_ge HD.out.row TB rfl).2).symm.trans hcT) HI6.out.2.1 (by decide) x3T (by rw [HGI.out];rfl)) (own_mono (row_keep HROW.out fX3 (fun q9 hq9 z=>by
        obtain ⟨cs9,tg⟩:=own_tag HROW.out q9 hq9
        rw [z,hcT] at tg
        simp only [Option.some.injEq,Obj.cells.injEq] at tg
        exact absurd tg.2.1 (by decide))) (Nat.zero_le _)) ?_
       intro q9 hq9
       exact .inr ((own_ge HROW.out q9 hq9).1)
      have hBV:Below w.heap.size w V:=bgo HB.out HB0.out
      have B3:Below B w X3:=(hBV.mono HBB.out).trans (fX3.toBelow (fun q9 hq9 z=>by have:=(own_ge dV.row TB rfl).1;omega) (by have:=hBV.size;have:=HBB.out;omega))
      have k30:X3.heap[Y0]?=some (.cells #[.int .i64 (s.ver+1),.int .i64 s.last,.slice (some ⟨TB,0,none⟩) G.length tcap] 24 (0,0)):=(fX3.block Y0 (blk_lt i0) (fun z=>by rw [z,hcT] at i0;simp only [Option.some.injEq,Obj.cells.injEq] at i0;exact absurd i0.2.1 (by decide))).trans i0
      have k32:X3.heap[Y2]?=some (.cells #[.int .i64 0,.int .i64 0,.slice none 0 0] 24 (0,0)):=(fX3.block Y2 (blk_lt i2) (fun z=>by rw [z,hcT] at i2;simp only [Option.some.injEq,Obj.cells.injEq] at i2;exact absurd i2.2.1 (by decide))).trans i2
      have HX3:=lh hX3
      have hld:=load_row k30 Tryz.underlying24 rfl size24
      obtain ⟨X4,e44,j4,f4⟩:=sets_row k32 (#[.int .i64 (s.ver+1),.int .i64 s.last,.slice (some ⟨TB,0,none⟩) G.length tcap]) rfl
      have hst:(Instr.storeAt 24 (.pointer (some ⟨Y2,0,none⟩)) (.agg #[.int .i64 (s.ver+1),.int .i64 s.last,.slice (some ⟨TB,0,none⟩) G.length tcap])).run Tryz.prog X3=.ok () X4:=by
       rw [e44]
       exact store_row k32 rfl size24 (by simp [Value.oneCell'])
      have J4:=lh j4
      have HE:Hid (Below B w X4):=lh (B3.trans (f4.toBelow (fun k9 hk9 q9=>by have:=GE.out;have:=HBB.out;omega) (by have:=B3.size;have:=HBB.out;omega)))
      have HD4:Hid (Dr X4 B G2 (.slice (some ⟨TB,0,none⟩) G.length tcap)):=lh (D3.keep f4 (fun k9 hk9=>.inr (fun cs e tg=>by
       rw [hk9,k32] at tg
       simp only [Option.some.injEq,Obj.cells.injEq] at tg
       rw [←tg.2.1]
       decide)))
      have HK4:Hid (Kp24 w X4):=lh (fun k9 cs9 hk9=>by
       have h1:=(hBV.block k9 (blk_lt hk9)).trans hk9
       have h2:=(fX3.block k9 (blk_lt h1) (fun z=>by
        rw [z,hcT] at h1
        simp only [Option.some.injEq,Obj.cells.injEq] at h1
        exact absurd h1.2.1 (by decide))).trans h1
       exact (f4.block k9 (blk_lt h2) (fun z=>by have:=blk_lt hk9;have:=GE.out;omega)).trans h2)
      have HG2:=lh hG2
      clear e44 j4 f4 k30 k32 B3 hBV D3 hG2 hX3 fX3 x3T hold i0 i2 hcT dV hjn hsz
      go_upto_region 34 with fail
      rw [←HX3.out]
      clear x2 t0 t1 yL
      go_wp2_with (first | (refine wpl_load _ rfl (by first | rfl | (simp [Act.eval];done)) hld ?_) | (refine wpl_store _ _ rfl (by first | rfl | (simp [Act.eval];done)) (by first | rfl | (simp [Act.eval];done)) hst ?_))
      refine bodyPost_ret (results_two rfl rfl rfl (load_var J4.out Tryz.underlying24 rfl size24)) rfl ?_
      refine CrAns.ok (s':=withK s i t (setAt st k (putK st) t.fks) false) HR.out ?_ HD4.out HE.out HK4.out
      rw [HG2.out,List.map_set,HG.out,HGI.out,HRF.out]
      rfl
end
end Go.Proofs.YtongmhfpoopebaaGreat
