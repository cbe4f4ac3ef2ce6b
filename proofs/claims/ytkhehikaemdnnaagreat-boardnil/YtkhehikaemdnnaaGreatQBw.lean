import Derived.Test.YtkhehikaemdnnaaGreatQBv
namespace Go.Proofs.YtkhehikaemdnnaaGreat
set_option maxRecDepth 100000
set_option maxHeartbeats 2000000
open Go.RowKit Go.Maps
section
variable {w : World}
theorem newK_any{A B q:Nat}{s:Sc}{t:Tb}{ta da:Option Addr}{d:Dd}{tc dn dc:Nat}(hA:w.heap[A]?=some (.cells (scA s (.slice ta s.tabs.length tc)) 30 (0,0)))(hl:farB s.last=true)(hL:Lr tbE 5 w s.tabs (.slice ta s.tabs.length tc))(hk:∀ t ∈ s.tabs,1<=t.cols.length)(hT:Pt tbE w B q t)(hO:Off w B q A):Calls Tryz.prog 128 #[.pointer (some ⟨A,0,none⟩),.pointer (some ⟨B,q,none⟩),.agg (dqA d (.slice da dn dc))] w (NewAns fkA w A s (.slice ta s.tabs.length tc) (newK s t d)):=by
 obtain⟨W,hW⟩:∃ W,W=(w.alloc (.cells (dqA d (.slice da dn dc)) 45)).alloc (.cells #[.int .i64 0,.string ⟨#[]⟩,.int .i64 0,.int .i64 0,.int .i64 0] 141):=⟨_,rfl⟩
 have hbW:=bw2 hW;obtain⟨Y0,hY0⟩:∃ Y0,w.heap.size=Y0:=⟨_,rfl⟩
 obtain⟨Y1,hY1⟩:∃ Y1,Y0+1=Y1:=⟨_,rfl⟩
 have jY0:W.heap[Y0]?=some (.cells (dqA d (.slice da dn dc)) 45 (0,0)):=nw21 hW hY0;have jY1:W.heap[Y1]?=some (.cells #[.int .i64 0,.string ⟨#[]⟩,.int .i64 0,.int .i64 0,.int .i64 0] 141 (0,0)):=nw22 hW hY0 hY1;have HLA:=lh hl;have hlt:=blk_lt hA;have hcall:=pubC_any (w:=W) d.column (hT.on tbE_held hbW);have d3:W.cell? ⟨Y0,3,none⟩=some (.string d.column):=cell_blk jY0 3;have D:Hid (W.cell? ⟨Y0,2,none⟩=some (.string d.name)):=cell_blk jY0 2;have JA:Hid (W.heap[A]?=some (.cells (scA s (.slice ta s.tabs.length tc)) 30 (0,0))):=(hbW.block A hlt).trans hA;have J0:=lh jY0;have J1:=lh jY1;have NE:Hid (Y0≠A/\Y0≠Y1/\A≠Y1):=lh ⟨by omega,by omega,by omega⟩;have hgeY:w.heap.size<=Y1:=by omega
 have GEY:=lh hgeY;have HFRW:Hid (∀ U X,Below W.heap.size W U->Fr U X (fun k=>k=A\/k=Y1)->Fr w X (fun k=>k=A)):=fun U X hU q=>Fr.step (S:=fun k=>k=A) (Fr.ofBelow _ (bgo hbW hU)) q (fun k hk=>by rcases hk with rfl | rfl;exact .inl rfl;exact .inr hgeY);have HN:Hid (newK s t d=match pubC t d.column with | none=>.error 151 | some c=>match s.tabs.find? (fun t=>decide (t.nm=d.parent))with | none=>.error 150 | some p=>if keyKd p=some c.kd then .ok ⟨s.last+1,d.name,c.id,p.id,0⟩ else .error 154):=lh rfl;have HP:=lh (find_fidx (fun c:Col=>decide (c.nm=d.column) && decide (c.st=3)) t.cols);have HP2:=lh (find_fidx (fun c:Tb=>decide (c.nm=d.parent)) s.tabs);have HT:=lh hT;have HO:=lh hO;have HL:=lh hL;have HK:=lh hk;have HST:Hid (∀ X,Below W.heap.size W X->∃ X',(Instr.storeAt 141 (.pointer (some ⟨Y1,0,none⟩)) (.agg #[.int .i64 0,.string ⟨#[]⟩,.int .i64 0,.int .i64 0,.int .i64 0])).run Tryz.prog X=.ok () X'/\X'.heap[Y1]?=some (.cells #[.int .i64 0,.string ⟨#[]⟩,.int .i64 0,.int .i64 0,.int .i64 0] 141 (0,0))/\Below w.heap.size w X'):=fun X hX=>by
  have j:=(hX.block Y1 (blk_lt jY1)).trans jY1;obtain⟨X',e,j',f⟩:=sets_row j #[.int .i64 0,.string ⟨#[]⟩,.int .i64 0,.int .i64 0,.int .i64 0] rfl;exact⟨X',by rw [e];exact store_row j rfl size141 (by simp [Value.oneCell']),j',(bgo hbW hX).trans (f.toBelow (fun k hk q=>by rw [q]at hk;omega) (bgo hbW hX).size)⟩
 obtain⟨fi,hfi⟩:∃ fi,fidx (fun c:Col=>decide (c.nm=d.column) && decide (c.st=3)) t.cols=fi:=⟨_,rfl⟩
 obtain⟨fj,hfj⟩:∃ fj,fidx (fun c:Tb=>decide (c.nm=d.parent)) s.tabs=fj:=⟨_,rfl⟩
 rw [hfi]at hcall HP;rw [hfj]at HP2;have HFJ:=lh hfj;have HW:=lh hW;have HBW:=lh hbW;have HY0:=lh hY0;have HY1:=lh hY1;clear hW hbW hY0 hY1;clear jY0 jY1 hA hl hlt hgeY hT hO hfi hL hk hfj;go_enter Tryz.func128,Tryz.ntmps128;go_upto_region 1 with fail
 rw [<-HW.out,HY0.out,HY1.out];go_upto_region 2 with (go_at_call 167;refine hcall.mono ?_;rintro e U ⟨rfl,b2⟩;refine Hid.out ?_)
 refine lh ?_;rcases HP.out with⟨hn,hf⟩ | ⟨i,hi,rfl,hf⟩
 ·have HF1:=lh hf;clear hf;have HR:Hid (newK s t d=.error 151):=by rw [HN.out];unfold pubC;rw [HF1.out];exact lh rfl
  obtain⟨X',hst,j',hb'⟩:=HST.out U b2;have HX:=lh (And.intro j' hb');clear j' hb';go_wp2_with (refine wpl_store _ _ rfl (by simp [Act.eval]) (by simp [Act.eval]) hst ?_)
  refine bodyPost_ret (results_two rfl rfl rfl (load_var HX.out.1 Tryz.underlying141 rfl size141)) rfl ?_;rw [HR.out];exact⟨zK,rfl,by decide,HX.out.2⟩
 ·have hn:¬ (i:Int)<0:=by omega
  obtain⟨c,hc⟩:∃ c,t.cols[i]=c:=⟨_,rfl⟩
  rw [hc]at hf;have HF1:=lh hf;have hwU0:=bgo HBW.out b2;obtain⟨cs,⟨cv,iv,kv,rfl,h3⟩,hcl⟩:=HT.out;obtain⟨ca,cc,rfl,_,_,_,hX⟩:=h3.c;obtain⟨b,p,cs1,rfl,hbl,hE,_,hcell⟩:=hX i hi;cases hE;rw [hc]at hcell;have e2w:w.cell? ⟨B,q+2,none⟩=some (.slice (some ⟨b,p,none⟩) t.cols.length cc):=hcl 2 _ rfl;have E2:Hid (U.cell? ⟨B,q+2,none⟩=some (.slice (some ⟨b,p,none⟩) t.cols.length cc)/\U.cell? ⟨b,p+i*7,none⟩=some (.int .i64 c.id)/\U.cell? ⟨b,p+i*7+2,none⟩=some (.int .i64 c.kd)):=⟨cell_on hwU0 e2w,cell_on hwU0 (hcell 0 _ rfl),cell_on hwU0 (hcell 2 _ rfl)⟩
  have NEB:Hid (B≠A/\B≠Y1/\b≠A/\b≠Y1):=by
   have q1:=pt_lt e2w;have q2:=GEY.out;simp only at q1;exact lh ⟨HO.out.1,by omega,HO.out.2 _ _ _ _ e2w,by omega⟩
  have HI:=lh hi;have E4:Hid (U.cell? ⟨A,2,none⟩=some (.slice ta s.tabs.length tc)/\U.cell? ⟨Y0,4,none⟩=some (.string d.parent)):=⟨cell_on b2 (cell_blk JA.out 2),cell_on b2 (cell_blk J0.out 4)⟩
  have HC4:Hid (∀ X,Below U.heap.size U X->Calls Tryz.prog 97 #[.slice ta s.tabs.length tc,.string d.parent] X fun e w'=>e=.returned (.int .i64 fj)/\Below X.heap.size X w'):=fun X hX=>by
   have:=tabN_any (w:=X) d.parent (HL.out.on tbE_held (bgo hwU0 hX));rw [HFJ.out]at this;exact this
  clear hcall hf hc hwU0 hcl hcell hX h3 hbl e2w d3;go_upto_region 4 with fail
  refine wp_region_fl (fun _ X9=>Below U.heap.size U X9) (fun X9 X'=>Below X9.heap.size X9 X') [
   fun v9 _=>v9=.pointer (some ⟨A,0,none⟩),fun v9 _=>v9=.pointer (some ⟨A,0,none⟩),fun v9 _=>v9=.pointer (some ⟨A,2,none⟩),fun v9 _=>v9=.slice ta s.tabs.length tc,fun v9 _=>v9=.pointer (some ⟨Y0,4,none⟩),fun v9 _=>v9=.string d.parent,fun v9 _=>v9=.int .i64 fj,fun v9 _=>v9=.int .i64 fj]
   (by kernel_rfl) (by kernel_rfl) (by kernel_rfl) ?st ?g0 ?os ?en
  case st=>
   iterate 8 refine⟨fun _ _ _ _ h=>h,?_⟩
   exact trivial
  case g0=>exact⟨rfl,rfl,rfl,Nat.le_refl _,fun _ _=>rfl⟩
  case os =>
   refine⟨?_,?_,?_,?_,?_,?_,?_,?_,trivial⟩
   ·exact fun ρ _ _ hg _ _ _ ho _ _ _=>rv (op_move (show ρ (.tmp 0)=.pointer (some ⟨A,0,none⟩)from ho 0 rfl)) ⟨hg,Below.refl _ _,rfl⟩
   ·exact fun ρ _ _ hg _ _ _ _ _ _ hr=>rv (op_nil (show ρ (.tmp 18)=.pointer (some ⟨A,0,none⟩)from hr 0 18 rfl rfl)) ⟨hg,Below.refl _ _,rfl⟩
   ·exact fun ρ _ _ hg _ _ _ _ _ _ hr=>rv (op_f30_2 (show ρ (.tmp 19)=.pointer (some ⟨A,0,none⟩)from hr 1 19 rfl rfl)) ⟨hg,Below.refl _ _,rfl⟩
   ·exact fun ρ _ _ hg _ _ _ _ _ _ hr=>rv (op_load28 (show ρ (.tmp 20)=.pointer (some ⟨A,2,none⟩)from hr 2 20 rfl rfl) (cell_on hg E4.out.1)) ⟨hg,Below.refl _ _,rfl⟩
   ·exact fun ρ _ _ hg _ _ _ ho _ _ _=>rv (op_f45_4 (show ρ (.tmp 5)=.pointer (some ⟨Y0,0,none⟩)from ho 5 rfl)) ⟨hg,Below.refl _ _,rfl⟩
   ·exact fun ρ _ _ hg _ _ _ _ _ _ hr=>rv (op_load9 (show ρ (.tmp 22)=.pointer (some ⟨Y0,4,none⟩)from hr 4 22 rfl rfl) (cell_on hg E4.out.2)) ⟨hg,Below.refl _ _,rfl⟩
   ·refine fun ρ X9 fl hg hn hl hp ho hc hf hr=>.inl ⟨rfl,?_⟩;refine Runs.goes 97 #[.slice ta s.tabs.length tc,.string d.parent] (op_call2 hf (goes97 _ _) (show ρ (.tmp 21)=.slice ta s.tabs.length tc from hr 3 21 rfl rfl) (show ρ (.tmp 23)=.string d.parent from hr 5 23 rfl rfl)) ((HC4.out X9 hg).mono ?_);rintro e7 w7 ⟨rfl,b7⟩;exact⟨_,rfl,bgo hg b7,b7,rfl⟩
   ·exact fun ρ _ _ hg _ _ _ _ _ _ hr=>rv (op_assign (show ρ (.tmp 24)=.int .i64 fj from hr 6 24 rfl rfl)) ⟨hg,Below.refl _ _,rfl⟩
  case en =>
   intro a U2 fl hfl b3 hs hd ho hr;obtain⟨x,hx,hxt⟩:=act_put hs hd ho;have x9:x 9=.int .i64 fj:=(hxt 9).symm.trans (hr 7 9 rfl);change a=putAll _ x [18,19,20,21,22,23,24,9]at hx;simp only [putAll,Act.put,List.setIfInBounds_toArray,List.set_cons_zero,List.set_cons_succ,x9]at hx;clear hs hd ho hr hxt x9;subst hx;have b3U:=bgo b2 b3;rcases HP2.out with⟨hn2,hf2⟩ | ⟨j,hj,rfl,hf2⟩
   ·have HF2:=lh hf2;clear hf2;have HR:Hid (newK s t d=.error 150):=by rw [HN.out];unfold pubC;rw [HF1.out,HF2.out];exact lh rfl
    obtain⟨X',hst,j',hb'⟩:=HST.out U2 b3U;have HX:=lh (And.intro j' hb');clear j' hb';go_wp2_with (refine wpl_store _ _ rfl (by simp [Act.eval]) (by simp [Act.eval]) hst ?_)
    refine bodyPost_ret (results_two rfl rfl rfl (load_var HX.out.1 Tryz.underlying141 rfl size141)) rfl ?_;rw [HR.out];exact⟨zK,rfl,by decide,HX.out.2⟩
   ·have hn2:¬ (j:Int)<0:=by omega
    obtain⟨pt,hpt⟩:∃ pt,s.tabs[j]=pt:=⟨_,rfl⟩
    have hp1:1<=pt.cols.length:=by rw [<-hpt];exact HK.out _ (List.getElem_mem hj)
    rw [hpt]at hf2;have HF2:=lh hf2;have hwU:=bgo HBW.out b3U;obtain⟨ta',tc',et,_,_,_,hX2⟩:=HL.out;cases et;obtain⟨b2',p2',cs2,hta,_,hE2,_,hcl2⟩:=hX2 j hj;obtain⟨cv2,iv2,kv2,rfl,h32⟩:=hE2;rw [hpt]at hcl2 h32;obtain⟨ca2,k4,ec2,_,_,_,hX4⟩:=h32.c;obtain⟨ia2,ic2,ei2,_⟩:=h32.i;obtain⟨ka2,kc2,ek2,_⟩:=h32.k;obtain⟨b4,p4,cs4,hca2,_,hE4,_,hcl4⟩:=hX4 0 (by omega);cases hE4;subst ei2 ek2 ec2 hca2 hta;obtain⟨u1,hu1⟩:∃ u1,(pt.cols[0]).kd=u1:=⟨_,rfl⟩
    have hkd:=head_kd hp1;rw [hu1]at hkd;have HKD:=lh hkd;have g3:w.cell? ⟨b4,p4+2,none⟩=some (.int .i64 u1):=by
     have:=hcl4 2 _ rfl;rw [Nat.zero_mul,Nat.add_zero]at this;rw [<-hu1];exact this
    obtain⟨n4,hn4⟩:∃ n,pt.cols.length=n:=⟨_,rfl⟩
    obtain⟨n5,hn5⟩:∃ n,pt.ixs.length=n:=⟨_,rfl⟩
    obtain⟨n6,hn6⟩:∃ n,pt.fks.length=n:=⟨_,rfl⟩
    have y0:=cell_on hwU (hcl2 0 _ rfl);have y1:=cell_on hwU (hcl2 1 _ rfl);have y2:=cell_on hwU (hcl2 2 _ rfl);have y3:=cell_on hwU (hcl2 3 _ rfl);have y4:=cell_on hwU (hcl2 4 _ rfl);rw [Nat.add_zero]at y0;rw [hn4]at y2 hp1;rw [hn5]at y3;rw [hn6]at y4;have a2:U2.cell? ⟨A,2,none⟩=some (.slice (some ⟨b2',p2',none⟩) s.tabs.length tc):=cell_on b3 E4.out.1;have m2:(0:Int)<=(j:Int):=by omega
    have m3:(j:Int)<(s.tabs.length:Int):=by omega
    have m4:(0:Int)<(n4:Int):=by omega
    obtain⟨V1,hV1⟩:∃ V1,V1=U2.alloc (.cells (tbA pt (.slice (some ⟨b4,p4,none⟩) n4 k4) (.slice ia2 n5 ic2) (.slice ka2 n6 kc2)) 64):=⟨_,rfl⟩
    obtain⟨Q,hQ⟩:∃ Q,U2.heap.size=Q:=⟨_,rfl⟩
    have jQ:V1.heap[Q]?=some (.cells (tbA pt (.slice (some ⟨b4,p4,none⟩) n4 k4) (.slice ia2 n5 ic2) (.slice ka2 n6 kc2)) 64 (0,0)):=by rw [hV1,<-hQ];exact heap_alloc_new U2 _
    have bV:Below U2.heap.size U2 V1:=by rw [hV1];exact bnew _ _
    have bWV:=bgo b3U bV;have bUV:=bgo b3 bV;have hwV:=bgo HBW.out bWV;have z2:V1.cell? ⟨Q,2,none⟩=some (.slice (some ⟨b4,p4,none⟩) n4 k4):=cell_blk jQ 2;have z3:V1.cell? ⟨b4,p4+2,none⟩=some (.int .i64 u1):=cell_on hwV g3;have z4:V1.cell? ⟨B,q+2,none⟩=some (.slice (some ⟨b,p,none⟩) t.cols.length cc):=cell_on bUV E2.out.1;have z5:V1.cell? ⟨b,p+i*7+2,none⟩=some (.int .i64 c.kd):=cell_on bUV E2.out.2.2;have EQ:Hid (V1.cell? ⟨Q,0,none⟩=some (.int .i64 pt.id)):=cell_blk jQ 0;have E2':=lh (And.intro z4 (cell_on bUV E2.out.2.1));have JA':Hid (V1.heap[A]?=some (.cells (scA s (.slice (some ⟨b2',p2',none⟩) s.tabs.length tc)) 30 (0,0))):=(bWV.block A (blk_lt JA.out)).trans JA.out;have J1':Hid (V1.heap[Y1]?=some (.cells #[.int .i64 0,.string ⟨#[]⟩,.int .i64 0,.int .i64 0,.int .i64 0] 141 (0,0))):=(bWV.block Y1 (blk_lt J1.out)).trans J1.out;have D':Hid (V1.cell? ⟨Y0,2,none⟩=some (.string d.name)):=cell_on bWV D.out;have BWV:=lh bWV;have NEQ:Hid (Q≠A/\Q≠Y1):=by
     have q1:=blk_lt JA.out;have q2:=blk_lt J1.out;have q3:=b3U.size;exact lh ⟨by omega,by omega⟩
    have HV1:=lh hV1;have HQ:=lh hQ;have i0:(0:Int)<=(i:Int):=by omega
    have i1:(i:Int)<(t.cols.length:Int):=by have:=HI.out;omega
    clear hf2 hX2 hcl2 h32 hX4 hcl4 hwU hpt hu1 hkd hn4 hn5 hn6 g3 hV1 hQ jQ bV bWV bUV hwV b3 b3U;go_upto_region 8 with fail
    rw [<-HV1.out,HQ.out];clear y0 y1 y2 y3 y4 a2;by_cases hq:u1=c.kd
    ·have HR:Hid (newK s t d=.ok ⟨s.last+1,d.name,c.id,pt.id,0⟩):=by rw [HN.out];unfold pubC;rw [HF1.out,HF2.out];exact lh (if_pos (by rw [HKD.out,hq]))
     have HEND0:Hid (∀ V2 X9,Below W.heap.size W V2->GW V2 A Y1 (scA s (.slice (some ⟨b2',p2',none⟩) s.tabs.length tc)) (scA { s with last:=s.last+1 } (.slice (some ⟨b2',p2',none⟩) s.tabs.length tc)) 141 #[.int .i64 0,.string ⟨#[]⟩,.int .i64 0,.int .i64 0,.int .i64 0] #[.int .i64 (s.last+1),.string d.name,.int .i64 c.id,.int .i64 pt.id,.int .i64 0] true true X9->NewAns fkA w A s (.slice (some ⟨b2',p2',none⟩) s.tabs.length tc) (newK s t d) (.returned (.tuple #[.agg #[.int .i64 (s.last+1),.string d.name,.int .i64 c.id,.int .i64 pt.id,.int .i64 0],.int .i64 0])) X9):=fun V2 X9 hV2 hG=>by
      rw [HR.out];exact⟨rfl,HFRW.out V2 X9 hV2 hG.fr,hG.a⟩
     have hqd:(!decide (u1=c.kd))=false:=by simp [hq]
     obtain⟨kd,hkd⟩:∃ kd,c.kd=kd:=⟨_,rfl⟩
     rw [hkd]at hq z5;subst hq;clear hqd hkd
     go_quiet (fail)
     go_upto_region 10 with fail
     obtain⟨V2,hV2⟩:∃ V2,V2=V1.drewN nq:=⟨_,rfl⟩
     have F':Hid (V2.cell? ⟨Y0,2,none⟩=some (.string d.name)/\V2.cell? ⟨B,q+2,none⟩=some (.slice (some ⟨b,p,none⟩) t.cols.length cc)/\V2.cell? ⟨b,p+i*7,none⟩=some (.int .i64 c.id)/\V2.cell? ⟨Q,0,none⟩=some (.int .i64 pt.id)/\V2.heap[A]?=some (.cells (scA s (.slice (some ⟨b2',p2',none⟩) s.tabs.length tc)) 30 (0,0))/\V2.heap[Y1]?=some (.cells #[.int .i64 0,.string ⟨#[]⟩,.int .i64 0,.int .i64 0,.int .i64 0] 141 (0,0))):=by
      rw [hV2];exact⟨D'.out,E2'.out.1,E2'.out.2,EQ.out,JA'.out,J1'.out⟩
     have HEND:=lh (fun X9=>HEND0.out V2 X9 (by rw [hV2];exact⟨BWV.out.os,BWV.out.tape,BWV.out.output,BWV.out.size,BWV.out.block⟩));rw [<-hV2];clear hV2 z2 z3 z4 z5;refine wp_region_fl (fun fl X9=>GW V2 A Y1 (scA s (.slice (some ⟨b2',p2',none⟩) s.tabs.length tc)) (scA { s with last:=s.last+1 } (.slice (some ⟨b2',p2',none⟩) s.tabs.length tc)) 141 #[.int .i64 0,.string ⟨#[]⟩,.int .i64 0,.int .i64 0,.int .i64 0] #[.int .i64 (s.last+1),.string d.name,.int .i64 c.id,.int .i64 pt.id,.int .i64 0] (fl 1) (fl 15) X9) (fun _ _=>True) [
      fun v9 _=>v9=.pointer (some ⟨A,0,none⟩),fun v9 _=>v9=.int .i64 (s.last+1),fun v9 _=>v9=.pointer (some ⟨Y0,2,none⟩),fun v9 _=>v9=.string d.name,fun v9 _=>v9=.pointer (some ⟨B,q,none⟩),fun v9 _=>v9=.pointer (some ⟨B,q,none⟩),fun v9 _=>v9=.pointer (some ⟨B,q+2,none⟩),fun v9 _=>v9=.slice (some ⟨b,p,none⟩) t.cols.length cc,fun v9 _=>v9=.int .i64 (i:Int),fun v9 _=>v9=.pointer (some ⟨b,p+i*7,none⟩),fun v9 _=>v9=.pointer (some ⟨b,p+i*7,none⟩),fun v9 _=>v9=.int .i64 c.id,fun v9 _=>v9=.pointer (some ⟨Q,0,none⟩),fun v9 _=>v9=.int .i64 pt.id,fun v9 _=>v9=.agg #[.int .i64 (s.last+1),.string d.name,.int .i64 c.id,.int .i64 pt.id,.int .i64 0],fun _ _=>True,fun v9 _=>v9=.int .i64 0]
      (by kernel_rfl) (by kernel_rfl) (by kernel_rfl) ?st ?g0 ?os ?en
     case st=>
      iterate 17 refine⟨fun _ _ _ _ h=>h,?_⟩
      exact trivial
     case g0=>exact⟨⟨rfl,rfl,rfl,Nat.le_refl _,fun _ _ _=>rfl⟩,F'.out.2.2.2.2.1,F'.out.2.2.2.2.2⟩
     case os =>
      refine⟨?_,?_,?_,?_,?_,?_,?_,?_,?_,?_,?_,?_,?_,?_,?_,?_,?_,trivial⟩
      ·exact fun ρ _ _ hg _ _ _ ho _ _ _=>rv (op_move (show ρ (.tmp 0)=.pointer (some ⟨A,0,none⟩)from ho 0 rfl)) ⟨hg,trivial,rfl⟩
      ·refine fun ρ X9 fl hg hn hl hp ho hc hf hr=>.inl ⟨rfl,?_⟩;refine Runs.goes 162 #[.pointer (some ⟨A,0,none⟩)] (op_call1 hf (goes162 _ _) (show ρ (.tmp 50)=.pointer (some ⟨A,0,none⟩)from hr 0 50 rfl rfl)) ((give_any (s:=s) (tv:=.slice (some ⟨b2',p2',none⟩) s.tabs.length tc) (by have q:=hg.a;rw [hn]at q;exact q) HLA.out).mono ?_);rintro e7 w7 ⟨rfl,rfl⟩;exact⟨_,rfl,hg.gave hn NE.out.2.2 rfl,trivial,rfl⟩
      ·exact fun ρ _ _ hg _ _ _ ho _ _ _=>rv (op_f45_2 (show ρ (.tmp 5)=.pointer (some ⟨Y0,0,none⟩)from ho 5 rfl)) ⟨hg,trivial,rfl⟩
      ·exact fun ρ _ _ hg _ _ _ _ _ _ hr=>rv (op_load9 (show ρ (.tmp 52)=.pointer (some ⟨Y0,2,none⟩)from hr 2 52 rfl rfl) (hg.cell NE.out.1 NE.out.2.1 F'.out.1)) ⟨hg,trivial,rfl⟩
      ·exact fun ρ _ _ hg _ _ _ ho _ _ _=>rv (op_move (show ρ (.tmp 1)=.pointer (some ⟨B,q,none⟩)from ho 1 rfl)) ⟨hg,trivial,rfl⟩
      ·exact fun ρ _ _ hg _ _ _ _ _ _ hr=>rv (op_nil (show ρ (.tmp 54)=.pointer (some ⟨B,q,none⟩)from hr 4 54 rfl rfl)) ⟨hg,trivial,rfl⟩
      ·exact fun ρ _ _ hg _ _ _ _ _ _ hr=>rv (op_f64_2 (show ρ (.tmp 55)=.pointer (some ⟨B,q,none⟩)from hr 5 55 rfl rfl)) ⟨hg,trivial,rfl⟩
      ·exact fun ρ _ _ hg _ _ _ _ _ _ hr=>rv (op_load43 (show ρ (.tmp 56)=.pointer (some ⟨B,q+2,none⟩)from hr 6 56 rfl rfl) (hg.cell NEB.out.1 NEB.out.2.1 F'.out.2.1)) ⟨hg,trivial,rfl⟩
      ·exact fun ρ _ _ hg _ _ _ ho _ _ _=>rv (op_move (show ρ (.tmp 8)=.int .i64 (i:Int)from ho 8 rfl)) ⟨hg,trivial,rfl⟩
      ·exact fun ρ _ _ hg _ _ _ _ _ _ hr=>rv (op_i43 (show ρ (.tmp 57)=.slice (some ⟨b,p,none⟩) t.cols.length cc from hr 7 57 rfl rfl) (show ρ (.tmp 58)=.int .i64 (i:Int)from hr 8 58 rfl rfl) HI.out) ⟨hg,trivial,rfl⟩
      ·exact fun ρ _ _ hg _ _ _ _ _ _ hr=>rv (op_f56_0 (show ρ (.tmp 59)=.pointer (some ⟨b,p+i*7,none⟩)from hr 9 59 rfl rfl)) ⟨hg,trivial,rfl⟩
      ·exact fun ρ _ _ hg _ _ _ _ _ _ hr=>rv (op_load3 (show ρ (.tmp 60)=.pointer (some ⟨b,p+i*7,none⟩)from hr 10 60 rfl rfl) (hg.cell NEB.out.2.2.1 NEB.out.2.2.2 F'.out.2.2.1)) ⟨hg,trivial,rfl⟩
      ·exact fun ρ _ _ hg _ _ _ ho _ _ _=>rv (op_f64_0 (show ρ (.tmp 10)=.pointer (some ⟨Q,0,none⟩)from ho 10 rfl)) ⟨hg,trivial,rfl⟩
      ·exact fun ρ _ _ hg _ _ _ _ _ _ hr=>rv (op_load3 (show ρ (.tmp 62)=.pointer (some ⟨Q,0,none⟩)from hr 12 62 rfl rfl) (hg.cell NEQ.out.1 NEQ.out.2 F'.out.2.2.2.1)) ⟨hg,trivial,rfl⟩
      ·exact fun ρ _ _ hg _ _ _ _ _ _ hr=>rv (op_b141_new (show ρ (.tmp 51)=.int .i64 (s.last+1)from hr 1 51 rfl rfl) (show ρ (.tmp 53)=.string d.name from hr 3 53 rfl rfl) (show ρ (.tmp 61)=.int .i64 c.id from hr 11 61 rfl rfl) (show ρ (.tmp 63)=.int .i64 pt.id from hr 13 63 rfl rfl)) ⟨hg,trivial,rfl⟩
      ·refine fun ρ X9 fl hg hn hl hp ho hc hf hr=>.inl ⟨rfl,?_⟩;obtain⟨X',hst,hG'⟩:=hg.stored hn NE.out.2.2 rfl size141 (by simp [Value.oneCell']);exact Runs.skips (op_storeAt (show ρ (.tmp 6)=.pointer (some ⟨Y1,0,none⟩)from ho 6 rfl) (show ρ (.tmp 64)=.agg #[.int .i64 (s.last+1),.string d.name,.int .i64 c.id,.int .i64 pt.id,.int .i64 0]from hr 14 64 rfl rfl) hst) ⟨hG',trivial,trivial⟩
      ·exact fun _ _ _ hg _ _ _ _ hc _ _=>rv (op_assign (hc _)) ⟨hg,trivial,rfl⟩
     case en =>
      intro a X9 fl hfl hG hs hd ho hr;rw [hfl 1 (by decide),hfl 15 (by decide)]at hG;obtain⟨x,hx,hxt⟩:=act_put hs hd ho;have x7:x 7=.int .i64 0:=(hxt 7).symm.trans (hr 16 7 rfl);change a=putAll _ x [50,51,52,53,54,55,56,57,58,59,60,61,62,63,64,7]at hx;simp only [putAll,Act.put,List.setIfInBounds_toArray,List.set_cons_zero,List.set_cons_succ,x7]at hx;have HG:=lh hG;clear hG hs hd ho hr hxt x7;subst hx;go_wp2;refine bodyPost_ret (results_two rfl rfl rfl (load_var HG.out.y Tryz.underlying141 rfl size141)) rfl ?_;exact HEND.out X9 HG.out
    ·have HR:Hid (newK s t d=.error 154):=by rw [HN.out];unfold pubC;rw [HF1.out,HF2.out];exact lh (if_neg (by rw [HKD.out];intro z;exact hq (Option.some.inj z)))
     go_quiet (fail)
     obtain⟨X',hst,j',hb'⟩:=HST.out (V1.drewN nq) ⟨BWV.out.os,BWV.out.tape,BWV.out.output,BWV.out.size,BWV.out.block⟩;have HX:=lh (And.intro j' hb');clear j' hb';go_wp2_with (refine wpl_store _ _ rfl (by simp [Act.eval]) (by simp [Act.eval]) hst ?_)
     refine bodyPost_ret (results_two rfl rfl rfl (load_var HX.out.1 Tryz.underlying141 rfl size141)) rfl ?_;rw [HR.out];exact⟨zK,rfl,by decide,HX.out.2⟩
end
end Go.Proofs.YtkhehikaemdnnaaGreat
