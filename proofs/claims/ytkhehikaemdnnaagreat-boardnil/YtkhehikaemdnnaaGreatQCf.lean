import Derived.Test.YtkhehikaemdnnaaGreatQCb
namespace Go.Proofs.YtkhehikaemdnnaaGreat
set_option maxRecDepth 100000
set_option maxHeartbeats 2000000
open Go.RowKit Go.Maps
section
variable {w : World}
theorem chg3{B A i:Nat}{s:Sc}{G:List Gt}{tv:Value}{t:Tb}{d:Dd}{st:Int}{da:Option Addr}{dn dc:Nat}(h:Df w B A s G tv)(hK:d.kind=3)(hl:farB s.last=true)(hcnt:∀ t ∈ s.tabs,cntB t=true)(hi:i<s.tabs.length)(ht:s.tabs[i]=t)(hfd:fidx (fun t=>decide (t.nm=d.table)) s.tabs=(i:Int)):Calls Tryz.prog 91 #[.pointer (some ⟨A,0,none⟩),.agg (dqA d (.slice da dn dc)),.int .i64 st] w (ChAns w B A s (changeT s d st i t)):=by
 have HL:=lh hl;have hlen:G.length=s.tabs.length:=by rw [<-h.tabs,List.length_map]
 have hiG:i<G.length:=by omega
 have HTI:Hid (G[i].1=t):=by
  rw [<-ht];have:s.tabs[i]=(G.map Prod.fst)[i]'(by rw [List.length_map];exact hiG):=by simp only [h.tabs]
  rw [this,List.getElem_map];exact lh rfl
 have hct:=hcnt _ (List.getElem_mem hi);rw [ht]at hct;have HC8:Hid (t.ixs.length<=8):=by
  unfold cntB at hct;simp only [Bool.and_eq_true,decide_eq_true_eq]at hct;exact lh (by omega)
 have HK1:Hid (∀ t ∈ s.tabs,1<=t.cols.length):=fun t ht=>(tab_few (hcnt t ht)).2.1;have HLEN:=lh hlen;obtain⟨tad,tcap,hsh0⟩:=own_shape h.dr.row;obtain⟨TB,hTB⟩:∃ TB,tad=some ⟨TB,0,none⟩:=by
  rcases h.dr.row.2 with⟨_,h0⟩ | ⟨g,cap',cur,hv',_⟩
  ·omega
  ·rw [hsh0]at hv';simp only [Value.slice.injEq]at hv';exact⟨g,hv'.1⟩
 subst hTB;subst hsh0;have HDF:=lh h;obtain⟨W,hW⟩:∃ W,W=(w.alloc (.cells #[.pointer (some ⟨A,0,none⟩)] 151)).alloc (.cells (dqA d (.slice da dn dc)) 45):=⟨_,rfl⟩
 have hbW:=bw2 hW;obtain⟨Y0,hY0⟩:∃ Y0,w.heap.size=Y0:=⟨_,rfl⟩
 obtain⟨Y1,hY1⟩:∃ Y1,Y0+1=Y1:=⟨_,rfl⟩
 have jY0:W.heap[Y0]?=some (.cells #[.pointer (some ⟨A,0,none⟩)] 151 (0,0)):=nw21 hW hY0;have jY1:W.heap[Y1]?=some (.cells (dqA d (.slice da dn dc)) 45 (0,0)):=nw22 hW hY0 hY1;have JJ:=lh (And.intro jY0 jY1);have c0:W.cell? ⟨Y0,0,none⟩=some (.pointer (some ⟨A,0,none⟩)):=cell_blk jY0 0;have c1:W.cell? ⟨A,2,none⟩=some (.slice (some ⟨TB,0,none⟩) G.length tcap):=cell_on hbW (cell_blk h.ob 2);have c2:W.cell? ⟨Y1,1,none⟩=some (.string d.table):=cell_blk jY1 1;have dk:W.cell? ⟨Y1,0,none⟩=some (.int .i64 3):=by rw [<-hK];exact cell_blk jY1 0
 have HC5:Hid (∀ X,Below W.heap.size W X->Calls Tryz.prog 97 #[.slice (some ⟨TB,0,none⟩) G.length tcap,.string d.table] X fun e w'=>e=.returned (.int .i64 (i:Int))/\Below X.heap.size X w'):=fun X hX=>by
  have q:=tabN_any (w:=X) d.table (by have z:=(h.dr.below (bgo hbW hX)).reads;rw [h.tabs]at z;exact z);rw [hfd]at q;exact q
 have hkd:Hid (d.kind=3):=lh hK;have HW:=lh hW;have HBW:=lh hbW;have HY0:=lh hY0;have HY1:=lh hY1;clear hW hbW hY0 hY1;clear jY0 jY1 h hK hl hcnt hfd ht hct hlen hi;go_enter Tryz.func91,Tryz.ntmps91;go_upto_region 1 with fail
 rw [<-HW.out,HY0.out,HY1.out];go_upto_region 5 with fail
 refine wp_region_fl (fun _ X9=>Below W.heap.size W X9) (fun X9 X'=>Below X9.heap.size X9 X') [
  fun v9 _=>v9=.pointer (some ⟨A,0,none⟩),fun v9 _=>v9=.pointer (some ⟨A,0,none⟩),fun v9 _=>v9=.pointer (some ⟨A,2,none⟩),fun v9 _=>v9=.slice (some ⟨TB,0,none⟩) G.length tcap,fun v9 _=>v9=.pointer (some ⟨Y1,1,none⟩),fun v9 _=>v9=.string d.table,fun v9 _=>v9=.int .i64 (i:Int),fun v9 _=>v9=.int .i64 (i:Int)]
  (by kernel_rfl) (by kernel_rfl) (by kernel_rfl) ?st ?g0 ?os ?en
 case st=>
  iterate 8 refine⟨fun _ _ _ _ h=>h,?_⟩
  exact trivial
 case g0=>exact⟨rfl,rfl,rfl,Nat.le_refl _,fun _ _=>rfl⟩
 case os =>
  refine⟨?_,?_,?_,?_,?_,?_,?_,?_,trivial⟩
  ·exact fun ρ _ _ hg _ _ _ ho _ _ _=>rv (op_load151 (show ρ (.tmp 3)=.pointer (some ⟨Y0,0,none⟩)from ho 3 rfl) (cell_on hg c0)) ⟨hg,Below.refl _ _,rfl⟩
  ·exact fun ρ _ _ hg _ _ _ _ _ _ hr=>rv (op_nil (show ρ (.tmp 25)=.pointer (some ⟨A,0,none⟩)from hr 0 25 rfl rfl)) ⟨hg,Below.refl _ _,rfl⟩
  ·exact fun ρ _ _ hg _ _ _ _ _ _ hr=>rv (op_f30_2 (show ρ (.tmp 26)=.pointer (some ⟨A,0,none⟩)from hr 1 26 rfl rfl)) ⟨hg,Below.refl _ _,rfl⟩
  ·exact fun ρ _ _ hg _ _ _ _ _ _ hr=>rv (op_load28 (show ρ (.tmp 27)=.pointer (some ⟨A,2,none⟩)from hr 2 27 rfl rfl) (cell_on hg c1)) ⟨hg,Below.refl _ _,rfl⟩
  ·exact fun ρ _ _ hg _ _ _ ho _ _ _=>rv (op_f45_1 (show ρ (.tmp 4)=.pointer (some ⟨Y1,0,none⟩)from ho 4 rfl)) ⟨hg,Below.refl _ _,rfl⟩
  ·exact fun ρ _ _ hg _ _ _ _ _ _ hr=>rv (op_load9 (show ρ (.tmp 29)=.pointer (some ⟨Y1,1,none⟩)from hr 4 29 rfl rfl) (cell_on hg c2)) ⟨hg,Below.refl _ _,rfl⟩
  ·refine fun ρ X9 fl hg hn hl hp ho hc hf hr=>.inl ⟨rfl,?_⟩;refine Runs.goes 97 #[.slice (some ⟨TB,0,none⟩) G.length tcap,.string d.table] (op_call2 hf (goes97 _ _) (show ρ (.tmp 28)=.slice (some ⟨TB,0,none⟩) G.length tcap from hr 3 28 rfl rfl) (show ρ (.tmp 30)=.string d.table from hr 5 30 rfl rfl)) ((HC5.out X9 hg).mono ?_);rintro e7 w7 ⟨rfl,b7⟩;exact⟨_,rfl,bgo hg b7,b7,rfl⟩
  ·exact fun ρ _ _ hg _ _ _ _ _ _ hr=>rv (op_assign (show ρ (.tmp 31)=.int .i64 (i:Int)from hr 6 31 rfl rfl)) ⟨hg,Below.refl _ _,rfl⟩
 case en =>
  intro a U fl hfl b3 hs hd ho hr;obtain⟨x,hx,hxt⟩:=act_put hs hd ho;have x7:x 7=.int .i64 (i:Int):=(hxt 7).symm.trans (hr 7 7 rfl);change a=putAll _ x [25,26,27,28,29,30,31,7]at hx;simp only [putAll,Act.put,List.setIfInBounds_toArray,List.set_cons_zero,List.set_cons_succ,x7]at hx;clear hs hd ho hr hxt x7;subst hx;have hge:(0:Int)<=(i:Int):=by omega
  have hng:¬ (i:Int)<0:=by omega
  have k1:(i:Int)<(G.length:Int):=by omega
  have u0:U.cell? ⟨Y0,0,none⟩=some (.pointer (some ⟨A,0,none⟩)):=cell_on b3 c0;have u1:U.cell? ⟨A,2,none⟩=some (.slice (some ⟨TB,0,none⟩) G.length tcap):=cell_on b3 c1;have hwU:=bgo HBW.out b3;obtain⟨V,hV⟩:∃ V,V=U.alloc (.cells #[.pointer (some ⟨TB,i*5,none⟩)] 164):=⟨_,rfl⟩
  obtain⟨Y2,hY2⟩:∃ Y2,U.heap.size=Y2:=⟨_,rfl⟩
  have jY2:V.heap[Y2]?=some (.cells #[.pointer (some ⟨TB,i*5,none⟩)] 164 (0,0)):=by rw [hV,<-hY2];exact heap_alloc_new U _
  have bV:Below U.heap.size U V:=by rw [hV];exact bnew _ _
  have bWV:=bgo b3 bV;have hwV:=bgo HBW.out bWV;have HV:=lh hV;have HYY:=lh hY2;have e0:V.cell? ⟨Y1,0,none⟩=some (.int .i64 3):=cell_on bWV dk;have HWV:=lh hwV;have HDV:=lh (HDF.out.dr.below hwV);have HOB:Hid (V.heap[A]?=some (.cells (scA s (.slice (some ⟨TB,0,none⟩) G.length tcap)) 30 (0,0))):=(hwV.block A (blk_lt HDF.out.ob)).trans HDF.out.ob;have J0:Hid (V.heap[Y0]?=some (.cells #[.pointer (some ⟨A,0,none⟩)] 151 (0,0))):=(bWV.block Y0 (blk_lt JJ.out.1)).trans JJ.out.1;have J1:Hid (V.heap[Y1]?=some (.cells (dqA d (.slice da dn dc)) 45 (0,0))):=(bWV.block Y1 (blk_lt JJ.out.2)).trans JJ.out.2;have HY2:Hid (V.cell? ⟨Y2,0,none⟩=some (.pointer (some ⟨TB,i*5,none⟩))):=cell_blk jY2 0;have JY2:=lh jY2;have hmem:=List.getElem_mem hiG;obtain⟨cT,hcT,_,_,_,_⟩:=row_blk (own_mono HDV.out.row (Nat.zero_le _));have hcell:∀ j u,(gL G[i])[j]?=some u->V.cell? ⟨TB,i*5+j,none⟩=some u:=fun j u hu=>by
   obtain⟨_,_,e',_,_,_,hX⟩:=Lr.own gL_len HDV.out.row;cases e';obtain⟨b,o,cs,e2,_,hE,_,hh⟩:=hX i hiG;cases e2;rw [hE]at hh;have:=hh j u hu;rw [Nat.zero_add]at this;exact this
  have hrv:=own_mono (HDV.out.i G[i] hmem) (Nat.zero_le _);obtain⟨ca,cc,hsh⟩:=own_shape hrv;obtain⟨na,hna⟩:∃ na,(G[i].1.ixs).length=na:=⟨_,rfl⟩
  rw [hna]at hsh;have HSH:=lh hsh;have HNA:=lh hna;have HRV:Hid (V.ownsRow 0 138 5 (.slice ca na cc) t.ixs.length (t.ixs.flatMap ixL)):=by
   rw [<-hsh,<-HTI.out];exact hrv
  have HCV:Hid (V.cell? ⟨TB,i*5+3,none⟩=some (.slice ca na cc)):=by
   rw [<-hsh];exact hcell 3 _ rfl
  have HCT:Hid (cT[i*5+3]?=some (.slice ca na cc)):=by
   have:=HCV.out;rw [cell_blk hcT]at this;exact this
  have HPT:Hid (Pt tbE V TB (i*5) t):=by
   rw [<-HTI.out];exact⟨_,⟨_,_,_,rfl,HDV.out.three hmem⟩,hcell⟩
  have HD:Hid (V.cell? ⟨Y1,2,none⟩=some (.string d.name)):=cell_blk J1.out 2;have hTA:TB≠A:=fun q=>by
   rw [q,HOB.out]at hcT;simp only [Option.some.injEq,Obj.cells.injEq]at hcT;exact absurd hcT.2.1 (by decide)
  have HOFF:Hid (∀ X,Below V.heap.size V X->Off X TB (i*5) A):=fun X hX=>by
   refine⟨hTA,fun b p n cc' hc q=>?_⟩;have h2:=cell_on hX (hcell 2 _ rfl);rw [h2]at hc;obtain⟨cs',tg⟩:=own_tag (HDV.out.c G[i] hmem) b (by rw [Option.some.inj hc];rfl);rw [q,HOB.out]at tg;simp only [Option.some.injEq,Obj.cells.injEq]at tg;exact absurd tg.2.1 (by decide)
  have H8:Hid (t.ixs.length<=8):=HC8.out;obtain⟨res,hres⟩:∃ res:Except Int (List Ix),dropL Ix.nm putI t.ixs d.name st 153 (fun _ _=>false)=res:=⟨_,rfl⟩
  obtain⟨er,her⟩:∃ er:Int,(erA res)=er:=⟨_,rfl⟩
  have HC:Hid (∀ X,Below V.heap.size V X->Calls Tryz.prog 132 #[.slice ca na cc,.string d.name,.int .i64 st,.func (.func 122) #[] #[],.func (.func 133) #[] #[]] X (DropAns ixL 138 5 X (.slice ca na cc) res)):=fun X hX=>by
   rw [<-hres];exact dropI_any (w:=X) (used:=fun _ _=>false) (no:=153) (own_below HRV.out hX) (by decide) goes133 (fun X' hX'=>by
    refine(refN_any (-1)).mono ?_;rintro e w' ⟨rfl,rfl⟩;exact⟨rfl,Below.refl _ _⟩) (fun X' hX' j hj=>by
    refine(refN_any (j:Int)).mono ?_;rintro e w' ⟨rfl,rfl⟩;rw [if_neg (by omega)];exact⟨rfl,Below.refl _ _⟩)
  obtain⟨Post,hPost⟩:∃ Post:Value->World->Prop,Post=fun v X4=>∃ X,Below V.heap.size V X/\DropAns ixL 138 5 X (.slice ca na cc) res (.returned v) X4:=⟨_,rfl⟩
  have HP0:=lh hPost;have hcv:=own_tag HRV.out;have hoff:∀ k,((Value.slice ca na cc).ownBlock=some k)->k≠TB/\k≠Y2/\B<=k:=fun k hk=>by
   have ne:∀ {x:Nat} {cs cs':Array Value} {a b:TypeId},a≠b->V.heap[k]?=some (.cells cs a (0,0))->V.heap[x]?=some (.cells cs' b (0,0))->k≠x:=fun hab h1 h2 q=>by
    rw [q,h2]at h1;simp only [Option.some.injEq,Obj.cells.injEq]at h1;exact hab h1.2.1.symm
   obtain⟨cs',tg⟩:=hcv k hk;exact⟨ne (by decide) tg hcT,ne (by decide) tg JY2.out,(own_ge (HDV.out.i G[i] hmem) k (by rw [HSH.out];exact hk)).1⟩
  have HHOFF:=lh hoff;have HCTT:=lh hcT;have HPOST:Hid (∀ X e7 w7,Below V.heap.size V X->DropAns ixL 138 5 X (.slice ca na cc) res e7 w7->∃ ad n cap,e7=.returned (.tuple #[.slice ad n cap,.int .i64 er])/\w7.heap[TB]?=some (.cells cT 64 (0,0))/\w7.cell? ⟨Y2,0,none⟩=some (.pointer (some ⟨TB,i*5,none⟩))):=fun X e7 w7 hX hans=>by
   have kp:Fr X w7 (fun k=>(Value.slice ca na cc).ownBlock=some k)->w7.heap[TB]?=some (.cells cT 64 (0,0))/\w7.cell? ⟨Y2,0,none⟩=some (.pointer (some ⟨TB,i*5,none⟩)):=fun hf=>by
    have q1:=(hX.block TB (blk_lt HCTT.out)).trans HCTT.out;have q2:=(hX.block Y2 (blk_lt JY2.out)).trans JY2.out;refine⟨(hf.block TB (blk_lt q1) (fun q=>(HHOFF.out TB q).1 rfl)).trans q1,?_⟩;rw [cell_blk ((hf.block Y2 (blk_lt q2) (fun q=>(HHOFF.out Y2 q).2.1 rfl)).trans q2)];rfl
   cases res with
   | error e' =>
    have her':e'=er:=her;subst her';obtain⟨ad,n,cap,e,_,hf⟩:=hans;exact⟨ad,n,cap,e,kp hf⟩
   | ok l' =>
    have her':(0:Int)=er:=her;subst her';obtain⟨ad,n,cap,e,_,_,hf,_⟩:=hans;exact⟨ad,n,cap,e,kp hf⟩
  have hch:changeT s d st i t=chD (fun l=>withI s i t l false) res:=by
   rw [<-hres];unfold changeT;rw [if_neg (by rw [hkd.out];decide),if_neg (by rw [hkd.out];decide),if_neg (by rw [hkd.out];decide),if_neg (by rw [hkd.out];decide),if_pos hkd.out];generalize dropL Ix.nm putI t.ixs d.name st 153 (fun _ _=>false)=r;cases r <;> rfl
  have HEND:Hid (∀ Xf,GC V TB (i*5+3) Y2 cT (.pointer (some ⟨TB,i*5,none⟩)) er Post true true Xf->ChAns w B A s (changeT s d st i t) (.returned (.int .i64 er)) Xf):=fun Xf hG=>by
   obtain⟨ad,n,cap,X4,hp,f4,hT4⟩:=hG;rw [hPost]at hp;obtain⟨X,hX,hans⟩:=hp;have hBw:B<=w.heap.size:=Nat.le_trans HDF.out.hA (Nat.le_of_lt (blk_lt HDF.out.ob));have hTB:B<=TB:=(own_ge HDV.out.row TB rfl).1;have hwX:=bgo HWV.out hX;have below:Fr X X4 (fun k=>(Value.slice ca na cc).ownBlock=some k)->Below B w Xf:=fun hf=>(hwX.mono hBw).trans ((hf.toBelow (fun k hk q=>by have:=(HHOFF.out k q).2.2;omega) (Nat.le_trans hBw hwX.size)).trans (f4.toBelow (fun k hk q=>by rw [q]at hk;omega) (Nat.le_trans hBw (Nat.le_trans hwX.size hf.size))));rw [hch];cases res with
   | error e' =>
    have her':e'=er:=her;subst her';obtain⟨_,_,_,_,hne,hf⟩:=hans;exact⟨rfl,hne,below hf⟩
   | ok lb =>
    have her':(0:Int)=er:=her;subst her';obtain⟨l',hl'⟩:∃ l',l'=lb:=⟨_,rfl⟩
    subst hl';obtain⟨ad',n',cap',eq,hn,ho,hf,hb⟩:=hans;simp only [Ending.returned.injEq,Value.tuple.injEq,Array.mk.injEq,List.cons.injEq,Value.slice.injEq,and_true]at eq;obtain⟨rfl,rfl,rfl⟩:=eq;have hAX:=(hX.block A (blk_lt HOB.out)).trans HOB.out;have hTX:=(hX.block TB (blk_lt HCTT.out)).trans HCTT.out;have ha:X4.heap[A]?=some (.cells (scA s (.slice (some ⟨TB,0,none⟩) G.length tcap)) 30 (0,0)):=(hf.block A (blk_lt hAX) (fun q=>by obtain⟨cs',tg⟩:=hcv A q;rw [HOB.out]at tg;simp only [Option.some.injEq,Obj.cells.injEq]at tg;exact absurd tg.2.1 (by decide))).trans hAX;have hdr:=Dr.setI (l':=l') (v':=.slice ad n cap) (T:=fun k=>k=A\/(Value.slice (some ⟨TB,0,none⟩) G.length tcap).ownBlock=some k\/(Value.slice ca na cc).ownBlock=some k) (HDV.out.below hX) hiG hAX (Nat.le_trans hBw hwX.size) ((hf.mono (fun k hk=>.inr (.inr hk))).trans (f4.mono (fun k hk=>.inr (.inl (by rw [hk];rfl))))) (fun k hk=>by rw [HSH.out];exact hk) (tab_row (own_mono (HDV.out.below hX).row (Nat.zero_le _)) hTX hiG (by decide) hT4 rfl) (keep_rowB ho f4 (fun k hk cs tg=>by
     rw [hk]at tg;have q:=(hf.block TB (blk_lt hTX) (fun q=>(HHOFF.out TB q).1 rfl)).trans hTX;rw [q]at tg;simp only [Option.some.injEq,Obj.cells.injEq]at tg;exact absurd tg.2.1 (by decide))) (fun k hk=>by rw [HSH.out];exact hb k hk)
    refine⟨rfl,⟨_,_,⟨?_,hdr,?_,HDF.out.hA⟩⟩,below hf⟩
    ·rw [f4.block A (blk_lt ha) (fun q=>hTA q.symm),ha];rfl
    ·rw [List.map_set,HDF.out.tabs];show s.tabs.set i (tbI G[i].1 l')=s.tabs.set i (tbI t l')
     rw [HTI.out]
  clear hcell hrv hsh hna hTA hcv hoff hcT hres her hPost hch hmem hV hY2 jY2 bV bWV hwV hwU b3;go_upto_region 9 with fail
  rw [<-HV.out,HYY.out];clear u0 u1;go_upto_region 20 with fail
  refine wp_region_fs (fun fl X9=>GC V TB (i*5+3) Y2 cT (.pointer (some ⟨TB,i*5,none⟩)) er Post (fl 8) (fl 14) X9) [
   fun v9 _=>v9=.pointer (some ⟨TB,i*5,none⟩),fun v9 _=>v9=.pointer (some ⟨TB,i*5,none⟩),fun v9 _=>v9=.pointer (some ⟨TB,i*5,none⟩),fun v9 _=>v9=.pointer (some ⟨TB,i*5+3,none⟩),fun v9 _=>v9=.slice ca na cc,fun v9 _=>v9=.pointer (some ⟨Y1,2,none⟩),fun v9 _=>v9=.string d.name,fun v9 _=>v9=.int .i64 st,
   RT TB er Post,
   RT TB er Post,
   RS TB er Post,fun v9 _=>v9=.int .i64 er,fun v9 _=>v9=.pointer (some ⟨TB,i*5,none⟩),fun v9 _=>v9=.pointer (some ⟨TB,i*5+3,none⟩),fun _ _=>True,fun v9 _=>v9=.int .i64 er]
   (by kernel_rfl) (by kernel_rfl) (by kernel_rfl) ?g0 ?os ?en
  case g0=>exact⟨rfl,rfl,rfl,Nat.le_refl _,fun _ _=>rfl⟩
  case os =>
   refine⟨?_,?_,?_,?_,?_,?_,?_,?_,?_,?_,?_,?_,?_,?_,?_,?_,trivial⟩
   all_goals intro ρ X9 fl hg hn hl hp ho hc hf hr
   ·exact⟨rfl,Runs.val _ (op_load164 (show ρ (.tmp 8)=.pointer (some ⟨Y2,0,none⟩)from ho 8 rfl) (hg.box (show fl 14=false from by cases q:fl 14 with | false=>rfl | true=>exact absurd (hl 12 _ 0 rfl (by kernel_rfl) (hl 13 _ 12 rfl (by kernel_rfl) (hl 14 _ 13 rfl (by kernel_rfl) q))) (by rw [hn];decide)) HY2.out)) ⟨hg,fun _ _ _ q=>q,rfl⟩⟩
   ·have hE:=hg.early (show fl 8=false from by cases q:fl 8 with | false=>rfl | true=>exact absurd (hl 2 _ 1 rfl (by kernel_rfl) (hl 3 _ 2 rfl (by kernel_rfl) (hl 4 _ 3 rfl (by kernel_rfl) (hl 8 _ 4 rfl (by kernel_rfl) q)))) (by rw [hn];decide));exact⟨rfl,Runs.val _ (op_load164 (show ρ (.tmp 8)=.pointer (some ⟨Y2,0,none⟩)from ho 8 rfl) (cell_on hE HY2.out)) ⟨hg,fun _ _ _ q=>q,rfl⟩⟩
   ·exact⟨rfl,Runs.val _ (op_nil (show ρ (.tmp 114)=.pointer (some ⟨TB,i*5,none⟩)from hr 1 114 rfl rfl)) ⟨hg,fun _ _ _ q=>q,rfl⟩⟩
   ·exact⟨rfl,Runs.val _ (op_f64_3 (show ρ (.tmp 115)=.pointer (some ⟨TB,i*5,none⟩)from hr 2 115 rfl rfl)) ⟨hg,fun _ _ _ q=>q,rfl⟩⟩
   ·have hE:=hg.early (show fl 8=false from by cases q:fl 8 with | false=>rfl | true=>exact absurd (hl 8 _ 4 rfl (by kernel_rfl) q) (by rw [hn];decide));exact⟨rfl,Runs.val _ (op_load61 (show ρ (.tmp 116)=.pointer (some ⟨TB,i*5+3,none⟩)from hr 3 116 rfl rfl) (cell_on hE HCV.out)) ⟨hg,fun _ _ _ q=>q,rfl⟩⟩
   ·exact⟨rfl,Runs.val _ (op_f45_2 (show ρ (.tmp 4)=.pointer (some ⟨Y1,0,none⟩)from ho 4 rfl)) ⟨hg,fun _ _ _ q=>q,rfl⟩⟩
   ·have hE:=hg.early (show fl 8=false from by cases q:fl 8 with | false=>rfl | true=>exact absurd (hl 8 _ 6 rfl (by kernel_rfl) q) (by rw [hn];decide));exact⟨rfl,Runs.val _ (op_load9 (show ρ (.tmp 118)=.pointer (some ⟨Y1,2,none⟩)from hr 5 118 rfl rfl) (cell_on hE HD.out)) ⟨hg,fun _ _ _ q=>q,rfl⟩⟩
   ·exact⟨rfl,Runs.val _ (op_move (show ρ (.tmp 2)=.int .i64 st from ho 2 rfl)) ⟨hg,fun _ _ _ q=>q,rfl⟩⟩
   ·have hE:=hg.early hn;have hs15:fl 14=false:=by cases q:fl 14 with | false=>rfl | true=>exact absurd (hl 9 _ 8 rfl (by kernel_rfl) (hl 10 _ 9 rfl (by kernel_rfl) (hl 14 _ 10 rfl (by kernel_rfl) q))) (by rw [hn];decide)
    refine⟨rfl,Runs.goes 132 #[.slice ca na cc,.string d.name,.int .i64 st,.func (.func 122) #[] #[],.func (.func 133) #[] #[]] (op_call5 hf (goes132 _ _) (show ρ (.tmp 117)=.slice ca na cc from hr 4 117 rfl rfl) (show ρ (.tmp 119)=.string d.name from hr 6 119 rfl rfl) (show ρ (.tmp 120)=.int .i64 st from hr 7 120 rfl rfl) (hf 122) (hf 133)) ((HC.out X9 hE).mono ?_)⟩;intro e7 w7 hans;obtain⟨ad7,n7,cap7,rfl,hT7,hY7⟩:=HPOST.out X9 e7 w7 hE hans;refine⟨_,rfl,?_,?_,ad7,n7,cap7,w7,rfl,(by rw [HP0.out];exact⟨X9,hE,hans⟩),Fr.refl _ _⟩
    ·show GC V TB (i*5+3) Y2 cT (.pointer (some ⟨TB,i*5,none⟩)) er Post true (fl 14) w7
     rw [hs15];exact⟨hT7,hY7⟩
    ·intro j hj u q
     match j,hj,q with
     | 0,_,q=>exact q
     | 1,_,q=>exact q
     | 2,_,q=>exact q
     | 3,_,q=>exact q
     | 4,_,q=>exact q
     | 5,_,q=>exact q
     | 6,_,q=>exact q
     | 7,_,q=>exact q
     | 8,hj,_=>exact absurd hj (by rw [hn];decide)
     | 9,hj,_=>exact absurd (hl 9 _ 8 rfl (by kernel_rfl) hj) (by rw [hn];decide)
     | 10,hj,_=>exact absurd (hl 9 _ 8 rfl (by kernel_rfl) (hl 10 _ 9 rfl (by kernel_rfl) hj)) (by rw [hn];decide)
     | 11,_,q=>exact q
     | 12,_,q=>exact q
     | 13,_,q=>exact q
     | 14,_,q=>exact q
     | 15,_,q=>exact q
     | m+16,_,q=>exact q
   ·have q:RT TB er Post (ρ (.tmp 121)) X9:=hr 8 121 rfl rfl;exact⟨rfl,Runs.val _ (op_move rfl) ⟨hg,fun _ _ _ q=>q,q⟩⟩
   ·obtain⟨ad7,n7,cap7,X4,e,p,f⟩:RT TB er Post (ρ (.tmp 112)) X9:=hr 9 112 rfl rfl;exact⟨rfl,Runs.val _ (op_extract0 e) ⟨hg,fun _ _ _ q=>q,ad7,n7,cap7,X4,rfl,p,f⟩⟩
   ·obtain⟨ad7,n7,cap7,X4,e,p,f⟩:RT TB er Post (ρ (.tmp 112)) X9:=hr 9 112 rfl rfl;exact⟨rfl,Runs.val _ (op_extract1 e) ⟨hg,fun _ _ _ q=>q,rfl⟩⟩
   ·exact⟨rfl,Runs.val _ (op_nil (show ρ (.tmp 113)=.pointer (some ⟨TB,i*5,none⟩)from hr 0 113 rfl rfl)) ⟨hg,fun _ _ _ q=>q,rfl⟩⟩
   ·exact⟨rfl,Runs.val _ (op_f64_3 (show ρ (.tmp 124)=.pointer (some ⟨TB,i*5,none⟩)from hr 12 124 rfl rfl)) ⟨hg,fun _ _ _ q=>q,rfl⟩⟩
   ·obtain⟨ad7,n7,cap7,X4,e,p,f⟩:RS TB er Post (ρ (.tmp 122)) X9:=hr 10 122 rfl rfl;have h9:fl 8=true:=hl 9 _ 8 rfl (by kernel_rfl) (hl 10 _ 9 rfl (by kernel_rfl) (hp 10 (by kernel_rfl)));have hT:=hg.blk h9 hn;have hF:Fr X9 (X9.setCell ⟨TB,i*5+3,none⟩ (.slice ad7 n7 cap7)) (fun k=>k=TB):=Fr.set (S:=fun k=>k=TB) (a:=⟨TB,i*5+3,none⟩) (Fr.refl _ _) (.inl rfl) _;refine⟨rfl,Runs.skips (op_store61 (show ρ (.tmp 125)=.pointer (some ⟨TB,i*5+3,none⟩)from hr 13 125 rfl rfl) e (show X9.cell? ⟨TB,i*5+3,none⟩=some (.slice ca na cc)from by rw [cell_blk hT];exact HCT.out) (frozen_blk hT _)) ⟨?_,?_,trivial⟩⟩
    ·show GC V TB (i*5+3) Y2 cT (.pointer (some ⟨TB,i*5,none⟩)) er Post (fl 8) true _
     rw [h9];exact⟨ad7,n7,cap7,X4,p,f.trans hF,set_blk hT _⟩
    ·intro j hj u q
     match j,hj,q with
     | 0,_,q=>exact q
     | 1,_,q=>exact q
     | 2,_,q=>exact q
     | 3,_,q=>exact q
     | 4,_,q=>exact q
     | 5,_,q=>exact q
     | 6,_,q=>exact q
     | 7,_,q=>exact q
     | 8,_,q=>exact q.go hF
     | 9,_,q=>exact q.go hF
     | 10,_,q=>exact q.go hF
     | 11,_,q=>exact q
     | 12,_,q=>exact q
     | 13,_,q=>exact q
     | 14,_,q=>exact q
     | 15,_,q=>exact q
     | m+16,_,q=>exact q
   ·exact⟨rfl,Runs.val _ (op_assign (show ρ (.tmp 123)=.int .i64 er from hr 11 123 rfl rfl)) ⟨hg,fun _ _ _ q=>q,rfl⟩⟩
  case en =>
   intro a Xf fl hfl hG hs hd ho hr;rw [hfl 8 (by decide),hfl 14 (by decide)]at hG;obtain⟨x,hx,hxt⟩:=act_put hs hd ho;have x9:x 9=.int .i64 er:=(hxt 9).symm.trans (hr 15 9 rfl);change a=putAll _ x [113,114,115,116,117,118,119,120,121,112,122,123,124,125,9]at hx;simp only [putAll,Act.put,List.setIfInBounds_toArray,List.set_cons_zero,List.set_cons_succ,x9]at hx;have HFIN:=lh (HEND.out Xf hG);clear hG hs hd ho hr hxt x9;subst hx;go_wp2;go_ret;exact HFIN.out
end
end Go.Proofs.YtkhehikaemdnnaaGreat
