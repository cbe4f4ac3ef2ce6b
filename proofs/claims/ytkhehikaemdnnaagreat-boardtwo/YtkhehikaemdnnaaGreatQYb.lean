import Derived.Test.YtkhehikaemdnnaaGreatQYa0
namespace Go.Proofs.YtkhehikaemdnnaaGreat
set_option maxRecDepth 100000
set_option maxHeartbeats 40000000
open Go.RowKit
section
variable {w : World}
abbrev zP:Array Value:=#[.int .i64 0,.int .i64 0,.slice none 0 0,.slice none 0 0,.slice none 0 0]
theorem two_law{L:List Oq}{v:Value}(hl:Lr opE 31 w L v):Calls Tryz.prog 5 #[v] w fun e w'=>e=.returned (.bool true)/\Below w.heap.size w w':=by
 obtain⟨ta,tc,rfl,q0,q1,q2,hX⟩:=hl;have hl:Lr opE 31 w L (.slice ta L.length tc):=⟨ta,tc,rfl,q0,q1,q2,hX⟩
 have hmx:(L.length:Int)<=9223372036854775807:=by unfold maxLen at q2;omega
 have HX:=lh hX;have HL:=lh hl;clear hX q0 q1 q2 hl;have haw:=awake_any;go_enter Tryz.func5,Tryz.ntmps5;go_wp2_with (go_at_call 9;refine(haw _).mono ?_;rintro e u1 ⟨rfl,b1⟩;have B1:=lh b1;clear b1)
 refine(great_any (HL.out.on opE_held B1.out)).mono ?_;rintro e u2 ⟨⟨bg,rfl,hbg⟩,b2⟩;have B2:=lh (bgo B1.out b2);clear b2;cases bg with
 | true =>
  clear hbg;go_wp2_with (go_at_call 9;refine(haw _).mono ?_;rintro e u3 ⟨rfl,b3⟩;have B3:=lh (bgo B2.out b3);clear b3)
  go_ret;exact⟨rfl,B3.out⟩
 | false =>
  have HG:=lh (hbg rfl);clear hbg haw;go_wp2_with (go_at_call 11;refine new_any.mono ?_;rintro e u3 ⟨B,W0,rfl,hbo,hW0,b3⟩;have BO:=lh hbo;have HW0:=lh (show ∀ k,k<w.heap.size->W0 k=0 from fun k hk=>hW0 k (Nat.lt_of_lt_of_le hk B2.out.size));have B3:=lh (bgo B2.out b3);clear b3 hbo hW0)
  go_loopw [4,24] (fun nv iv wr=>∃ (i:Nat) (now:Int) (W:Nat->Nat) (b:Bd),i<=L.length/\iv=.int .i64 (i:Int)/\nv=.int .i64 now/\(0<=now/\now<=562949953421312)/\Bo wr B W b/\Fit i b/\b.Near now/\(∀ k,k<w.heap.size->W k=0)/\Below w.heap.size w wr) (fun _ iv _=>L.length - (intOf iv).toNat)
  case atStart=>exact⟨0,0,W0,Bd.none,Nat.zero_le _,rfl,rfl,by omega,BO.out,fit_none,near_none _,HW0.out,B3.out⟩
  case round =>
   obtain⟨i,now,W,b,hi,rfl,rfl,hnw,hbo,hft,hnr,hW,hb⟩:=hrel;obtain⟨V,rfl⟩:∃ V,V=wr:=⟨_,rfl⟩
   have HBO:=lh hbo;have HFT:=lh hft;have HNR:=lh hnr;have HW:=lh hW;have HB:=lh hb;have HNW:=lh hnw;clear hbo hft hnr hW hnw;by_cases hlt:i<L.length
   ·have k0:(0:Int)<=i:=by omega
    have k1:(i:Int)<L.length:=by omega
    obtain⟨bb,p,cs,rfl,hbl,hE,_,hcell⟩:=HX.out i hlt;obtain⟨x,hx⟩:∃ x,L[i]=x:=⟨_,rfl⟩
    rw [hx]at hE;obtain⟨hcs,hO⟩:=hE;subst hcs;have hsz:x.c.ddl.cols.length<=1000:=by
     have h1:=HG.out.2;have h2:=tot_le L (i+1);rw [tot_next hlt,hx]at h2;unfold gsz at h2;omega
    have hOV:=hO.on hb;obtain⟨hld,V2,hst,j2,b2⟩:=op_copy (b:=bb) (o:=p+i*31) hOV (fun j u hu=>cell_on hb (hcell j u hu));obtain⟨Q,hQ⟩:∃ Q,V.heap.size=Q:=⟨_,rfl⟩
    rw [hQ]at j2;have HO:=lh (hOV.on b2);have HB2:=lh (bgo hb b2);have HBO2:=lh (HBO.out.on b2);have HQ:=lh hQ;have HJ2:=lh j2;have HSZ:=lh hsz;have c0:V2.cell? ⟨Q,0,none⟩=some (.int .i64 x.at_):=cell_blk j2 0;have hWQ:W Q=0:=by
     cases q:W Q with
     | zero=>rfl
     | succ m=>have:=HBO.out.lt (k:=Q) (by rw [q];omega);omega
    have HWQ:=lh hWQ;obtain⟨os,hos⟩:∃ os,opA x=os:=⟨_,rfl⟩
    rw [hos]at hld hst;have HLD:=lh hld;have HST:=lh hst;clear hcell hO hOV hsz hld hst j2 b2 hQ hx hbl hb hWQ hos;go_upto_region 8 with (first|(refine wpl_load _ rfl (by first | rfl|(simp [Act.eval];done)) HLD.out ?_)|(refine wpl_store _ _ rfl (by first | rfl|(simp [Act.eval];done)) (by first | rfl|(simp [Act.eval];done)) HST.out ?_))
    rw [HQ.out];go_upto_region 9 with (first|(refine wpl_op (.int .i64 (min x.at_ 562949953421312)) rfl (op_min3 (by first | rfl|(simp [Act.eval];done)) (by first | rfl|(simp [Act.eval];done))) ?_)|(refine wpl_op (.int .i64 (max now (min x.at_ 562949953421312))) rfl (op_max3 (by first | rfl|(simp [Act.eval];done)) (by first | rfl|(simp [Act.eval];done))) ?_))
    clear c0;obtain⟨t,ht⟩:∃ t,max now (min x.at_ 562949953421312)=t:=⟨_,rfl⟩
    have HT:Hid (0<=t/\t<=562949953421312/\now<=t):=lh (by have:=HNW.out;omega);rw [ht];clear ht;have hh:=hand_at HBO2.out HFT.out;go_upto_region 10 with (first|(go_at_call 23;refine hh.mono ?_;rintro e v3 ⟨js,a,m,ok,dr,rfl,g1,g2,g3,g4,g5,g6,b3⟩;obtain⟨X1,X2,hs1,hs2,k1',k2',bX⟩:=two_boxes v3 (a:=a) (m:=m) g1 g2;have HS1:=lh hs1;have HS2:=lh hs2;have H9:=lh (And.intro g4 (And.intro g5 (And.intro g6 (And.intro k1' (And.intro k2' (And.intro b3 bX))))));clear hh g1 g2 g3 g4 g5 g6 b3 hs1 hs2 k1' k2' bX)|(refine wpl_store _ _ rfl (by first | rfl|(simp [Act.eval];done)) (by first | rfl|(simp [Act.eval];done)) HS1.out ?_)|(refine wpl_store _ _ rfl (by first | rfl|(simp [Act.eval];done)) (by first | rfl|(simp [Act.eval];done)) HS2.out ?_))
    obtain⟨Q7,hQ7⟩:∃ Q7,v3.heap.size=Q7:=⟨_,rfl⟩
    have HQ7:=lh hQ7;rw [hQ7];clear hQ7;have BX:=lh (bgo H9.out.2.2.2.2.2.1 H9.out.2.2.2.2.2.2);have HBO4:=lh (HBO2.out.on BX.out);have HB4:=lh (bgo HB2.out BX.out);have hrg:X2.rangeAt Q 1 (cmA x.c x.r x.cv).toList:=range_on BX.out (range_part (range_blk HJ2.out) 1 30);have hld4:(Instr.loadAt 48 (.pointer (some ⟨Q,1,none⟩))).run Tryz.prog X2=.ok (.agg (cmA x.c x.r x.cv)) X2:=run_loadAt_mid X2 Q 1 48 (cmA x.c x.r x.cv).toList _ hrg Tryz.underlying48 rfl size48;have hown:=own_any (r:=x.r) (HO.out.co.on colE_held BX.out) (by have:=HSZ.out;omega) HO.out.rv HO.out.wv;obtain⟨c4,hc4⟩:∃ c4,cmA x.c x.r x.cv=c4:=⟨_,rfl⟩
    rw [hc4]at hld4 hown;have HLD4:=lh hld4;clear hrg hld4 hc4;go_upto_region 11 with (first|(go_at_call 12;refine hown.mono ?_;rintro e v5 ⟨g5,n5,rfl,hg5,hg6,hlr,b5⟩;have HBO5:=lh (HBO4.out.on b5);have hW5:W g5=0:=(by cases q:W g5 with | zero=>rfl | succ m=>(have:=HBO4.out.lt (k:=g5) (by rw [q];omega);omega));have hdo:=do_does (t:=t) (r:=x.r) HBO5.out HFT.out (show i<=100000 by have:=HG.out.1;omega) HO.out.kd (lr_reads (M:=fun k=>W k=1) hlr (by rw [hW5];decide)) (by have:=HSZ.out;omega) HO.out.td;have B5:=lh b5;clear hown hlr b5 hg5 hg6 hW5)|(go_at_call 13;refine hdo.mono ?_;rintro e v6 ⟨rfl,hw6⟩;obtain⟨X7,hs7,j7,f7⟩:=st_row (heap_alloc_new v6 (.cells zR 53)) (us:=rsA (b.act t x.c).2) rfl size53 (by simp [Value.oneCell']);have hb7:Below v6.heap.size v6 X7:=(bnew v6 _).trans (f7.toBelow (fun k hk q=>by have q':k=v6.heap.size:=q;omega) (bnew v6 _).size);have HS7:=lh hs7;have HJ7:=lh j7;have HB67:=lh hb7;have HW6:=lh hw6;clear hdo hw6 hs7 j7 f7 hb7)|(refine wpl_load _ rfl (by first | rfl|(simp [Act.eval];done)) HLD4.out ?_)|(refine wpl_store _ _ rfl (by first | rfl|(simp [Act.eval];done)) (by first | rfl|(simp [Act.eval];done)) HS7.out ?_))
    obtain⟨Q10,hQ10⟩:∃ Q10,v6.heap.size=Q10:=⟨_,rfl⟩
    rw [hQ10];rw [hQ10]at HJ7;clear hQ10;obtain⟨b',hb'⟩:∃ b',(b.act t x.c).1=b':=⟨_,rfl⟩
    have hft6:Fit (i+1) b':=by rw [<-hb'];exact act_fit HFT.out (by have:=HSZ.out;omega)
    have hnr6:b'.Near t:=by rw [<-hb'];exact act_near (HNR.out.mono HT.out.2.2)
    have HFT6:=lh hft6;have HNR6:=lh hnr6;have hlow:=HW6.out.low (bgo HB4.out B5.out) HW.out;obtain⟨W6,hbo6,hf6,hW6⟩:=HW6.out;rw [hb']at hbo6;have HBO7:=lh (hbo6.on HB67.out);have HB7:=lh (bgo hlow HB67.out);have HWN:=lh (show ∀ k,k<w.heap.size->W6 k=0 from fun k hk=>by
     rw [hW6 k (Nat.lt_of_lt_of_le hk (bgo HB4.out B5.out).size)];exact HW.out k hk)
    have h7:W Q7=0:=by
     cases q:W Q7 with
     | zero=>rfl
     | succ m=>have:=HBO2.out.lt (k:=Q7) (by rw [q];omega);have:=H9.out.2.2.2.2.2.1.size;have:=HQ7.out;omega
    have k7:=H9.out.2.2.2.1;rw [HQ7.out]at k7;have hwq:=HWQ.out;have hj2:=(B5.out.block Q (blk_lt ((BX.out.block Q (blk_lt HJ2.out)).trans HJ2.out))).trans ((BX.out.block Q (blk_lt HJ2.out)).trans HJ2.out);have k76:=(hf6.block Q7 (by have:=blk_lt k7;have:=B5.out.size;omega) (fun q=>by rw [show W Q7=1 from q]at h7;cases h7)).trans ((B5.out.block Q7 (blk_lt k7)).trans k7);have kq6:=(hf6.block Q (blk_lt hj2) (fun q=>by rw [show W Q=1 from q]at hwq;cases hwq)).trans hj2;have K77:=(HB67.out.block Q7 (blk_lt k76)).trans k76;have KQ7:=(HB67.out.block Q (blk_lt kq6)).trans kq6;have c18:X7.cell? ⟨Q7,18,none⟩=some (.bool dr):=(cell_blk K77 18).trans H9.out.1;have c1:X7.cell? ⟨Q,1,none⟩=some (.int .i64 x.c.kind):=cell_blk KQ7 1;have c10:X7.cell? ⟨Q10,0,none⟩=some (.int .i64 (b.act t x.c).2.err):=cell_blk HJ7.out 0;have hcase:x.c.kind≠11\/(x.c.kind=11/\ok=false)\/(x.c.kind=11/\ok=true/\dr=false)\/(x.c.kind=11/\ok=true/\dr=true/\(b.act t x.c).2.err=162):=by
     by_cases hk:x.c.kind=11
     ·cases ok with
      | false=>exact .inr (.inl ⟨hk,rfl⟩)
      | true =>
       cases dr with
       | false=>exact .inr (.inr (.inl ⟨hk,rfl,rfl⟩))
       | true =>
        refine .inr (.inr (.inr ⟨hk,rfl,rfl,?_⟩));rw [grant_drains (by have:=HT.out;omega) hk (H9.out.2.1 rfl).1]
     ·exact .inl hk
    obtain⟨er,her⟩:∃ er,(b.act t x.c).2.err=er:=⟨_,rfl⟩
    rw [her]at c10 hcase;obtain⟨kd,hkd⟩:∃ kd,x.c.kind=kd:=⟨_,rfl⟩
    rw [hkd]at c1 hcase;have hsv:=save_tells HBO7.out HFT6.out (show i+1<=100000 by have:=HG.out.1;omega);obtain⟨n8,hn8⟩:∃ n8,b'.leases.length=n8:=⟨_,rfl⟩
    have HN8:=lh hn8;have hn8z:(n8:Int)<=9223372036854775807:=by have:=HFT6.out.nl;have:=HG.out.1;omega
    obtain⟨sv,hsvv⟩:∃ sv,b'.sch.ver=sv:=⟨_,rfl⟩
    have HSV:=lh hsvv;have hv0:0<=sv/\sv<=2251799813685248:=by rw [<-hsvv];exact HFT6.out.sch.vr
    obtain⟨hv1,hv2⟩:=hv0;have HREL:Hid (∀ X,Below X7.heap.size X7 X->∃ (i':Nat) (now':Int) (W':Nat->Nat) (b2:Bd),i'<=L.length/\Value.int .i64 ((i:Int)+1)=.int .i64 (i':Int)/\Value.int .i64 t=.int .i64 now'/\(0<=now'/\now'<=562949953421312)/\Bo X B W' b2/\Fit i' b2/\b2.Near now'/\(∀ k,k<w.heap.size->W' k=0)/\Below w.heap.size w X):=lh fun X hX=>⟨i+1,t,W6,b',hlt,by go_num,rfl,⟨HT.out.1,HT.out.2.1⟩,HBO7.out.on hX,HFT6.out,HNR6.out,HWN.out,bgo HB7.out hX⟩
    clear hb' hft6 hnr6 hlow hbo6 hf6 hW6 h7 k7 hwq hj2 k76 kq6 K77 KQ7 her hkd hsvv hn8;have HSAVE:=lh hsv;clear hsv;rcases hcase with q1 | ⟨q1,q2⟩ | ⟨q1,q2,q3⟩ | ⟨q1,q2,q3,q4⟩
    all_goals
     (try subst q1)
     (try subst q2)
     (try subst q3)
     (try subst q4)
     have hsv:=HSAVE.out;go_upto_region 14 with (first|(go_at_call 22;refine hsv.mono ?_;rintro e v8 ⟨us,rfl,hpl,b8⟩;obtain⟨G8,a1,c1',a2,c2,J8,a3,c3,rfl,_,_,ho8,_,_⟩:=hpl;obtain⟨X9,hs9,j9,f9⟩:=st_row (heap_alloc_new v8 (.cells zP 34)) (us:=#[.int .i64 b'.sch.ver,.int .i64 b'.sch.last,.slice a1 b'.sch.tabs.length c1',.slice a2 b'.leases.length c2,.slice a3 b'.jobs.length c3]) rfl size34 (by simp [Value.oneCell']);have hb9:Below v8.heap.size v8 X9:=(bnew v8 _).trans (f9.toBelow (fun k hk q=>by have q':k=v8.heap.size:=q;omega) (bnew v8 _).size);have HO8:=lh (own_below ho8 hb9);have HS9:=lh hs9;have HJ9:=lh j9;have B8:=lh (bgo b8 hb9);clear hsv ho8 b8 hs9 j9 f9 hb9)|(refine wpl_store _ _ rfl (by first | rfl|(simp [Act.eval];done)) (by first | rfl|(simp [Act.eval];done)) HS9.out ?_))
     obtain⟨Q11,hQ11⟩:∃ Q11,v8.heap.size=Q11:=⟨_,rfl⟩
     rw [hQ11];rw [hQ11]at HJ9;clear hQ11;have p0:X9.cell? ⟨Q11,0,none⟩=some (.int .i64 sv):=by rw [<-HSV.out];exact cell_blk HJ9.out 0
     have p3:X9.cell? ⟨Q11,3,none⟩=some (.slice a2 n8 c2):=by rw [<-HN8.out];exact cell_blk HJ9.out 3
     have HP0:=lh p0;go_wp2_with fail
     go_loopw [66] (fun iv wr=>∃ (k:Nat),k<=n8/\iv=.int .i64 (k:Int)/\Below X9.heap.size X9 wr) (fun iv _=>n8 - (intOf iv).toNat)
     case atStart=>exact⟨0,Nat.zero_le _,rfl,Below.refl _ _⟩
     case round =>
      obtain⟨k,hk,rfl,hb9⟩:=hrel;obtain⟨V9,rfl⟩:∃ V9,V9=wr:=⟨_,rfl⟩
      have HB9:=lh hb9;by_cases hkl:k<n8
      ·have k0:(0:Int)<=k:=by omega
       have k1:(k:Int)<n8:=by omega
       have hkL:k<b'.leases.length:=by rw [HN8.out];exact hkl
       obtain⟨l,hl⟩:∃ l,b'.leases[k]=l:=⟨_,rfl⟩
       have hmem:l ∈ b'.leases:=hl ▸ List.getElem_mem hkL;obtain⟨hnr1,hnr2⟩:=HNR6.out l hmem;rw [HSV.out]at hnr1 hnr2;have hO9:=own_mono (own_below HO8.out hb9) (Nat.zero_le _);obtain⟨g9,hg9⟩:∃ g9,a2=some ⟨g9,0,none⟩:=by
        rcases hO9.2 with⟨_,h0⟩ | ⟨g9,cap,cur,hv,_⟩
        ·omega
        ·cases hv;exact⟨g9,rfl⟩
       subst hg9;have hrow:V9.rangeAt g9 (k*3) (leL l):=by
        have:=row_at hO9 hkL;rw [hl]at this;exact this
       have hld9:(Instr.loadAt 78 (.pointer (some ⟨g9,k*3,none⟩))).run Tryz.prog V9=.ok (.agg (leA l)) V9:=run_loadAt_mid V9 g9 (k*3) 78 (leL l) _ hrow Tryz.underlying78 rfl size78;obtain⟨V10,hs9,j10,f10⟩:=st_row (heap_alloc_new V9 (.cells #[.int .i64 0,.int .i64 0,.int .i64 0] 78)) (us:=leA l) rfl size78 (by simp [Value.oneCell']);have hb10:Below V9.heap.size V9 V10:=(bnew V9 _).trans (f10.toBelow (fun k hk q=>by have q':k=V9.heap.size:=q;omega) (bnew V9 _).size);have l0:V10.cell? ⟨V9.heap.size,0,none⟩=some (.int .i64 l.node):=cell_blk j10 0;have l1:V10.cell? ⟨V9.heap.size,1,none⟩=some (.int .i64 l.ver):=cell_blk j10 1;have l2:V10.cell? ⟨V9.heap.size,2,none⟩=some (.int .i64 l.til):=cell_blk j10 2;have p10:V10.cell? ⟨Q11,0,none⟩=some (.int .i64 sv):=cell_on (bgo hb9 hb10) HP0.out;have hfc:Calls Tryz.prog 24 #[.agg #[.int .i64 l.node,.int .i64 l.ver,.int .i64 l.til],.int .i64 t] V10 fun e w'=>e=.returned (.bool (decide (l.til ≥ t - 3)))/\Below V10.heap.size V10 w':=force_any (w:=V10) (l:=l) (t:=t) (by have:=HT.out;omega) (by have:=HT.out;omega);obtain⟨ls,hls⟩:∃ ls,leA l=ls:=⟨_,rfl⟩
       rw [hls]at hld9 hs9;have HLD9:=lh hld9;have HS9':=lh hs9;have HB10:=lh (bgo hb9 hb10);obtain⟨lv,hlv⟩:∃ lv,l.ver=lv:=⟨_,rfl⟩
       obtain⟨nd,hnd⟩:∃ nd,l.node=nd:=⟨_,rfl⟩
       obtain⟨tl,htl⟩:∃ tl,l.til=tl:=⟨_,rfl⟩
       rw [hnd]at l0 hfc;rw [hlv]at l1 hfc hnr1 hnr2;rw [htl]at l2 hfc hnr2;have g1:¬ sv<lv:=by omega
       clear hl hmem hO9 hrow hld9 hs9 j10 f10 hb10 hls hb9 hkL hlv hnd htl;by_cases hlow:lv<sv - 1
       ·have hf0:decide (tl ≥ t - 3)=false:=by
         have:=hnr2 hlow;simp only [decide_eq_false_iff_not];omega
        rw [hf0]at hfc;clear hf0 hnr2 hnr1;go_wp2_with (first|(refine wpl_load _ rfl (by first | rfl|(simp [Act.eval];done)) HLD9.out ?_)|(refine wpl_store _ _ rfl (by first | rfl|(simp [Act.eval];done)) (by first | rfl|(simp [Act.eval];done)) HS9'.out ?_))
        refine hfc.mono ?_;rintro e v11 ⟨rfl,b11⟩;have HB11:=lh (bgo HB10.out b11);clear hfc b11;go_wp2;go_roundw
        case rel=>exact⟨k+1,hkl,by go_num,HB11.out⟩
        case measure=>simp [intOf];omega
       ·clear hfc hnr2 hnr1;go_wp2_with (first|(refine wpl_load _ rfl (by first | rfl|(simp [Act.eval];done)) HLD9.out ?_)|(refine wpl_store _ _ rfl (by first | rfl|(simp [Act.eval];done)) (by first | rfl|(simp [Act.eval];done)) HS9'.out ?_))
        go_roundw
        case rel=>exact⟨k+1,hkl,by go_num,HB10.out⟩
        case measure=>simp [intOf];omega
      ·have k1:¬ (k:Int)<n8:=by omega
       clear hb9;go_wp2;go_roundw
       case rel=>exact HREL.out _ (bgo B8.out HB9.out)
       case measure=>simp [intOf];omega
   ·have hin:i=L.length:=by omega
    have k1:¬ (i:Int)<L.length:=by omega
    clear hb;go_wp2;go_ret;exact⟨rfl,HB.out⟩
end
end Go.Proofs.YtkhehikaemdnnaaGreat
