import Derived.Test.YtkhehikaemdnnaaGreatQYa0
namespace Go.Proofs.YtkhehikaemdnnaaGreat
set_option maxRecDepth 100000
set_option maxHeartbeats 40000000
open Go.RowKit
section
variable {w : World}
theorem still_law{L:List Oq}{v:Value}(hl:Lr opE 31 w L v):Calls Tryz.prog 6 #[v] w fun e w'=>e=.returned (.bool true)/\Below w.heap.size w w':=by
 obtain⟨ta,tc,rfl,q0,q1,q2,hX⟩:=hl;have hl:Lr opE 31 w L (.slice ta L.length tc):=⟨ta,tc,rfl,q0,q1,q2,hX⟩
 have hmx:(L.length:Int)<=9223372036854775807:=by unfold maxLen at q2;omega
 have HX:=lh hX;have HL:=lh hl;clear hX q0 q1 q2 hl;have haw:=awake_any;go_enter Tryz.func6,Tryz.ntmps6;go_wp2_with (go_at_call 9;refine(haw _).mono ?_;rintro e u1 ⟨rfl,b1⟩;have B1:=lh b1;clear b1)
 refine(great_any (HL.out.on opE_held B1.out)).mono ?_;rintro e u2 ⟨⟨bg,rfl,hbg⟩,b2⟩;have B2:=lh (bgo B1.out b2);clear b2;cases bg with
 | true =>
  clear hbg;go_wp2_with (go_at_call 9;refine(haw _).mono ?_;rintro e u3 ⟨rfl,b3⟩;have B3:=lh (bgo B2.out b3);clear b3)
  go_ret;exact⟨rfl,B3.out⟩
 | false =>
  have HG:=lh (hbg rfl);clear hbg haw;go_wp2_with (go_at_call 11;refine new_any.mono ?_;rintro e u3 ⟨B,W0,rfl,hbo,hW0,b3⟩;have BO:=lh hbo;have HW0:=lh (show ∀ k,k<w.heap.size->W0 k=0 from fun k hk=>hW0 k (Nat.lt_of_lt_of_le hk B2.out.size));have B3:=lh (bgo B2.out b3);clear b3 hbo hW0)
  go_loopw [4,24] (fun nv iv wr=>∃ (i:Nat) (now:Int) (W:Nat->Nat) (b:Bd),i<=L.length/\iv=.int .i64 (i:Int)/\nv=.int .i64 now/\(0<=now/\now<=562949953421312)/\Bo wr B W b/\Fit i b/\b.Near now/\(∀ k,k<w.heap.size->W k=0)/\Below w.heap.size w wr) (fun _ iv _=>L.length - (intOf iv).toNat)
  case atStart=>exact⟨0,0,W0,Bd.none,Nat.zero_le _,rfl,rfl,by omega,BO.out,fit_none,near_none _,HW0.out,B3.out⟩
  case round =>
   obtain⟨i,now,W,b,hi,rfl,rfl,hnw,hbo,hft,hnr,hW,hb⟩:=hrel;obtain⟨V,rfl⟩:∃ V,V=wr:=⟨_,rfl⟩
   have HBO:=lh hbo;have HFT:=lh hft;have HNR:=lh hnr;have HW:=lh hW;have HB:=lh hb;have HNW:=lh hnw;clear hbo hft hnr hW hnw;by_cases hlt:i<L.length
   ·have k0:(0:Int)<=i:=by omega
    have k1:(i:Int)<L.length:=by omega
    obtain⟨bb,p,cs,rfl,hbl,hE,_,hcell⟩:=HX.out i hlt;obtain⟨x,hx⟩:∃ x,L[i]=x:=⟨_,rfl⟩
    rw [hx]at hE;obtain⟨hcs,hO⟩:=hE;subst hcs;have hsz:x.c.ddl.cols.length<=1000:=by
     have h1:=HG.out.2;have h2:=tot_le L (i+1);rw [tot_next hlt,hx]at h2;unfold gsz at h2;omega
    have hOV:=hO.on hb;obtain⟨hld,V2,hst,j2,b2⟩:=op_copy (b:=bb) (o:=p+i*31) hOV (fun j u hu=>cell_on hb (hcell j u hu));obtain⟨Q,hQ⟩:∃ Q,V.heap.size=Q:=⟨_,rfl⟩
    rw [hQ]at j2;have HO:=lh (hOV.on b2);have HB2:=lh (bgo hb b2);have HBO2:=lh (HBO.out.on b2);have HQ:=lh hQ;have HJ2:=lh j2;have HSZ:=lh hsz;have c0:V2.cell? ⟨Q,0,none⟩=some (.int .i64 x.at_):=cell_blk j2 0;have hWQ:W Q=0:=by
     cases q:W Q with
     | zero=>rfl
     | succ m=>have:=HBO.out.lt (k:=Q) (by rw [q];omega);omega
    have HWQ:=lh hWQ;obtain⟨os,hos⟩:∃ os,opA x=os:=⟨_,rfl⟩
    rw [hos]at hld hst;have HLD:=lh hld;have HST:=lh hst;clear hcell hO hOV hsz hld hst j2 b2 hQ hx hbl hb hWQ hos;go_upto_region 8 with (first|(refine wpl_load _ rfl (by first | rfl|(simp [Act.eval];done)) HLD.out ?_)|(refine wpl_store _ _ rfl (by first | rfl|(simp [Act.eval];done)) (by first | rfl|(simp [Act.eval];done)) HST.out ?_))
    rw [HQ.out];go_upto_region 9 with (first|(refine wpl_op (.int .i64 (min x.at_ 562949953421312)) rfl (op_min3 (by first | rfl|(simp [Act.eval];done)) (by first | rfl|(simp [Act.eval];done))) ?_)|(refine wpl_op (.int .i64 (max now (min x.at_ 562949953421312))) rfl (op_max3 (by first | rfl|(simp [Act.eval];done)) (by first | rfl|(simp [Act.eval];done))) ?_))
    clear c0;obtain⟨t,ht⟩:∃ t,max now (min x.at_ 562949953421312)=t:=⟨_,rfl⟩
    have HT:Hid (0<=t/\t<=562949953421312/\now<=t):=lh (by have:=HNW.out;omega);rw [ht];clear ht;have hh:=hand_at HBO2.out HFT.out;go_upto_region 10 with (first|(go_at_call 23;refine hh.mono ?_;rintro e v3 ⟨js,a,m,ok,dr,rfl,g1,g2,g3,g4,g5,g6,b3⟩;obtain⟨X1,X2,hs1,hs2,k1',k2',bX⟩:=two_boxes v3 (a:=a) (m:=m) g1 g2;have HS1:=lh hs1;have HS2:=lh hs2;have H9:=lh (And.intro g3 (And.intro g5 (And.intro g6 (And.intro k1' (And.intro k2' (And.intro b3 bX))))));clear hh g1 g2 g3 g4 g5 g6 b3 hs1 hs2 k1' k2' bX)|(refine wpl_store _ _ rfl (by first | rfl|(simp [Act.eval];done)) (by first | rfl|(simp [Act.eval];done)) HS1.out ?_)|(refine wpl_store _ _ rfl (by first | rfl|(simp [Act.eval];done)) (by first | rfl|(simp [Act.eval];done)) HS2.out ?_))
    obtain⟨Q7,hQ7⟩:∃ Q7,v3.heap.size=Q7:=⟨_,rfl⟩
    have HQ7:=lh hQ7;rw [hQ7];clear hQ7;have BX:=lh (bgo H9.out.2.2.2.2.2.1 H9.out.2.2.2.2.2.2);have HBOX:=lh (HBO2.out.on BX.out);have HBX:=lh (bgo HB2.out BX.out);have hs1:=schema_tells HBOX.out HFT.out;go_upto_region 11 with (first|(go_at_call 18;refine hs1.mono ?_;rintro e v4 ⟨G4,tv4,rfl,_,hD4,b4⟩;obtain⟨a4,m4,rfl⟩:=own_shape hD4.row;have B4:=lh b4;clear hs1 b4 hD4)|(refine wpl_op (.int .i64 b.sch.ver) rfl (op_field30_0 (n:=b.sch.last) (by first | rfl|(simp [Act.eval];done))) ?_))
    have HBO4:=lh (HBOX.out.on B4.out);have HB4:=lh (bgo HBX.out B4.out);have B24:=lh (bgo BX.out B4.out);have hrg:v4.rangeAt Q 1 (cmA x.c x.r x.cv).toList:=range_on B24.out (range_part (range_blk HJ2.out) 1 30);have hld4:(Instr.loadAt 48 (.pointer (some ⟨Q,1,none⟩))).run Tryz.prog v4=.ok (.agg (cmA x.c x.r x.cv)) v4:=run_loadAt_mid v4 Q 1 48 (cmA x.c x.r x.cv).toList _ hrg Tryz.underlying48 rfl size48;have hown:=own_any (r:=x.r) (HO.out.co.on colE_held B24.out) (by have:=HSZ.out;omega) HO.out.rv HO.out.wv;obtain⟨c4,hc4⟩:∃ c4,cmA x.c x.r x.cv=c4:=⟨_,rfl⟩
    rw [hc4]at hld4 hown;have HLD4:=lh hld4;clear hrg hld4 hc4;go_upto_region 12 with (first|(go_at_call 12;refine hown.mono ?_;rintro e v5 ⟨g5,n5,rfl,hg5,hg6,hlr,b5⟩;have HBO5:=lh (HBO4.out.on b5);have hW5:W g5=0:=(by cases q:W g5 with | zero=>rfl | succ m=>(have:=HBO4.out.lt (k:=g5) (by rw [q];omega);omega));have hdo:=do_does (t:=t) (r:=x.r) HBO5.out HFT.out (show i<=100000 by have:=HG.out.1;omega) HO.out.kd (lr_reads (M:=fun k=>W k=1) hlr (by rw [hW5];decide)) (by have:=HSZ.out;omega) HO.out.td;have B5:=lh b5;clear hown hlr b5 hg5 hg6 hW5)|(go_at_call 13;refine hdo.mono ?_;rintro e v6 ⟨rfl,hw6⟩;have HW6:=lh hw6;clear hdo hw6)|(refine wpl_load _ rfl (by first | rfl|(simp [Act.eval];done)) HLD4.out ?_))
    obtain⟨b',hb'⟩:∃ b',(b.act t x.c).1=b':=⟨_,rfl⟩
    have HB':=lh hb';have hft6:Fit (i+1) b':=by rw [<-hb'];exact act_fit HFT.out (by have:=HSZ.out;omega)
    have hnr6:b'.Near t:=by rw [<-hb'];exact act_near (HNR.out.mono HT.out.2.2)
    have HFT6:=lh hft6;have HNR6:=lh hnr6;have hlow:=HW6.out.low (bgo HB4.out B5.out) HW.out;obtain⟨W6,hbo6,hf6,hW6⟩:=HW6.out;rw [hb']at hbo6;have HBO6:=lh hbo6;have HB6:=lh hlow;have HWN:=lh (show ∀ k,k<w.heap.size->W6 k=0 from fun k hk=>by
     rw [hW6 k (Nat.lt_of_lt_of_le hk (bgo HB4.out B5.out).size)];exact HW.out k hk)
    have h7:W Q7=0:=by
     cases q:W Q7 with
     | zero=>rfl
     | succ m=>have:=HBO2.out.lt (k:=Q7) (by rw [q];omega);have:=H9.out.2.2.2.2.2.1.size;have:=HQ7.out;omega
    have h8:W (Q7+1)=0:=by
     cases q:W (Q7+1)with
     | zero=>rfl
     | succ m=>have:=HBO2.out.lt (k:=Q7+1) (by rw [q];omega);have:=H9.out.2.2.2.2.2.1.size;have:=HQ7.out;omega
    have k7:=H9.out.2.2.2.1;have k8:=H9.out.2.2.2.2.1;rw [HQ7.out]at k7 k8;have B45:=bgo B4.out B5.out;have k76:=(hf6.block Q7 (by have:=blk_lt k7;have:=B45.size;omega) (fun q=>by rw [show W Q7=1 from q]at h7;cases h7)).trans ((B45.block Q7 (blk_lt k7)).trans k7);have k86:=(hf6.block (Q7+1) (by have:=blk_lt k8;have:=B45.size;omega) (fun q=>by rw [show W (Q7+1)=1 from q]at h8;cases h8)).trans ((B45.block (Q7+1) (blk_lt k8)).trans k8);have K76:=lh k76;have K86:=lh k86;clear hb' hft6 hnr6 hlow hbo6 hf6 hW6 h7 h8 k7 k8 B45 k76 k86;have hs2:=schema_tells HBO6.out HFT6.out;go_upto_region 13 with (first|(go_at_call 18;refine hs2.mono ?_;rintro e v7 ⟨G7,tv7,rfl,_,hD7,b7⟩;obtain⟨a7,m7,rfl⟩:=own_shape hD7.row;have B7:=lh b7;clear hs2 b7 hD7)|(refine wpl_op (.int .i64 b'.sch.ver) rfl (op_field30_0 (n:=b'.sch.last) (by first | rfl|(simp [Act.eval];done))) ?_))
    have HBO7:=lh (HBO6.out.on B7.out);have HB7:=lh (bgo HB6.out B7.out);have k7:=(B7.out.block Q7 (blk_lt K76.out)).trans K76.out;have k8:=(B7.out.block (Q7+1) (blk_lt K86.out)).trans K86.out;have c20:v7.cell? ⟨Q7,20,none⟩=some (.int .i64 0):=(cell_blk k7 20).trans H9.out.1;have c80:v7.cell? ⟨Q7+1,0,none⟩=some (.int .i64 a):=cell_blk k8 0;clear k7 k8;obtain⟨s1,hs1⟩:∃ s1,b.sch.ver=s1:=⟨_,rfl⟩
    obtain⟨s2,hs2⟩:∃ s2,b'.sch.ver=s2:=⟨_,rfl⟩
    have HS1V:=lh hs1;have HS2V:=lh hs2;rw [hs1,hs2];clear hs1 hs2;have HREL:Hid (∀ X,Below v7.heap.size v7 X->∃ (i':Nat) (now':Int) (W':Nat->Nat) (b2:Bd),i'<=L.length/\Value.int .i64 ((i:Int)+1)=.int .i64 (i':Int)/\Value.int .i64 t=.int .i64 now'/\(0<=now'/\now'<=562949953421312)/\Bo X B W' b2/\Fit i' b2/\b2.Near now'/\(∀ k,k<w.heap.size->W' k=0)/\Below w.heap.size w X):=lh fun X hX=>⟨i+1,t,W6,b',hlt,by go_num,rfl,⟨HT.out.1,HT.out.2.1⟩,HBO7.out.on hX,HFT6.out,HNR6.out,HWN.out,bgo HB7.out hX⟩
    cases ok with
    | false =>
     go_wp2;go_roundw
     case rel=>exact HREL.out v7 (Below.refl _ _)
     case measure=>simp [intOf];omega
    | true =>
     by_cases ha:a=2
     ·subst ha;by_cases hv:s2=s1
      ·subst hv;go_wp2;go_roundw
       case rel=>exact HREL.out v7 (Below.refl _ _)
       case measure=>simp [intOf];omega
      ·obtain⟨_,ih,jh,hh1,hh2,hh3⟩:=H9.out.2.1 rfl;obtain⟨hle,hfo⟩:=still_plain (t:=t) (c:=x.c) (HNR.out.mono HT.out.2.2) (by rw [HB'.out,HS1V.out,HS2V.out];exact hv) hh1 hh2 hh3;rw [HB'.out]at hle;have HFO:=lh (show ∀ l ∈ b'.leases,decide (l.til ≥ t - 3)=false from by rw [hle];exact hfo);clear hh1 hh2 hh3 hle hfo;have hsv:=save_tells HBO7.out HFT6.out (show i+1<=100000 by have:=HG.out.1;omega);obtain⟨n8,hn8⟩:∃ n8,b'.leases.length=n8:=⟨_,rfl⟩
       have HN8:=lh hn8;have hn8z:(n8:Int)<=9223372036854775807:=by have:=HFT6.out.nl;have:=HG.out.1;omega
       go_wp2_with (first|(go_at_call 22;refine hsv.mono ?_;rintro e v8 ⟨us,rfl,hpl,b8⟩;obtain⟨G8,a1,c1,a2,c2,J8,a3,c3,rfl,_,_,ho8,_,_⟩:=hpl;have HO8:=lh ho8;have B8:=lh b8;rw [hn8];clear hsv ho8 b8 hn8)|(refine wpl_op (.slice a2 n8 c2) rfl (op_field34_1 (m:=b'.sch.ver) (n:=b'.sch.last) (a:=a1) (k1:=b'.sch.tabs.length) (c1:=c1) (c:=a3) (k3:=b'.jobs.length) (c3:=c3) (by first | rfl|(simp [Act.eval];done))) ?_))
       go_loopw [72] (fun iv wr=>∃ (k:Nat),k<=n8/\iv=.int .i64 (k:Int)/\Below v8.heap.size v8 wr) (fun iv _=>n8 - (intOf iv).toNat)
       case atStart=>exact⟨0,Nat.zero_le _,rfl,Below.refl _ _⟩
       case round =>
        obtain⟨k,hk,rfl,hb9⟩:=hrel;obtain⟨V9,rfl⟩:∃ V9,V9=wr:=⟨_,rfl⟩
        have HB9:=lh hb9;by_cases hkl:k<n8
        ·have k0:(0:Int)<=k:=by omega
         have k1:(k:Int)<n8:=by omega
         have hkL:k<b'.leases.length:=by rw [HN8.out];exact hkl
         obtain⟨l,hl⟩:∃ l,b'.leases[k]=l:=⟨_,rfl⟩
         have hmem:l ∈ b'.leases:=hl ▸ List.getElem_mem hkL;have hO9:=own_mono (own_below HO8.out hb9) (Nat.zero_le _);obtain⟨g9,hg9⟩:∃ g9,a2=some ⟨g9,0,none⟩:=by
          rcases hO9.2 with⟨_,h0⟩ | ⟨g9,cap,cur,hv,_⟩
          ·omega
          ·cases hv;exact⟨g9,rfl⟩
         subst hg9;have hrow:V9.rangeAt g9 (k*3) (leL l):=by
          have:=row_at hO9 hkL;rw [hl]at this;exact this
         have hld9:(Instr.loadAt 78 (.pointer (some ⟨g9,k*3,none⟩))).run Tryz.prog V9=.ok (.agg (leA l)) V9:=run_loadAt_mid V9 g9 (k*3) 78 (leL l) _ hrow Tryz.underlying78 rfl size78;obtain⟨V10,hs9,j10,f10⟩:=st_row (heap_alloc_new V9 (.cells #[.int .i64 0,.int .i64 0,.int .i64 0] 78)) (us:=leA l) rfl size78 (by simp [Value.oneCell']);have hb10:Below V9.heap.size V9 V10:=(bnew V9 _).trans (f10.toBelow (fun k hk q=>by have q':k=V9.heap.size:=q;omega) (bnew V9 _).size);have hld10:=load_row j10 Tryz.underlying78 rfl size78;have hfc:=force_any (w:=V10) (l:=l) (t:=t) (by have:=HT.out;omega) (by have:=HT.out;omega);rw [HFO.out l hmem]at hfc;obtain⟨ls,hls⟩:∃ ls,leA l=ls:=⟨_,rfl⟩
         rw [hls]at hld9 hs9 hld10 hfc;have HLD9:=lh hld9;have HS9:=lh hs9;have HLD10:=lh hld10;have HB10:=lh (bgo hb9 hb10);clear hl hmem hO9 hrow hld9 hs9 j10 f10 hb10 hld10 hls hb9 hkL;go_wp2_with (first|(refine wpl_load _ rfl (by first | rfl|(simp [Act.eval];done)) HLD9.out ?_)|(refine wpl_store _ _ rfl (by first | rfl|(simp [Act.eval];done)) (by first | rfl|(simp [Act.eval];done)) HS9.out ?_)|(refine wpl_load _ rfl (by first | rfl|(simp [Act.eval];done)) HLD10.out ?_))
         refine hfc.mono ?_;rintro e v11 ⟨rfl,b11⟩;have HB11:=lh (bgo HB10.out b11);clear hfc b11;go_wp2;go_roundw
         case rel=>exact⟨k+1,hkl,by go_num,HB11.out⟩
         case measure=>simp [intOf];omega
        ·have k1:¬ (k:Int)<n8:=by omega
         clear hb9;go_wp2;go_roundw
         case rel=>exact HREL.out _ (bgo B8.out HB9.out)
         case measure=>simp [intOf];omega
     ·go_wp2;go_roundw
      case rel=>exact HREL.out v7 (Below.refl _ _)
      case measure=>simp [intOf];omega
   ·have hin:i=L.length:=by omega
    have k1:¬ (i:Int)<L.length:=by omega
    clear hb;go_wp2;go_ret;exact⟨rfl,HB.out⟩
end
end Go.Proofs.YtkhehikaemdnnaaGreat
