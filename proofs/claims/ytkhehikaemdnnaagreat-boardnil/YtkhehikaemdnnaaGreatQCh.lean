import Derived.Test.YtkhehikaemdnnaaGreatQCi
namespace Go.Proofs.YtkhehikaemdnnaaGreat
set_option maxRecDepth 100000
set_option maxHeartbeats 2000000
open Go.RowKit Go.Maps
theorem goes106:Goes 106:=fun X a=>by go_simp
section
variable {ρ : Operand -> Value} {X : World} {d : Option Tmp} {ty : TypeId} {ps : String} {af : Array Edge} {g : Option (Nat × Bool)}
theorem op_alloc64:(execOp ρ ⟨d,.alloc 64,ty,ps,af,g⟩).run Tryz.prog X=.ok (.value (.pointer (some ⟨X.heap.size,0,none⟩))) (X.alloc (.cells #[.int .i64 0,.string ⟨#[]⟩,.slice none 0 0,.slice none 0 0,.slice none 0 0] 64)):=by
 simp only [execOp]
 go_simp
theorem op_b64{x y:Operand}{a:Int}{b:ByteArray}(e0:ρ x=.int .i64 a)(e1:ρ y=.string b):(execOp ρ ⟨d,.build 64 #[(0,x),(1,y)],ty,ps,af,g⟩).run Tryz.prog X=.ok (.value (.agg #[.int .i64 a,.string b,.slice none 0 0,.slice none 0 0,.slice none 0 0])) X:=by
 simp only [execOp];simp [e0,e1]
 go_simp
theorem op_b56_pub{x y z:Operand}{a c:Int}{b:ByteArray}(hc:∀ x,ρ (.const x)=x)(e0:ρ x=.int .i64 a)(e1:ρ y=.string b)(e2:ρ z=.int .i64 c):(execOp ρ ⟨d,.build 56 #[(0,x),(1,y),(2,z),(3,.const (.int .i64 3))],ty,ps,af,g⟩).run Tryz.prog X=.ok (.value (.agg #[.int .i64 a,.string b,.int .i64 c,.int .i64 3,.int .i64 0,.int .i64 0,.string ⟨#[]⟩])) X:=by
 simp only [execOp];simp [e0,e1,e2,hc]
 go_simp
theorem op_s43{x:Operand}{c:Col}(e:ρ x=.agg (colA c)):(execOp ρ ⟨d,.buildSlice 43 1 #[(0,x)],ty,ps,af,g⟩).run Tryz.prog X=.ok (.value (.slice (some ⟨X.heap.size,0,none⟩) 1 1)) (X.alloc (.cells (colA c) 56)):=by
 simp only [execOp];simp [e]
 go_simp
theorem op_s28{x:Operand}{t:Tb}{c i k:Value}(hc:∃ a n m,c=.slice a n m)(hi:∃ a n m,i=.slice a n m)(hk:∃ a n m,k=.slice a n m)(e:ρ x=.agg (tbA t c i k)):(execOp ρ ⟨d,.buildSlice 28 1 #[(0,x)],ty,ps,af,g⟩).run Tryz.prog X=.ok (.value (.slice (some ⟨X.heap.size,0,none⟩) 1 1)) (X.alloc (.cells (tbA t c i k) 64)):=by
 obtain⟨_,_,_,rfl⟩:=hc;obtain⟨_,_,_,rfl⟩:=hi;obtain⟨_,_,_,rfl⟩:=hk;simp only [execOp];simp [e]
 go_simp
end
def GN(X0 X1 X2 X3:World)(a b c:Bool)(X:World):Prop:=X=bif c then X3 else bif b then X2 else bif a then X1 else X0
structure GA (V:World) (A Q:Nat) (oldA newA z r:Array Value) (b1 b5 b6:Bool) (X:World):Prop where
 fr:Fr V X (fun k=>k=A\/k=Q)
 a:X.heap[A]?=some (.cells (bif b1 then newA else oldA) 30 (0,0))
 q0:b5=false->X.heap.size=Q
 q1:b5=true->X.heap[Q]?=some (.cells (bif b6 then r else z) 64 (0,0))
theorem GA.cell{V X:World}{A Q:Nat}{oldA newA z r:Array Value}{b1 b5 b6:Bool}(h:GA V A Q oldA newA z r b1 b5 b6 X){B i:Nat}{v:Value}(hA:B≠A)(hQ:B≠Q)(c:V.cell? ⟨B,i,none⟩=some v):X.cell? ⟨B,i,none⟩=some v:=by
 have hl:B<V.heap.size:=pt_lt c;unfold World.cell? at c ⊢;rw [h.fr.block B hl (fun q=>by rcases q with q | q;exact hA q;exact hQ q)];exact c
theorem GA.gave{V X:World}{A Q:Nat}{oldA newA z r:Array Value}{b1 b5 b6:Bool}{v:Value}(h:GA V A Q oldA newA z r b1 b5 b6 X)(hn:b1=false)(hne:A≠Q)(hs:oldA.setIfInBounds 1 v=newA):GA V A Q oldA newA z r true b5 b6 (X.setCell ⟨A,1,none⟩ v):=by
 subst hn;refine⟨Fr.set (S:=fun k=>k=A\/k=Q) (a:=⟨A,1,none⟩) h.fr (.inl (.inl rfl)) v,?_,fun q=>(by simp [World.setCell,h.q0 q]),fun q=>?_⟩
 ·rw [set_blk h.a];rw [show(bif true then newA else oldA)=newA from rfl,show(bif false then newA else oldA)=oldA from rfl,hs]
 ·rw [set_other (a:=⟨A,1,none⟩) v (fun q=>hne q.symm)];exact h.q1 q
theorem GA.made{V X:World}{A Q:Nat}{oldA newA z r:Array Value}{b1 b5 b6:Bool}(h:GA V A Q oldA newA z r b1 b5 b6 X)(hn:b5=false)(h6:b6=false):GA V A Q oldA newA z r b1 true b6 (X.alloc (.cells z 64)):=by
 subst hn h6;refine⟨h.fr.alloc _,?_,fun q=>(by cases q),fun _=>?_⟩
 ·rw [Below.heap_alloc _ _ _ (blk_lt h.a)];exact h.a
 ·have:=heap_alloc_new X (.cells z 64);rw [h.q0 rfl]at this;exact this
theorem GA.stored{V X:World}{A Q:Nat}{oldA newA z r:Array Value}{b1 b5 b6:Bool}(h:GA V A Q oldA newA z r b1 b5 b6 X)(h5:b5=true)(h6:b6=false)(hne:A≠Q)(hs:r.size=z.size)(hi:(Tryz.prog.info? 64).map (·.size)=some r.size)(h1:r.all (·.oneCell')=true):∃ X',(Instr.storeAt 64 (.pointer (some ⟨Q,0,none⟩)) (.agg r)).run Tryz.prog X=.ok () X'/\GA V A Q oldA newA z r b1 true true X':=by
 subst h5 h6;have hy:X.heap[Q]?=some (.cells z 64 (0,0)):=h.q1 rfl;obtain⟨X',e,j,f⟩:=sets_row hy r hs;refine⟨X',by rw [e];exact store_row hy hs hi h1,h.fr.trans (f.mono (fun k hk=>.inr hk)),?_,fun q=>(by cases q),fun _=>j⟩;rw [f.block A (blk_lt h.a) hne];exact h.a
section
variable {w : World}
theorem strange_f{x:ByteArray}{B q:Nat}(h:Pt stE w B q x):Calls Tryz.prog 159 #[.pointer (some ⟨B,q,none⟩)] w fun e w'=>e=.returned (.bool (!nameB x))/\Below w.heap.size w w':=by
 obtain⟨cs,hE,hc⟩:=h;cases hE;have c0:w.cell? ⟨B,q,none⟩=some (.string x):=hc 0 _ rfl;have hn:=name_any (w:=w) x;clear hc;go_enter Tryz.func159,Tryz.ntmps159;go_wp2_with fail
 refine hn.mono ?_;rintro e w1 ⟨rfl,rfl⟩;go_wp2;go_ret;exact⟨rfl,Below.refl _ _⟩
theorem odd_f{x:Col}{B q:Nat}(h:Pt colE w B q x):Calls Tryz.prog 160 #[.pointer (some ⟨B,q,none⟩)] w fun e w'=>e=.returned (.bool (!kindB x.kd))/\Below w.heap.size w w':=by
 obtain⟨cs,hE,hc⟩:=h;cases hE;have c0:w.cell? ⟨B,q+2,none⟩=some (.int .i64 x.kd):=hc 2 _ rfl;have hn:=kind_any (w:=w) x.kd;clear hc;go_enter Tryz.func160,Tryz.ntmps160;go_wp2_with fail
 refine hn.mono ?_;rintro e w1 ⟨rfl,rfl⟩;go_wp2;go_ret;exact⟨rfl,Below.refl _ _⟩
theorem addT_any{B A:Nat}{s:Sc}{G:List Gt}{tv:Value}{d:Dd}{st:Int}{da:Option Addr}{dc:Nat}(h:Df w B A s G tv)(hl:farB s.last=true)(h6:s.tabs.length<=6)(hd:Lr colE 7 w d.cols (.slice da d.cols.length dc))(hz:d.cols.length<=1000000)(hdB:∀ b p n cc,(Value.slice da d.cols.length dc)=.slice (some ⟨b,p,none⟩) n cc->d.cols.length≠0->b<B):Calls Tryz.prog 116 #[.pointer (some ⟨A,0,none⟩),.agg (dqA d (.slice da d.cols.length dc)),.int .i64 st] w (ChAns w B A s (createS s d st)):=by
 have HL:=lh hl;have H6:=lh h6;have HZ:=lh hz;have HD:=lh hd;have HDB:=lh hdB;clear hdB;have HDF:=lh h;have hlen:G.length=s.tabs.length:=by rw [<-h.tabs,List.length_map]
 have HLEN:=lh hlen;obtain⟨ta,tc,hsh0⟩:=own_shape h.dr.row;obtain⟨tn,htn⟩:∃ tn,G.length=tn:=⟨_,rfl⟩
 rw [htn]at hsh0;subst hsh0;have HTN:=lh htn;obtain⟨da',dc',ed,_,q1,q2,hXd⟩:=hd;cases ed;have hmx:(d.cols.length:Int)<=9223372036854775807:=by omega
 have HXd:=lh hXd;obtain⟨W,hW⟩:∃ W,W=w.alloc (.cells (dqA d (.slice da d.cols.length dc)) 45):=⟨_,rfl⟩
 have hbW:=bw1 hW;obtain⟨Y0,hY0⟩:∃ Y0,w.heap.size=Y0:=⟨_,rfl⟩
 have jY0:W.heap[Y0]?=some (.cells (dqA d (.slice da d.cols.length dc)) 45 (0,0)):=nw11 hW hY0;have J0:=lh jY0;have d10:W.cell? ⟨Y0,10,none⟩=some (.slice da d.cols.length dc):=cell_blk jY0 10;have HW:=lh hW;have HBW:=lh hbW;have HY0:=lh hY0;clear hW hbW hY0;clear jY0 h hl h6 hXd q1 q2 hz hlen htn;have HBw:Hid (B<=w.heap.size):=lh (Nat.le_trans HDF.out.hA (Nat.le_of_lt (blk_lt HDF.out.ob)));go_enter Tryz.func116,Tryz.ntmps116;go_upto_region 1 with fail
 rw [<-HW.out,HY0.out];go_wp2;clear d10;go_loopw [7,18] (fun nv iv wr=>∃ i:Nat,i<=d.cols.length/\iv=.int .i64 (i:Int)/\wr.ownsRow W.heap.size 9 1 nv ((d.cols.take i).map Col.nm).length (((d.cols.take i).map Col.nm).flatMap stL)/\Below W.heap.size W wr) (fun _ iv _=>d.cols.length - (intOf iv).toNat)
 case atStart=>exact⟨0,Nat.zero_le _,rfl,World.ownsRow_nil _ _ 9 1,Below.refl _ _⟩
 case round =>
  obtain⟨i,hi,rfl,ho,hb⟩:=hrel;obtain⟨V,rfl⟩:∃ V,V=wr:=⟨_,rfl⟩
  have HB:=lh hb;have HO:=lh ho;obtain⟨nad,ncap,hsh⟩:=own_shape ho;have hln:((d.cols.take i).map Col.nm).length=i:=by rw [List.length_map,List.length_take];omega
  rw [hln]at hsh;subst hsh;have HLN:=lh hln;clear ho hln;by_cases hlt:i<d.cols.length
  ·have k0:(0:Int)<=i:=by omega
   have k1:(i:Int)<d.cols.length:=by omega
   obtain⟨b,p,cs,rfl,hbl,hE,_,hcell⟩:=HXd.out i hlt;cases hE;obtain⟨x,hx⟩:∃ x,d.cols[i]=x:=⟨_,rfl⟩
   have HTK:Hid ((d.cols.take (i+1)).map Col.nm=(d.cols.take i).map Col.nm ++ [x.nm]):=by
    rw [List.take_succ_eq_append_getElem hlt,hx,List.map_append];exact lh rfl
   rw [hx]at hcell;have hwV:=bgo HBW.out hb;have c0:=cell_on hwV (hcell 0 _ rfl);have c1:=cell_on hwV (hcell 1 _ rfl);have c2:=cell_on hwV (hcell 2 _ rfl);have c3:=cell_on hwV (hcell 3 _ rfl);have c4:=cell_on hwV (hcell 4 _ rfl);have c5:=cell_on hwV (hcell 5 _ rfl);have c6:=cell_on hwV (hcell 6 _ rfl);rw [Nat.add_zero]at c0;obtain⟨V1,hV1⟩:∃ V1,V1=V.alloc (.cells (colA x) 56):=⟨_,rfl⟩
   obtain⟨Q,hQ⟩:∃ Q,V.heap.size=Q:=⟨_,rfl⟩
   have jQ:V1.heap[Q]?=some (.cells (colA x) 56 (0,0)):=by rw [hV1,<-hQ];exact heap_alloc_new V _
   have bV:Below V.heap.size V V1:=by rw [hV1];exact bnew _ _
   have g1:V1.cell? ⟨Q,1,none⟩=some (.string x.nm):=cell_blk jQ 1;obtain⟨nad2,ncap2,w2,hrun,r1,r2⟩:=pushS (own_below HO.out bV) (Nat.le_trans HB.out.size bV.size) x.nm (by rw [HLN.out];have:=HZ.out;omega);rw [HLN.out]at hrun r1;rw [<-HTK.out]at r1;have R1:=lh r1;have R2:=lh (HB.out.trans ((bV.mono HB.out.size).trans r2));have HV1:=lh hV1;have HQ:=lh hQ;clear hcell hx hwV hV1 hQ jQ bV r1 r2 hb hbl;go_upto_region 5 with fail
   rw [<-HV1.out,HQ.out];clear c0 c1 c2 c3 c4 c5 c6;go_wp2_with (at_builtin;refine wpl_run2 _ _ rfl (by simp [Act.eval]) (by simp [Act.eval]) hrun ?_)
   go_roundw
   case rel=>exact⟨i+1,hlt,by go_num,R1.out,R2.out⟩
   case measure=>simp [intOf];omega
  ·have k1:¬ (i:Int)<d.cols.length:=by omega
   obtain rfl:i=d.cols.length:=by omega
   have ho:=HO.out;rw [List.take_length]at ho;have hLN:=Lr.own stL_len ho;have hwV:=bgo HBW.out hb;have e0:V.cell? ⟨Y0,10,none⟩=some (.slice da d.cols.length dc):=cell_on hb (cell_blk J0.out 10);have e1:V.cell? ⟨A,2,none⟩=some (.slice ta tn tc):=cell_on hwV (cell_blk HDF.out.ob 2);have e2:V.cell? ⟨Y0,1,none⟩=some (.string d.table):=cell_on hb (cell_blk J0.out 1);have hname:=name_any (w:=V) d.table;have hfs:=findS_any (w:=V) (f:=159) (cs:=#[]) (p:=fun x=>!nameB x) hLN goes159 (fun X hX B q x _ _ hp=>strange_f hp);have n1:=fidx_any (fun x:ByteArray=>!nameB x) (d.cols.map Col.nm);obtain⟨i1,hi1⟩:∃ i1,fidx (fun x:ByteArray=>!nameB x) (d.cols.map Col.nm)=i1:=⟨_,rfl⟩
   rw [hi1]at hfs n1;have hall:(d.cols.map Col.nm).any (fun x=>!nameB x)=!(d.cols.all (fun c=>nameB c.nm)):=by
    rw [List.any_map,List.not_all_eq_any_not];rfl
   rw [hall]at n1;obtain⟨r1,hr1⟩:∃ r1,d.cols.all (fun c=>nameB c.nm)=r1:=⟨_,rfl⟩
   rw [hr1]at n1;have HR1:=lh hr1;have HBV:=lh ((HBW.out.trans (hb.mono HBW.out.size)).mono HBw.out);have HCR:Hid (createS s d st=if nameB d.table=false\/d.cols.all (fun c=>nameB c.nm)=false then .error 100 else if s.tabs.any (fun t=>decide (t.nm=d.table))=true\/¬ (d.cols.map Col.nm).Nodup then .error 152 else if s.tabs.length=6\/d.cols.length<1\/8<d.cols.length then .error 156 else if d.cols.all (fun c=>kindB c.kd)=false then .error 154 else if st≠3 then .error 1 else .ok ⟨s.ver+1,s.last+1+d.cols.length,s.tabs ++ [⟨s.last+1,d.table,freshC (s.last+2) d.cols,[],[]⟩]⟩):=lh rfl;have HWV:=lh hwV;have HHB:=lh hb;have HLNN:=lh hLN;clear ho hi1 hall hr1 hwV hLN hb;cases q1:nameB d.table with
   | false =>
    rw [q1]at hname;have HE:Hid (createS s d st=.error 100):=by rw [HCR.out];exact lh (if_pos (.inl q1))
    clear q1 hfs n1;go_wp2_with (go_at_call 100;refine hname.mono ?_;rintro e w2 ⟨rfl,rfl⟩)
    go_ret;exact ChAns.intro_err HE.out (by decide) HBV.out
   | true =>
   rw [q1]at hname;have Q1:=lh q1;clear q1;cases r1 with
   | false =>
    have z1:=of_decide_eq_true n1;have HE:Hid (createS s d st=.error 100):=by rw [HCR.out];exact lh (if_pos (.inr HR1.out))
    clear n1;go_wp2_with (first|(go_at_call 100;refine hname.mono ?_;rintro e w2 ⟨rfl,rfl⟩)|(go_at_call 161;refine hfs.mono ?_;rintro e w3 ⟨rfl,b3⟩;refine Hid.out ?_))
    refine lh ?_;have B3:=lh b3;clear hname hfs b3;go_wp2;go_ret;exact ChAns.intro_err HE.out (by decide) (HBV.out.trans (B3.out.mono (Nat.le_trans HBw.out HWV.out.size)))
   | true =>
   have z1:=of_decide_eq_false n1;clear n1;have hC1:¬ (nameB d.table=false\/d.cols.all (fun c=>nameB c.nm)=false):=by rw [Q1.out,HR1.out];simp
   have HCR2:=HCR.out;rw [if_neg hC1]at HCR2;have HC2:=lh HCR2;clear HCR2 hC1;go_upto_region 11 with (first|(go_at_call 100;refine hname.mono ?_;rintro e w2 ⟨rfl,rfl⟩)|(go_at_call 161;refine hfs.mono ?_;rintro e V3 ⟨rfl,b3⟩;refine Hid.out ?_))
   refine lh ?_;have BV3:=lh (HBV.out.trans (b3.mono (Nat.le_trans HBw.out HWV.out.size)));have WV3:=lh (bgo HWV.out b3);have HB3:=lh (HHB.out.trans (b3.mono HHB.out.size));have e1':V3.cell? ⟨A,2,none⟩=some (.slice ta tn tc):=cell_on b3 e1;have e2':V3.cell? ⟨Y0,1,none⟩=some (.string d.table):=cell_on b3 e2;have e0':V3.cell? ⟨Y0,10,none⟩=some (.slice da d.cols.length dc):=cell_on b3 e0;have LN3:=lh (HLNN.out.on stE_held b3);have n2:=fidx_any (fun x:Tb=>decide (x.nm=d.table)) s.tabs;obtain⟨fj,hfj⟩:∃ fj,fidx (fun x:Tb=>decide (x.nm=d.table)) s.tabs=fj:=⟨_,rfl⟩
   have HC22:Hid (∀ X,Below V3.heap.size V3 X->Calls Tryz.prog 97 #[.slice ta tn tc,.string d.table] X fun e w'=>e=.returned (.int .i64 fj)/\Below X.heap.size X w'):=fun X hX=>by
    have z:=(HDF.out.dr.below (bgo WV3.out hX)).reads;rw [HDF.out.tabs]at z;have q:=tabN_any (w:=X) d.table z;rw [hfj]at q;exact q
   have HC60:Hid (∀ X,Below V3.heap.size V3 X->Calls Tryz.prog 106 #[.slice nad d.cols.length ncap] X fun e w'=>e=.returned (.bool (decide (d.cols.map Col.nm).Nodup))/\Below X.heap.size X w'):=fun X hX=>unlikeS_any (LN3.out.on stE_held hX) (fun x hx=>by
    obtain⟨c,hc,rfl⟩:=List.mem_map.1 hx;have:=nameB_sz (List.all_eq_true.1 HR1.out c hc);unfold okS maxLen;omega)
   obtain⟨nd,hnd⟩:∃ nd,decide (d.cols.map Col.nm).Nodup=nd:=⟨_,rfl⟩
   rw [hnd]at HC60;rw [hfj]at n2;have HND:=lh hnd;have KF3:=lh (findC_any (w:=V3) (f:=160) (cs:=#[]) (p:=fun x=>!kindB x.kd) (HD.out.on colE_held WV3.out) goes160 (fun X hX B q x _ _ hp=>odd_f hp));clear hname hfs b3 e0 e1 e2 hfj hnd;obtain⟨r2,hr2⟩:∃ r2,s.tabs.any (fun t=>decide (t.nm=d.table))=r2:=⟨_,rfl⟩
   rw [hr2]at n2;have HR2:=lh hr2;clear hr2;cases r2 with
   | true =>
    have HGE:=lh n2;have HE:Hid (createS s d st=.error 152):=by rw [HC2.out];exact lh (if_pos (.inl HR2.out))
    clear n2;go_upto_region 11 with fail
    refine wp_region_fl (fun _ X9=>Below V3.heap.size V3 X9) (fun X9 X'=>Below X9.heap.size X9 X') [
     fun v9 _=>v9=.pointer (some ⟨A,0,none⟩),fun v9 _=>v9=.pointer (some ⟨A,0,none⟩),fun v9 _=>v9=.pointer (some ⟨A,2,none⟩),fun v9 _=>v9=.slice ta tn tc,fun v9 _=>v9=.pointer (some ⟨Y0,1,none⟩),fun v9 _=>v9=.string d.table,fun v9 _=>v9=.int .i64 fj,fun v9 _=>v9=.bool true,fun v9 _=>v9=.bool true,fun v9 _=>v9=undef,fun v9 _=>v9=undef,fun v9 _=>v9=undef,fun v9 _=>v9=.bool true,fun v9 _=>v9=.bool true]
     (by kernel_rfl) (by kernel_rfl) (by kernel_rfl) ?st ?g0 ?os ?en
    case st=>
     iterate 14 refine⟨fun _ _ _ _ h=>h,?_⟩
     exact trivial
    case g0=>exact⟨rfl,rfl,rfl,Nat.le_refl _,fun _ _=>rfl⟩
    case os =>
     refine⟨?_,?_,?_,?_,?_,?_,?_,?_,?_,?_,?_,?_,?_,?_,trivial⟩
     ·exact fun ρ _ _ hg _ _ _ ho _ _ _=>rv (op_move (show ρ (.tmp 0)=.pointer (some ⟨A,0,none⟩)from ho 0 rfl)) ⟨hg,Below.refl _ _,rfl⟩
     ·exact fun ρ _ _ hg _ _ _ _ _ _ hr=>rv (op_nil (show ρ (.tmp 40)=.pointer (some ⟨A,0,none⟩)from hr 0 40 rfl rfl)) ⟨hg,Below.refl _ _,rfl⟩
     ·exact fun ρ _ _ hg _ _ _ _ _ _ hr=>rv (op_f30_2 (show ρ (.tmp 41)=.pointer (some ⟨A,0,none⟩)from hr 1 41 rfl rfl)) ⟨hg,Below.refl _ _,rfl⟩
     ·exact fun ρ _ _ hg _ _ _ _ _ _ hr=>rv (op_load28 (show ρ (.tmp 42)=.pointer (some ⟨A,2,none⟩)from hr 2 42 rfl rfl) (cell_on hg e1')) ⟨hg,Below.refl _ _,rfl⟩
     ·exact fun ρ _ _ hg _ _ _ ho _ _ _=>rv (op_f45_1 (show ρ (.tmp 4)=.pointer (some ⟨Y0,0,none⟩)from ho 4 rfl)) ⟨hg,Below.refl _ _,rfl⟩
     ·exact fun ρ _ _ hg _ _ _ _ _ _ hr=>rv (op_load9 (show ρ (.tmp 44)=.pointer (some ⟨Y0,1,none⟩)from hr 4 44 rfl rfl) (cell_on hg e2')) ⟨hg,Below.refl _ _,rfl⟩
     ·refine fun ρ X9 fl hg hn hl hp ho hc hf hr=>.inl ⟨rfl,?_⟩;refine Runs.goes 97 #[.slice ta tn tc,.string d.table] (op_call2 hf (goes97 _ _) (show ρ (.tmp 43)=.slice ta tn tc from hr 3 43 rfl rfl) (show ρ (.tmp 45)=.string d.table from hr 5 45 rfl rfl)) ((HC22.out X9 hg).mono ?_);rintro e7 w7 ⟨rfl,b7⟩;exact⟨_,rfl,bgo hg b7,b7,rfl⟩
     ·exact fun ρ _ _ hg _ _ _ _ hc _ hr=>rv (op_geq3 (show ρ (.tmp 46)=.int .i64 fj from hr 6 46 rfl rfl) (hc _) HGE.out) ⟨hg,Below.refl _ _,rfl⟩
     ·exact fun ρ _ _ hg _ _ _ _ _ _ hr=>rv (op_move (show ρ (.tmp 47)=.bool true from hr 7 47 rfl rfl)) ⟨hg,Below.refl _ _,rfl⟩
     ·exact fun ρ _ _ hg _ _ _ _ _ _ hr=>.inr (.inr ⟨8,48,false,fun _=>rfl,rfl,(fun q=>by rw [show ρ (.tmp 48)=.bool true from hr 8 48 rfl rfl]at q;cases q),hg,Below.refl _ _,rfl⟩)
     ·exact fun ρ _ _ hg _ _ _ _ _ _ hr=>.inr (.inr ⟨8,48,false,fun _=>rfl,rfl,(fun q=>by rw [show ρ (.tmp 48)=.bool true from hr 8 48 rfl rfl]at q;cases q),hg,Below.refl _ _,rfl⟩)
     ·exact fun ρ _ _ hg _ _ _ _ _ _ hr=>.inr (.inr ⟨8,48,false,fun _=>rfl,rfl,(fun q=>by rw [show ρ (.tmp 48)=.bool true from hr 8 48 rfl rfl]at q;cases q),hg,Below.refl _ _,rfl⟩)
     ·exact fun ρ _ _ hg _ _ _ _ hc _ hr=>rv (op_pick (show ρ (.tmp 48)=.bool true from hr 8 48 rfl rfl) (show(if true=true then ρ (.const _) else ρ _)=.bool true from hc _)) ⟨hg,Below.refl _ _,rfl⟩
     ·exact fun ρ _ _ hg _ _ _ _ _ _ hr=>rv (op_assign (show ρ (.tmp 52)=.bool true from hr 12 52 rfl rfl)) ⟨hg,Below.refl _ _,rfl⟩
    case en =>
     intro a U fl hfl b3 hs hd ho hr;obtain⟨x,hx,hxt⟩:=act_put hs hd ho;have x39:x 39=.bool true:=(hxt 39).symm.trans (hr 13 39 rfl);change a=putAll _ x [40,41,42,43,44,45,46,47,48,49,50,51,52,39]at hx;simp only [putAll,Act.put,List.setIfInBounds_toArray,List.set_cons_zero,List.set_cons_succ,x39]at hx;have B3:=lh b3;clear hs hd ho hr hxt x39 b3;subst hx;go_wp2;go_ret;exact ChAns.intro_err HE.out (by decide) (BV3.out.trans (B3.out.mono (Nat.le_trans HBw.out WV3.out.size)))
   | false =>
    have HGE:=lh n2;clear n2;go_upto_region 11 with fail
    refine wp_region_fl (fun _ X9=>Below V3.heap.size V3 X9) (fun X9 X'=>Below X9.heap.size X9 X') [
     fun v9 _=>v9=.pointer (some ⟨A,0,none⟩),fun v9 _=>v9=.pointer (some ⟨A,0,none⟩),fun v9 _=>v9=.pointer (some ⟨A,2,none⟩),fun v9 _=>v9=.slice ta tn tc,fun v9 _=>v9=.pointer (some ⟨Y0,1,none⟩),fun v9 _=>v9=.string d.table,fun v9 _=>v9=.int .i64 fj,fun v9 _=>v9=.bool false,fun v9 _=>v9=.bool false,fun v9 _=>v9=.slice nad d.cols.length ncap,fun v9 _=>v9=.bool nd,fun v9 _=>v9=.bool (!nd),fun v9 _=>v9=.bool (!nd),fun v9 _=>v9=.bool (!nd)]
     (by kernel_rfl) (by kernel_rfl) (by kernel_rfl) ?stb ?g0b ?osb ?enb
    case stb=>exact⟨fun _ _ _ _ h=>h,fun _ _ _ _ h=>h,fun _ _ _ _ h=>h,fun _ _ _ _ h=>h,fun _ _ _ _ h=>h,fun _ _ _ _ h=>h,fun _ _ _ _ h=>h,fun _ _ _ _ h=>h,fun _ _ _ _ h=>h,fun _ _ _ _ h=>h,fun _ _ _ _ h=>h,fun _ _ _ _ h=>h,fun _ _ _ _ h=>h,fun _ _ _ _ h=>h,trivial⟩
    case g0b=>exact⟨rfl,rfl,rfl,Nat.le_refl _,fun _ _=>rfl⟩
    case osb =>
     refine⟨?_,?_,?_,?_,?_,?_,?_,?_,?_,?_,?_,?_,?_,?_,trivial⟩
     ·exact fun ρ _ _ hg _ _ _ ho _ _ _=>rv (op_move (show ρ (.tmp 0)=.pointer (some ⟨A,0,none⟩)from ho 0 rfl)) ⟨hg,Below.refl _ _,rfl⟩
     ·exact fun ρ _ _ hg _ _ _ _ _ _ hr=>rv (op_nil (show ρ (.tmp 40)=.pointer (some ⟨A,0,none⟩)from hr 0 40 rfl rfl)) ⟨hg,Below.refl _ _,rfl⟩
     ·exact fun ρ _ _ hg _ _ _ _ _ _ hr=>rv (op_f30_2 (show ρ (.tmp 41)=.pointer (some ⟨A,0,none⟩)from hr 1 41 rfl rfl)) ⟨hg,Below.refl _ _,rfl⟩
     ·exact fun ρ _ _ hg _ _ _ _ _ _ hr=>rv (op_load28 (show ρ (.tmp 42)=.pointer (some ⟨A,2,none⟩)from hr 2 42 rfl rfl) (cell_on hg e1')) ⟨hg,Below.refl _ _,rfl⟩
     ·exact fun ρ _ _ hg _ _ _ ho _ _ _=>rv (op_f45_1 (show ρ (.tmp 4)=.pointer (some ⟨Y0,0,none⟩)from ho 4 rfl)) ⟨hg,Below.refl _ _,rfl⟩
     ·exact fun ρ _ _ hg _ _ _ _ _ _ hr=>rv (op_load9 (show ρ (.tmp 44)=.pointer (some ⟨Y0,1,none⟩)from hr 4 44 rfl rfl) (cell_on hg e2')) ⟨hg,Below.refl _ _,rfl⟩
     ·refine fun ρ X9 fl hg hn hl hp ho hc hf hr=>.inl ⟨rfl,?_⟩;refine Runs.goes 97 #[.slice ta tn tc,.string d.table] (op_call2 hf (goes97 _ _) (show ρ (.tmp 43)=.slice ta tn tc from hr 3 43 rfl rfl) (show ρ (.tmp 45)=.string d.table from hr 5 45 rfl rfl)) ((HC22.out X9 hg).mono ?_);rintro e7 w7 ⟨rfl,b7⟩;exact⟨_,rfl,bgo hg b7,b7,rfl⟩
     ·exact fun ρ _ _ hg _ _ _ _ hc _ hr=>rv (op_geq3 (show ρ (.tmp 46)=.int .i64 fj from hr 6 46 rfl rfl) (hc _) HGE.out) ⟨hg,Below.refl _ _,rfl⟩
     ·exact fun ρ _ _ hg _ _ _ _ _ _ hr=>rv (op_move (show ρ (.tmp 47)=.bool false from hr 7 47 rfl rfl)) ⟨hg,Below.refl _ _,rfl⟩
     ·exact fun ρ _ _ hg _ _ _ ho _ _ hr=>.inr (.inl ⟨8,48,false,fun _=>rfl,rfl,hr 8 48 rfl rfl,Runs.val _ (op_move (show ρ (.tmp 7)=.slice nad d.cols.length ncap from ho 7 rfl)) ⟨hg,Below.refl _ _,rfl⟩⟩)
     ·refine fun ρ X9 fl hg hn hl hp ho hc hf hr=>.inr (.inl ⟨8,48,false,fun _=>rfl,rfl,hr 8 48 rfl rfl,?_⟩);refine Runs.goes 106 #[.slice nad d.cols.length ncap] (op_call1 hf (goes106 _ _) (show ρ (.tmp 49)=.slice nad d.cols.length ncap from hr 9 49 rfl rfl)) ((HC60.out X9 hg).mono ?_);rintro e7 w7 ⟨rfl,b7⟩;exact⟨_,rfl,bgo hg b7,b7,rfl⟩
     ·exact fun ρ _ _ hg _ _ _ _ _ _ hr=>.inr (.inl ⟨8,48,false,fun _=>rfl,rfl,hr 8 48 rfl rfl,Runs.val _ (op_not (show ρ (.tmp 50)=.bool nd from hr 10 50 rfl rfl) ) ⟨hg,Below.refl _ _,rfl⟩⟩)
     ·exact fun ρ _ _ hg _ _ _ _ _ _ hr=>rv (op_pick (show ρ (.tmp 48)=.bool false from hr 8 48 rfl rfl) (show(if false=true then ρ _ else ρ (.tmp 51))=.bool (!nd)from(show ρ (.tmp 51)=.bool (!nd)from hr 11 51 rfl rfl))) ⟨hg,Below.refl _ _,rfl⟩
     ·exact fun ρ _ _ hg _ _ _ _ _ _ hr=>rv (op_assign (show ρ (.tmp 52)=.bool (!nd)from hr 12 52 rfl rfl)) ⟨hg,Below.refl _ _,rfl⟩
    case enb =>
     intro a U fl hfl b3 hs hd ho hr;obtain⟨x,hx,hxt⟩:=act_put hs hd ho;have x39:x 39=.bool (!nd):=(hxt 39).symm.trans (hr 13 39 rfl);change a=putAll _ x [40,41,42,43,44,45,46,47,48,49,50,51,52,39]at hx;simp only [putAll,Act.put,List.setIfInBounds_toArray,List.set_cons_zero,List.set_cons_succ,x39]at hx;have B3:=lh b3;clear hs hd ho hr hxt x39 b3;subst hx;cases nd with
     | false =>
      have HE:Hid (createS s d st=.error 152):=by rw [HC2.out];exact lh (if_pos (.inr (of_decide_eq_false HND.out)))
      go_wp2;go_ret;exact ChAns.intro_err HE.out (by decide) (BV3.out.trans (B3.out.mono (Nat.le_trans HBw.out WV3.out.size)))
     | true =>
      have HCR3:=HC2.out;rw [if_neg (by rw [HR2.out];simp only [Bool.false_eq_true,false_or,Decidable.not_not];exact of_decide_eq_true HND.out)]at HCR3;have HC3:=lh HCR3;have BU:=lh (BV3.out.trans (B3.out.mono (Nat.le_trans HBw.out WV3.out.size)));have WU:=lh (bgo WV3.out B3.out);have a2:U.cell? ⟨A,2,none⟩=some (.slice ta tn tc):=cell_on B3.out e1';have y10:U.cell? ⟨Y0,10,none⟩=some (.slice da d.cols.length dc):=cell_on B3.out e0';have hko:=findC_any (w:=U) (f:=160) (cs:=#[]) (p:=fun x=>!kindB x.kd) (HD.out.on colE_held WU.out) goes160 (fun X hX B q x _ _ hp=>odd_f hp);have n3:=fidx_any (fun x:Col=>!kindB x.kd) d.cols;obtain⟨i3,hi3⟩:∃ i3,fidx (fun x:Col=>!kindB x.kd) d.cols=i3:=⟨_,rfl⟩
      rw [hi3]at hko n3;obtain⟨r3,hr3⟩:∃ r3,d.cols.all (fun c=>kindB c.kd)=r3:=⟨_,rfl⟩
      rw [<-List.not_all_eq_any_not,hr3]at n3;have HR3:=lh hr3;clear HCR3 hi3 hr3 e1' e2' e0';have hnd6:(tn:Int)=s.tabs.length:=by have:=HTN.out;have:=HLEN.out;omega
      obtain⟨dl,hdl⟩:∃ dl,d.cols.length=dl:=⟨_,rfl⟩
      by_cases v1:(tn:Int)=6
      ·have HE:Hid (createS s d st=.error 156):=by rw [HC3.out];exact lh (if_pos (.inl (by omega)))
       clear hnd6 hdl hko n3;go_wp2;go_ret;exact ChAns.intro_err HE.out (by decide) BU.out
      by_cases v2:(d.cols.length:Int)<1
      ·have HE:Hid (createS s d st=.error 156):=by rw [HC3.out];exact lh (if_pos (.inr (.inl (by omega))))
       clear hnd6 hdl hko n3;go_wp2;go_ret;exact ChAns.intro_err HE.out (by decide) BU.out
      by_cases v3:8<(d.cols.length:Int)
      ·have HE:Hid (createS s d st=.error 156):=by rw [HC3.out];exact lh (if_pos (.inr (.inr (by omega))))
       clear hnd6 hdl hko n3;go_wp2;go_ret;exact ChAns.intro_err HE.out (by decide) BU.out
      have HCR4:=HC3.out;rw [if_neg (by omega)]at HCR4;have HC4:=lh HCR4;have H58:Hid (s.tabs.length<6/\1<=d.cols.length/\d.cols.length<=8):=lh (by have:=H6.out;omega);clear HCR4 hnd6 hdl;cases r3 with
      | false =>
       have z3:=of_decide_eq_true n3;have HE:Hid (createS s d st=.error 154):=by rw [HC4.out];exact lh (if_pos HR3.out)
       clear n3;go_wp2_with (go_at_call 143;refine hko.mono ?_;rintro e w3 ⟨rfl,b3⟩;refine Hid.out ?_)
       refine lh ?_;have B4:=lh b3;clear hko b3;go_wp2;go_ret;exact ChAns.intro_err HE.out (by decide) (BU.out.trans (B4.out.mono (Nat.le_trans HBw.out WU.out.size)))
      | true =>
       have z3:=of_decide_eq_false n3;clear n3;have HCR5:=HC4.out;rw [if_neg (by rw [HR3.out];decide)]at HCR5;have HC5:=lh HCR5;clear HCR5;by_cases v4:st=3
       ·have HE:Hid (createS s d st=.ok ⟨s.ver+1,s.last+1+d.cols.length,s.tabs ++ [⟨s.last+1,d.table,freshC (s.last+2) d.cols,[],[]⟩]⟩):=by rw [HC5.out];exact lh (if_neg (by rw [v4];decide))
        subst v4;go_upto_region 19 with (go_at_call 143;refine hko.mono ?_;rintro e U1 ⟨rfl,b4⟩;refine Hid.out ?_)
        refine lh ?_;have WU1:=lh (bgo WU.out b4);have BU1:=lh (BU.out.trans (b4.mono (Nat.le_trans HBw.out WU.out.size)));have YU:Hid (U1.heap[Y0]?=some (.cells (dqA d (.slice da d.cols.length dc)) 45 (0,0))):=by
         have q1:=(HB3.out.block Y0 (blk_lt J0.out)).trans J0.out;have q2:=(B3.out.block Y0 (blk_lt q1)).trans q1;exact(b4.block Y0 (blk_lt q2)).trans q2
        have D':Hid (U1.cell? ⟨Y0,1,none⟩=some (.string d.table)):=cell_blk YU.out 1;have JA:Hid (U1.heap[A]?=some (.cells (scA s (.slice ta tn tc)) 30 (0,0))):=(WU1.out.block A (blk_lt HDF.out.ob)).trans HDF.out.ob;obtain⟨Q,hQ⟩:∃ Q,U1.heap.size=Q:=⟨_,rfl⟩
        have HQ:=lh hQ;have NE:Hid (Y0≠A/\Y0≠Q/\A≠Q):=by
         have q1:=blk_lt JA.out;have q2:=blk_lt YU.out;have q3:=blk_lt HDF.out.ob;have q4:=HY0.out;exact lh ⟨by omega,by omega,by omega⟩
        clear hko b4 hQ a2 y10;go_upto_region 19 with fail
        refine wp_region_fl (fun fl X9=>GA U1 A Q (scA s (.slice ta tn tc)) (scA { s with last:=s.last+1 } (.slice ta tn tc)) #[.int .i64 0,.string ⟨#[]⟩,.slice none 0 0,.slice none 0 0,.slice none 0 0] #[.int .i64 (s.last+1),.string d.table,.slice none 0 0,.slice none 0 0,.slice none 0 0] (fl 1) (fl 5) (fl 6) X9) (fun _ _=>True) [
         fun v9 _=>v9=.pointer (some ⟨A,0,none⟩),fun v9 _=>v9=.int .i64 (s.last+1),fun v9 _=>v9=.pointer (some ⟨Y0,1,none⟩),fun v9 _=>v9=.string d.table,fun v9 _=>v9=.agg #[.int .i64 (s.last+1),.string d.table,.slice none 0 0,.slice none 0 0,.slice none 0 0],fun v9 _=>v9=.pointer (some ⟨Q,0,none⟩),fun _ _=>True]
         (by kernel_rfl) (by kernel_rfl) (by kernel_rfl) ?stc ?g0c ?osc ?enc
        case stc=>exact⟨fun _ _ _ _ h=>h,fun _ _ _ _ h=>h,fun _ _ _ _ h=>h,fun _ _ _ _ h=>h,fun _ _ _ _ h=>h,fun _ _ _ _ h=>h,fun _ _ _ _ h=>h,trivial⟩
        case g0c=>exact⟨⟨rfl,rfl,rfl,Nat.le_refl _,fun _ _ _=>rfl⟩,JA.out,fun _=>HQ.out,fun q=>(by cases q)⟩
        case osc =>
         refine⟨?_,?_,?_,?_,?_,?_,?_,trivial⟩
         ·exact fun ρ _ _ hg _ _ _ ho _ _ _=>rv (op_move (show ρ (.tmp 0)=.pointer (some ⟨A,0,none⟩)from ho 0 rfl)) ⟨hg,trivial,rfl⟩
         ·refine fun ρ X9 fl hg hn hl hp ho hc hf hr=>.inl ⟨rfl,?_⟩;refine Runs.goes 162 #[.pointer (some ⟨A,0,none⟩)] (op_call1 hf (goes162 _ _) (show ρ (.tmp 79)=.pointer (some ⟨A,0,none⟩)from hr 0 79 rfl rfl)) ((give_any (s:=s) (tv:=.slice ta tn tc) (by have q:=hg.a;rw [hn]at q;exact q) HL.out).mono ?_);rintro e7 w7 ⟨rfl,rfl⟩;exact⟨_,rfl,hg.gave hn NE.out.2.2 rfl,trivial,rfl⟩
         ·exact fun ρ _ _ hg _ _ _ ho _ _ _=>rv (op_f45_1 (show ρ (.tmp 4)=.pointer (some ⟨Y0,0,none⟩)from ho 4 rfl)) ⟨hg,trivial,rfl⟩
         ·exact fun ρ _ _ hg _ _ _ _ _ _ hr=>rv (op_load9 (show ρ (.tmp 81)=.pointer (some ⟨Y0,1,none⟩)from hr 2 81 rfl rfl) (hg.cell NE.out.1 NE.out.2.1 D'.out)) ⟨hg,trivial,rfl⟩
         ·exact fun ρ _ _ hg _ _ _ _ _ _ hr=>rv (op_b64 (show ρ (.tmp 80)=.int .i64 (s.last+1)from hr 1 80 rfl rfl) (show ρ (.tmp 82)=.string d.table from hr 3 82 rfl rfl)) ⟨hg,trivial,rfl⟩
         ·refine fun ρ X9 fl hg hn hl hp ho hc hf hr=>.inl ⟨rfl,?_⟩;have h6f:fl 6=false:=by cases q:fl 6 with | false=>rfl | true=>exact absurd (hl 6 _ 5 rfl (by kernel_rfl) q) (by rw [hn];decide)
          exact Runs.val _ op_alloc64 ⟨hg.made hn h6f,trivial,congrArg (fun q=>Value.pointer (some ⟨q,0,none⟩)) (hg.q0 hn)⟩
         ·refine fun ρ X9 fl hg hn hl hp ho hc hf hr=>.inl ⟨rfl,?_⟩;obtain⟨X',hst,hG'⟩:=hg.stored (hp 5 (by kernel_rfl)) hn NE.out.2.2 rfl size64 (by simp [Value.oneCell']);have h5t:fl 5=true:=hp 5 (by kernel_rfl);refine Runs.skips (op_storeAt (show ρ (.tmp 12)=.pointer (some ⟨Q,0,none⟩)from hr 5 12 rfl rfl) (show ρ (.tmp 83)=.agg #[.int .i64 (s.last+1),.string d.table,.slice none 0 0,.slice none 0 0,.slice none 0 0]from hr 4 83 rfl rfl) hst) ⟨?_,trivial,trivial⟩;show GA U1 A Q (scA s (.slice ta tn tc)) (scA { s with last:=s.last+1 } (.slice ta tn tc)) #[.int .i64 0,.string ⟨#[]⟩,.slice none 0 0,.slice none 0 0,.slice none 0 0] #[.int .i64 (s.last+1),.string d.table,.slice none 0 0,.slice none 0 0,.slice none 0 0] (fl 1) (fl 5) true X'
          rw [h5t];exact hG'
        case enc =>
         intro a V2 fl hfl hG hs hd ho hr;rw [hfl 1 (by decide),hfl 5 (by decide),hfl 6 (by decide)]at hG;obtain⟨x,hx,hxt⟩:=act_put hs hd ho;have x12:x 12=.pointer (some ⟨Q,0,none⟩):=(hxt 12).symm.trans (hr 5 12 rfl);change a=putAll _ x [79,80,81,82,83,12]at hx;simp only [putAll,Act.put,List.setIfInBounds_toArray,List.set_cons_zero,List.set_cons_succ,x12]at hx;have HG:=lh hG;clear hG hs hd ho hr hxt x12;subst hx;have hVA:=HG.out.a;have hVQ:=HG.out.q1 rfl;have hBV2:Below B w V2:=BU1.out.trans (HG.out.fr.toBelow (fun k hk q=>by
          rcases q with q | q
          ·have:=HDF.out.hA;omega
          ·have:=HQ.out;have:=WU1.out.size;have:=HBw.out;omega) (Nat.le_trans HBw.out WU1.out.size))
         have HBV2:=lh hBV2;have y10:V2.cell? ⟨Y0,10,none⟩=some (.slice da d.cols.length dc):=HG.out.cell NE.out.1 NE.out.2.1 (cell_blk YU.out 10);have HVA:Hid (V2.heap[A]?=some (.cells (scA { s with last:=s.last+1 } (.slice ta tn tc)) 30 (0,0))):=hVA;have HVQ:Hid (V2.heap[Q]?=some (.cells #[.int .i64 (s.last+1),.string d.table,.slice none 0 0,.slice none 0 0,.slice none 0 0] 64 (0,0))):=hVQ;clear hVA hVQ hBV2;go_wp2;clear y10;go_loopw [87] (fun iv wr=>∃ (i:Nat) (cv:Value),i<=d.cols.length/\iv=.int .i64 (i:Int)/\wr.heap[A]?=some (.cells (scA { s with last:=s.last+1+i } (.slice ta tn tc)) 30 (0,0))/\wr.heap[Q]?=some (.cells #[.int .i64 (s.last+1),.string d.table,cv,.slice none 0 0,.slice none 0 0] 64 (0,0))/\wr.ownsRow V2.heap.size 56 7 cv i ((freshC (s.last+2) (d.cols.take i)).flatMap colL)/\Fr V2 wr (fun k=>k=A\/k=Q)) (fun iv _=>d.cols.length - (intOf iv).toNat)
         case atStart=>exact⟨0,_,Nat.zero_le _,rfl,by rw [HVA.out];simp,HVQ.out,World.ownsRow_nil _ _ 56 7,Fr.refl _ _⟩
         case round =>
          obtain⟨i,cv,hi,rfl,hA,hQ,ho,hf⟩:=hrel;obtain⟨V,rfl⟩:∃ V,V=wr:=⟨_,rfl⟩
          have hQB:B<=Q:=by have:=HQ.out;have:=WU1.out.size;have:=HBw.out;omega
          have hBV:Below B w V:=HBV2.out.trans (hf.toBelow (fun k hk q=>by rcases q with q | q;have:=HDF.out.hA;omega;omega) (Nat.le_trans HBw.out (Nat.le_trans WU1.out.size HG.out.fr.size)));have H1:=lh (And.intro hA (And.intro hQ (And.intro ho (And.intro hf hBV))));clear hA hQ ho hf hBV;by_cases hlt:i<d.cols.length
          ·have k0:(0:Int)<=i:=by omega
           have k1:(i:Int)<d.cols.length:=by omega
           obtain⟨b,p,cs,rfl,hbl,hE,_,hcell⟩:=HXd.out i hlt;cases hE;obtain⟨x,hx⟩:∃ x,d.cols[i]'hlt=x:=⟨_,rfl⟩
           rw [hx]at hcell;have hbB:b<B:=HDB.out b p _ _ rfl (by omega);have hcl:∀ j u,(colL x)[j]?=some u->V.cell? ⟨b,p+i*7+j,none⟩=some u:=fun j u hu=>by
            have q:=hcell j u hu;unfold World.cell? at q ⊢;rw [H1.out.2.2.2.2.block b hbB];exact q
           have c0:=hcl 0 _ rfl;have c1:=hcl 1 _ rfl;have c2:=hcl 2 _ rfl;have c3:=hcl 3 _ rfl;have c4:=hcl 4 _ rfl;have c5:=hcl 5 _ rfl;have c6:=hcl 6 _ rfl;rw [Nat.add_zero]at c0;obtain⟨V1,hV1⟩:∃ V1,V1=V.alloc (.cells (colA x) 56):=⟨_,rfl⟩
           obtain⟨P,hP⟩:∃ P,V.heap.size=P:=⟨_,rfl⟩
           have jP:V1.heap[P]?=some (.cells (colA x) 56 (0,0)):=by rw [hV1,<-hP];exact heap_alloc_new V _
           have bV:Below V.heap.size V V1:=by rw [hV1];exact bnew _ _
           obtain⟨L,hL⟩:∃ L,freshC (s.last+2) (d.cols.take i)=L:=⟨_,rfl⟩
           have hLl:L.length=i:=by rw [<-hL,freshC_len,List.length_take];omega
           obtain⟨la,hla⟩:∃ la:Int,s.last+1+i=la:=⟨_,rfl⟩
           obtain⟨y,hy⟩:∃ y:Col,y=⟨la+1,x.nm,x.kd,3,⟨0,0,⟨#[]⟩⟩⟩:=⟨_,rfl⟩
           have hA1:V1.heap[A]?=some (.cells (scA { s with last:=la } (.slice ta tn tc)) 30 (0,0)):=by
            rw [bV.block A (blk_lt H1.out.1),<-hla];exact H1.out.1
           have hQ1:V1.heap[Q]?=some (.cells #[.int .i64 (s.last+1),.string d.table,cv,.slice none 0 0,.slice none 0 0] 64 (0,0)):=(bV.block Q (blk_lt H1.out.2.1)).trans H1.out.2.1;have ho1:V1.ownsRow V2.heap.size 56 7 cv L.length (L.flatMap colL):=by
            rw [hLl,<-hL];exact own_below H1.out.2.2.1 bV
           obtain⟨cad,ccap,hcv⟩:=own_shape ho1;subst hcv;have hlar:0<=la/\la<=1152921504606846976:=by
            have q:=HL.out;unfold farB at q;simp only [Bool.and_eq_true,decide_eq_true_eq]at q;have:=H58.out.2.2;omega
           have K1:=lh (And.intro hA1 (And.intro hQ1 ho1));have HLA2:=lh hlar;have NP:Hid (Q≠A/\P≠A):=by
            have q1:=blk_lt H1.out.1;exact lh ⟨fun z=>NE.out.2.2 z.symm,by omega⟩
           have EP:Hid (V1.cell? ⟨P,1,none⟩=some (.string x.nm)/\V1.cell? ⟨P,2,none⟩=some (.int .i64 x.kd)):=⟨cell_blk jP 1,cell_blk jP 2⟩
           have HV1:=lh hV1;have HP:=lh hP;have BV:=lh bV;have HY:=lh hy;have HLL:=lh (And.intro hLl (And.intro hL (And.intro hla hx)));clear hcell hcl hbB hbl hV1 hP jP bV hA1 hQ1 ho1 hlar hy hL hLl hla hx;go_upto_region 23 with fail
           rw [<-HV1.out,HP.out];clear c0 c1 c2 c3 c4 c5 c6;refine wp_region_fs (fun fl X9=>GL V1 A Q (scA { s with last:=la } (.slice ta tn tc)) (scA { s with last:=la+1 } (.slice ta tn tc)) #[.int .i64 (s.last+1),.string d.table,.slice cad L.length ccap,.slice none 0 0,.slice none 0 0] (.slice cad L.length ccap) y L (fl 3) (fl 9) (fl 10) (fl 12) X9) [
            fun v9 _=>v9=.pointer (some ⟨Q,2,none⟩),fun v9 _=>v9=.slice cad L.length ccap,fun v9 _=>v9=.pointer (some ⟨A,0,none⟩),fun v9 _=>v9=.int .i64 (la+1),fun v9 _=>v9=.pointer (some ⟨P,1,none⟩),fun v9 _=>v9=.string x.nm,fun v9 _=>v9=.pointer (some ⟨P,2,none⟩),fun v9 _=>v9=.int .i64 x.kd,fun v9 _=>v9=.agg (colA y),fun v9 _=>v9=.slice (some ⟨V1.heap.size,0,none⟩) 1 1,
            RL V1 (.slice cad L.length ccap) y L,fun v9 _=>v9=.pointer (some ⟨Q,2,none⟩),fun _ _=>True]
            (by kernel_rfl) (by kernel_rfl) (by kernel_rfl) ?g0d ?osd ?end4
           case g0d =>
            have q:Fr V1 V1 (fun k=>k=A):=Fr.refl _ _;exact⟨⟨q.os,q.tape,q.output,q.size,q.block⟩,rfl,K1.out.1⟩
           case osd =>
            refine⟨?_,?_,?_,?_,?_,?_,?_,?_,?_,?_,?_,?_,?_,trivial⟩
            all_goals intro ρ X9 fl hg hn hl hp ho hc hf hr
            ·exact⟨rfl,Runs.val _ (op_f64_2 (show ρ (.tmp 12)=.pointer (some ⟨Q,0,none⟩)from ho 12 rfl)) ⟨hg,fun _ _ _ q=>q,rfl⟩⟩
            ·exact⟨rfl,Runs.val _ (op_load43 (show ρ (.tmp 91)=.pointer (some ⟨Q,2,none⟩)from hr 0 91 rfl rfl) (hg.cell (show fl 10=false from by cases q:fl 10 with | false=>rfl | true=>exact absurd (hl 10 _ 1 rfl (by kernel_rfl) q) (by rw [hn];decide)) NP.out.1 (cell_blk K1.out.2.1 2))) ⟨hg,fun _ _ _ q=>q,rfl⟩⟩
            ·exact⟨rfl,Runs.val _ (op_move (show ρ (.tmp 0)=.pointer (some ⟨A,0,none⟩)from ho 0 rfl)) ⟨hg,fun _ _ _ q=>q,rfl⟩⟩
            ·have h9f:fl 9=false:=(show fl 9=false from by cases q:fl 9 with | false=>rfl | true=>exact absurd (hl 8 _ 3 rfl (by kernel_rfl) (hl 9 _ 8 rfl (by kernel_rfl) q)) (by rw [hn];decide))
             have h10f:fl 10=false:=(show fl 10=false from by cases q:fl 10 with | false=>rfl | true=>exact absurd (hl 8 _ 3 rfl (by kernel_rfl) (hl 9 _ 8 rfl (by kernel_rfl) (hl 10 _ 9 rfl (by kernel_rfl) q))) (by rw [hn];decide))
             have hAx:X9.heap[A]?=some (.cells (scA { s with last:=la } (.slice ta tn tc)) 30 (0,0)):=by
              have q:GL V1 A Q (scA { s with last:=la } (.slice ta tn tc)) (scA { s with last:=la+1 } (.slice ta tn tc)) #[.int .i64 (s.last+1),.string d.table,.slice cad L.length ccap,.slice none 0 0,.slice none 0 0] (.slice cad L.length ccap) y L (fl 3) (fl 9) (fl 10) (fl 12) X9:=hg;rw [hn,h9f]at q;exact q.2.2
             refine⟨rfl,Runs.goes 162 #[.pointer (some ⟨A,0,none⟩)] (op_call1 hf (goes162 _ _) (show ρ (.tmp 93)=.pointer (some ⟨A,0,none⟩)from hr 2 93 rfl rfl)) ((give_big (s:={ s with last:=la }) (tv:=.slice ta tn tc) hAx HLA2.out).mono ?_)⟩;rintro e7 w7 ⟨rfl,rfl⟩;refine⟨_,rfl,hg.gave hn h9f rfl,?_,rfl⟩;intro j hj u q
             match j,hj,q with
              | 0,hj,q=>exact q
              | 1,hj,q=>exact q
              | 2,hj,q=>exact q
              | 3,hj,q=>exact q
              | 4,hj,q=>exact q
              | 5,hj,q=>exact q
              | 6,hj,q=>exact q
              | 7,hj,q=>exact q
              | 8,hj,q=>exact q
              | 9,hj,q=>exact q
              | 10,hj,q=>exact absurd hj (by rw [h10f];decide)
              | 11,hj,q=>exact q
              | 12,hj,q=>exact q
              | m+13,_,q=>exact q
            ·exact⟨rfl,Runs.val _ (op_f56_1 (show ρ (.tmp 14)=.pointer (some ⟨P,0,none⟩)from ho 14 rfl)) ⟨hg,fun _ _ _ q=>q,rfl⟩⟩
            ·exact⟨rfl,Runs.val _ (op_load9 (show ρ (.tmp 95)=.pointer (some ⟨P,1,none⟩)from hr 4 95 rfl rfl) (hg.cell (show fl 10=false from by cases q:fl 10 with | false=>rfl | true=>exact absurd (hl 8 _ 5 rfl (by kernel_rfl) (hl 9 _ 8 rfl (by kernel_rfl) (hl 10 _ 9 rfl (by kernel_rfl) q))) (by rw [hn];decide)) NP.out.2 EP.out.1)) ⟨hg,fun _ _ _ q=>q,rfl⟩⟩
            ·exact⟨rfl,Runs.val _ (op_f56_2 (show ρ (.tmp 14)=.pointer (some ⟨P,0,none⟩)from ho 14 rfl)) ⟨hg,fun _ _ _ q=>q,rfl⟩⟩
            ·exact⟨rfl,Runs.val _ (op_load3 (show ρ (.tmp 97)=.pointer (some ⟨P,2,none⟩)from hr 6 97 rfl rfl) (hg.cell (show fl 10=false from by cases q:fl 10 with | false=>rfl | true=>exact absurd (hl 8 _ 7 rfl (by kernel_rfl) (hl 9 _ 8 rfl (by kernel_rfl) (hl 10 _ 9 rfl (by kernel_rfl) q))) (by rw [hn];decide)) NP.out.2 EP.out.2)) ⟨hg,fun _ _ _ q=>q,rfl⟩⟩
            ·exact⟨rfl,Runs.val _ (op_b56_pub hc (show ρ (.tmp 94)=.int .i64 (la+1)from hr 3 94 rfl rfl) (show ρ (.tmp 96)=.string x.nm from hr 5 96 rfl rfl) (show ρ (.tmp 98)=.int .i64 x.kd from hr 7 98 rfl rfl)) ⟨hg,fun _ _ _ q=>q,(show _=Value.agg (colA y)from by rw [HY.out])⟩⟩
            ·have h10f:fl 10=false:=(show fl 10=false from by cases q:fl 10 with | false=>rfl | true=>exact absurd (hl 10 _ 9 rfl (by kernel_rfl) q) (by rw [hn];decide))
             have h3t:fl 3=true:=hl 8 _ 3 rfl (by kernel_rfl) (hp 8 (by kernel_rfl));obtain⟨hb1,hb2⟩:=hg.built h3t hn h10f;refine⟨rfl,Runs.val _ (op_s43 (show ρ (.tmp 99)=.agg (colA y)from hr 8 99 rfl rfl)) ⟨hb1,?_,(show Value.slice (some ⟨X9.heap.size,0,none⟩) 1 1=Value.slice (some ⟨V1.heap.size,0,none⟩) 1 1 from by rw [hb2])⟩⟩;intro j hj u q
             match j,hj,q with
              | 0,hj,q=>exact q
              | 1,hj,q=>exact q
              | 2,hj,q=>exact q
              | 3,hj,q=>exact q
              | 4,hj,q=>exact q
              | 5,hj,q=>exact q
              | 6,hj,q=>exact q
              | 7,hj,q=>exact q
              | 8,hj,q=>exact q
              | 9,hj,q=>exact q
              | 10,hj,q=>exact absurd hj (by rw [h10f];decide)
              | 11,hj,q=>exact q
              | 12,hj,q=>exact q
              | m+13,_,q=>exact q
            ·have h12f:fl 12=false:=(show fl 12=false from by cases q:fl 12 with | false=>rfl | true=>exact absurd (hl 12 _ 10 rfl (by kernel_rfl) q) (by rw [hn];decide))
             have h9t:fl 9=true:=hp 9 (by kernel_rfl);obtain⟨v',X',hr1,hr2,hr3⟩:=hg.pushed h9t hn h12f (own_mono K1.out.2.2 (Nat.zero_le _)) K1.out.1 (by have:=HLL.out.1;have:=H58.out.2.2;omega);refine⟨rfl,Runs.val _ (op_append43 (show ρ (.tmp 92)=.slice cad L.length ccap from hr 1 92 rfl rfl) (show ρ (.tmp 100)=.slice (some ⟨V1.heap.size,0,none⟩) 1 1 from hr 9 100 rfl rfl) hr1) ⟨?_,?_,hr2⟩⟩
             ·show GL V1 A Q (scA { s with last:=la } (.slice ta tn tc)) (scA { s with last:=la+1 } (.slice ta tn tc)) #[.int .i64 (s.last+1),.string d.table,.slice cad L.length ccap,.slice none 0 0,.slice none 0 0] (.slice cad L.length ccap) y L (fl 3) (fl 9) true (fl 12) X'
              rw [h9t];exact hr3
             ·intro j hj u q
              match j,hj,q with
               | 0,hj,q=>exact q
               | 1,hj,q=>exact q
               | 2,hj,q=>exact q
               | 3,hj,q=>exact q
               | 4,hj,q=>exact q
               | 5,hj,q=>exact q
               | 6,hj,q=>exact q
               | 7,hj,q=>exact q
               | 8,hj,q=>exact q
               | 9,hj,q=>exact q
               | 10,hj,q=>exact absurd hj (by rw [hn];decide)
               | 11,hj,q=>exact q
               | 12,hj,q=>exact q
               | m+13,_,q=>exact q
            ·exact⟨rfl,Runs.val _ (op_f64_2 (show ρ (.tmp 12)=.pointer (some ⟨Q,0,none⟩)from ho 12 rfl)) ⟨hg,fun _ _ _ q=>q,rfl⟩⟩
            ·have h10t:fl 10=true:=hp 10 (by kernel_rfl);have h9t:fl 9=true:=hl 10 _ 9 rfl (by kernel_rfl) h10t;obtain⟨ad7,cap7,e7,o7,k7⟩:RL V1 (.slice cad L.length ccap) y L (ρ (.tmp 101)) X9:=hr 10 101 rfl rfl;obtain⟨hq7,hG7⟩:=hg.stored h9t h10t hn K1.out.2.1 K1.out.1 (own_mono K1.out.2.2 (Nat.zero_le _)) o7 k7;refine⟨rfl,Runs.skips (op_store43 (show ρ (.tmp 102)=.pointer (some ⟨Q,2,none⟩)from hr 11 102 rfl rfl) e7 (show X9.cell? ⟨Q,2,none⟩=some (.slice cad L.length ccap)from by rw [cell_blk hq7];rfl) (frozen_blk hq7 _)) ⟨hG7,?_,trivial⟩⟩;intro j hj u q
             match j,hj,q with
              | 0,hj,q=>exact q
              | 1,hj,q=>exact q
              | 2,hj,q=>exact q
              | 3,hj,q=>exact q
              | 4,hj,q=>exact q
              | 5,hj,q=>exact q
              | 6,hj,q=>exact q
              | 7,hj,q=>exact q
              | 8,hj,q=>exact q
              | 9,hj,q=>exact q
              | 10,hj,q=>(obtain⟨a8,c8,e8,o8,k8⟩:=q;exact⟨a8,c8,e8,own_off (by decide) hq7 o8,k8⟩)
              | 11,hj,q=>exact q
              | 12,hj,q=>exact q
              | m+13,_,q=>exact q
           case end4 =>
            intro a X9 fl hfl hG hs hd ho hr;rw [hfl 3 (by decide),hfl 9 (by decide),hfl 10 (by decide),hfl 12 (by decide)]at hG;obtain⟨x',hx',hxt⟩:=act_put hs hd ho;change a=putAll _ x' [91,92,93,94,95,96,97,98,99,100,101,102]at hx';simp only [putAll,Act.put,List.setIfInBounds_toArray,List.set_cons_zero,List.set_cons_succ]at hx';obtain⟨ad,cap,o9,k9,f9,a9,q9⟩:=hG;have HR9:Hid (X9.heap[A]?=some (.cells (scA { s with last:=s.last+1+((i+1:Nat):Int) } (.slice ta tn tc)) 30 (0,0))/\X9.heap[Q]?=some (.cells #[.int .i64 (s.last+1),.string d.table,.slice ad (L.length+1) cap,.slice none 0 0,.slice none 0 0] 64 (0,0))/\X9.ownsRow V2.heap.size 56 7 (.slice ad (L.length+1) cap) (i+1) ((freshC (s.last+2) (d.cols.take (i+1))).flatMap colL)/\Fr V2 X9 (fun k=>k=A\/k=Q)):=by
             have hsz:V2.heap.size<=V1.heap.size:=Nat.le_trans H1.out.2.2.2.1.size BV.out.size;refine⟨?_,q9,?_,?_⟩
             ·rw [a9,<-HLL.out.2.2.1];have:s.last+1+(i:Int)+1=s.last+1+((i+1:Nat):Int):=by omega
              rw [this]
             ·have e1:freshC (s.last+2) (d.cols.take (i+1))=L ++ [y]:=by
               rw [List.take_succ_eq_append_getElem hlt,freshC_snoc,HLL.out.2.1,HLL.out.2.2.2,HY.out,<-HLL.out.2.2.1,List.length_take];have:s.last+2+((min i d.cols.length:Nat):Int)=s.last+1+(i:Int)+1:=by omega
               rw [this]
              rw [e1];have e2:(L ++ [y]).length=i+1:=by rw [List.length_append,HLL.out.1];rfl
              rw [<-e2];refine own_base o9 (fun k hk=>?_);rcases k9 k hk with z | z
              ·exact(own_ge K1.out.2.2 k z).1
              ·exact Nat.le_trans hsz z
             ·refine Fr.step (S:=fun k=>k=A\/k=Q) (H1.out.2.2.2.1.below BV.out) f9 (fun k hk=>?_);rcases hk with z | z | z
              ·exact .inl (.inl z)
              ·exact .inr (own_ge K1.out.2.2 k z).1
              ·exact .inl (.inr z)
            clear hs hd ho hr hxt o9 k9 f9 a9 q9;subst hx';go_wp2;go_roundw
            case rel=>exact⟨i+1,_,hlt,by go_num,HR9.out.1,HR9.out.2.1,HR9.out.2.2.1,HR9.out.2.2.2⟩
            case measure=>simp [intOf];omega
          ·have hin:i=d.cols.length:=by omega
           subst hin;have k1:¬ ((d.cols.length:Int)<d.cols.length):=by omega
           obtain⟨cad,ccap,hcv⟩:=own_shape H1.out.2.2.1;subst hcv;obtain⟨t,ht⟩:∃ t:Tb,t=⟨s.last+1,d.table,freshC (s.last+2) d.cols,[],[]⟩:=⟨_,rfl⟩
           obtain⟨X0,hX0⟩:∃ X0,X0=V.drew:=⟨_,rfl⟩
           have hUV2:U1.heap.size<=V2.heap.size:=HG.out.fr.size;have fU:Fr U1 V (fun k=>k=A):=by
            have q:=HG.out.fr.trans H1.out.2.2.2.1;refine⟨q.os,q.tape,q.output,q.size,fun k hk hn=>q.block k hk (fun z=>?_)⟩;rcases z with z | z
            ·exact hn z
            ·have:=HQ.out;omega
           have f0:Fr U1 X0 (fun k=>k=A):=by rw [hX0];exact⟨fU.os,fU.tape,fU.output,fU.size,fU.block⟩
           have a0:X0.heap[A]?=some (.cells (scA { s with last:=s.last+1+(d.cols.length:Int) } (.slice ta tn tc)) 30 (0,0)):=by rw [hX0];exact H1.out.1
           have q0:X0.heap[Q]?=some (.cells (tbA t (.slice cad d.cols.length ccap) (.slice none 0 0) (.slice none 0 0)) 64 (0,0)):=by rw [hX0,ht];exact H1.out.2.1
           have o0:X0.ownsRow V2.heap.size 56 7 (.slice cad d.cols.length ccap) t.cols.length (t.cols.flatMap colL):=by
            have q:=H1.out.2.2.1;rw [List.take_length]at q;have e:t.cols=freshC (s.last+2) d.cols:=by rw [ht]
            rw [e,freshC_len,hX0];have fd:Fr V V.drew (fun _=>False):=by
             have z:=Fr.refl V (fun _=>False);exact⟨z.os,z.tape,z.output,z.size,z.block⟩
            exact row_keep q fd (fun _ _ z=>z)
           have DU:Dr U1 B G (.slice ta tn tc):=HDF.out.dr.below WU1.out;have D0:Dr X0 B G (.slice ta tn tc):=DU.keep f0 (fun k hk=>.inr (fun cs e q=>by
            rw [hk,JA.out]at q;simp only [Option.some.injEq,Obj.cells.injEq]at q;rw [<-q.2.1]
            decide))
           obtain⟨ad,cap,X2,hrun,r1,r2,r3⟩:=pushT (own_mono D0.row (Nat.zero_le _)) t (ca:=cad) (cn:=d.cols.length) (cc:=ccap) (ia:=none) (im:=0) (ic:=0) (ka:=none) (kn:=0) (kc:=0) (by have:=HLEN.out;have:=H6.out;omega);have hne:(Value.slice ta tn tc).ownBlock≠some A:=fun q=>by
            obtain⟨cs,tg⟩:=own_tag D0.row A q;rw [a0]at tg;simp only [Option.some.injEq,Obj.cells.injEq]at tg;exact absurd tg.2.1 (by decide)
           have a2:X2.heap[A]?=some (.cells (scA { s with last:=s.last+1+(d.cols.length:Int) } (.slice ta tn tc)) 30 (0,0)):=(r2.block A (blk_lt a0) hne).trans a0;obtain⟨X1,hX1⟩:∃ X1,X1=X0.alloc (.cells (tbA t (.slice cad d.cols.length ccap) (.slice none 0 0) (.slice none 0 0)) 64):=⟨_,rfl⟩
           obtain⟨X3,hX3⟩:∃ X3,X3=X2.setCell ⟨A,2,none⟩ (.slice ad (G.length+1) cap):=⟨_,rfl⟩
           have f3:Fr U1 X3 (fun k=>k=A\/(Value.slice ta tn tc).ownBlock=some k):=by
            rw [hX3];exact Fr.set (S:=fun k=>k=A\/(Value.slice ta tn tc).ownBlock=some k) (a:=⟨A,2,none⟩) ((f0.mono (fun k hk=>.inl hk)).trans (r2.mono (fun k hk=>.inr hk))) (.inl (.inl rfl)) _
           have a3:X3.heap[A]?=some (.cells (scA ⟨s.ver,s.last+1+(d.cols.length:Int),s.tabs ++ [t]⟩ (.slice ad (G.length+1) cap)) 30 (0,0)):=by rw [hX3];exact set_blk a2 _
           have fA:Fr X2 X3 (fun k=>k=A):=by
            rw [hX3];exact Fr.set (S:=fun k=>k=A) (a:=⟨A,2,none⟩) (Fr.refl _ _) (.inl rfl) _
           have kA:∀ {b:Nat} {e:TypeId} {c n:Nat} {v:Value} {xs:List Value},e≠30->X2.ownsRow b e c v n xs->X3.ownsRow b e c v n xs:=fun he q=>keep_rowB q fA (fun k hk cs tg=>by
            rw [hk,a2]at tg;simp only [Option.some.injEq,Obj.cells.injEq]at tg;exact he tg.2.1.symm)
           have hUX:U1.heap.size<=X0.heap.size:=f0.size;have hBU:B<=U1.heap.size:=Nat.le_trans HBw.out WU1.out.size;have o3:X3.ownsRow U1.heap.size 56 7 (.slice cad d.cols.length ccap) t.cols.length (t.cols.flatMap colL):=by
            exact own_mono (kA (by decide) (keep_rowB o0 r2 (fun k hk cs tg=>by
             obtain⟨cs2,t2⟩:=own_tag D0.row k hk;rw [t2]at tg;simp only [Option.some.injEq,Obj.cells.injEq]at tg;exact absurd tg.2.1 (by decide)))) hUV2
           have D3:Dr X3 B (G ++ [(t,.slice cad d.cols.length ccap,.slice none 0 0,.slice none 0 0)]) (.slice ad (G.length+1) cap):=by
            refine Dr.push DU hBU f3 (fun k hk=>?_) _ (by simpa using kA (by decide) r1) (fun k hk=>?_) o3 (by rw [ht];exact World.ownsRow_nil _ _ 138 5) (by rw [ht];exact World.ownsRow_nil _ _ 141 5)
            ·rcases hk with z | z
             ·refine .inr (.inr (fun cs e q=>?_));rw [z,JA.out]at q;simp only [Option.some.injEq,Obj.cells.injEq]at q;rw [<-q.2.1]
              decide
             ·exact .inr (.inl z)
            ·rcases r3 k hk with z | z
             ·exact .inl z
             ·exact .inr (by omega)
           have HD3:Hid (Df X3 B A ⟨s.ver,s.last+1+(d.cols.length:Int),s.tabs ++ [⟨s.last+1,d.table,freshC (s.last+2) d.cols,[],[]⟩]⟩ (G ++ [(t,.slice cad d.cols.length ccap,.slice none 0 0,.slice none 0 0)]) (.slice ad (G.length+1) cap)):=by
            rw [<-ht];refine⟨a3,D3,?_,HDF.out.hA⟩;rw [List.map_append,HDF.out.tabs];rfl
           have HB3':Hid (Below B w X3):=BU1.out.trans (f3.toBelow (fun k hk q=>by
            rcases q with q | q
            ·have:=HDF.out.hA;omega
            ·have:=(own_ge DU.row k q).1;omega) hBU)
           have hld:=load_row q0 Tryz.underlying64 rfl size64;have HX0:=lh hX0;have HX1:=lh hX1;have HX3:=lh hX3;have CA:Hid (X0.cell? ⟨A,2,none⟩=some (.slice ta tn tc)/\X1.cell? ⟨A,2,none⟩=some (.slice ta tn tc)):=by
            refine⟨cell_blk a0 2,?_⟩;rw [hX1];exact cell_on (bnew _ _) (cell_blk a0 2)
           have C2:Hid (X2.heap[A]?=some (.cells (scA { s with last:=s.last+1+(d.cols.length:Int) } (.slice ta tn tc)) 30 (0,0))):=a2;have HRUN:Hid ((Builtin.append_ #[28,28] 28 #[.slice ta tn tc,.slice (some ⟨X0.heap.size,0,none⟩) 1 1]).run Tryz.prog X1=.ok (.slice ad (G.length+1) cap) X2):=by rw [hX1];exact hrun
           have HLD:=lh hld;clear hX0 hX1 hX3 hUV2 fU f0 a0 q0 o0 DU D0 hrun r1 r2 r3 hne a2 f3 a3 fA kA hUX hBU o3 D3 hld;go_upto_region 25 with fail
           refine wp_region_fs (fun fl X9=>GN X0 X1 X2 X3 (fl 6) (fl 7) (fl 10) X9) [
            fun v9 _=>v9=.pointer (some ⟨A,0,none⟩),fun v9 _=>v9=.pointer (some ⟨A,0,none⟩),fun v9 _=>v9=.pointer (some ⟨A,0,none⟩),fun v9 _=>v9=.pointer (some ⟨A,2,none⟩),fun v9 _=>v9=.slice ta tn tc,fun v9 _=>v9=.agg (tbA t (.slice cad d.cols.length ccap) (.slice none 0 0) (.slice none 0 0)),fun v9 _=>v9=.slice (some ⟨X0.heap.size,0,none⟩) 1 1,fun v9 _=>v9=.slice ad (G.length+1) cap,fun v9 _=>v9=.pointer (some ⟨A,0,none⟩),fun v9 _=>v9=.pointer (some ⟨A,2,none⟩),fun _ _=>True]
            (by kernel_rfl) (by kernel_rfl) (by kernel_rfl) ?g0e ?ose ?end5
           case g0e=>exact HX0.out.symm
           case ose =>
            refine⟨?_,?_,?_,?_,?_,?_,?_,?_,?_,?_,?_,trivial⟩
            all_goals intro ρ X9 fl hg hn hl hp ho hc hf hr
            ·exact⟨rfl,Runs.val _ (op_move (show ρ (.tmp 0)=.pointer (some ⟨A,0,none⟩)from ho 0 rfl)) ⟨hg,fun _ _ _ q=>q,rfl⟩⟩
            ·exact⟨rfl,Runs.val _ (op_move (show ρ (.tmp 0)=.pointer (some ⟨A,0,none⟩)from ho 0 rfl)) ⟨hg,fun _ _ _ q=>q,rfl⟩⟩
            ·exact⟨rfl,Runs.val _ (op_nil (show ρ (.tmp 105)=.pointer (some ⟨A,0,none⟩)from hr 1 105 rfl rfl)) ⟨hg,fun _ _ _ q=>q,rfl⟩⟩
            ·exact⟨rfl,Runs.val _ (op_f30_2 (show ρ (.tmp 106)=.pointer (some ⟨A,0,none⟩)from hr 2 106 rfl rfl)) ⟨hg,fun _ _ _ q=>q,rfl⟩⟩
            ·have hgx:GN X0 X1 X2 X3 (fl 6) (fl 7) (fl 10) X9:=hg;have h7f:fl 7=false:=(show fl 7=false from by cases q:fl 7 with | false=>rfl | true=>exact absurd (hl 7 _ 4 rfl (by kernel_rfl) q) (by rw [hn];decide))
             have h10f:fl 10=false:=(show fl 10=false from by cases q:fl 10 with | false=>rfl | true=>exact absurd (hl 7 _ 4 rfl (by kernel_rfl) (hl 10 _ 7 rfl (by kernel_rfl) q)) (by rw [hn];decide))
             have hcell:X9.cell? ⟨A,2,none⟩=some (.slice ta tn tc):=by
              rw [h7f,h10f]at hgx;cases q:fl 6 with
              | false =>
               rw [q]at hgx;rw [show X9=X0 from hgx];exact CA.out.1
              | true =>
               rw [q]at hgx;rw [show X9=X1 from hgx];exact CA.out.2
             exact⟨rfl,Runs.val _ (op_load28 (show ρ (.tmp 107)=.pointer (some ⟨A,2,none⟩)from hr 3 107 rfl rfl) hcell) ⟨hg,fun _ _ _ q=>q,rfl⟩⟩
            ·have hgx:GN X0 X1 X2 X3 (fl 6) (fl 7) (fl 10) X9:=hg;have h6f:fl 6=false:=(show fl 6=false from by cases q:fl 6 with | false=>rfl | true=>exact absurd (hl 6 _ 5 rfl (by kernel_rfl) q) (by rw [hn];decide))
             have h7f:fl 7=false:=(show fl 7=false from by cases q:fl 7 with | false=>rfl | true=>exact absurd (hl 6 _ 5 rfl (by kernel_rfl) (hl 7 _ 6 rfl (by kernel_rfl) q)) (by rw [hn];decide))
             have h10f:fl 10=false:=(show fl 10=false from by cases q:fl 10 with | false=>rfl | true=>exact absurd (hl 6 _ 5 rfl (by kernel_rfl) (hl 7 _ 6 rfl (by kernel_rfl) (hl 10 _ 7 rfl (by kernel_rfl) q))) (by rw [hn];decide))
             rw [h6f,h7f,h10f]at hgx;have hX:X9=X0:=hgx;have hld9:=HLD.out;rw [<-hX]at hld9;exact⟨rfl,Runs.val _ (op_loadAt (show ρ (.tmp 12)=.pointer (some ⟨Q,0,none⟩)from ho 12 rfl) hld9) ⟨hg,fun _ _ _ q=>q,rfl⟩⟩
            ·have hgx:GN X0 X1 X2 X3 (fl 6) (fl 7) (fl 10) X9:=hg;have h7f:fl 7=false:=(show fl 7=false from by cases q:fl 7 with | false=>rfl | true=>exact absurd (hl 7 _ 6 rfl (by kernel_rfl) q) (by rw [hn];decide))
             have h10f:fl 10=false:=(show fl 10=false from by cases q:fl 10 with | false=>rfl | true=>exact absurd (hl 7 _ 6 rfl (by kernel_rfl) (hl 10 _ 7 rfl (by kernel_rfl) q)) (by rw [hn];decide))
             rw [hn,h7f,h10f]at hgx;have hX:X9=X0:=hgx;refine⟨rfl,Runs.val _ (op_s28 ⟨_,_,_,rfl⟩ ⟨_,_,_,rfl⟩ ⟨_,_,_,rfl⟩ (show ρ (.tmp 109)=.agg (tbA t (.slice cad d.cols.length ccap) (.slice none 0 0) (.slice none 0 0))from hr 5 109 rfl rfl)) ⟨?_,?_,(show Value.slice (some ⟨X9.heap.size,0,none⟩) 1 1=Value.slice (some ⟨X0.heap.size,0,none⟩) 1 1 from by rw [hX])⟩⟩
             ·show GN X0 X1 X2 X3 true (fl 7) (fl 10) (X9.alloc _)
              rw [h7f,h10f,hX];exact HX1.out.symm
             ·intro j hj u q
              match j,hj,q with
               | 0,hj,q=>exact q
               | 1,hj,q=>exact q
               | 2,hj,q=>exact q
               | 3,hj,q=>exact q
               | 4,hj,q=>exact q
               | 5,hj,q=>exact q
               | 6,hj,q=>exact q
               | 7,hj,q=>exact q
               | 8,hj,q=>exact q
               | 9,hj,q=>exact q
               | 10,hj,q=>exact q
               | m+11,_,q=>exact q
            ·have hgx:GN X0 X1 X2 X3 (fl 6) (fl 7) (fl 10) X9:=hg;have h6t:fl 6=true:=hp 6 (by kernel_rfl);have h10f:fl 10=false:=(show fl 10=false from by cases q:fl 10 with | false=>rfl | true=>exact absurd (hl 10 _ 7 rfl (by kernel_rfl) q) (by rw [hn];decide))
             rw [hn,h6t,h10f]at hgx;have hX:X9=X1:=hgx;have hrun9:=HRUN.out;rw [<-hX]at hrun9;refine⟨rfl,Runs.val _ (op_append28 (show ρ (.tmp 108)=.slice ta tn tc from hr 4 108 rfl rfl) (show ρ (.tmp 110)=.slice (some ⟨X0.heap.size,0,none⟩) 1 1 from hr 6 110 rfl rfl) hrun9) ⟨?_,?_,rfl⟩⟩
             ·show GN X0 X1 X2 X3 (fl 6) true (fl 10) X2
              rw [h10f];exact(rfl:X2=X2)
             ·intro j hj u q
              match j,hj,q with
               | 0,hj,q=>exact q
               | 1,hj,q=>exact q
               | 2,hj,q=>exact q
               | 3,hj,q=>exact q
               | 4,hj,q=>exact q
               | 5,hj,q=>exact q
               | 6,hj,q=>exact q
               | 7,hj,q=>exact q
               | 8,hj,q=>exact q
               | 9,hj,q=>exact q
               | 10,hj,q=>exact q
               | m+11,_,q=>exact q
            ·exact⟨rfl,Runs.val _ (op_nil (show ρ (.tmp 104)=.pointer (some ⟨A,0,none⟩)from hr 0 104 rfl rfl)) ⟨hg,fun _ _ _ q=>q,rfl⟩⟩
            ·exact⟨rfl,Runs.val _ (op_f30_2 (show ρ (.tmp 112)=.pointer (some ⟨A,0,none⟩)from hr 8 112 rfl rfl)) ⟨hg,fun _ _ _ q=>q,rfl⟩⟩
            ·have hgx:GN X0 X1 X2 X3 (fl 6) (fl 7) (fl 10) X9:=hg;have h7t:fl 7=true:=hp 7 (by kernel_rfl);rw [hn,h7t]at hgx;have hX:X9=X2:=hgx;have hA9:=C2.out;rw [<-hX]at hA9;refine⟨rfl,Runs.skips (op_store28 (show ρ (.tmp 113)=.pointer (some ⟨A,2,none⟩)from hr 9 113 rfl rfl) (show ρ (.tmp 111)=.slice ad (G.length+1) cap from hr 7 111 rfl rfl) (cell_blk hA9 2) (frozen_blk hA9 2)) ⟨?_,?_,trivial⟩⟩
             ·show GN X0 X1 X2 X3 (fl 6) (fl 7) true (X9.setCell ⟨A,2,none⟩ (.slice ad (G.length+1) cap))
              rw [hX];exact HX3.out.symm
             ·intro j hj u q
              match j,hj,q with
               | 0,hj,q=>exact q
               | 1,hj,q=>exact q
               | 2,hj,q=>exact q
               | 3,hj,q=>exact q
               | 4,hj,q=>exact q
               | 5,hj,q=>exact q
               | 6,hj,q=>exact q
               | 7,hj,q=>exact q
               | 8,hj,q=>exact q
               | 9,hj,q=>exact q
               | 10,hj,q=>exact q
               | m+11,_,q=>exact q
           case end5 =>
            intro a X9 fl hfl hG hs hd ho hr;rw [hfl 6 (by decide),hfl 7 (by decide),hfl 10 (by decide)]at hG;have hX9:X9=X3:=hG;obtain⟨x',hx',hxt⟩:=act_put hs hd ho;change a=putAll _ x' [104,105,106,107,108,109,110,111,112,113]at hx';simp only [putAll,Act.put,List.setIfInBounds_toArray,List.set_cons_zero,List.set_cons_succ]at hx';clear hG hs hd ho hr hxt;subst hx';rw [hX9];clear hX9;go_wp2;go_ret;show ChAns w B A s (createS s d 3) _ _
            rw [HE.out];exact⟨rfl,⟨_,_,HD3.out⟩,HB3'.out⟩
       ·have HE:Hid (createS s d st=.error 1):=by rw [HC5.out];exact lh (if_pos v4)
        go_wp2_with (go_at_call 143;refine hko.mono ?_;rintro e w3 ⟨rfl,b3⟩;refine Hid.out ?_)
        refine lh ?_;have B4:=lh b3;clear hko b3;go_wp2;go_ret;exact ChAns.intro_err HE.out (by decide) (BU.out.trans (B4.out.mono (Nat.le_trans HBw.out WU.out.size)))
end
end Go.Proofs.YtkhehikaemdnnaaGreat
