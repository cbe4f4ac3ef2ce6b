import Derived.Test.YtkhehikaemdnnaaGreatQBl
namespace Go.Proofs.YtkhehikaemdnnaaGreat
set_option maxRecDepth 100000
set_option maxHeartbeats 4000000
open Go.RowKit Go.Maps
section
variable {w : World}
theorem nameB_sz{s:ByteArray}(h:nameB s=true):s.size<=16:=by
 rcases Nat.lt_or_ge 16 s.size with q | q
 ·rw [nameB_no (.inr q)]at h;cases h
 ·exact q
theorem pushS{X:World}{B:Nat}{l:List ByteArray}{v:Value}(ho:X.ownsRow B 9 1 v l.length (l.flatMap stL))(hB:B<=X.heap.size)(x:ByteArray)(hz:l.length<=100000000):
  ∃ ad cap w',(Builtin.append_ #[155,155] 155 #[v,.slice (some ⟨X.heap.size,0,none⟩) 1 1]).run Tryz.prog (X.alloc (.cells #[.string x] 9))=.ok (.slice ad (l.length+1) cap) w'/\w'.ownsRow B 9 1 (.slice ad (l.length+1) cap) (l ++ [x]).length ((l ++ [x]).flatMap stL)/\Below B X w':=by
 have hal:=bnew X (.cells #[.string x] 9);have hj:=heap_alloc_new X (.cells #[.string x] 9);obtain⟨ad,cap,w',h1,h2,h3,h4⟩:=run_st (m:=1) (c:=1) (news:=stL x) (own_below ho hal) (Nat.le_trans hB hal.size) (.inr ⟨_,rfl,rfl,fun j u hu=>by
  rw [add_at,Nat.zero_add,cell_blk hj];simpa using hu⟩) (fun u hu=>by
   simp at hu;subst hu;rfl) (by omega)
 refine⟨ad,cap,w',h1,by simpa using h2,(hal.mono hB).grown h3 (Nat.le_trans hB hal.size) (fun k hk=>(own_ge ho k hk).1)⟩
theorem pushN{X:World}{B:Nat}{l:List Int}{v:Value}(ho:X.ownsRow B 3 1 v l.length (l.flatMap inL))(hB:B<=X.heap.size)(x:Int)(hz:l.length<=100000000):
  ∃ ad cap w',(Builtin.append_ #[85,85] 85 #[v,.slice (some ⟨X.heap.size,0,none⟩) 1 1]).run Tryz.prog (X.alloc (.cells #[.int .i64 x] 3))=.ok (.slice ad (l.length+1) cap) w'/\w'.ownsRow B 3 1 (.slice ad (l.length+1) cap) (l ++ [x]).length ((l ++ [x]).flatMap inL)/\Below B X w':=by
 have hal:=bnew X (.cells #[.int .i64 x] 3);have hj:=heap_alloc_new X (.cells #[.int .i64 x] 3);obtain⟨ad,cap,w',h1,h2,h3,h4⟩:=run_in (m:=1) (c:=1) (news:=inL x) (own_below ho hal) (Nat.le_trans hB hal.size) (.inr ⟨_,rfl,rfl,fun j u hu=>by
  rw [add_at,Nat.zero_add,cell_blk hj];simpa using hu⟩) (fun u hu=>by
   simp at hu;subst hu;rfl) (by omega)
 refine⟨ad,cap,w',h1,by simpa using h2,(hal.mono hB).grown h3 (Nat.le_trans hB hal.size) (fun k hk=>(own_ge ho k hk).1)⟩
theorem parts_noC{L:List Col}{i:Nat}(hi:i<L.length)(h:nameB L[i].nm=false\/stB L[i].st=false):partsB Col.nm Col.st L=false:=by
 unfold partsB;have:L.all (fun x=>nameB x.nm && stB x.st)=false:=by
  rw [List.all_eq_false];refine⟨L[i],List.getElem_mem hi,?_⟩;rcases h with h | h <;> simp [h]
 rw [this];rfl
theorem partsC_any{L:List Col}{v:Value}(hL:Lr colE 7 w L v)(hz:L.length<=1000000):Calls Tryz.prog 147 #[v,.func (.func 118) #[] #[]] w fun e w'=>e=.returned (.bool (partsB Col.nm Col.st L))/\Below w.heap.size w w':=by
 obtain⟨ad,cap,rfl,_,z1,z2,hX⟩:=hL;have hmx:(L.length:Int)<=9223372036854775807:=by unfold maxLen at z2;omega
 have HX:=lh hX;have HZ:=lh hz;clear hX z1 z2 hz;go_enter Tryz.func147,Tryz.ntmps147;go_wp2;go_loopw [5,10] (fun nv iv wr=>∃ i:Nat,i<=L.length/\iv=.int .i64 (i:Int)/\(∀ j (hj:j<L.length),j<i->nameB L[j].nm=true/\stB L[j].st=true)/\wr.ownsRow w.heap.size 9 1 nv ((L.take i).map Col.nm).length (((L.take i).map Col.nm).flatMap stL)/\Below w.heap.size w wr) (fun _ iv _=>L.length - (intOf iv).toNat)
 case atStart=>exact⟨0,Nat.zero_le _,rfl,fun j _ hj=>by omega,World.ownsRow_nil _ _ 9 1,Below.refl _ _⟩
 case round =>
  obtain⟨i,hi,rfl,hno,ho,hb⟩:=hrel;obtain⟨V,rfl⟩:∃ V,V=wr:=⟨_,rfl⟩
  have HN:=lh hno;have HB:=lh hb;have HO:=lh ho;obtain⟨nad,ncap,hsh⟩:=own_shape ho;have hln:((L.take i).map Col.nm).length=i:=by rw [List.length_map,List.length_take];omega
  rw [hln]at hsh;subst hsh;clear hno ho;by_cases hlt:i<L.length
  ·have k0:(0:Int)<=i:=by omega
   have k1:(i:Int)<L.length:=by omega
   obtain⟨b,p,cs,rfl,hbl,hE,_,hcell⟩:=HX.out i hlt;cases hE;obtain⟨x,hx⟩:∃ x,L[i]=x:=⟨_,rfl⟩
   have HNX:Hid (nameB x.nm=false\/stB x.st=false->partsB Col.nm Col.st L=false):=fun q=>parts_noC hlt (by rw [hx];exact q);have HNY:Hid (nameB x.nm=true->stB x.st=true->∀ j (hj:j<L.length),j<i+1->nameB L[j].nm=true/\stB L[j].st=true):=fun q1 q2 j hj hji=>by
    rcases Nat.lt_or_ge j i with z | z
    ·exact HN.out j hj z
    ·obtain rfl:j=i:=by omega
     rw [hx];exact⟨q1,q2⟩
   have HTK:Hid ((L.take (i+1)).map Col.nm=(L.take i).map Col.nm ++ [x.nm]):=by
    rw [List.take_succ_eq_append_getElem hlt,hx,List.map_append];exact lh rfl
   rw [hx]at hcell;have hcall:=ofC_any (w:=V) (B:=b) (q:=p+i*7) (x:=x) ⟨_,rfl,fun j u hu=>cell_on hb (hcell j u hu)⟩;have cst:V.cell? ⟨b,p+i*7+3,none⟩=some (.int .i64 x.st):=cell_on hb (hcell 3 _ rfl);have HS:=lh cst;clear hcell hx hb hbl cst;go_wp2_with (go_at_call 118;refine hcall.mono ?_;rintro e w1 ⟨rfl,b1⟩;refine Hid.out ?_)
   refine lh ?_;obtain⟨V1,hV1⟩:∃ V1,V1=w1.alloc (.cells #[.int .i64 x.id,.string x.nm,.pointer (some ⟨b,p+i*7+3,none⟩)] 222):=⟨_,rfl⟩
   obtain⟨Q,hQ⟩:∃ Q,w1.heap.size=Q:=⟨_,rfl⟩
   have jQ:V1.heap[Q]?=some (.cells #[.int .i64 x.id,.string x.nm,.pointer (some ⟨b,p+i*7+3,none⟩)] 222 (0,0)):=by rw [hV1,<-hQ];exact heap_alloc_new w1 _
   have bV:Below V.heap.size V V1:=bgo b1 (by rw [hV1];exact bnew _ _);have g1:V1.cell? ⟨Q,1,none⟩=some (.string x.nm):=cell_blk jQ 1;have g2:V1.cell? ⟨Q,2,none⟩=some (.pointer (some ⟨b,p+i*7+3,none⟩)):=cell_blk jQ 2;have g3:V1.cell? ⟨b,p+i*7+3,none⟩=some (.int .i64 x.st):=cell_on bV HS.out;have hname:=name_any (w:=V1) x.nm;have BV:=lh (bgo HB.out bV);obtain⟨nad2,ncap2,w2,hrun,r1,r2⟩:=pushS (own_below HO.out bV) (bgo HB.out bV).size x.nm (by rw [hln];have:=HZ.out;omega);rw [hln]at hrun r1;rw [<-HTK.out]at r1;have R1:=lh r1;have R2:=lh ((bgo HB.out bV).trans r2);have HV1:=lh hV1;have HQ:=lh hQ;obtain⟨st,hst⟩:∃ st,x.st=st:=⟨_,rfl⟩
   rw [hst]at g3 HNX HNY;clear b1 hV1 hQ jQ bV r1 r2 hcall hln HS hst;go_upto_region 6 with fail
   rw [<-HV1.out,HQ.out];cases q1:nameB x.nm with
   | false =>
    rw [q1]at hname;have HR:=lh (HNX.out (.inl q1));clear q1 hrun;go_wp2_with fail
    refine hname.mono ?_;rintro e w3 ⟨rfl,rfl⟩;clear hname;go_wp2;go_ret;exact⟨by rw [HR.out];rfl,BV.out⟩
   | true =>
    rw [q1]at hname;by_cases q2:st<1
    ·have HR:=lh (HNX.out (.inr (by unfold stB;simp;omega)));clear q1 hrun;go_wp2_with fail
     refine hname.mono ?_;rintro e w3 ⟨rfl,rfl⟩;clear hname;go_wp2;go_ret;exact⟨by rw [HR.out];rfl,BV.out⟩
    ·by_cases q3:3<st
     ·have HR:=lh (HNX.out (.inr (by unfold stB;simp;omega)));clear q1 hrun;go_wp2_with fail
      refine hname.mono ?_;rintro e w3 ⟨rfl,rfl⟩;clear hname;go_wp2;go_ret;exact⟨by rw [HR.out];rfl,BV.out⟩
     ·have HY:=lh (HNY.out q1 (by unfold stB;simp;omega));clear q1;go_wp2_with fail
      refine hname.mono ?_;rintro e w3 ⟨rfl,rfl⟩;clear hname;go_wp2_with (at_builtin;refine wpl_run2 _ _ rfl (by simp [Act.eval]) (by simp [Act.eval]) hrun ?_)
      go_roundw
      case rel=>exact⟨i+1,hlt,by go_num,HY.out,by
       have:=R1.out;have hl2:((L.take (i+1)).map Col.nm).length=i+1:=by rw [List.length_map,List.length_take];omega
       exact this,R2.out⟩
      case measure=>simp [intOf];omega
  ·have k1:¬ (i:Int)<L.length:=by omega
   obtain rfl:i=L.length:=by omega
   have ho:=HO.out;rw [List.take_length]at ho;have hN:=HN.out;have hcall:=unlikeS_any (w:=V) (Lr.own stL_len ho) (fun y hy=>by
    obtain⟨z,hz,rfl⟩:=List.mem_map.1 hy;obtain⟨j,hj,rfl⟩:=List.getElem_of_mem hz;have:=nameB_sz (hN j hj hj).1;unfold okS maxLen;omega)
   have HR:Hid (partsB Col.nm Col.st L=decide (L.map Col.nm).Nodup):=by
    unfold partsB;have:L.all (fun x=>nameB x.nm && stB x.st)=true:=by
     rw [List.all_eq_true];intro y hy;obtain⟨j,hj,rfl⟩:=List.getElem_of_mem hy;rw [(hN j hj hj).1,(hN j hj hj).2];rfl
    rw [this];exact lh rfl
   obtain⟨r,hr⟩:∃ r,decide (L.map Col.nm).Nodup=r:=⟨_,rfl⟩
   rw [hr]at hcall HR;clear ho hN hr hb hln;go_wp2_with fail
   refine hcall.mono ?_;rintro e w1 ⟨rfl,b1⟩;go_wp2;go_ret;exact⟨by rw [HR.out];rfl,bgo HB.out b1⟩
theorem idsC_any{w0:World}{I:List Int}{L:List Col}{u v:Value}(hu:w.ownsRow w0.heap.size 3 1 u I.length (I.flatMap inL))(h0:Below w0.heap.size w0 w)(hL:Lr colE 7 w0 L v)(hz:L.length<=1000000)(hzi:I.length<=10000000):Calls Tryz.prog 150 #[u,v,.func (.func 118) #[] #[]] w fun e w'=>∃ ad cap,e=.returned (.slice ad (I.length+L.length) cap)/\w'.ownsRow w0.heap.size 3 1 (.slice ad (I.length+L.length) cap) (I.length+L.length) ((I ++ L.map Col.id).flatMap inL)/\Below w0.heap.size w w':=by
 obtain⟨ad,cap,rfl,_,z1,z2,hX⟩:=hL;have hmx:(L.length:Int)<=9223372036854775807:=by unfold maxLen at z2;omega
 have HX:=lh hX;have HZ:=lh (And.intro hz hzi);have HU:=lh hu;have HBB:=lh h0;obtain⟨uad,ucap,hus⟩:=own_shape hu;subst hus;clear hX z1 z2 hz hzi hu h0;go_enter Tryz.func150,Tryz.ntmps150;go_wp2;go_loopw [0,10] (fun uv iv wr=>∃ i:Nat,i<=L.length/\iv=.int .i64 (i:Int)/\wr.ownsRow w0.heap.size 3 1 uv (I ++ (L.take i).map Col.id).length ((I ++ (L.take i).map Col.id).flatMap inL)/\Below w0.heap.size w wr) (fun _ iv _=>L.length - (intOf iv).toNat)
 case atStart=>exact⟨0,Nat.zero_le _,rfl,by rw [List.take_zero,List.map_nil,List.append_nil];exact HU.out,Below.refl _ _⟩
 case round =>
  obtain⟨i,hi,rfl,ho,hb⟩:=hrel;obtain⟨V,rfl⟩:∃ V,V=wr:=⟨_,rfl⟩
  have HB:=lh hb;have HO:=lh ho;obtain⟨nad,ncap,hsh⟩:=own_shape ho;obtain⟨N,hN⟩:∃ N,(I ++ (L.take i).map Col.id).length=N:=⟨_,rfl⟩
  rw [hN]at hsh;subst hsh;have HNN:=lh hN;clear ho hN;by_cases hlt:i<L.length
  ·have k0:(0:Int)<=i:=by omega
   have k1:(i:Int)<L.length:=by omega
   obtain⟨b,p,cs,rfl,hbl,hE,_,hcell⟩:=HX.out i hlt;cases hE;obtain⟨x,hx⟩:∃ x,L[i]=x:=⟨_,rfl⟩
   have hbB:=HBB.out.trans hb;have HTK:Hid (I ++ (L.take (i+1)).map Col.id=(I ++ (L.take i).map Col.id) ++ [x.id]):=by
    rw [List.take_succ_eq_append_getElem hlt,hx,List.map_append,List.append_assoc];exact lh rfl
   rw [hx]at hcell;have hcall:=ofC_any (w:=V) (B:=b) (q:=p+i*7) (x:=x) ⟨_,rfl,fun j u hu=>cell_on hbB (hcell j u hu)⟩;have hfd:=field156_0;clear hcell hx hb hbl hbB;go_wp2_with (go_at_call 118;refine hcall.mono ?_;rintro e w1 ⟨rfl,b1⟩;refine Hid.out ?_)
   refine lh ?_;have hBV:w0.heap.size<=V.heap.size:=Nat.le_trans HBB.out.size HB.out.size;obtain⟨nad2,ncap2,w2,hrun,r1,r2⟩:=pushN (own_below HO.out b1) (Nat.le_trans hBV b1.size) x.id (by
    have z1:=HZ.out.1;have z2:=HZ.out.2;rw [List.length_append,List.length_map,List.length_take];omega)
   rw [HNN.out]at hrun r1;rw [<-HTK.out]at r1;have R1:=lh r1;have R2:=lh (HB.out.trans ((b1.mono hBV).trans r2));clear b1 r1 r2 hcall hBV;go_wp2_with (at_builtin;refine wpl_run2 _ _ rfl (by simp [Act.eval]) (by simp [Act.eval]) hrun ?_)
   go_roundw
   case rel=>exact⟨i+1,hlt,by go_num,R1.out,R2.out⟩
   case measure=>simp [intOf];omega
  ·have k1:¬ (i:Int)<L.length:=by omega
   obtain rfl:i=L.length:=by omega
   have ho:=HO.out;rw [List.take_length]at ho;have hN2:=HNN.out;rw [List.take_length]at hN2;rw [hN2]at ho;rw [List.length_append,List.length_map]at hN2;have HO2:=lh ho;have HN2:=lh hN2;clear ho hb hN2;go_wp2;go_ret;exact⟨nad,ncap,by rw [HN2.out];rfl,by rw [HN2.out,<-List.flatMap_append];exact HO2.out,HB.out⟩
theorem parts_noI{L:List Ix}{i:Nat}(hi:i<L.length)(h:nameB L[i].nm=false\/stB L[i].st=false):partsB Ix.nm Ix.st L=false:=by
 unfold partsB;have:L.all (fun x=>nameB x.nm && stB x.st)=false:=by
  rw [List.all_eq_false];refine⟨L[i],List.getElem_mem hi,?_⟩;rcases h with h | h <;> simp [h]
 rw [this];rfl
theorem partsI_any{L:List Ix}{v:Value}(hL:Lr ixE 5 w L v)(hz:L.length<=1000000):Calls Tryz.prog 148 #[v,.func (.func 122) #[] #[]] w fun e w'=>e=.returned (.bool (partsB Ix.nm Ix.st L))/\Below w.heap.size w w':=by
 obtain⟨ad,cap,rfl,_,z1,z2,hX⟩:=hL;have hmx:(L.length:Int)<=9223372036854775807:=by unfold maxLen at z2;omega
 have HX:=lh hX;have HZ:=lh hz;clear hX z1 z2 hz;go_enter Tryz.func148,Tryz.ntmps148;go_wp2;go_loopw [5,10] (fun nv iv wr=>∃ i:Nat,i<=L.length/\iv=.int .i64 (i:Int)/\(∀ j (hj:j<L.length),j<i->nameB L[j].nm=true/\stB L[j].st=true)/\wr.ownsRow w.heap.size 9 1 nv ((L.take i).map Ix.nm).length (((L.take i).map Ix.nm).flatMap stL)/\Below w.heap.size w wr) (fun _ iv _=>L.length - (intOf iv).toNat)
 case atStart=>exact⟨0,Nat.zero_le _,rfl,fun j _ hj=>by omega,World.ownsRow_nil _ _ 9 1,Below.refl _ _⟩
 case round =>
  obtain⟨i,hi,rfl,hno,ho,hb⟩:=hrel;obtain⟨V,rfl⟩:∃ V,V=wr:=⟨_,rfl⟩
  have HN:=lh hno;have HB:=lh hb;have HO:=lh ho;obtain⟨nad,ncap,hsh⟩:=own_shape ho;have hln:((L.take i).map Ix.nm).length=i:=by rw [List.length_map,List.length_take];omega
  rw [hln]at hsh;subst hsh;clear hno ho;by_cases hlt:i<L.length
  ·have k0:(0:Int)<=i:=by omega
   have k1:(i:Int)<L.length:=by omega
   obtain⟨b,p,cs,rfl,hbl,hE,_,hcell⟩:=HX.out i hlt;cases hE;obtain⟨x,hx⟩:∃ x,L[i]=x:=⟨_,rfl⟩
   have HNX:Hid (nameB x.nm=false\/stB x.st=false->partsB Ix.nm Ix.st L=false):=fun q=>parts_noI hlt (by rw [hx];exact q);have HNY:Hid (nameB x.nm=true->stB x.st=true->∀ j (hj:j<L.length),j<i+1->nameB L[j].nm=true/\stB L[j].st=true):=fun q1 q2 j hj hji=>by
    rcases Nat.lt_or_ge j i with z | z
    ·exact HN.out j hj z
    ·obtain rfl:j=i:=by omega
     rw [hx];exact⟨q1,q2⟩
   have HTK:Hid ((L.take (i+1)).map Ix.nm=(L.take i).map Ix.nm ++ [x.nm]):=by
    rw [List.take_succ_eq_append_getElem hlt,hx,List.map_append];exact lh rfl
   rw [hx]at hcell;have hcall:=ofI_any (w:=V) (B:=b) (q:=p+i*5) (x:=x) ⟨_,rfl,fun j u hu=>cell_on hb (hcell j u hu)⟩;have cst:V.cell? ⟨b,p+i*5+4,none⟩=some (.int .i64 x.st):=cell_on hb (hcell 4 _ rfl);have HS:=lh cst;clear hcell hx hb hbl cst;go_wp2_with (go_at_call 122;refine hcall.mono ?_;rintro e w1 ⟨rfl,b1⟩;refine Hid.out ?_)
   refine lh ?_;obtain⟨V1,hV1⟩:∃ V1,V1=w1.alloc (.cells #[.int .i64 x.id,.string x.nm,.pointer (some ⟨b,p+i*5+4,none⟩)] 222):=⟨_,rfl⟩
   obtain⟨Q,hQ⟩:∃ Q,w1.heap.size=Q:=⟨_,rfl⟩
   have jQ:V1.heap[Q]?=some (.cells #[.int .i64 x.id,.string x.nm,.pointer (some ⟨b,p+i*5+4,none⟩)] 222 (0,0)):=by rw [hV1,<-hQ];exact heap_alloc_new w1 _
   have bV:Below V.heap.size V V1:=bgo b1 (by rw [hV1];exact bnew _ _);have g1:V1.cell? ⟨Q,1,none⟩=some (.string x.nm):=cell_blk jQ 1;have g2:V1.cell? ⟨Q,2,none⟩=some (.pointer (some ⟨b,p+i*5+4,none⟩)):=cell_blk jQ 2;have g3:V1.cell? ⟨b,p+i*5+4,none⟩=some (.int .i64 x.st):=cell_on bV HS.out;have hname:=name_any (w:=V1) x.nm;have BV:=lh (bgo HB.out bV);obtain⟨nad2,ncap2,w2,hrun,r1,r2⟩:=pushS (own_below HO.out bV) (bgo HB.out bV).size x.nm (by rw [hln];have:=HZ.out;omega);rw [hln]at hrun r1;rw [<-HTK.out]at r1;have R1:=lh r1;have R2:=lh ((bgo HB.out bV).trans r2);have HV1:=lh hV1;have HQ:=lh hQ;obtain⟨st,hst⟩:∃ st,x.st=st:=⟨_,rfl⟩
   rw [hst]at g3 HNX HNY;clear b1 hV1 hQ jQ bV r1 r2 hcall hln HS hst;go_upto_region 6 with fail
   rw [<-HV1.out,HQ.out];cases q1:nameB x.nm with
   | false =>
    rw [q1]at hname;have HR:=lh (HNX.out (.inl q1));clear q1 hrun;go_wp2_with fail
    refine hname.mono ?_;rintro e w3 ⟨rfl,rfl⟩;clear hname;go_wp2;go_ret;exact⟨by rw [HR.out];rfl,BV.out⟩
   | true =>
    rw [q1]at hname;by_cases q2:st<1
    ·have HR:=lh (HNX.out (.inr (by unfold stB;simp;omega)));clear q1 hrun;go_wp2_with fail
     refine hname.mono ?_;rintro e w3 ⟨rfl,rfl⟩;clear hname;go_wp2;go_ret;exact⟨by rw [HR.out];rfl,BV.out⟩
    ·by_cases q3:3<st
     ·have HR:=lh (HNX.out (.inr (by unfold stB;simp;omega)));clear q1 hrun;go_wp2_with fail
      refine hname.mono ?_;rintro e w3 ⟨rfl,rfl⟩;clear hname;go_wp2;go_ret;exact⟨by rw [HR.out];rfl,BV.out⟩
     ·have HY:=lh (HNY.out q1 (by unfold stB;simp;omega));clear q1;go_wp2_with fail
      refine hname.mono ?_;rintro e w3 ⟨rfl,rfl⟩;clear hname;go_wp2_with (at_builtin;refine wpl_run2 _ _ rfl (by simp [Act.eval]) (by simp [Act.eval]) hrun ?_)
      go_roundw
      case rel=>exact⟨i+1,hlt,by go_num,HY.out,by
       have:=R1.out;have hl2:((L.take (i+1)).map Ix.nm).length=i+1:=by rw [List.length_map,List.length_take];omega
       exact this,R2.out⟩
      case measure=>simp [intOf];omega
  ·have k1:¬ (i:Int)<L.length:=by omega
   obtain rfl:i=L.length:=by omega
   have ho:=HO.out;rw [List.take_length]at ho;have hN:=HN.out;have hcall:=unlikeS_any (w:=V) (Lr.own stL_len ho) (fun y hy=>by
    obtain⟨z,hz,rfl⟩:=List.mem_map.1 hy;obtain⟨j,hj,rfl⟩:=List.getElem_of_mem hz;have:=nameB_sz (hN j hj hj).1;unfold okS maxLen;omega)
   have HR:Hid (partsB Ix.nm Ix.st L=decide (L.map Ix.nm).Nodup):=by
    unfold partsB;have:L.all (fun x=>nameB x.nm && stB x.st)=true:=by
     rw [List.all_eq_true];intro y hy;obtain⟨j,hj,rfl⟩:=List.getElem_of_mem hy;rw [(hN j hj hj).1,(hN j hj hj).2];rfl
    rw [this];exact lh rfl
   obtain⟨r,hr⟩:∃ r,decide (L.map Ix.nm).Nodup=r:=⟨_,rfl⟩
   rw [hr]at hcall HR;clear ho hN hr hb hln;go_wp2_with fail
   refine hcall.mono ?_;rintro e w1 ⟨rfl,b1⟩;go_wp2;go_ret;exact⟨by rw [HR.out];rfl,bgo HB.out b1⟩
theorem idsI_any{w0:World}{I:List Int}{L:List Ix}{u v:Value}(hu:w.ownsRow w0.heap.size 3 1 u I.length (I.flatMap inL))(h0:Below w0.heap.size w0 w)(hL:Lr ixE 5 w0 L v)(hz:L.length<=1000000)(hzi:I.length<=10000000):Calls Tryz.prog 151 #[u,v,.func (.func 122) #[] #[]] w fun e w'=>∃ ad cap,e=.returned (.slice ad (I.length+L.length) cap)/\w'.ownsRow w0.heap.size 3 1 (.slice ad (I.length+L.length) cap) (I.length+L.length) ((I ++ L.map Ix.id).flatMap inL)/\Below w0.heap.size w w':=by
 obtain⟨ad,cap,rfl,_,z1,z2,hX⟩:=hL;have hmx:(L.length:Int)<=9223372036854775807:=by unfold maxLen at z2;omega
 have HX:=lh hX;have HZ:=lh (And.intro hz hzi);have HU:=lh hu;have HBB:=lh h0;obtain⟨uad,ucap,hus⟩:=own_shape hu;subst hus;clear hX z1 z2 hz hzi hu h0;go_enter Tryz.func151,Tryz.ntmps151;go_wp2;go_loopw [0,10] (fun uv iv wr=>∃ i:Nat,i<=L.length/\iv=.int .i64 (i:Int)/\wr.ownsRow w0.heap.size 3 1 uv (I ++ (L.take i).map Ix.id).length ((I ++ (L.take i).map Ix.id).flatMap inL)/\Below w0.heap.size w wr) (fun _ iv _=>L.length - (intOf iv).toNat)
 case atStart=>exact⟨0,Nat.zero_le _,rfl,by rw [List.take_zero,List.map_nil,List.append_nil];exact HU.out,Below.refl _ _⟩
 case round =>
  obtain⟨i,hi,rfl,ho,hb⟩:=hrel;obtain⟨V,rfl⟩:∃ V,V=wr:=⟨_,rfl⟩
  have HB:=lh hb;have HO:=lh ho;obtain⟨nad,ncap,hsh⟩:=own_shape ho;obtain⟨N,hN⟩:∃ N,(I ++ (L.take i).map Ix.id).length=N:=⟨_,rfl⟩
  rw [hN]at hsh;subst hsh;have HNN:=lh hN;clear ho hN;by_cases hlt:i<L.length
  ·have k0:(0:Int)<=i:=by omega
   have k1:(i:Int)<L.length:=by omega
   obtain⟨b,p,cs,rfl,hbl,hE,_,hcell⟩:=HX.out i hlt;cases hE;obtain⟨x,hx⟩:∃ x,L[i]=x:=⟨_,rfl⟩
   have hbB:=HBB.out.trans hb;have HTK:Hid (I ++ (L.take (i+1)).map Ix.id=(I ++ (L.take i).map Ix.id) ++ [x.id]):=by
    rw [List.take_succ_eq_append_getElem hlt,hx,List.map_append,List.append_assoc];exact lh rfl
   rw [hx]at hcell;have hcall:=ofI_any (w:=V) (B:=b) (q:=p+i*5) (x:=x) ⟨_,rfl,fun j u hu=>cell_on hbB (hcell j u hu)⟩;have hfd:=field156_0;clear hcell hx hb hbl hbB;go_wp2_with (go_at_call 122;refine hcall.mono ?_;rintro e w1 ⟨rfl,b1⟩;refine Hid.out ?_)
   refine lh ?_;have hBV:w0.heap.size<=V.heap.size:=Nat.le_trans HBB.out.size HB.out.size;obtain⟨nad2,ncap2,w2,hrun,r1,r2⟩:=pushN (own_below HO.out b1) (Nat.le_trans hBV b1.size) x.id (by
    have z1:=HZ.out.1;have z2:=HZ.out.2;rw [List.length_append,List.length_map,List.length_take];omega)
   rw [HNN.out]at hrun r1;rw [<-HTK.out]at r1;have R1:=lh r1;have R2:=lh (HB.out.trans ((b1.mono hBV).trans r2));clear b1 r1 r2 hcall hBV;go_wp2_with (at_builtin;refine wpl_run2 _ _ rfl (by simp [Act.eval]) (by simp [Act.eval]) hrun ?_)
   go_roundw
   case rel=>exact⟨i+1,hlt,by go_num,R1.out,R2.out⟩
   case measure=>simp [intOf];omega
  ·have k1:¬ (i:Int)<L.length:=by omega
   obtain rfl:i=L.length:=by omega
   have ho:=HO.out;rw [List.take_length]at ho;have hN2:=HNN.out;rw [List.take_length]at hN2;rw [hN2]at ho;rw [List.length_append,List.length_map]at hN2;have HO2:=lh ho;have HN2:=lh hN2;clear ho hb hN2;go_wp2;go_ret;exact⟨nad,ncap,by rw [HN2.out];rfl,by rw [HN2.out,<-List.flatMap_append];exact HO2.out,HB.out⟩
theorem parts_noK{L:List Fk}{i:Nat}(hi:i<L.length)(h:nameB L[i].nm=false\/stB L[i].st=false):partsB Fk.nm Fk.st L=false:=by
 unfold partsB;have:L.all (fun x=>nameB x.nm && stB x.st)=false:=by
  rw [List.all_eq_false];refine⟨L[i],List.getElem_mem hi,?_⟩;rcases h with h | h <;> simp [h]
 rw [this];rfl
theorem partsK_any{L:List Fk}{v:Value}(hL:Lr fkE 5 w L v)(hz:L.length<=1000000):Calls Tryz.prog 149 #[v,.func (.func 126) #[] #[]] w fun e w'=>e=.returned (.bool (partsB Fk.nm Fk.st L))/\Below w.heap.size w w':=by
 obtain⟨ad,cap,rfl,_,z1,z2,hX⟩:=hL;have hmx:(L.length:Int)<=9223372036854775807:=by unfold maxLen at z2;omega
 have HX:=lh hX;have HZ:=lh hz;clear hX z1 z2 hz;go_enter Tryz.func149,Tryz.ntmps149;go_wp2;go_loopw [5,10] (fun nv iv wr=>∃ i:Nat,i<=L.length/\iv=.int .i64 (i:Int)/\(∀ j (hj:j<L.length),j<i->nameB L[j].nm=true/\stB L[j].st=true)/\wr.ownsRow w.heap.size 9 1 nv ((L.take i).map Fk.nm).length (((L.take i).map Fk.nm).flatMap stL)/\Below w.heap.size w wr) (fun _ iv _=>L.length - (intOf iv).toNat)
 case atStart=>exact⟨0,Nat.zero_le _,rfl,fun j _ hj=>by omega,World.ownsRow_nil _ _ 9 1,Below.refl _ _⟩
 case round =>
  obtain⟨i,hi,rfl,hno,ho,hb⟩:=hrel;obtain⟨V,rfl⟩:∃ V,V=wr:=⟨_,rfl⟩
  have HN:=lh hno;have HB:=lh hb;have HO:=lh ho;obtain⟨nad,ncap,hsh⟩:=own_shape ho;have hln:((L.take i).map Fk.nm).length=i:=by rw [List.length_map,List.length_take];omega
  rw [hln]at hsh;subst hsh;clear hno ho;by_cases hlt:i<L.length
  ·have k0:(0:Int)<=i:=by omega
   have k1:(i:Int)<L.length:=by omega
   obtain⟨b,p,cs,rfl,hbl,hE,_,hcell⟩:=HX.out i hlt;cases hE;obtain⟨x,hx⟩:∃ x,L[i]=x:=⟨_,rfl⟩
   have HNX:Hid (nameB x.nm=false\/stB x.st=false->partsB Fk.nm Fk.st L=false):=fun q=>parts_noK hlt (by rw [hx];exact q);have HNY:Hid (nameB x.nm=true->stB x.st=true->∀ j (hj:j<L.length),j<i+1->nameB L[j].nm=true/\stB L[j].st=true):=fun q1 q2 j hj hji=>by
    rcases Nat.lt_or_ge j i with z | z
    ·exact HN.out j hj z
    ·obtain rfl:j=i:=by omega
     rw [hx];exact⟨q1,q2⟩
   have HTK:Hid ((L.take (i+1)).map Fk.nm=(L.take i).map Fk.nm ++ [x.nm]):=by
    rw [List.take_succ_eq_append_getElem hlt,hx,List.map_append];exact lh rfl
   rw [hx]at hcell;have hcall:=ofK_any (w:=V) (B:=b) (q:=p+i*5) (x:=x) ⟨_,rfl,fun j u hu=>cell_on hb (hcell j u hu)⟩;have cst:V.cell? ⟨b,p+i*5+4,none⟩=some (.int .i64 x.st):=cell_on hb (hcell 4 _ rfl);have HS:=lh cst;clear hcell hx hb hbl cst;go_wp2_with (go_at_call 126;refine hcall.mono ?_;rintro e w1 ⟨rfl,b1⟩;refine Hid.out ?_)
   refine lh ?_;obtain⟨V1,hV1⟩:∃ V1,V1=w1.alloc (.cells #[.int .i64 x.id,.string x.nm,.pointer (some ⟨b,p+i*5+4,none⟩)] 222):=⟨_,rfl⟩
   obtain⟨Q,hQ⟩:∃ Q,w1.heap.size=Q:=⟨_,rfl⟩
   have jQ:V1.heap[Q]?=some (.cells #[.int .i64 x.id,.string x.nm,.pointer (some ⟨b,p+i*5+4,none⟩)] 222 (0,0)):=by rw [hV1,<-hQ];exact heap_alloc_new w1 _
   have bV:Below V.heap.size V V1:=bgo b1 (by rw [hV1];exact bnew _ _);have g1:V1.cell? ⟨Q,1,none⟩=some (.string x.nm):=cell_blk jQ 1;have g2:V1.cell? ⟨Q,2,none⟩=some (.pointer (some ⟨b,p+i*5+4,none⟩)):=cell_blk jQ 2;have g3:V1.cell? ⟨b,p+i*5+4,none⟩=some (.int .i64 x.st):=cell_on bV HS.out;have hname:=name_any (w:=V1) x.nm;have BV:=lh (bgo HB.out bV);obtain⟨nad2,ncap2,w2,hrun,r1,r2⟩:=pushS (own_below HO.out bV) (bgo HB.out bV).size x.nm (by rw [hln];have:=HZ.out;omega);rw [hln]at hrun r1;rw [<-HTK.out]at r1;have R1:=lh r1;have R2:=lh ((bgo HB.out bV).trans r2);have HV1:=lh hV1;have HQ:=lh hQ;obtain⟨st,hst⟩:∃ st,x.st=st:=⟨_,rfl⟩
   rw [hst]at g3 HNX HNY;clear b1 hV1 hQ jQ bV r1 r2 hcall hln HS hst;go_upto_region 6 with fail
   rw [<-HV1.out,HQ.out];cases q1:nameB x.nm with
   | false =>
    rw [q1]at hname;have HR:=lh (HNX.out (.inl q1));clear q1 hrun;go_wp2_with fail
    refine hname.mono ?_;rintro e w3 ⟨rfl,rfl⟩;clear hname;go_wp2;go_ret;exact⟨by rw [HR.out];rfl,BV.out⟩
   | true =>
    rw [q1]at hname;by_cases q2:st<1
    ·have HR:=lh (HNX.out (.inr (by unfold stB;simp;omega)));clear q1 hrun;go_wp2_with fail
     refine hname.mono ?_;rintro e w3 ⟨rfl,rfl⟩;clear hname;go_wp2;go_ret;exact⟨by rw [HR.out];rfl,BV.out⟩
    ·by_cases q3:3<st
     ·have HR:=lh (HNX.out (.inr (by unfold stB;simp;omega)));clear q1 hrun;go_wp2_with fail
      refine hname.mono ?_;rintro e w3 ⟨rfl,rfl⟩;clear hname;go_wp2;go_ret;exact⟨by rw [HR.out];rfl,BV.out⟩
     ·have HY:=lh (HNY.out q1 (by unfold stB;simp;omega));clear q1;go_wp2_with fail
      refine hname.mono ?_;rintro e w3 ⟨rfl,rfl⟩;clear hname;go_wp2_with (at_builtin;refine wpl_run2 _ _ rfl (by simp [Act.eval]) (by simp [Act.eval]) hrun ?_)
      go_roundw
      case rel=>exact⟨i+1,hlt,by go_num,HY.out,by
       have:=R1.out;have hl2:((L.take (i+1)).map Fk.nm).length=i+1:=by rw [List.length_map,List.length_take];omega
       exact this,R2.out⟩
      case measure=>simp [intOf];omega
  ·have k1:¬ (i:Int)<L.length:=by omega
   obtain rfl:i=L.length:=by omega
   have ho:=HO.out;rw [List.take_length]at ho;have hN:=HN.out;have hcall:=unlikeS_any (w:=V) (Lr.own stL_len ho) (fun y hy=>by
    obtain⟨z,hz,rfl⟩:=List.mem_map.1 hy;obtain⟨j,hj,rfl⟩:=List.getElem_of_mem hz;have:=nameB_sz (hN j hj hj).1;unfold okS maxLen;omega)
   have HR:Hid (partsB Fk.nm Fk.st L=decide (L.map Fk.nm).Nodup):=by
    unfold partsB;have:L.all (fun x=>nameB x.nm && stB x.st)=true:=by
     rw [List.all_eq_true];intro y hy;obtain⟨j,hj,rfl⟩:=List.getElem_of_mem hy;rw [(hN j hj hj).1,(hN j hj hj).2];rfl
    rw [this];exact lh rfl
   obtain⟨r,hr⟩:∃ r,decide (L.map Fk.nm).Nodup=r:=⟨_,rfl⟩
   rw [hr]at hcall HR;clear ho hN hr hb hln;go_wp2_with fail
   refine hcall.mono ?_;rintro e w1 ⟨rfl,b1⟩;go_wp2;go_ret;exact⟨by rw [HR.out];rfl,bgo HB.out b1⟩
theorem idsK_any{w0:World}{I:List Int}{L:List Fk}{u v:Value}(hu:w.ownsRow w0.heap.size 3 1 u I.length (I.flatMap inL))(h0:Below w0.heap.size w0 w)(hL:Lr fkE 5 w0 L v)(hz:L.length<=1000000)(hzi:I.length<=10000000):Calls Tryz.prog 152 #[u,v,.func (.func 126) #[] #[]] w fun e w'=>∃ ad cap,e=.returned (.slice ad (I.length+L.length) cap)/\w'.ownsRow w0.heap.size 3 1 (.slice ad (I.length+L.length) cap) (I.length+L.length) ((I ++ L.map Fk.id).flatMap inL)/\Below w0.heap.size w w':=by
 obtain⟨ad,cap,rfl,_,z1,z2,hX⟩:=hL;have hmx:(L.length:Int)<=9223372036854775807:=by unfold maxLen at z2;omega
 have HX:=lh hX;have HZ:=lh (And.intro hz hzi);have HU:=lh hu;have HBB:=lh h0;obtain⟨uad,ucap,hus⟩:=own_shape hu;subst hus;clear hX z1 z2 hz hzi hu h0;go_enter Tryz.func152,Tryz.ntmps152;go_wp2;go_loopw [0,10] (fun uv iv wr=>∃ i:Nat,i<=L.length/\iv=.int .i64 (i:Int)/\wr.ownsRow w0.heap.size 3 1 uv (I ++ (L.take i).map Fk.id).length ((I ++ (L.take i).map Fk.id).flatMap inL)/\Below w0.heap.size w wr) (fun _ iv _=>L.length - (intOf iv).toNat)
 case atStart=>exact⟨0,Nat.zero_le _,rfl,by rw [List.take_zero,List.map_nil,List.append_nil];exact HU.out,Below.refl _ _⟩
 case round =>
  obtain⟨i,hi,rfl,ho,hb⟩:=hrel;obtain⟨V,rfl⟩:∃ V,V=wr:=⟨_,rfl⟩
  have HB:=lh hb;have HO:=lh ho;obtain⟨nad,ncap,hsh⟩:=own_shape ho;obtain⟨N,hN⟩:∃ N,(I ++ (L.take i).map Fk.id).length=N:=⟨_,rfl⟩
  rw [hN]at hsh;subst hsh;have HNN:=lh hN;clear ho hN;by_cases hlt:i<L.length
  ·have k0:(0:Int)<=i:=by omega
   have k1:(i:Int)<L.length:=by omega
   obtain⟨b,p,cs,rfl,hbl,hE,_,hcell⟩:=HX.out i hlt;cases hE;obtain⟨x,hx⟩:∃ x,L[i]=x:=⟨_,rfl⟩
   have hbB:=HBB.out.trans hb;have HTK:Hid (I ++ (L.take (i+1)).map Fk.id=(I ++ (L.take i).map Fk.id) ++ [x.id]):=by
    rw [List.take_succ_eq_append_getElem hlt,hx,List.map_append,List.append_assoc];exact lh rfl
   rw [hx]at hcell;have hcall:=ofK_any (w:=V) (B:=b) (q:=p+i*5) (x:=x) ⟨_,rfl,fun j u hu=>cell_on hbB (hcell j u hu)⟩;have hfd:=field156_0;clear hcell hx hb hbl hbB;go_wp2_with (go_at_call 126;refine hcall.mono ?_;rintro e w1 ⟨rfl,b1⟩;refine Hid.out ?_)
   refine lh ?_;have hBV:w0.heap.size<=V.heap.size:=Nat.le_trans HBB.out.size HB.out.size;obtain⟨nad2,ncap2,w2,hrun,r1,r2⟩:=pushN (own_below HO.out b1) (Nat.le_trans hBV b1.size) x.id (by
    have z1:=HZ.out.1;have z2:=HZ.out.2;rw [List.length_append,List.length_map,List.length_take];omega)
   rw [HNN.out]at hrun r1;rw [<-HTK.out]at r1;have R1:=lh r1;have R2:=lh (HB.out.trans ((b1.mono hBV).trans r2));clear b1 r1 r2 hcall hBV;go_wp2_with (at_builtin;refine wpl_run2 _ _ rfl (by simp [Act.eval]) (by simp [Act.eval]) hrun ?_)
   go_roundw
   case rel=>exact⟨i+1,hlt,by go_num,R1.out,R2.out⟩
   case measure=>simp [intOf];omega
  ·have k1:¬ (i:Int)<L.length:=by omega
   obtain rfl:i=L.length:=by omega
   have ho:=HO.out;rw [List.take_length]at ho;have hN2:=HNN.out;rw [List.take_length]at hN2;rw [hN2]at ho;rw [List.length_append,List.length_map]at hN2;have HO2:=lh ho;have HN2:=lh hN2;clear ho hb hN2;go_wp2;go_ret;exact⟨nad,ncap,by rw [HN2.out];rfl,by rw [HN2.out,<-List.flatMap_append];exact HO2.out,HB.out⟩
end
end Go.Proofs.YtkhehikaemdnnaaGreat
