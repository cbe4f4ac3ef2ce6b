import Derived.Test.YtkhehikaemdnnaaGreatQLr
namespace Go.Proofs.YtkhehikaemdnnaaGreat
set_option maxRecDepth 100000
set_option maxHeartbeats 16000000
open Go.RowKit Go.Maps
section
variable {w : World}
theorem pushJ{X:World}{base:Nat}{G:List (Jb × Value)}{v:Value}(ho:X.ownsRow base 66 22 v G.length (G.flatMap jrow))(hb:base<=X.heap.size)(j:Jb){ca:Option Addr}{cn cc:Nat}(hz:G.length<=100000):
  ∃ ad cap w',(Builtin.append_ #[32,32] 32 #[v,.slice (some ⟨X.heap.size,0,none⟩) 1 1]).run Tryz.prog (X.alloc (.cells (jbA j (.slice ca cn cc)) 66))=.ok (.slice ad (G.length+1) cap) w'/\w'.ownsRow base 66 22 (.slice ad (G.length+1) cap) (G.length+1) ((G ++ [(j,Value.slice ca cn cc)]).flatMap jrow)/\Fr X w' (fun k=>v.ownBlock=some k):=by
 have hal:=bnew X (.cells (jbA j (.slice ca cn cc)) 66);have hj:=heap_alloc_new X (.cells (jbA j (.slice ca cn cc)) 66);obtain⟨ad,cap,w',h1,h2,h3,_⟩:=run_job (m:=1) (c:=1) (news:=jbL j (.slice ca cn cc)) (own_below ho hal) (Nat.le_trans hb hal.size) (.inr ⟨_,rfl,rfl,fun i u hu=>by
  rw [add_at,Nat.zero_add,cell_blk hj,<-hu,<-Array.getElem?_toList]⟩) (oneJb j ca cn cc) (by omega)
 refine⟨ad,cap,w',h1,?_,((Fr.refl X _).alloc _).grown h3 (fun k hk=>.inl hk)⟩;rw [List.flatMap_append];simpa using h2
structure JobsIn (w:World) (n0:Nat) (J:List (Jb × Value)) (v:Value):Prop where
 row:w.ownsRow n0 66 22 v J.length (J.flatMap jrow)
 co:∀ x ∈ J,w.ownsRow n0 56 7 x.2 x.1.ddl.cols.length (x.1.ddl.cols.flatMap colL)
theorem JobsIn.on{w':World}{n0:Nat}{J:List (Jb × Value)}{v:Value}(h:JobsIn w n0 J v)(hb:Below w.heap.size w w'):JobsIn w' n0 J v:=⟨own_below h.row hb,fun x hx=>own_below (h.co x hx) hb⟩
theorem JobsIn.mono{n0 n1:Nat}{J:List (Jb × Value)}{v:Value}(h:JobsIn w n0 J v)(hn:n1<=n0):JobsIn w n1 J v:=⟨own_mono h.row hn,fun x hx=>own_mono (h.co x hx) hn⟩
def JobsAns(w:World)(js:List Jb)(e:Ending)(w':World):Prop:=∃ J' a c,e=.returned (.slice a js.length c)/\J'.map Prod.fst=js/\JobsIn w' w.heap.size J' (.slice a js.length c)/\Below w.heap.size w w'
theorem jobs_any{B:Nat}{s0 s1:Int}{tv lv jv rv mv:Value}{J:List (Jb × Value)}(hB:w.heap[B]?=some (.cells (bdA s0 s1 tv lv jv rv mv) 88 (0,0)))(hJ:w.ownsRow 0 66 22 jv J.length (J.flatMap jrow))(hc:∀ x ∈ J,Lr colE 7 w x.1.ddl.cols x.2)(hz:∀ x ∈ J,x.1.ddl.cols.length<=1000000)(hJz:J.length<=100000):Calls Tryz.prog 19 #[.pointer (some ⟨B,0,none⟩)] w (JobsAns w (J.map Prod.fst)):=by
 obtain⟨ja,jc,rfl⟩:=own_shape hJ;have c4:w.cell? ⟨B,4,none⟩=some (.slice ja J.length jc):=cell_blk hB 4;have HJ:=lh hJ;have HC:=lh hc;have HZ:=lh hz;have HJZ:=lh hJz;have hmx:(J.length:Int)<=9223372036854775807:=by omega
 clear hB hJ hc hz;go_enter Tryz.func19,Tryz.ntmps19;go_wp2;clear c4;go_loopw [3,13] (fun tv iv wr=>∃ (i:Nat) (G:List (Jb × Value)),i<=J.length/\iv=.int .i64 (i:Int)/\G.map Prod.fst=(J.map Prod.fst).take i/\JobsIn wr w.heap.size G tv/\Below w.heap.size w wr) (fun _ iv _=>J.length - (intOf iv).toNat)
 case atStart=>exact⟨0,[],Nat.zero_le _,rfl,rfl,⟨World.ownsRow_nil _ _ _ _,fun _ h=>by cases h⟩,Below.refl _ _⟩
 case round =>
  obtain⟨i,G,hi,rfl,hG,hD,hb⟩:=hrel;obtain⟨V,rfl⟩:∃ V,V=wr:=⟨_,rfl⟩
  have hGl:G.length=i:=by
   have:=congrArg List.length hG;rw [List.length_map,List.length_take,List.length_map]at this;omega
  obtain⟨tad,tcap,hsh⟩:=own_shape hD.row;subst hsh;have HB:=lh hb;have HD:=lh hD;have HG:=lh hG;have HL:=lh hGl;clear hG hD hGl;by_cases hlt:i<J.length
  ·have k0:(0:Int)<=i:=by omega
   have k1:(i:Int)<J.length:=by omega
   obtain⟨x,hx⟩:∃ x,J[i]=x:=⟨_,rfl⟩
   have hxm:x ∈ J:=hx ▸ List.getElem_mem hlt;obtain⟨j,cv⟩:=x;have hO:=own_below HJ.out hb;obtain⟨g,cap,cur,hv,hg,hle⟩:∃ g cap cur,Value.slice ja J.length jc=.slice (some ⟨g,0,none⟩) J.length cap/\V.heap[g]?=some (.cells cur 66 (0,0))/\J.length<=cap:=by
    rcases hO.2 with⟨_,h0⟩ | ⟨g,cap,cur,hv,_,hg,h1,_⟩
    ·omega
    ·exact⟨g,cap,cur,hv,hg,h1⟩
   cases hv;have hrow:V.rangeAt g (i*22) (jbL j cv):=by
    obtain⟨cur',hg',_,_,hcs,htk⟩:=row_blk hO;intro k v hv;have hk:k<22:=by
     have:=(List.getElem?_eq_some_iff.1 hv).1;rw [jbL_len]at this;exact this
    rw [cell_blk hg',<-Array.getElem?_toList];have h6:(J.flatMap jrow)[i*22+k]?=some v:=by
     rw [fl_get jrow_len J i hlt k hk,hx];exact hv
    rw [<-htk,List.getElem?_take,if_pos (by omega)]at h6;exact h6
   obtain⟨ca,cc,hcv,hc0⟩:=HC.out _ hxm;have hcv':cv=.slice ca j.ddl.cols.length cc:=hcv;subst hcv';have hcl0:=(HC.out _ hxm).on colE_held hb;have hcz:=HZ.out _ hxm;obtain⟨cs,hcs⟩:∃ cs,jbA j (.slice ca j.ddl.cols.length cc)=cs:=⟨_,rfl⟩
   have hld:(Instr.loadAt 66 (.pointer (some ⟨g,i*22,none⟩))).run Tryz.prog V=.ok (.agg cs) V:=by
    rw [<-hcs];exact run_loadAt_mid V g (i*22) 66 (jbL j (.slice ca j.ddl.cols.length cc)) _ hrow Tryz.underlying66 rfl size66
   obtain⟨V2,e2,k2,f2⟩:=st_row (heap_alloc_new V (.cells zJ 66)) (us:=cs) (by rw [<-hcs];rfl) (by rw [<-hcs];exact size66) (by rw [<-hcs];simp [Value.oneCell']);have hb2:Below V.heap.size V V2:=(bnew V _).trans (f2.toBelow (fun k hk q=>by omega) (bnew V _).size);have hld2:=load_row k2 Tryz.underlying66 rfl (by rw [<-hcs];exact size66);have hcall:=cloneJob_any (j:=j) (cv:=.slice ca j.ddl.cols.length cc) (hcl0.on colE_held hb2) hcz;rw [hcs]at hcall;have HLD:=lh hld;have HS2:=lh e2;have HLD2:=lh hld2;have HB2:=lh hb2;have HX:=lh hx;clear hx hxm hO hg hle hrow hc0 hcl0 hcz hcs hld e2 k2 f2 hb2 hld2 hcv;go_wp2_with (first|(refine wpl_load _ rfl (by simp [Act.eval]) HLD.out ?_)|(refine wpl_store _ _ rfl (by simp [Act.eval]) (by simp [Act.eval]) HS2.out ?_)|(refine wpl_load _ rfl (by simp [Act.eval]) HLD2.out ?_))
   refine hcall.mono ?_;rintro e w1 ⟨a1,c1,rfl,o1,b1⟩;have hbV:=bgo HB2.out b1;have hD1:=HD.out.on hbV;have hsz:w.heap.size<=V.heap.size:=HB.out.size;have hsz2:V.heap.size<=w1.heap.size:=hbV.size;obtain⟨ad,cap2,w',hrun,r1,r2⟩:=pushJ hD1.row (by omega) j (ca:=a1) (cn:=j.ddl.cols.length) (cc:=c1) (by have:=HJZ.out;have:=HL.out;omega);have hnew:JobsIn w' w.heap.size (G ++ [(j,.slice a1 j.ddl.cols.length c1)]) (.slice ad (G.length+1) cap2):=by
    have up:∀ {n0:Nat} {v:Value} {n:Nat} {xs:List Value},w1.ownsRow n0 56 7 v n xs->w'.ownsRow n0 56 7 v n xs:=fun q=>own_blk q fun g9 hg9 hl9=>r2.block g9 hl9 fun q9=>by
     obtain⟨_,t1⟩:=own_ty q hg9;obtain⟨_,t2⟩:=own_ty hD1.row q9;exact ty_ne t1 t2 (by decide) rfl
    refine⟨by rw [List.length_append,List.length_singleton];exact r1,fun x hx=>?_⟩;rcases List.mem_append.1 hx with q | q
    ·exact up (hD1.co x q)
    ·have q:=List.mem_singleton.1 q;subst q;exact own_mono (up o1) (Nat.le_trans hsz HB2.out.size)
   have HN:=lh hnew;have HB3:Hid (Below w.heap.size w w'):=lh ((bgo HB.out hbV).trans (r2.toBelow (fun k hk q=>by
    have:=own_geB hD1.row q;omega) (by omega)))
   have HG2:Hid ((G ++ [((j,.slice a1 j.ddl.cols.length c1):Jb × Value)]).map Prod.fst=(J.map Prod.fst).take (i+1)):=by
    rw [List.map_append,HG.out,List.take_add_one,List.getElem?_map,List.getElem?_eq_getElem hlt,HX.out];exact lh rfl
   clear hcall o1 b1 hbV hD1 r1 r2 hsz hsz2 hnew;go_wp2_with (at_builtin;refine wpl_run2 _ _ rfl (by simp [Act.eval]) (by simp [Act.eval]) hrun ?_)
   go_roundw
   case rel=>exact⟨i+1,_,hlt,by go_num,HG2.out,HN.out,HB3.out⟩
   case measure=>simp [intOf];omega
  ·have k1:¬ (i:Int)<J.length:=by omega
   have hin:i=J.length:=by omega
   have HGE:Hid (G.map Prod.fst=J.map Prod.fst):=by rw [HG.out,hin,List.take_of_length_le (by rw [List.length_map];omega)];exact lh rfl
   have hln:G.length=(J.map Prod.fst).length:=by rw [<-HGE.out,List.length_map]
   clear hb;go_wp2;go_ret;refine⟨G,tad,tcap,by rw [List.length_map];rfl,HGE.out,?_,HB.out⟩;rw [<-hln];exact HD.out
end
end Go.Proofs.YtkhehikaemdnnaaGreat
namespace Go.Proofs.YtkhehikaemdnnaaGreat
set_option maxRecDepth 100000
set_option maxHeartbeats 8000000
open Go.RowKit Go.Maps
theorem results_three{fn:Func}{t u x:Tmp}{ty ty2:TypeId}{ad ad2:Addr}{v v2 v3:Value}{tmps:Array Value}{w:World}(h:fn.results=#[.cell t ty,.cell u ty2,.tmp x])(ha:tmps.getD t undef=.pointer (some ad))(hb:tmps.getD u undef=.pointer (some ad2))(hx:tmps.getD x undef=v3)(hl:(loadVar ty ad).run Tryz.prog w=.ok v w)(hl2:(loadVar ty2 ad2).run Tryz.prog w=.ok v2 w):(results fn tmps).run Tryz.prog w=.ok (.tuple #[v,v2,v3]) w:=by
 have ha2:tmps[t]?.getD undef=.pointer (some ad):=by simpa using ha
 have hb2:tmps[u]?.getD undef=.pointer (some ad2):=by simpa using hb
 have hx2:tmps[x]?.getD undef=v3:=by simpa using hx
 simp [results,h,ha2,hb2,hx2,asAddr,hl,hl2]
section
variable {w : World}
theorem new_any:Calls Tryz.prog 11 #[] w fun e w'=>∃ B W,e=.returned (.pointer (some ⟨B,0,none⟩))/\Bo w' B W Bd.none/\(∀ k,k<w.heap.size->W k=0)/\Below w.heap.size w w':=by
 obtain⟨V,hV⟩:∃ V,V=w.alloc (.cells (bdA 0 0 (.slice none 0 0) (.slice none 0 0) (.slice none 0 0) (.slice none 0 0) (.map none)) 88):=⟨_,rfl⟩
 have hb:Below w.heap.size w V:=by rw [hV];exact bnew _ _
 have j0:V.heap[w.heap.size]?=some (.cells (bdA 0 0 (.slice none 0 0) (.slice none 0 0) (.slice none 0 0) (.slice none 0 0) (.map none)) 88 (0,0)):=by rw [hV];exact heap_alloc_new w _
 have HBO:Hid (Bx V w.heap.size (fun k=>if k=w.heap.size then 1 else 0) Bd.none [] (.slice none 0 0) (.slice none 0 0) (.slice none 0 0) (.slice none 0 0) (.map none)):=lh {
  ob:=j0
  jj:=rfl
  tb:=fun V' _ _=>⟨none,0,rfl,fun _=>rfl,Nat.le_refl _,Nat.zero_le _,fun i hi=>absurd hi (Nat.not_lt_zero _)⟩
  co:=fun x hx=>by cases hx
  le:=World.ownsRow_nil _ _ _ _
  jb:=World.ownsRow_nil _ _ _ _
  rn:=RunL.nil V
  id:=.inl ⟨rfl,rfl⟩
  wB:=if_pos rfl
  wl:=fun k h=>by cases h
  wj:=fun k h=>by cases h
  wr:=fun k h=>by
   obtain⟨_,_,_,e,_⟩:=h;cases e
  wm:=fun m h=>by cases h
  lt:=fun k h=>by
   by_cases q:k=w.heap.size
   ·rw [q];exact blk_lt j0
   ·exact absurd (if_neg q) h }
 have HB:=lh hb;have HV:=lh hV;clear hV hb j0;go_enter Tryz.func11,Tryz.ntmps11;go_wp2;go_ret;rw [<-HV.out];exact⟨_,_,rfl,⟨_,_,_,_,_,_,HBO.out⟩,fun k hk=>if_neg (by omega),HB.out⟩
theorem schema_any{B:Nat}{s:Sc}{tv lv jv rv mv:Value}(hB:w.heap[B]?=some (.cells (bdA s.ver s.last tv lv jv rv mv) 88 (0,0)))(hL:Lr tbE 5 w s.tabs tv)(hz:Few s.tabs)(hN:(s.tabs.map Tb.nm).Nodup):Calls Tryz.prog 18 #[.pointer (some ⟨B,0,none⟩)] w fun e w'=>∃ G tv',e=.returned (scV s tv')/\G.map Prod.fst=s.tabs/\Dr w' w.heap.size G tv'/\Below w.heap.size w w':=by
 obtain⟨ta,tc,rfl,hL0⟩:=hL;have hL:Lr tbE 5 w s.tabs (.slice ta s.tabs.length tc):=⟨ta,tc,rfl,hL0⟩
 obtain⟨W,hW⟩:∃ W,W=w.alloc (.cells #[.int .i64 0,.int .i64 0,.slice none 0 0] 30):=⟨_,rfl⟩
 have hb:=bw1 hW;obtain⟨Y,hY⟩:∃ Y,w.heap.size=Y:=⟨_,rfl⟩
 have jY:W.heap[Y]?=some (.cells #[.int .i64 0,.int .i64 0,.slice none 0 0] 30 (0,0)):=by rw [hW,<-hY];exact heap_alloc_new w _
 have hBW:=(hb.block B (blk_lt hB)).trans hB;have hrs:W.rangeAt B 0 [.int .i64 s.ver,.int .i64 s.last,.slice ta s.tabs.length tc]:=fun k v hv=>by
  rw [Nat.zero_add,cell_blk hBW];rcases k with _ | _ | _ | k
  ·exact hv
  ·exact hv
  ·exact hv
  ·simp at hv
 have hld:(Instr.loadAt 30 (.pointer (some ⟨B,0,none⟩))).run Tryz.prog W=.ok (scV s (.slice ta s.tabs.length tc)) W:=run_loadAt_mid W B 0 30 [.int .i64 s.ver,.int .i64 s.last,.slice ta s.tabs.length tc] _ hrs Tryz.underlying30 rfl size30;have hcall:=cloneSch_any (hL.on tbE_held hb) hz hN;obtain⟨sv,hsv⟩:∃ sv,scV s (.slice ta s.tabs.length tc)=sv:=⟨_,rfl⟩
 rw [hsv]at hcall hld;have HLD:=lh hld;have HJ:=lh jY;have HB:=lh hb;have HW:=lh hW;have HY:=lh hY;clear hB hL hL0 hz hN hW hb hY jY hBW hrs hld hsv;go_enter Tryz.func18,Tryz.ntmps18;go_upto_region 1 with fail
 rw [<-HW.out,HY.out];go_wp2_with (first|(refine wpl_load _ rfl (by simp [Act.eval]) HLD.out ?_)| fail)
 refine hcall.mono ?_;rintro e w1 ⟨G,tv',rfl,hG,hD,b1⟩;obtain⟨a1,c1,rfl⟩:=own_shape hD.row;obtain⟨X',hst,j',f'⟩:=st_row ((b1.block Y (blk_lt HJ.out)).trans HJ.out) (us:=#[.int .i64 s.ver,.int .i64 s.last,.slice a1 G.length c1]) rfl size30 (by simp [Value.oneCell']);have HS:=lh hst;have HX:=lh (And.intro j' (And.intro (hD.keep f' fun k q=>.inl (by rw [show k=Y from q];exact blk_lt HJ.out)) (And.intro hG ((bgo HB.out b1).trans (f'.toBelow (fun k hk q=>by have q':k=Y:=q;have:=HY.out;omega) (bgo HB.out b1).size)))));clear hcall hst j' f' hG hD b1;go_wp2_with (refine wpl_store _ _ rfl (by simp [Act.eval]) (by simp [Act.eval]) HS.out ?_)
 refine bodyPost_ret (results_one rfl rfl (load_var HX.out.1 Tryz.underlying30 rfl size30)) rfl ?_;exact⟨G,_,rfl,HX.out.2.2.1,HX.out.2.1.mono HB.out.size,HX.out.2.2.2⟩
def HandNo(w:World)(e:Ending)(w':World):Prop:=e=.returned (.tuple #[.agg zJ,.agg #[.int .i64 0,.int .i64 0],.bool false])/\Below w.heap.size w w'
def HandOf(w:World)(j:Jb)(e:Ending)(w':World):Prop:=∃ a c,e=.returned (.tuple #[.agg (jbA j (.slice a j.ddl.cols.length c)),.agg #[.int .i64 j.move.1,.int .i64 j.move.2],.bool true])/\Below w.heap.size w w'
theorem hand_boxes(w:World):∃ W Y2 Y3,W=(w.alloc (.cells zJ 66)).alloc (.cells #[.int .i64 0,.int .i64 0] 74)/\w.heap.size=Y2/\Y2+1=Y3/\Below w.heap.size w W/\W.heap[Y2]?=some (.cells zJ 66 (0,0))/\W.heap[Y3]?=some (.cells #[.int .i64 0,.int .i64 0] 74 (0,0)):=by
 refine⟨_,_,_,rfl,rfl,rfl,((Below.refl _ w).alloc (Nat.le_refl _) _).alloc (by simp) _,?_,?_⟩
 ·rw [Below.heap_alloc _ _ _ (by simp only [World.size_alloc];omega)];exact heap_alloc_new w _
 ·have:=heap_alloc_new (w.alloc (.cells zJ 66)) (.cells #[.int .i64 0,.int .i64 0] 74);simp only [World.size_alloc]at this;exact this
theorem hand_none{B:Nat}(hh:HandIs w B (.pointer none)):Calls Tryz.prog 23 #[.pointer (some ⟨B,0,none⟩)] w (HandNo w):=by
 obtain⟨W,Y2,Y3,hW,hY2,hY3,hb,j2,j3⟩:=hand_boxes w;have hc:=hh W hb;have HW:=lh hW;have HY2:=lh hY2;have HY3:=lh hY3;have HB:=lh hb;have J2:=lh j2;have J3:=lh j3;clear hW hY2 hY3 hb j2 j3 hh;go_enter Tryz.func23,Tryz.ntmps23;go_upto_region 1 with fail
 rw [<-HW.out,HY2.out,HY3.out];go_wp2_with (first|(go_at_call 53;refine hc.mono ?_;rintro e v6 ⟨rfl,b6⟩;obtain⟨X1,hs1,k2,f1⟩:=st_row ((b6.block Y2 (blk_lt J2.out)).trans J2.out) (us:=zJ) rfl size66 (by simp [Value.oneCell']);obtain⟨X2,hs2,k3,f2⟩:=st_row ((f1.block Y3 (Nat.lt_of_lt_of_le (blk_lt J3.out) b6.size) (fun q=>by have q':Y3=Y2:=q;have:=HY3.out;omega)).trans ((b6.block Y3 (blk_lt J3.out)).trans J3.out)) (us:=#[.int .i64 0,.int .i64 0]) rfl size74 (by simp [Value.oneCell']);have k22:=(f2.block Y2 (blk_lt k2) (fun q=>by have q':Y2=Y3:=q;have:=HY3.out;omega)).trans k2;have hbX:Below w.heap.size w X2:=((bgo HB.out b6).trans (f1.toBelow (fun k hk q=>by have q':k=Y2:=q;have:=HY2.out;omega) (bgo HB.out b6).size)).trans (f2.toBelow (fun k hk q=>by have q':k=Y3:=q;have:=HY3.out;have:=HY2.out;omega) (Nat.le_trans (bgo HB.out b6).size f1.size));have HS1:=lh hs1;have HS2:=lh hs2;have HX:=lh (And.intro k22 (And.intro k3 hbX));clear hc b6 hs1 k2 f1 hs2 k3 f2 k22 hbX)|(refine wpl_store _ _ rfl (by first | rfl|(simp [Act.eval];done)) (by first | rfl|(simp [Act.eval];done)) HS1.out ?_)|(refine wpl_store _ _ rfl (by first | rfl|(simp [Act.eval];done)) (by first | rfl|(simp [Act.eval];done)) HS2.out ?_))
 refine bodyPost_ret (results_three rfl rfl rfl rfl (load_var HX.out.1 Tryz.underlying66 rfl size66) (load_var HX.out.2.1 Tryz.underlying74 rfl size74)) rfl ?_;exact⟨rfl,HX.out.2.2⟩
theorem hand_some{B jb o p:Nat}{j:Jb}{cv:Value}(hh:HandIs w B (.pointer (some ⟨jb,o,none⟩)))(h:JobAt w jb o j cv)(hp:j.phase=(p:Int))(hlt:p<j.path.length)(hl:Lr colE 7 w j.ddl.cols cv)(hz:j.ddl.cols.length<=1000000):Calls Tryz.prog 23 #[.pointer (some ⟨B,0,none⟩)] w (HandOf w j):=by
 obtain⟨ca,cc,rfl,hl0⟩:=hl;have hl:Lr colE 7 w j.ddl.cols (.slice ca j.ddl.cols.length cc):=⟨ca,cc,rfl,hl0⟩
 obtain⟨W,Y2,Y3,hW,hY2,hY3,hb,j2,j3⟩:=hand_boxes w;have hc:=hh W hb;obtain⟨cs,hcs⟩:∃ cs,jbA j (.slice ca j.ddl.cols.length cc)=cs:=⟨_,rfl⟩
 have HW:=lh hW;have HY2:=lh hY2;have HY3:=lh hY3;have HB:=lh hb;have J2:=lh j2;have J3:=lh j3;have HA:=lh h;have HP:=lh hp;have HT:=lh hlt;have HL:=lh hl;have HZ:=lh hz;have HCS:=lh hcs;clear hW hY2 hY3 hb j2 j3 hh hcs h hp hlt hl hl0 hz;go_enter Tryz.func23,Tryz.ntmps23;go_upto_region 1 with fail
 rw [<-HW.out,HY2.out,HY3.out];go_upto_region 6 with (go_at_call 53;refine hc.mono ?_;rintro e v6 ⟨rfl,b6⟩;have B6:=lh (bgo HB.out b6);have J26:=lh ((b6.block Y2 (blk_lt J2.out)).trans J2.out);have J36:=lh ((b6.block Y3 (blk_lt J3.out)).trans J3.out);clear hc b6)
 have hld:(Instr.loadAt 66 (.pointer (some ⟨jb,o,none⟩))).run Tryz.prog v6=.ok (.agg cs) v6:=by
  rw [<-HCS.out];exact run_loadAt_mid v6 jb o 66 (jbL j (.slice ca j.ddl.cols.length cc)) _ (range_on B6.out HA.out) Tryz.underlying66 rfl size66
 have HLD:=lh hld;have hcj:=cloneJob_any (HL.out.on colE_held B6.out) HZ.out;rw [HCS.out]at hcj;clear hld;go_wp2_with (first|(go_at_call 45;refine hcj.mono ?_;rintro e w1 ⟨a1,c1,rfl,_,b1⟩;have B1:=lh (bgo B6.out b1);have J21:=lh ((b1.block Y2 (blk_lt J26.out)).trans J26.out);have J31:=lh ((b1.block Y3 (blk_lt J36.out)).trans J36.out);have hcm:=move_job (range_on B1.out HA.out) HP.out HT.out;clear hcj b1)|(go_at_call 54;refine hcm.mono ?_;rintro e w2 ⟨rfl,b2⟩;obtain⟨X1,hs1,k2,f1⟩:=st_row ((b2.block Y2 (blk_lt J21.out)).trans J21.out) (us:=jbA j (.slice a1 j.ddl.cols.length c1)) rfl size66 (by simp [Value.oneCell']);obtain⟨X2,hs2,k3,f2⟩:=st_row ((f1.block Y3 (Nat.lt_of_lt_of_le (blk_lt J31.out) b2.size) (fun q=>by have q':Y3=Y2:=q;have:=HY3.out;omega)).trans ((b2.block Y3 (blk_lt J31.out)).trans J31.out)) (us:=#[.int .i64 j.move.1,.int .i64 j.move.2]) rfl size74 (by simp [Value.oneCell']);have k22:=(f2.block Y2 (blk_lt k2) (fun q=>by have q':Y2=Y3:=q;have:=HY3.out;omega)).trans k2;have hbX:Below w.heap.size w X2:=((bgo B1.out b2).trans (f1.toBelow (fun k hk q=>by have q':k=Y2:=q;have:=HY2.out;omega) (bgo B1.out b2).size)).trans (f2.toBelow (fun k hk q=>by have q':k=Y3:=q;have:=HY3.out;have:=HY2.out;omega) (Nat.le_trans (bgo B1.out b2).size f1.size));have HS1:=lh hs1;have HS2:=lh hs2;have HX:=lh (And.intro k22 (And.intro k3 hbX));clear hcm b2 hs1 k2 f1 hs2 k3 f2 k22 hbX)|(refine wpl_load _ rfl (by simp [Act.eval]) HLD.out ?_)|(refine wpl_store _ _ rfl (by first | rfl|(simp [Act.eval];done)) (by first | rfl|(simp [Act.eval];done)) HS1.out ?_)|(refine wpl_store _ _ rfl (by first | rfl|(simp [Act.eval];done)) (by first | rfl|(simp [Act.eval];done)) HS2.out ?_))
 refine bodyPost_ret (results_three rfl rfl rfl rfl (load_var HX.out.1 Tryz.underlying66 rfl size66) (load_var HX.out.2.1 Tryz.underlying74 rfl size74)) rfl ?_;exact⟨_,_,rfl,HX.out.2.2⟩
end
end Go.Proofs.YtkhehikaemdnnaaGreat
namespace Go.Proofs.YtkhehikaemdnnaaGreat
set_option maxRecDepth 100000
set_option maxHeartbeats 8000000
open Go.RowKit Go.Maps
section
variable {ρ : Operand -> Value} {X : World} {d : Option Tmp} {ty : TypeId} {ps : String} {af : Array Edge} {g : Option (Nat × Bool)}
theorem op_b34{x y z:Operand}{a b:Int}{a1 a2 a3:Option Addr}{n1 n2 n3 c1 c2 c3:Nat}(e0:ρ x=.agg #[.int .i64 a,.int .i64 b,.slice a1 n1 c1])(e1:ρ y=.slice a2 n2 c2)(e2:ρ z=.slice a3 n3 c3):(execOp ρ ⟨d,.build 34 #[(0,x),(1,y),(2,z)],ty,ps,af,g⟩).run Tryz.prog X=.ok (.value (.agg #[.int .i64 a,.int .i64 b,.slice a1 n1 c1,.slice a2 n2 c2,.slice a3 n3 c3])) X:=by
 simp only [execOp];simp [e0,e1,e2]
 go_simp
end
theorem size34:(Tryz.prog.info? 34).map (·.size)=some 5:=by kernel_rfl
def PlanIs(w:World)(n0:Nat)(s:Sc)(L:List Le)(js:List Jb)(us:Array Value):Prop:=∃ G a1 c1 a2 c2 J' a3 c3,us=#[.int .i64 s.ver,.int .i64 s.last,.slice a1 s.tabs.length c1,.slice a2 L.length c2,.slice a3 js.length c3]/\G.map Prod.fst=s.tabs/\Dr w n0 G (.slice a1 s.tabs.length c1)/\w.ownsRow n0 78 3 (.slice a2 L.length c2) L.length (L.flatMap leL)/\J'.map Prod.fst=js/\JobsIn w n0 J' (.slice a3 js.length c3)
theorem own_offB{w w':World}{T:Nat->Prop}{n0:Nat}{e:TypeId}{k:Nat}{v:Value}{n:Nat}{xs:List Value}(h:w.ownsRow n0 e k v n xs)(hf:Fr w w' T)(hT:∀ k,T k->k<n0):w'.ownsRow n0 e k v n xs:=own_blk h fun g hg hl=>hf.block g hl fun q=>by
 have:=hT g q;have:=own_geB h hg;omega
theorem PlanIs.off{w w':World}{T:Nat->Prop}{n0:Nat}{s:Sc}{L:List Le}{js:List Jb}{us:Array Value}(h:PlanIs w n0 s L js us)(hf:Fr w w' T)(hT:∀ k,T k->k<n0):PlanIs w' n0 s L js us:=by
 obtain⟨G,a1,c1,a2,c2,J',a3,c3,e,h1,h2,h3,h4,h5⟩:=h;exact⟨G,a1,c1,a2,c2,J',a3,c3,e,h1,h2.keep hf fun k q=>.inl (hT k q),own_offB h3 hf hT,h4,own_offB h5.row hf hT,fun x hx=>own_offB (h5.co x hx) hf hT⟩
theorem PlanIs.mono{w:World}{n0 n1:Nat}{s:Sc}{L:List Le}{js:List Jb}{us:Array Value}(h:PlanIs w n0 s L js us)(hn:n1<=n0):PlanIs w n1 s L js us:=by
 obtain⟨G,a1,c1,a2,c2,J',a3,c3,e,h1,h2,h3,h4,h5⟩:=h;exact⟨G,a1,c1,a2,c2,J',a3,c3,e,h1,h2.mono hn,own_mono h3 hn,h4,h5.mono hn⟩
section
variable {w : World}
theorem save_any{B:Nat}{s:Sc}{tv lv jv rv mv:Value}{L:List Le}{J:List (Jb × Value)}(hB:w.heap[B]?=some (.cells (bdA s.ver s.last tv lv jv rv mv) 88 (0,0)))(hL:Lr tbE 5 w s.tabs tv)(hz:Few s.tabs)(hN:(s.tabs.map Tb.nm).Nodup)(hl:Lr leE 3 w L lv)(hlz:L.length<=1000000)(hJ:w.ownsRow 0 66 22 jv J.length (J.flatMap jrow))(hc:∀ x ∈ J,Lr colE 7 w x.1.ddl.cols x.2)(hcz:∀ x ∈ J,x.1.ddl.cols.length<=1000000)(hJz:J.length<=100000):Calls Tryz.prog 22 #[.pointer (some ⟨B,0,none⟩)] w fun e w'=>∃ us,e=.returned (.agg us)/\PlanIs w' w.heap.size s L (J.map Prod.fst) us/\Below w.heap.size w w':=by
 obtain⟨la,lc,rfl,hl0⟩:=hl;have hl:Lr leE 3 w L (.slice la L.length lc):=⟨la,lc,rfl,hl0⟩
 obtain⟨W,hW⟩:∃ W,W=w.alloc (.cells #[.int .i64 0,.int .i64 0,.slice none 0 0,.slice none 0 0,.slice none 0 0] 34):=⟨_,rfl⟩
 have hb:=bw1 hW;obtain⟨Y,hY⟩:∃ Y,w.heap.size=Y:=⟨_,rfl⟩
 have jY:W.heap[Y]?=some (.cells #[.int .i64 0,.int .i64 0,.slice none 0 0,.slice none 0 0,.slice none 0 0] 34 (0,0)):=by rw [hW,<-hY];exact heap_alloc_new w _
 have HBW:=lh ((hb.block B (blk_lt hB)).trans hB);have HLT:=lh (hL.on tbE_held hb);have HLL:=lh (hl.on leE_held hb);have HZ:=lh (And.intro hz (And.intro hN (And.intro hlz hJz)));have HJO:=lh (own_below hJ hb);have HCO:=lh (show ∀ x ∈ J,Lr colE 7 W x.1.ddl.cols x.2 from fun x hx=>(hc x hx).on colE_held hb);have HCZ:=lh hcz;have HJY:=lh jY;have HB:=lh hb;have HW:=lh hW;have HY:=lh hY;clear hB hL hz hN hl hl0 hlz hJ hc hcz hJz hW hb hY jY;obtain⟨js,hjs⟩:∃ js,J.map Prod.fst=js:=⟨_,rfl⟩
 have HJS:=lh hjs;rw [hjs];clear hjs;go_enter Tryz.func22,Tryz.ntmps22;go_upto_region 1 with fail
 rw [<-HW.out,HY.out];go_upto_region 3 with fail
 refine wp_region_fin (fun X9=>Below W.heap.size W X9) (fun X9 X8=>Below X9.heap.size X9 X8) [
  fun v9 _=>v9=.pointer (some ⟨B,0,none⟩),fun v9 X9=>∃ (G:List Gt) (a:Option Addr) (c:Nat),v9=scV s (.slice a s.tabs.length c)/\G.map Prod.fst=s.tabs/\Dr X9 W.heap.size G (.slice a s.tabs.length c),fun v9 _=>v9=.pointer (some ⟨B,0,none⟩),fun v9 _=>v9=.pointer (some ⟨B,0,none⟩),fun v9 _=>v9=.pointer (some ⟨B,3,none⟩),fun v9 _=>v9=.slice la L.length lc,fun v9 X9=>∃ a c,v9=.slice a L.length c/\X9.ownsRow W.heap.size 78 3 (.slice a L.length c) L.length (L.flatMap leL),fun v9 _=>v9=.pointer (some ⟨B,0,none⟩),fun v9 X9=>∃ (J9:List (Jb × Value)) (a:Option Addr) (c:Nat),v9=.slice a js.length c/\J9.map Prod.fst=js/\JobsIn X9 W.heap.size J9 (.slice a js.length c),fun v9 X9=>∃ us,v9=.agg us/\us.size=5/\us.all (·.oneCell')=true/\PlanIs X9 W.heap.size s L js us]
  (fun _ X9=>∃ us,us.size=5/\X9.heap[Y]?=some (.cells us 34 (0,0))/\PlanIs X9 W.heap.size s L js us/\Below w.heap.size w X9) rfl (by kernel_rfl) (by kernel_rfl) (by kernel_rfl) (by kernel_rfl) ?st ?g0 ?os ?la ?en
 case st=>exact⟨fun _ _ _ _ h=>h,(fun _ _ _ hb h=>by obtain⟨G,a,c,e,h1,h2⟩:=h;exact⟨G,a,c,e,h1,h2.below hb⟩),fun _ _ _ _ h=>h,fun _ _ _ _ h=>h,fun _ _ _ _ h=>h,fun _ _ _ _ h=>h,(fun _ _ _ hb h=>by obtain⟨a,c,e,h1⟩:=h;exact⟨a,c,e,own_below h1 hb⟩),fun _ _ _ _ h=>h,(fun _ _ _ hb h=>by obtain⟨J9,a,c,e,h1,h2⟩:=h;exact⟨J9,a,c,e,h1,h2.on hb⟩),(fun _ _ _ hb h=>by obtain⟨us,e,e2,e3,h1⟩:=h;exact⟨us,e,e2,e3,h1.off (Fr.ofBelow (fun _=>False) hb) (fun _ q=>q.elim)⟩),trivial⟩
 case g0=>exact⟨rfl,rfl,rfl,Nat.le_refl _,fun _ _=>rfl⟩
 case os =>
  refine⟨?_,?_,?_,?_,?_,?_,?_,?_,?_,?_,trivial⟩
  ·exact⟨rfl,fun ρ _ hg ho _ _ _=>Runs.val _ (op_move (show ρ (.tmp 0)=.pointer (some ⟨B,0,none⟩)from ho 0 rfl)) ⟨hg,Below.refl _ _,rfl⟩⟩
  ·refine⟨rfl,fun ρ X9 hg ho hc hf hr=>?_⟩;refine Runs.goes 18 #[.pointer (some ⟨B,0,none⟩)] (op_call1 hf (by go_simp) (show ρ (.tmp 6)=.pointer (some ⟨B,0,none⟩)from hr 0 6 rfl rfl)) ((schema_any ((hg.block B (blk_lt HBW.out)).trans HBW.out) (HLT.out.on tbE_held hg) HZ.out.1 HZ.out.2.1).mono ?_);rintro e7 w7 ⟨G,tv',rfl,h1,h2,b7⟩;obtain⟨a,c,rfl⟩:=own_shape h2.row;have hln:G.length=s.tabs.length:=by rw [<-h1,List.length_map]
   rw [hln]at h2 ⊢;exact⟨_,rfl,bgo hg b7,b7,G,a,c,rfl,h1,h2.mono hg.size⟩
  ·exact⟨rfl,fun ρ _ hg ho _ _ _=>Runs.val _ (op_move (show ρ (.tmp 0)=.pointer (some ⟨B,0,none⟩)from ho 0 rfl)) ⟨hg,Below.refl _ _,rfl⟩⟩
  ·exact⟨rfl,fun ρ _ hg _ _ _ hr=>Runs.val _ (op_nil (show ρ (.tmp 8)=.pointer (some ⟨B,0,none⟩)from hr 2 8 rfl rfl)) ⟨hg,Below.refl _ _,rfl⟩⟩
  ·exact⟨rfl,fun ρ _ hg _ _ _ hr=>Runs.val _ (op_f88_1 (show ρ (.tmp 9)=.pointer (some ⟨B,0,none⟩)from hr 3 9 rfl rfl)) ⟨hg,Below.refl _ _,rfl⟩⟩
  ·exact⟨rfl,fun ρ _ hg _ _ _ hr=>Runs.val _ (op_load31 (show ρ (.tmp 10)=.pointer (some ⟨B,3,none⟩)from hr 4 10 rfl rfl) (cell_on hg (cell_blk HBW.out 3))) ⟨hg,Below.refl _ _,rfl⟩⟩
  ·refine⟨rfl,fun ρ X9 hg ho hc hf hr=>?_⟩;refine Runs.goes 48 #[.slice la L.length lc] (op_call1 hf (by go_simp) (show ρ (.tmp 11)=.slice la L.length lc from hr 5 11 rfl rfl)) ((ownL48_any (HLL.out.on leE_held hg) HZ.out.2.2.1).mono ?_);rintro e7 w7 ⟨a,c,rfl,h1,b7⟩;exact⟨_,rfl,bgo hg b7,b7,a,c,rfl,own_mono h1 hg.size⟩
  ·exact⟨rfl,fun ρ _ hg ho _ _ _=>Runs.val _ (op_move (show ρ (.tmp 0)=.pointer (some ⟨B,0,none⟩)from ho 0 rfl)) ⟨hg,Below.refl _ _,rfl⟩⟩
  ·refine⟨rfl,fun ρ X9 hg ho hc hf hr=>?_⟩;refine Runs.goes 19 #[.pointer (some ⟨B,0,none⟩)] (op_call1 hf (by go_simp) (show ρ (.tmp 13)=.pointer (some ⟨B,0,none⟩)from hr 7 13 rfl rfl)) ((jobs_any ((hg.block B (blk_lt HBW.out)).trans HBW.out) (own_below HJO.out hg) (fun x hx=>(HCO.out x hx).on colE_held hg) HCZ.out HZ.out.2.2.2).mono ?_);rw [HJS.out];rintro e7 w7 ⟨J9,a,c,rfl,h1,h2,b7⟩;exact⟨_,rfl,bgo hg b7,b7,J9,a,c,rfl,h1,h2.mono hg.size⟩
  ·refine⟨rfl,fun ρ X9 hg ho hc hf hr=>?_⟩;obtain⟨G,a1,c1,e1,g1,g2⟩:∃ (G:List Gt) (a:Option Addr) (c:Nat),ρ (.tmp 7)=scV s (.slice a s.tabs.length c)/\G.map Prod.fst=s.tabs/\Dr X9 W.heap.size G (.slice a s.tabs.length c):=hr 1 7 rfl rfl;obtain⟨a2,c2,e2,g3⟩:∃ a c,ρ (.tmp 12)=.slice a L.length c/\X9.ownsRow W.heap.size 78 3 (.slice a L.length c) L.length (L.flatMap leL):=hr 6 12 rfl rfl;obtain⟨J9,a3,c3,e3,g4,g5⟩:∃ (J9:List (Jb × Value)) (a:Option Addr) (c:Nat),ρ (.tmp 14)=.slice a js.length c/\J9.map Prod.fst=js/\JobsIn X9 W.heap.size J9 (.slice a js.length c):=hr 8 14 rfl rfl;exact Runs.val _ (op_b34 e1 e2 e3) ⟨hg,Below.refl _ _,_,rfl,rfl,by simp [Value.oneCell'],G,a1,c1,a2,c2,J9,a3,c3,rfl,g1,g2,g3,g4,g5⟩
 case la =>
  refine⟨rfl,fun ρ X9 hg ho hc hf hr=>?_⟩;obtain⟨us,e9,hsz,hone,hpl⟩:∃ us,ρ (.tmp 15)=.agg us/\us.size=5/\us.all (·.oneCell')=true/\PlanIs X9 W.heap.size s L js us:=hr 9 15 (by decide) rfl;obtain⟨X',hst,j',f'⟩:=st_row ((hg.block Y (blk_lt HJY.out)).trans HJY.out) (us:=us) hsz (by rw [hsz];exact size34) hone;exact Runs.skips (op_storeAt (show ρ (.tmp 2)=.pointer (some ⟨Y,0,none⟩)from ho 2 rfl) e9 hst) ⟨us,hsz,j',hpl.off f' (fun k q=>by rw [show k=Y from q];exact blk_lt HJY.out),(bgo HB.out hg).trans (f'.toBelow (fun k hk q=>by have q':k=Y:=q;have:=HY.out;omega) (bgo HB.out hg).size)⟩
 case en =>
  intro a9 w6 wb v9 hF hs9 hd9 ho9 hv9 hr9;obtain⟨x9,hx,hxt⟩:=act_put hs9 hd9 ho9;change a9=putAll _ x9 [6,7,8,9,10,11,12,13,14,15]at hx;simp only [putAll,Act.put,List.setIfInBounds_toArray,List.set_cons_zero,List.set_cons_succ]at hx;subst hx;clear hs9 hd9 ho9 hv9 hr9 hxt;generalize x9 6=z6,x9 7=z7,x9 8=z8,x9 9=z9,x9 10=z10,x9 11=z11,x9 12=z12,x9 13=z13,x9 14=z14,x9 15=z15;obtain⟨us,hsz,j',hpl,hbb⟩:=hF;have HX:=lh (And.intro hsz (And.intro j' (And.intro hpl hbb)));clear hsz j' hpl hbb;go_wp2;refine bodyPost_ret (results_one rfl rfl (load_var HX.out.2.1 Tryz.underlying34 rfl (by rw [HX.out.1];exact size34))) rfl ?_;exact⟨us,rfl,HX.out.2.2.1.mono HB.out.size,HX.out.2.2.2⟩
variable {B n : Nat} {W : Nat -> Nat} {b : Bd}
theorem Fit.few(hk:Fit n b):Few b.sch.tabs:=⟨hk.sch.sz,hk.sch.fw⟩
theorem schema_tells(hx:Bo w B W b)(hk:Fit n b):Calls Tryz.prog 18 #[.pointer (some ⟨B,0,none⟩)] w fun e w'=>∃ G tv',e=.returned (scV b.sch tv')/\G.map Prod.fst=b.sch.tabs/\Dr w' w.heap.size G tv'/\Below w.heap.size w w':=by
 obtain⟨J,tv,lv,jv,rv,mv,hx⟩:=hx;exact schema_any hx.ob hx.tb.now hk.few hk.sch.nm
theorem save_tells(hx:Bo w B W b)(hk:Fit n b)(hn:n<=100000):Calls Tryz.prog 22 #[.pointer (some ⟨B,0,none⟩)] w fun e w'=>∃ us,e=.returned (.agg us)/\PlanIs w' w.heap.size b.sch b.leases b.jobs us/\Below w.heap.size w w':=by
 obtain⟨J,tv,lv,jv,rv,mv,hx⟩:=hx;have hln:J.length=b.jobs.length:=by rw [<-hx.jj,List.length_map]
 have:=save_any hx.ob hx.tb.now hk.few hk.sch.nm (Lr.own leL_len hx.le) (by have:=hk.nl;omega) hx.jb (fun x h=>(hx.co x h).now) (fun x h=>hk.co x.1 (by rw [<-hx.jj];exact List.mem_map_of_mem h)) (by have:=hk.nj;omega);rw [hx.jj]at this;exact this
theorem hand_tells(hx:Bo w B W b)(hk:Fit n b):(b.hand=none/\Calls Tryz.prog 23 #[.pointer (some ⟨B,0,none⟩)] w (HandNo w))\/∃ i j,b.hand=some i/\b.jobs[i]?=some j/\j.en=0/\Calls Tryz.prog 23 #[.pointer (some ⟨B,0,none⟩)] w (HandOf w j):=by
 obtain⟨J,tv,lv,jv,rv,mv,hx⟩:=hx;rcases hx.hand with⟨h1,h2⟩ | ⟨i,j,cv,jb,cap,cur,L,ha⟩
 ·exact .inl ⟨h1,hand_none h2⟩
 ·right
  obtain⟨p,hp,hlt⟩:=hk.ok.ph j (List.mem_of_getElem? ha.job) ha.en;exact⟨i,j,ha.hand,ha.job,ha.en,hand_some ha.is ha.at_ hp hlt (hx.co _ (List.mem_of_getElem? ha.row)).now (hk.co j (List.mem_of_getElem? ha.job))⟩
end
end Go.Proofs.YtkhehikaemdnnaaGreat
