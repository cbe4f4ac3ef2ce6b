import Derived.Test.YtkhehikaemdnnaaGreatQKw
namespace Go.Proofs.YtkhehikaemdnnaaGreat
set_option maxRecDepth 100000
set_option maxHeartbeats 4000000
open Go.RowKit
theorem wpl_slice_hi{P:Program}{w:World}{ops:Array Oper}{rest:List Oper}{o:Oper}{a:Act}{Q:Exit->Act->World->Prop}{t ty:TypeId}{v1 v2 v':Value}{ds:Option Tmp}{ps:String}{af:Array Edge}(x y:Operand)
  (ho:o=⟨ds,.slice t x none (some y) none,ty,ps,af,none⟩) (hx:a.eval x=v1) (hy:a.eval y=v2) (hrun:(Instr.sliceAt t v1 none (some v2) none).run P w=.ok v' w)
  (h:wpList P ops Q rest (a.put ds v') w):wpList P ops Q (o :: rest) a w:=by
 subst ho;subst hx;subst hy;refine wpList_plain rfl fun K hK=>?_;unfold Oper.wp execOp;simp only [Option.map_some,Option.map_none,Sem.run_bind,Sem.run_pure,Result.andThen_ok,hrun];exact hK _ _ h
section
variable {w : World}
def AsksG(w:World)(g:Nat)(L:List Le)(f:FuncId)(cs:Array Value)(p:Le->Bool):Prop:=∀ X,Fr w X (fun k=>k=g)->∀ l ∈ L,Calls Tryz.prog f (#[.agg (leA l)] ++ cs) X fun e w'=>e=.returned (.bool (p l))/\Below X.heap.size X w'
theorem row_at{X:World}{g cap j:Nat}{R:List Le}(h:X.ownsRow 0 78 3 (.slice (some ⟨g,0,none⟩) R.length cap) R.length (R.flatMap leL))(hj:j<R.length):X.rangeAt g (j*3) (leL R[j]):=by
 obtain⟨ad,cp,e,_,_,_,hX⟩:=Lr.own leL_len h;cases e;obtain⟨b,o,cs,e,_,hE,_,hc⟩:=hX j hj;cases e;intro k u hu;have:=hc k u (by rw [hE];exact hu);rw [Nat.zero_add]at this;exact this
theorem there_row{X:World}{g o:Nat}{l:Le}{cur:Array Value}(hg:X.heap[g]?=some (.cells cur 78 (0,0)))(h:X.rangeAt g o (leL l)):X.there g o 3:=fun k hk=>by
 refine⟨?_,frozen_blk hg _⟩;rw [h k (leL l)[k] (List.getElem?_eq_getElem (by rw [leL_len];exact hk))];rfl
theorem deleteL_any{L:List Le}{g cap:Nat}{f:FuncId}{cs:Array Value}{p:Le->Bool}(h:w.ownsRow 0 78 3 (.slice (some ⟨g,0,none⟩) L.length cap) L.length (L.flatMap leL))(hcf:∀ (X:World) (a:Array Value),Sem.run Tryz.prog (callFunc f a) X=.ok (.enter f a) X)(hf:AsksG w g L f cs p):
  Calls Tryz.prog 62 #[.slice (some ⟨g,0,none⟩) L.length cap,.func (.func f) #[] cs] w fun e w'=>∃ n,n=(keepL p L).length/\e=.returned (.slice (some ⟨g,0,none⟩) n cap)/\w'.ownsRow 0 78 3 (.slice (some ⟨g,0,none⟩) n cap) n ((keepL p L).flatMap leL)/\Fr w w' (fun k=>k=g):=by
 obtain⟨cur,hg,hle,hcm,_,_⟩:=row_blk h;have hgl:=blk_lt hg;have hmx:(cap:Int)<=9223372036854775807:=by unfold maxLen at hcm;omega
 have hidx:=idxL_any (p:=p) (Lr.own leL_len h) hcf (fun X hX l hl=>hf X (Fr.ofBelow _ hX) l hl);obtain⟨n,hn⟩:∃ n,L.length=n:=⟨_,rfl⟩
 have H:=lh h;have HF:=lh hf;have HN:=lh hn;rw [hn]at hidx hle ⊢;have HGL:=lh hgl;have HCM:=lh hcm;have HLE:=lh hle;have hnm:(n:Int)<=9223372036854775807:=by omega
 have hnc:(n:Int)<=(cap:Int):=by omega
 clear h hf hn hgl hcm hle hg;cases hfi:L.findIdx? p with
 | none =>
  have hfx:fidx p L=-1:=by unfold fidx;rw [hfi]
  have HK:=lh (keep_all hfi);rw [hfx]at hidx;clear hfx hfi;go_enter Tryz.func62,Tryz.ntmps62;go_wp2_with (go_at_call 70;refine hidx.mono ?_;rintro e w1 ⟨rfl,b1⟩;have B1:=lh b1;clear b1 hidx)
  go_ret;refine⟨n,by rw [HK.out,HN.out],rfl,?_,Fr.ofBelow _ B1.out⟩;have:=own_below H.out B1.out;rw [HN.out]at this;rw [HK.out];exact this
 | some i0 =>
  have hfx:fidx p L=(i0:Int):=by unfold fidx;rw [hfi]
  have HI0:=lh (del_start hfi);have hi0:i0<n:=by have:=(List.findIdx?_eq_some_iff_getElem.1 hfi).1;have:=HN.out;omega
  obtain⟨z,hz⟩:∃ z:Int,(i0:Int)=z:=⟨_,rfl⟩
  rw [hfx,hz]at hidx;have q0:¬ z=-1:=by omega
  have q1:z+1<=9223372036854775807:=by omega
  have q2:(0:Int)<=z:=by omega
  have HZ:=lh hz;clear hz;have HI1:=lh hi0;clear hfx hfi hi0 hmx hnc;go_enter Tryz.func62,Tryz.ntmps62;go_wp2_with (go_at_call 70;refine hidx.mono ?_;rintro e w1 ⟨rfl,b1⟩;have B1:=lh b1;clear b1 hidx)
  rw [show(z == (-1:Int))=false from by simpa using q0];clear q0 q1 q2;go_loopw [5,6] (fun iv jv wr=>∃ (j k:Nat) (R:List Le),iv=.int .i64 (k:Int)/\jv=.int .i64 (j:Int)/\DelIn p L j k R/\wr.ownsRow 0 78 3 (.slice (some ⟨g,0,none⟩) R.length cap) R.length (R.flatMap leL)/\Fr w wr (fun k=>k=g)) (fun _ jv _=>n - (intOf jv).toNat)
  case atStart=>exact⟨i0+1,i0,L,by rw [HZ.out],by rw [<-HZ.out];go_num,HI0.out,own_below H.out B1.out,Fr.ofBelow _ B1.out⟩
  case round =>
   obtain⟨j,k,R,rfl,rfl,hI,ho,hfr⟩:=hrel;obtain⟨V,rfl⟩:∃ V,V=wr:=⟨_,rfl⟩
   have hRn:R.length=n:=hI.len.trans HN.out;have HI:=lh hI;have HO:=lh ho;have HFR:=lh hfr;have HRN:=lh hRn;have hkj:=hI.lt;by_cases hlt:j<n
   ·have hjL:j<L.length:=by have:=HN.out;omega
    obtain⟨l,hl⟩:∃ l,L[j]=l:=⟨_,rfl⟩
    have hmem:l ∈ L:=hl ▸ List.getElem_mem hjL;have hrow:V.rangeAt g (j*3) (leL l):=by
     have:=row_at ho (j:=j) (by rw [hRn];exact hlt);rw [hI.at hjL,hl]at this;exact this
    have hld:(Instr.loadAt 78 (.pointer (some ⟨g,j*3,none⟩))).run Tryz.prog V=.ok (.agg (leA l)) V:=run_loadAt_mid V g (j*3) 78 (leL l) _ hrow Tryz.underlying78 rfl size78;obtain⟨V2,e2,k2,f2⟩:=st_row (heap_alloc_new V (.cells #[.int .i64 0,.int .i64 0,.int .i64 0] 78)) (us:=leA l) rfl size78 (by simp [Value.oneCell']);have hb2:Below V.heap.size V V2:=(bnew V _).trans (f2.toBelow (fun k hk q=>by omega) (bnew V _).size);have hld2:=load_row k2 Tryz.underlying78 rfl size78;have hc:=HF.out V2 (hfr.below hb2) l hmem;have HLD:=lh hld;have HS2:=lh e2;have HLD2:=lh hld2;have HB2:=lh hb2;have HK2:=lh k2;have HL:=lh (And.intro hjL hl);have HKJ:=lh hkj;have r0:(0:Int)<=(j:Int):=by omega
    have r1:(j:Int)<(n:Int):=by omega
    clear hI ho hfr hRn hkj hmem hrow hld e2 k2 f2 hb2 hld2 hl;have s0:(0:Int)<=(k:Int):=by omega
    have s1:(k:Int)<(n:Int):=by have:=HKJ.out;omega
    cases hp:p l with
    | true =>
     rw [hp]at hc;have HP:=lh hp;clear hp;go_wp2_with (first|(refine wpl_load _ rfl (by simp [Act.eval]) HLD.out ?_)|(refine wpl_store _ _ rfl (by simp [Act.eval]) (by simp [Act.eval]) HS2.out ?_)|(refine wpl_load _ rfl (by simp [Act.eval]) HLD2.out ?_))
     refine hc.mono ?_;rintro e w1 ⟨rfl,b1⟩;have B1:=lh b1;clear b1 hc;go_wp2;go_roundw
     case rel =>
      refine⟨j+1,k,R,rfl,?_,HI.out.skip HL.out.1 (by rw [HL.out.2];exact HP.out),own_below HO.out (bgo HB2.out B1.out),(HFR.out.below HB2.out).below B1.out⟩;go_num
     case measure=>simp [intOf];omega
    | false =>
     rw [hp]at hc;have HP:=lh hp;clear hp;go_wp2_with (first|(refine wpl_load _ rfl (by simp [Act.eval]) HLD.out ?_)|(refine wpl_store _ _ rfl (by simp [Act.eval]) (by simp [Act.eval]) HS2.out ?_)|(refine wpl_load _ rfl (by simp [Act.eval]) HLD2.out ?_))
     refine hc.mono ?_;rintro e w1 ⟨rfl,b1⟩;have B1:=lh b1;clear b1 hc;have hld3:=load_row ((B1.out.block _ (blk_lt HK2.out)).trans HK2.out) Tryz.underlying78 rfl size78;have hO1:=own_below HO.out (bgo HB2.out B1.out);have hkR:k<R.length:=by have:=HRN.out;have:=HKJ.out;omega
     obtain⟨cu,hcu,_⟩:=row_blk hO1;have hst3:(Instr.storeAt 78 (.pointer (some ⟨g,k*3,none⟩)) (.agg (leA l))).run Tryz.prog w1=.ok () (w1.setCells g (k*3) (leL l)):=run_storeAt_mid w1 g (k*3) 78 (leA l) (there_row hcu (row_at hO1 hkR)) size78 (by simp [Value.oneCell']);obtain⟨o3,f3⟩:=own_setRow leL_len l hO1 hkR;obtain⟨W3,hW3⟩:∃ W3,W3=w1.setCells g (k*3) (leL l):=⟨_,rfl⟩
     rw [<-hW3]at hst3 o3 f3;have HLD3:=lh hld3;have HS3:=lh hst3;have HO3:=lh o3;have HF3:=lh f3;clear hld3 hO1 hkR hcu hst3 o3 f3 hW3;go_wp2_with (first|(refine wpl_load _ rfl (by simp [Act.eval]) HLD3.out ?_)|(refine wpl_store _ _ rfl (by simp [Act.eval]) (by simp [Act.eval]) HS3.out ?_))
     go_roundw
     case rel =>
      have hk2:=HI.out.keep HL.out.1 (by rw [HL.out.2];exact HP.out);rw [HL.out.2]at hk2;refine⟨j+1,k+1,R.set k l,?_,?_,hk2,by rw [List.length_set];exact HO3.out,((HFR.out.below HB2.out).below B1.out).trans HF3.out⟩
      ·go_num
      ·go_num
     case measure=>simp [intOf];omega
   ·have hjn:j=n:=by have:=hI.le;have:=HN.out;omega
    subst hjn;have hkn:k<j:=hkj;have hcmax:=HCM.out;have hle:=HLE.out;have s0:(0:Int)<=(k:Int):=by omega
    have s1:(k:Int)<=(j:Int):=by omega
    have s2:(j:Int)<=(cap:Int):=by omega
    have s3:¬ cap=k:=by omega
    have s4:¬ cap<k:=by omega
    have hsl1:∀ X:World,(Instr.sliceAt 31 (.slice (some ⟨g,0,none⟩) j cap) (some (.int .i64 (k:Int))) none none).run Tryz.prog X=.ok (.slice (some ⟨g,k*3,none⟩) (j - k) (cap - k)) X:=fun X=>by go_simp
    have hsl2:∀ X:World,(Instr.sliceAt 31 (.slice (some ⟨g,0,none⟩) j cap) none (some (.int .i64 (k:Int))) none).run Tryz.prog X=.ok (.slice (some ⟨g,0,none⟩) k cap) X:=fun X=>by go_simp
    have ho':=HO.out;rw [HRN.out]at ho';obtain⟨cu,hcu,_,_,hcz,_⟩:=row_blk ho';have hcl:∀ ty,(Builtin.clear_ #[31] ty #[.slice (some ⟨g,k*3,none⟩) (j - k) (cap - k)]).run Tryz.prog V=.ok (.tuple #[]) (V.setCells g (k*3) (zLs (j - k))):=fun ty=>clear_runL ty hcu (by rw [hcz];omega) (by omega);obtain⟨o4,f4⟩:=own_clearL ho' hRn (Nat.le_of_lt hkn);obtain⟨W4,hW4⟩:∃ W4,W4=V.setCells g (k*3) (zLs (j - k)):=⟨_,rfl⟩
    rw [<-hW4]at o4 f4;simp only [<-hW4]at hcl;have hdone:DelIn p L L.length k R:=by rw [HN.out];exact hI
    have HD:=lh hdone;have H1:=lh hsl1;have H2:=lh hsl2;have H3:=lh hcl;have H4:=lh (And.intro o4 f4);have k1:¬ ((j:Int)<(j:Int)):=by omega
    clear hI ho hfr hRn hkj hkn hcmax hle s0 s1 s2 s3 s4 hsl1 hsl2 ho' hcu hcz hcl o4 f4 hW4 hdone hlt;go_wp2_with (first|(refine wpl_slice_lo _ _ rfl (by simp [Act.eval]) (by simp [Act.eval]) (H1.out _) ?_)|(refine wpl_slice_hi _ _ rfl (by simp [Act.eval]) (by simp [Act.eval]) (H2.out _) ?_)|(refine wpl_clear _ rfl (H3.out _) ?_))
    go_ret;have hnum:=HD.out.num;refine⟨by rw [<-hnum];rfl,?_,HFR.out.trans H4.out.2⟩;rw [<-hnum,<-HD.out.done];exact H4.out.1
end
end Go.Proofs.YtkhehikaemdnnaaGreat
namespace Go.Proofs.YtkhehikaemdnnaaGreat
set_option maxRecDepth 100000
set_option maxHeartbeats 1000000
open Go.RowKit
theorem info66:(Tryz.prog.info? 66).map (fun i=>(i.zero,i.size,i.bytes))=some (some (.agg #[.int .i64 0,.int .i64 0,.int .i64 0,.int .i64 0,.int .i64 0,.int .i64 0,.string ⟨#[]⟩,.string ⟨#[]⟩,.string ⟨#[]⟩,.string ⟨#[]⟩,.bool false,.int .i64 0,.int .i64 0,.int .i64 0,.string ⟨#[]⟩,.slice none 0 0,.int .i64 0,.bool false,.bool false,.string ⟨#[]⟩,.int .i64 0,.int .i64 0]),22,232):=by kernel_rfl
theorem oneLe(G:List Le):∀ u ∈ G.flatMap leL,u.oneCell'=true:=by
 intro u hu;obtain⟨x,_,hu⟩:=List.mem_flatMap.1 hu;simp at hu;rcases hu with rfl | rfl | rfl <;> rfl
section
variable {w : World} {v : Value}
theorem run_le{base n m c:Nat}{xs news:List Value}{ad:Option Addr}(ho:w.ownsRow base 78 3 v n xs)(hb:base<=w.heap.size)(hs:(ad=none/\m=0/\c=0/\news=[])\/∃ a,ad=some a/\news.length=m*3/\(∀ j u,news[j]?=some u->w.cell? (a.add j)=some u))
  (h1:∀ u ∈ news,u.oneCell'=true) (hnm:(n+m)*24<=140737488355328):∃ ad' cap' w',(Builtin.append_ #[31,31] 31 #[v,.slice ad m c]).run Tryz.prog w=.ok (.slice ad' (n+m) cap') w'/\w'.ownsRow base 78 3 (.slice ad' (n+m) cap') (n+m) (xs ++ news)/\w.grownBy w' v.ownBlock/\((Value.slice ad' (n+m) cap').ownBlock=v.ownBlock\/(Value.slice ad' (n+m) cap').ownBlock=some w.heap.size):=by
 obtain⟨i0,hi,hz0,hz1,hz2⟩:=info_parts info78;rcases hs with⟨rfl,rfl,rfl,rfl⟩ | ⟨a,rfl,hl,hc⟩
 ·obtain⟨ad',cap',rfl⟩:=own_shape ho;refine⟨ad',cap',w,?_,by simpa using ho,⟨rfl,rfl,rfl,Nat.le_refl _,fun _ _ _=>rfl⟩,.inl rfl⟩;exact run_append_owned_none (P:=Tryz.prog) (w:=w) base 31 31 78 i0 3 Tryz.underlying31 hi _ n xs ho
 ·obtain⟨v',w',hr,ho',hg,_,hat⟩:=run_append_own_at (P:=Tryz.prog) (w:=w) base 31 31 78 i0 _ 3 24 Tryz.underlying31 hi hz0 hz1 hz2 rfl (by decide) v n xs ho a m c news hl hc h1 (by unfold maxLen;omega) hnm hb;obtain⟨ad',cap',rfl⟩:=own_shape ho';exact⟨ad',cap',w',hr,ho',hg,hat⟩
theorem run_job{base n m c:Nat}{xs news:List Value}{ad:Option Addr}(ho:w.ownsRow base 66 22 v n xs)(hb:base<=w.heap.size)(hs:(ad=none/\m=0/\c=0/\news=[])\/∃ a,ad=some a/\news.length=m*22/\(∀ j u,news[j]?=some u->w.cell? (a.add j)=some u))
  (h1:∀ u ∈ news,u.oneCell'=true) (hnm:(n+m)*232<=140737488355328):∃ ad' cap' w',(Builtin.append_ #[32,32] 32 #[v,.slice ad m c]).run Tryz.prog w=.ok (.slice ad' (n+m) cap') w'/\w'.ownsRow base 66 22 (.slice ad' (n+m) cap') (n+m) (xs ++ news)/\w.grownBy w' v.ownBlock/\((Value.slice ad' (n+m) cap').ownBlock=v.ownBlock\/(Value.slice ad' (n+m) cap').ownBlock=some w.heap.size):=by
 obtain⟨i0,hi,hz0,hz1,hz2⟩:=info_parts info66;rcases hs with⟨rfl,rfl,rfl,rfl⟩ | ⟨a,rfl,hl,hc⟩
 ·obtain⟨ad',cap',rfl⟩:=own_shape ho;refine⟨ad',cap',w,?_,by simpa using ho,⟨rfl,rfl,rfl,Nat.le_refl _,fun _ _ _=>rfl⟩,.inl rfl⟩;exact run_append_owned_none (P:=Tryz.prog) (w:=w) base 32 32 66 i0 22 Tryz.underlying32 hi _ n xs ho
 ·obtain⟨v',w',hr,ho',hg,_,hat⟩:=run_append_own_at (P:=Tryz.prog) (w:=w) base 32 32 66 i0 _ 22 232 Tryz.underlying32 hi hz0 hz1 hz2 rfl (by decide) v n xs ho a m c news hl hc h1 (by unfold maxLen;omega) hnm hb;obtain⟨ad',cap',rfl⟩:=own_shape ho';exact⟨ad',cap',w',hr,ho',hg,hat⟩
end
section
variable {ρ : Operand -> Value} {X : World} {d : Option Tmp} {ty : TypeId} {ps : String} {af : Array Edge} {g : Option (Nat × Bool)}
theorem op_append31{s x:Operand}{v1 v2 v':Value}{X':World}(hs:ρ s=v1)(hx:ρ x=v2)(hrun:(Builtin.append_ #[31,31] 31 #[v1,v2]).run Tryz.prog X=.ok v' X'):(execOp ρ ⟨d,.call { callee:=.builtin .append,args:=#[s,x],argTypes:=#[31,31] },31,ps,af,g⟩).run Tryz.prog X=.ok (.value v') X':=by
 simp only [execOp,resolve,invoke,builtin,Sem.run_bind,Sem.run_pure,Result.andThen_ok,List.map_toArray,List.map_cons,List.map_nil,hs,hx,hrun]
theorem op_append32{s x:Operand}{v1 v2 v':Value}{X':World}(hs:ρ s=v1)(hx:ρ x=v2)(hrun:(Builtin.append_ #[32,32] 32 #[v1,v2]).run Tryz.prog X=.ok v' X'):(execOp ρ ⟨d,.call { callee:=.builtin .append,args:=#[s,x],argTypes:=#[32,32] },32,ps,af,g⟩).run Tryz.prog X=.ok (.value v') X':=by
 simp only [execOp,resolve,invoke,builtin,Sem.run_bind,Sem.run_pure,Result.andThen_ok,List.map_toArray,List.map_cons,List.map_nil,hs,hx,hrun]
end
section
variable {w : World}
theorem ownL48_any{l:List Le}{v:Value}(hl:Lr leE 3 w l v)(hz:l.length<=1000000):Calls Tryz.prog 48 #[v] w fun e w'=>∃ ad cap,e=.returned (.slice ad l.length cap)/\w'.ownsRow w.heap.size 78 3 (.slice ad l.length cap) l.length (l.flatMap leL)/\Below w.heap.size w w':=by
 obtain⟨ad,cap,rfl,hr⟩:=hl;have hs:=Lr.src leL_len (L:=l) (ad:=ad) (cap:=cap) (w:=w) ⟨ad,cap,rfl,hr⟩;obtain⟨ad',cap',w',h1,h2,h3,_⟩:=run_le (w:=w) (v:=.slice none 0 0) (base:=w.heap.size) (n:=0) (xs:=[]) (m:=l.length) (c:=cap) (news:=l.flatMap leL) (World.ownsRow_nil _ _ 78 3) (Nat.le_refl _) hs (oneLe l) (by omega);rw [Nat.zero_add]at h1 h2;rw [List.nil_append]at h2;have HO:=lh h2;have HB:Hid (Below w.heap.size w w'):=⟨h3.os,h3.tape,h3.output,h3.size,fun k hk=>h3.block k hk (by simp [Value.ownBlock])⟩
 clear h2 h3 hs hr;go_enter Tryz.func48,Tryz.ntmps48;go_wp2_with (at_builtin;refine wpl_run2 _ _ rfl (by simp [Act.eval]) (by simp [Act.eval]) h1 ?_)
 go_ret;exact⟨_,_,rfl,HO.out,HB.out⟩
end
end Go.Proofs.YtkhehikaemdnnaaGreat
