import Derived.Test.YtkhehikaemdnnaaGreatQBb
import Derived.Test.YtkhehikaemdnnaaGreatQKn
namespace Go.Proofs.YtkhehikaemdnnaaGreat
section
variable {P : Program} {ops : Array Oper} {Q : Exit -> Act -> World -> Prop}
theorem KeptIn.next2{a0:Act}{G:World->Prop}{R:List (Value->World->Prop)}{l:Array Bool}{a:Act}{w w':World}{i:Nat}{o:Oper}{v:Value}
  (hd:dstsOk ops a0.tmps.size=true) (ho:ops[i]?=some o) (haf:∀ e ∈ o.after,Region.binds .any e=true->l.getD e.on false=true) (h:KeptIn ops a0 G R l a w) (hg:G w') (hS:∀ j,l.getD j false=true->∀ u,R.getD j (fun _ _=>True) u w->R.getD j (fun _ _=>True) u w') (hr:R.getD i (fun _ _=>True) v w') :
  KeptIn ops a0 G R (l.setIfInBounds i true) (a.put o.dst v) w':=by
 unfold dstsOk at hd;simp only [Bool.and_eq_true,decide_eq_true_eq,List.all_eq_true]at hd;obtain⟨hn,hlt⟩:=hd;have hi:i<l.size:=by rw [h.sz];exact(Array.getElem?_eq_some_iff.1 ho).1
 have hlist:∀ j,(l.setIfInBounds i true).getD j false=true ↔ j=i\/l.getD j false=true:=by
  intro j;by_cases e:j=i
  ·subst e;simp only [Array.getD_eq_getD_getElem?,Array.getElem?_setIfInBounds_self_of_lt hi];simp
  ·simp only [Array.getD_eq_getD_getElem?,Array.getElem?_setIfInBounds_ne (fun q=>e q.symm)];simp [e]
 refine⟨hg,?_,by rw [Array.size_setIfInBounds];exact h.sz,put_size.trans h.size,put_defers'.trans h.defers,?_,?_⟩
 ·intro j oj hj hl e he hb;refine(hlist _).2 (.inr ?_);rcases (hlist j).1 hl with q | q
  ·subst q;rw [ho]at hj;cases hj;exact haf e he hb
  ·exact h.dn j oj hj q e he hb
 ·intro t ht;rw [put_other (ht i o ho ((hlist i).2 (.inl rfl)))];exact h.out t fun j oj hj hl=>ht j oj hj ((hlist j).2 (.inr hl))
 ·intro j oj t hj hl hdj;by_cases e:j=i
  ·subst e;rw [ho]at hj;cases hj;rw [hdj,put_self]
   ·exact hr
   ·rw [h.size];exact hlt t (List.mem_filterMap.2 ⟨o,List.mem_of_getElem? (by rw [Array.getElem?_toList];exact ho),hdj⟩)
  ·have hl':=((hlist j).1 hl).resolve_left e;rw [put_other]
   ·exact hS j hl' _ (h.is j oj t hj hl' hdj)
   ·intro q;exact e (nodup_filterMap hn (by rw [Array.getElem?_toList];exact hj) (by rw [Array.getElem?_toList];exact ho) hdj q)
def OpFs(P:Program)(ops:Array Oper)(a0:Act)(G:(Nat->Bool)->World->Prop)(R:List (Value->World->Prop))(i:Nat)(o:Oper):Prop :=
 ∀ ρ w fl,G fl w->fl i=false->Led ops fl->(∀ j,depOn o j=true->fl j=true)->(∀ t,outer ops t=true->ρ (.tmp t)=a0.eval (.tmp t))->(∀ x,ρ (.const x)=x)->(∀ f,ρ (.func f)=.func (.func f) #[] #[]) ->
  (∀ j t,depOn o j=true->dstOf ops j=some t->R.getD j (fun _ _=>True) (ρ (.tmp t)) w) ->
  plainOp o/\Runs P o ρ w fun v w'=>G (upd fl i) w'/\(∀ j,fl j=true->∀ u,R.getD j (fun _ _=>True) u w->R.getD j (fun _ _=>True) u w')/\R.getD i (fun _ _=>True) v w'
theorem wp_region_fs{id:Nat}{a0:Act}{w0:World}(G:(Nat->Bool)->World->Prop)(R:List (Value->World->Prop))
  (hm:P.follows .mixedOrders=true) (hd:dstsOk ops a0.tmps.size=true) (haf:afterOkB ops=true) (hg:G (fun _=>false) w0.drew)
  (hops:AllOps (OpFs P ops a0 G R) 0 ops.toList)
  (he:∀ (a:Act) (w:World) (fl:Nat->Bool),(∀ j,j<ops.size->fl j=true)->G fl w->a.tmps.size=a0.tmps.size->a.defers=a0.defers->(∀ t,outer ops t=true->a.tmps.getD t undef=a0.tmps.getD t undef) ->
   (∀ j t,dstOf ops j=some t->R.getD j (fun _ _=>True) (a.tmps.getD t undef) w)->Q .normal a w) :
  (Code.region id ops true).wp P Q a0 w0:=by
 refine wp_region_any hm (wpAny_kept (fun l a w=>G (fun j=>l.getD j false) w/\KeptIn ops a0 (fun _=>True) R l a w) ?_ ?_ _ _ _ _ (left_replicate _) ?_)
 ·intro l a w i ⟨hG,hk⟩ hi;obtain⟨hl,o,ho,hall⟩:=mem_ready.1 hi;have hok:OpFs P ops a0 G R i o:=by
   have:=hops.get (k:=i) (o:=o) (by rw [Array.getElem?_toList];exact ho)
   rwa [Nat.zero_add]at this
  have hun:=unlisted hk.sz ho hl;have hil:i<l.size:=by rw [hk.sz];exact(Array.getElem?_eq_some_iff.1 ho).1
  have hrun:=hok a.eval w (fun j=>l.getD j false) hG hun (fun k ok j hok hdep hfl=>by
   obtain⟨e,he,rfl,hb⟩:=depOn_some hdep;exact hk.dn k ok hok hfl e he hb) (fun j hdep=>by
   obtain⟨e,he,rfl,hb⟩:=depOn_some hdep;exact hall e he hb) (fun t ht=>by
   rw [eval_tmp,eval_tmp];exact hk.out t fun j oj hj _ q=>outer_not ht hj q) (fun _=>rfl) (fun _=>rfl) (fun j t hj hdj=>by
   obtain⟨e,he,rfl,hb⟩:=depOn_some hj;obtain⟨oj,hoj,hdj⟩:=dstOf_some hdj;rw [eval_tmp];exact hk.is _ oj t hoj (hall e he hb) hdj)
  have hK:∀ v w',G (upd (fun j=>l.getD j false) i) w'/\(∀ j,(fun j=>l.getD j false) j=true->∀ u,R.getD j (fun _ _=>True) u w->R.getD j (fun _ _=>True) u w')/\R.getD i (fun _ _=>True) v w'->G (fun j=>(l.setIfInBounds i true).getD j false) w'/\KeptIn ops a0 (fun _=>True) R (l.setIfInBounds i true) (a.put o.dst v) w':=fun v w' ⟨h1,h2,h3⟩=>by
   rw [upd_is hil];exact⟨h1,hk.next2 hd ho hall trivial h2 h3⟩
  unfold wpOp;simp only [ho];have go:(Runs P o a.eval w fun v w'=>G (upd (fun j=>l.getD j false) i) w'/\(∀ j,(fun j=>l.getD j false) j=true->∀ u,R.getD j (fun _ _=>True) u w->R.getD j (fun _ _=>True) u w')/\R.getD i (fun _ _=>True) v w')->o.wp P a w (fun a' w'=>G (fun j=>(l.setIfInBounds i true).getD j false) w'/\KeptIn ops a0 (fun _=>True) R (l.setIfInBounds i true) a' w') Q:=fun hrun=>by
   unfold Oper.wp;rcases hrun with⟨v,w',hv,h⟩ | ⟨w',hv,h⟩ | ⟨f,args,w1,hv,hc⟩
   ·rw [hv];exact hK _ _ h
   ·rw [hv];exact hK _ _ h
   ·rw [hv];refine hc.mono ?_;rintro e w' ⟨v,rfl,h⟩;exact hK _ _ h
  obtain⟨hgd,hrun⟩:=hrun;rw [if_pos (wanted_none hgd _)];exact .inl (go hrun)
 ·intro l a w ⟨hG,hk⟩ hr;have hall:=all_listedB haf l hk.sz hr;refine he a w _ hall hG hk.size hk.defers (fun t ht=>hk.out t fun j oj hj _ q=>outer_not ht hj q) (fun j t hdj=>?_);obtain⟨oj,hj,hdj⟩:=dstOf_some hdj;exact hk.is j oj t hj (hall j (Array.getElem?_eq_some_iff.1 hj).1) hdj
 ·have hz:(fun m=>(Array.replicate ops.size false).getD m false)=fun _=>false:=by
   funext m
   cases hc:(Array.replicate ops.size false).getD m false with
   | false=>rfl
   | true=>exact absurd hc (none_listed _ _)
  refine⟨?_,⟨trivial,fun j _ _ hl=>absurd hl (none_listed _ j),by simp,rfl,rfl,fun _ _=>rfl,fun j o t hj hl _=>absurd hl (none_listed _ j)⟩⟩;rw [hz];exact hg
end
end Go.Proofs.YtkhehikaemdnnaaGreat
namespace Go.Proofs.YtkhehikaemdnnaaGreat
section
variable {P : Program} {ops : Array Oper} {Q : Exit -> Act -> World -> Prop}
def OpGs(P:Program)(ops:Array Oper)(a0:Act)(G:(Nat->Bool)->(Nat->Value)->World->Prop)(S:World->World->Prop)(R:List (Value->World->Prop))(i:Nat)(o:Oper):Prop :=
 ∀ ρ w fl,G fl (fun t=>ρ (.tmp t)) w->fl i=false->Led ops fl->(∀ j,depOn o j=true->fl j=true)->(∀ t,outer ops t=true->ρ (.tmp t)=a0.eval (.tmp t))->(∀ x,ρ (.const x)=x)->(∀ f,ρ (.func f)=.func (.func f) #[] #[]) ->
  (∀ j t,depOn o j=true->dstOf ops j=some t->R.getD j (fun _ _=>True) (ρ (.tmp t)) w) ->
  (plainOp o/\Runs P o ρ w fun v w'=>(∀ r',(∀ t,o.dst≠some t->r' t=ρ (.tmp t))->(∀ t,o.dst=some t->r' t=v)->G (upd fl i) r' w')/\S w w'/\R.getD i (fun _ _=>True) v w') \/
  (∃ j t c,onlyIf o j c/\dstOf ops j=some t/\ρ (.tmp t)=.bool c/\Runs P o ρ w fun v w'=>(∀ r',(∀ t,o.dst≠some t->r' t=ρ (.tmp t))->(∀ t,o.dst=some t->r' t=v)->G (upd fl i) r' w')/\S w w'/\R.getD i (fun _ _=>True) v w') \/
  (∃ j t c,onlyIf o j c/\dstOf ops j=some t/\ρ (.tmp t)≠.bool c/\(∀ r',(∀ t,o.dst≠some t->r' t=ρ (.tmp t))->(∀ t,o.dst=some t->r' t=undef)->G (upd fl i) r' w)/\S w w/\R.getD i (fun _ _=>True) undef w)
theorem wp_region_gs{id:Nat}{a0:Act}{w0:World}(G:(Nat->Bool)->(Nat->Value)->World->Prop)(S:World->World->Prop)(R:List (Value->World->Prop))
  (hm:P.follows .mixedOrders=true) (hd:dstsOk ops a0.tmps.size=true) (haf:afterOkB ops=true) (hst:Stable S R) (hg:G (fun _=>false) (fun t=>a0.tmps.getD t undef) w0.drew)
  (hops:AllOps (OpGs P ops a0 G S R) 0 ops.toList)
  (he:∀ (a:Act) (w:World) (fl:Nat->Bool),(∀ j,j<ops.size->fl j=true)->G fl (fun t=>a.tmps.getD t undef) w->a.tmps.size=a0.tmps.size->a.defers=a0.defers->(∀ t,outer ops t=true->a.tmps.getD t undef=a0.tmps.getD t undef) ->
   (∀ j t,dstOf ops j=some t->R.getD j (fun _ _=>True) (a.tmps.getD t undef) w)->Q .normal a w) :
  (Code.region id ops true).wp P Q a0 w0:=by
 refine wp_region_any hm (wpAny_kept (fun l a w=>G (fun j=>l.getD j false) (fun t=>a.tmps.getD t undef) w/\KeptIn ops a0 (fun _=>True) R l a w) ?_ ?_ _ _ _ _ (left_replicate _) ?_)
 ·intro l a w i ⟨hG,hk⟩ hi;obtain⟨hl,o,ho,hall⟩:=mem_ready.1 hi;have hok:OpGs P ops a0 G S R i o:=by
   have:=hops.get (k:=i) (o:=o) (by rw [Array.getElem?_toList];exact ho)
   rwa [Nat.zero_add]at this
  have hun:=unlisted hk.sz ho hl;have hil:i<l.size:=by rw [hk.sz];exact(Array.getElem?_eq_some_iff.1 ho).1
  have hrun:=hok a.eval w (fun j=>l.getD j false) (by simpa only [eval_tmp]using hG) hun (fun k ok j hok hdep hfl=>by
   obtain⟨e,he,rfl,hb⟩:=depOn_some hdep;exact hk.dn k ok hok hfl e he hb) (fun j hdep=>by
   obtain⟨e,he,rfl,hb⟩:=depOn_some hdep;exact hall e he hb) (fun t ht=>by
   rw [eval_tmp,eval_tmp];exact hk.out t fun j oj hj _ q=>outer_not ht hj q) (fun _=>rfl) (fun _=>rfl) (fun j t hj hdj=>by
   obtain⟨e,he,rfl,hb⟩:=depOn_some hj;obtain⟨oj,hoj,hdj⟩:=dstOf_some hdj;rw [eval_tmp];exact hk.is _ oj t hoj (hall e he hb) hdj)
  have hK:∀ v w',(∀ r',(∀ t,o.dst≠some t->r' t=a.eval (.tmp t))->(∀ t,o.dst=some t->r' t=v)->G (upd (fun j=>l.getD j false) i) r' w')/\S w w'/\R.getD i (fun _ _=>True) v w'->G (fun j=>(l.setIfInBounds i true).getD j false) (fun t=>(a.put o.dst v).tmps.getD t undef) w'/\KeptIn ops a0 (fun _=>True) R (l.setIfInBounds i true) (a.put o.dst v) w':=fun v w' ⟨h1,h2,h3⟩=>by
   rw [upd_is hil];refine⟨h1 _ (fun t ht=>by rw [eval_tmp];exact put_other ht) (fun t ht=>?_),hk.next hd hst ho hall trivial h2 h3⟩;have hd':=hd;unfold dstsOk at hd';simp only [Bool.and_eq_true,decide_eq_true_eq,List.all_eq_true]at hd';simp only [ht];exact put_self (by
    rw [hk.size];exact hd'.2 t (List.mem_filterMap.2 ⟨o,List.mem_of_getElem? (by rw [Array.getElem?_toList];exact ho),ht⟩))
  unfold wpOp;simp only [ho];have go:(Runs P o a.eval w fun v w'=>(∀ r',(∀ t,o.dst≠some t->r' t=a.eval (.tmp t))->(∀ t,o.dst=some t->r' t=v)->G (upd (fun j=>l.getD j false) i) r' w')/\S w w'/\R.getD i (fun _ _=>True) v w')->o.wp P a w (fun a' w'=>G (fun j=>(l.setIfInBounds i true).getD j false) (fun t=>a'.tmps.getD t undef) w'/\KeptIn ops a0 (fun _=>True) R (l.setIfInBounds i true) a' w') Q:=fun hrun=>by
   unfold Oper.wp;rcases hrun with⟨v,w',hv,h⟩ | ⟨w',hv,h⟩ | ⟨f,args,w1,hv,hc⟩
   ·rw [hv];exact hK _ _ h
   ·rw [hv];exact hK _ _ h
   ·rw [hv];refine hc.mono ?_;rintro e w' ⟨v,rfl,h⟩;exact hK _ _ h
  rcases hrun with⟨hgd,hrun⟩ | ⟨j,t,c,hgd,hdj,hv,hrun⟩ | ⟨j,t,c,hgd,hdj,hv,h⟩
  ·rw [if_pos (wanted_none hgd _)];exact .inl (go hrun)
  ·rw [if_pos (by rw [hgd];simp only [yield_is hdj hv,beq_self_eq_true])];exact .inl (go hrun)
  ·rw [if_neg (by rw [hgd];simp only [beq_iff_eq];exact yield_isnt hdj hv)];exact hK _ _ h
 ·intro l a w ⟨hG,hk⟩ hr;have hall:=all_listedB haf l hk.sz hr;refine he a w _ hall hG hk.size hk.defers (fun t ht=>hk.out t fun j oj hj _ q=>outer_not ht hj q) (fun j t hdj=>?_);obtain⟨oj,hj,hdj⟩:=dstOf_some hdj;exact hk.is j oj t hj (hall j (Array.getElem?_eq_some_iff.1 hj).1) hdj
 ·have hz:(fun m=>(Array.replicate ops.size false).getD m false)=fun _=>false:=by
   funext m
   cases hc:(Array.replicate ops.size false).getD m false with
   | false=>rfl
   | true=>exact absurd hc (none_listed _ _)
  refine⟨?_,⟨trivial,fun j _ _ hl=>absurd hl (none_listed _ j),by simp,rfl,rfl,fun _ _=>rfl,fun j o t hj hl _=>absurd hl (none_listed _ j)⟩⟩;rw [hz];exact hg
end
end Go.Proofs.YtkhehikaemdnnaaGreat
namespace Go.Proofs.YtkhehikaemdnnaaGreat
set_option maxRecDepth 100000
set_option maxHeartbeats 4000000
open Go.RowKit
theorem cell_like{w w':World}{b:Nat}(h:w'.heap[b]?=w.heap[b]?)(i:Nat):w'.cell? ⟨b,i,none⟩=w.cell? ⟨b,i,none⟩:=by simp only [World.cell?,h]
section
variable {ρ : Operand -> Value} {X : World} {d : Option Tmp} {ty : TypeId} {ps : String} {af : Array Edge} {g : Option (Nat × Bool)}
theorem op_load46{x:Operand}{B i:Nat}{n:Int}(e:ρ x=.pointer (some ⟨B,i,none⟩))(y:X.cell? ⟨B,i,none⟩=some (.int .i64 n)):(execOp ρ ⟨d,.load 46 x,ty,ps,af,g⟩).run Tryz.prog X=.ok (.value (.int .i64 n)) X:=by
 simp only [execOp,e]
 go_simp
end
def failJ(j:Jb)(y:Int)(f1 f2 f3 f4:Bool):Jb:={ j with back:=if f1 then true else j.back,phase:=if f2 then 0 else j.phase,mark:=if f3 then ⟨#[]⟩ else j.mark,why:=if f4 then y else j.why }
section
variable {w : World}
theorem fail_yes{B jb o:Nat}{c:Cm}{r:Rest}{cv jv:Value}{t:Int}{j:Jb}{cur:Array Value}(hh:TurnIs w B c r cv [4] (.pointer (some ⟨jb,o,none⟩)))(hbk:j.back=false)(hJ:w.heap[jb]?=some (.cells cur 66 (0,0)))(ho:o+22<=cur.size)(h:JobAt w jb o j jv):
  Calls Tryz.prog 32 #[.pointer (some ⟨B,0,none⟩),.int .i64 t,.agg (cmA c r cv)] w fun e w'=>e=.returned (.agg (rsA rsN))/\JPut w' jb o cur { j with back:=true,phase:=0,mark:=⟨#[]⟩,why:=c.why } jv/\Fr w w' (fun k=>k=jb):=by
 obtain⟨W,hW⟩:∃ W,W=(w.alloc (.cells (cmA c r cv) 48)).alloc (.cells zR 53):=⟨_,rfl⟩
 have hb:=bw2 hW;obtain⟨Y5,hY5⟩:∃ Q,w.heap.size=Q:=⟨_,rfl⟩
 obtain⟨Y6,hY6⟩:∃ Q,Y5+1=Q:=⟨_,rfl⟩
 have j5:W.heap[Y5]?=some (.cells (cmA c r cv) 48 (0,0)):=nw21 hW hY5;have j6:W.heap[Y6]?=some (.cells zR 53 (0,0)):=nw22 hW hY5 hY6;have hld:(Instr.loadAt 48 (.pointer (some ⟨Y5,0,none⟩))).run Tryz.prog W=.ok (.agg (cmA c r cv)) W:=load_row j5 Tryz.underlying48 rfl size48;have hbX:Below w.heap.size w (W.alloc (.cells #[.int .i64 4] 3)):=hb.alloc hb.size _;have hc:=hh (W.alloc (.cells #[.int .i64 4] 3)) hbX (.slice (some ⟨W.heap.size,0,none⟩) 1 1) (ints_new1 W);have HJ:=lh (And.intro j5 j6);have HN:Hid (w.heap.size=Y5/\Y5+1=Y6):=lh ⟨hY5,hY6⟩;have HW:=lh hW;have HB:=lh hb;have HLD:=lh hld;have hlt:=blk_lt hJ;have h29:W.cell? ⟨Y5,29,none⟩=some (.int .i64 c.why):=cell_blk j5 29;have H29:=lh h29;have hw17:w.cell? ⟨jb,o+17,none⟩=some (.bool false):=by
  have:=h 17 _ rfl;rw [hbk]at this;exact this
 have H17:=lh hw17;have PJ:=lh (And.intro (JPut.start hJ h) (And.intro ho (And.intro (show jb≠Y6 by omega) (And.intro hlt (show jb≠Y5 by omega)))));have H5:=lh (blk_lt j5);clear hh hW hb hY5 hY6 j5 j6 hld hbX h29 hJ ho h hlt hbk hw17;obtain⟨cs,hcs⟩:∃ cs,cmA c r cv=cs:=⟨_,rfl⟩
 rw [hcs]at HW HLD HJ hc ⊢;clear hcs;go_enter Tryz.func32,Tryz.ntmps32;go_upto_region 1 with fail
 rw [<-HW.out,HN.out.1,HN.out.2];go_upto_region 4 with (first|(go_at_call 65;refine hc.mono ?_;rintro e v6 ⟨rfl,b6⟩;have B6:=lh (bgo (bnew W _) b6);have BB:=lh (bgo HB.out B6.out);have c17:=cell_on BB.out H17.out;have C29:=lh (cell_on B6.out H29.out);have PV:=lh (PJ.out.1.stays (BB.out.block jb PJ.out.2.2.2.1));have J6:=lh ((B6.out.block Y6 (blk_lt HJ.out.2)).trans HJ.out.2);clear b6 hc)|(refine wpl_load _ rfl (by simp [Act.eval]) HLD.out ?_))
 have L5:Hid (Y5<v6.heap.size):=lh (Nat.lt_of_lt_of_le H5.out B6.out.size);clear c17;refine wp_region_fs (fun fl X9=>JPut X9 jb o cur (failJ j c.why (fl 8) (fl 11) (fl 14) (fl 17)) jv/\Fr v6 X9 (fun k=>k=jb)) [
  fun v9 _=>v9=.pointer (some ⟨jb,o,none⟩),fun v9 _=>v9=.pointer (some ⟨jb,o,none⟩),fun v9 _=>v9=.pointer (some ⟨jb,o,none⟩),fun v9 _=>v9=.pointer (some ⟨jb,o,none⟩),fun v9 _=>v9=.pointer (some ⟨Y5,29,none⟩),fun v9 _=>v9=.int .i64 c.why,fun v9 _=>v9=.pointer (some ⟨jb,o,none⟩),fun v9 _=>v9=.pointer (some ⟨jb,o+17,none⟩),fun _ _=>True,fun v9 _=>v9=.pointer (some ⟨jb,o,none⟩),fun v9 _=>v9=.pointer (some ⟨jb,o+16,none⟩),fun _ _=>True,fun v9 _=>v9=.pointer (some ⟨jb,o,none⟩),fun v9 _=>v9=.pointer (some ⟨jb,o+19,none⟩),fun _ _=>True,fun v9 _=>v9=.pointer (some ⟨jb,o,none⟩),fun v9 _=>v9=.pointer (some ⟨jb,o+21,none⟩),fun _ _=>True]
  (by kernel_rfl) (by kernel_rfl) (by kernel_rfl) ?g0 ?os ?en
 case g0=>exact⟨PV.out,Fr.ofBelow _ ⟨rfl,rfl,rfl,Nat.le_refl _,fun _ _=>rfl⟩⟩
 case os =>
  refine⟨?_,?_,?_,?_,?_,?_,?_,?_,?_,?_,?_,?_,?_,?_,?_,?_,?_,?_,trivial⟩
  all_goals intro ρ X9 fl hg hn hl hp ho hc hf hr
  ·exact⟨rfl,Runs.val _ (op_move (show ρ (.tmp 7)=.pointer (some ⟨jb,o,none⟩)from ho 7 rfl)) ⟨hg,fun _ _ _ q=>q,rfl⟩⟩
  ·exact⟨rfl,Runs.val _ (op_move (show ρ (.tmp 7)=.pointer (some ⟨jb,o,none⟩)from ho 7 rfl)) ⟨hg,fun _ _ _ q=>q,rfl⟩⟩
  ·exact⟨rfl,Runs.val _ (op_move (show ρ (.tmp 7)=.pointer (some ⟨jb,o,none⟩)from ho 7 rfl)) ⟨hg,fun _ _ _ q=>q,rfl⟩⟩
  ·exact⟨rfl,Runs.val _ (op_move (show ρ (.tmp 7)=.pointer (some ⟨jb,o,none⟩)from ho 7 rfl)) ⟨hg,fun _ _ _ q=>q,rfl⟩⟩
  ·exact⟨rfl,Runs.val _ (op_f48_15 (show ρ (.tmp 5)=.pointer (some ⟨Y5,0,none⟩)from ho 5 rfl)) ⟨hg,fun _ _ _ q=>q,rfl⟩⟩
  ·exact⟨rfl,Runs.val _ (op_load46 (show ρ (.tmp 25)=.pointer (some ⟨Y5,29,none⟩)from hr 4 25 rfl rfl) ((cell_like (hg.2.block Y5 L5.out (fun q=>PJ.out.2.2.2.2 q.symm)) 29).trans C29.out)) ⟨hg,fun _ _ _ q=>q,rfl⟩⟩
  ·exact⟨rfl,Runs.val _ (op_nil (show ρ (.tmp 21)=.pointer (some ⟨jb,o,none⟩)from hr 0 21 rfl rfl)) ⟨hg,fun _ _ _ q=>q,rfl⟩⟩
  ·exact⟨rfl,Runs.val _ (op_f66_5 (show ρ (.tmp 27)=.pointer (some ⟨jb,o,none⟩)from hr 6 27 rfl rfl)) ⟨hg,fun _ _ _ q=>q,rfl⟩⟩
  ·have hG:JPut X9 jb o cur (failJ j c.why (fl 8) (fl 11) (fl 14) (fl 17)) jv/\Fr v6 X9 (fun k=>k=jb):=hg;obtain⟨cur2,j2,hz2,_,hr2⟩:=id hG.1;have z2:X9.frozen? ⟨jb,o+17,none⟩=false:=frozen_blk j2 _;obtain⟨old,c2⟩:∃ u,X9.cell? ⟨jb,o+17,none⟩=some u:=⟨_,hr2 17 _ rfl⟩
   have hst:(Instr.storeAt 4 (.pointer (some ⟨jb,o+17,none⟩)) (.bool true)).run Tryz.prog X9=.ok () (X9.setCell ⟨jb,o+17,none⟩ (.bool true)):=by
    clear hr2 hG hg hr
    go_simp
   refine⟨rfl,Runs.skips (op_storeAt (show ρ (.tmp 28)=.pointer (some ⟨jb,o+17,none⟩)from hr 7 28 rfl rfl) (hc _) hst) ⟨⟨hG.1.set PJ.out.2.1 (by decide) rfl,hG.2.set (a:=⟨jb,o+17,none⟩) (.inl rfl) _⟩,?_,trivial⟩⟩;intro j9 hj u q9
   match j9,hj,q9 with
   | 0,hj,q9=>exact q9
   | 1,hj,q9=>exact q9
   | 2,hj,q9=>exact q9
   | 3,hj,q9=>exact q9
   | 4,hj,q9=>exact q9
   | 5,hj,q9=>exact q9
   | 6,hj,q9=>exact q9
   | 7,hj,q9=>exact q9
   | 8,hj,q9=>exact q9
   | 9,hj,q9=>exact q9
   | 10,hj,q9=>exact q9
   | 11,hj,q9=>exact q9
   | 12,hj,q9=>exact q9
   | 13,hj,q9=>exact q9
   | 14,hj,q9=>exact q9
   | 15,hj,q9=>exact q9
   | 16,hj,q9=>exact q9
   | 17,hj,q9=>exact q9
   | m+18,_,q9=>exact q9
  ·exact⟨rfl,Runs.val _ (op_nil (show ρ (.tmp 22)=.pointer (some ⟨jb,o,none⟩)from hr 1 22 rfl rfl)) ⟨hg,fun _ _ _ q=>q,rfl⟩⟩
  ·exact⟨rfl,Runs.val _ (op_f66_4 (show ρ (.tmp 29)=.pointer (some ⟨jb,o,none⟩)from hr 9 29 rfl rfl)) ⟨hg,fun _ _ _ q=>q,rfl⟩⟩
  ·have hG:JPut X9 jb o cur (failJ j c.why (fl 8) (fl 11) (fl 14) (fl 17)) jv/\Fr v6 X9 (fun k=>k=jb):=hg;obtain⟨cur2,j2,hz2,_,hr2⟩:=id hG.1;have z2:X9.frozen? ⟨jb,o+16,none⟩=false:=frozen_blk j2 _;obtain⟨old,c2⟩:∃ u,X9.cell? ⟨jb,o+16,none⟩=some u:=⟨_,hr2 16 _ rfl⟩
   have hst:(Instr.storeAt 3 (.pointer (some ⟨jb,o+16,none⟩)) (.int .i64 0)).run Tryz.prog X9=.ok () (X9.setCell ⟨jb,o+16,none⟩ (.int .i64 0)):=by
    clear hr2 hG hg hr
    go_simp
   refine⟨rfl,Runs.skips (op_storeAt (show ρ (.tmp 30)=.pointer (some ⟨jb,o+16,none⟩)from hr 10 30 rfl rfl) (hc _) hst) ⟨⟨hG.1.set PJ.out.2.1 (by decide) rfl,hG.2.set (a:=⟨jb,o+16,none⟩) (.inl rfl) _⟩,?_,trivial⟩⟩;intro j9 hj u q9
   match j9,hj,q9 with
   | 0,hj,q9=>exact q9
   | 1,hj,q9=>exact q9
   | 2,hj,q9=>exact q9
   | 3,hj,q9=>exact q9
   | 4,hj,q9=>exact q9
   | 5,hj,q9=>exact q9
   | 6,hj,q9=>exact q9
   | 7,hj,q9=>exact q9
   | 8,hj,q9=>exact q9
   | 9,hj,q9=>exact q9
   | 10,hj,q9=>exact q9
   | 11,hj,q9=>exact q9
   | 12,hj,q9=>exact q9
   | 13,hj,q9=>exact q9
   | 14,hj,q9=>exact q9
   | 15,hj,q9=>exact q9
   | 16,hj,q9=>exact q9
   | 17,hj,q9=>exact q9
   | m+18,_,q9=>exact q9
  ·exact⟨rfl,Runs.val _ (op_nil (show ρ (.tmp 23)=.pointer (some ⟨jb,o,none⟩)from hr 2 23 rfl rfl)) ⟨hg,fun _ _ _ q=>q,rfl⟩⟩
  ·exact⟨rfl,Runs.val _ (op_f66_7 (show ρ (.tmp 31)=.pointer (some ⟨jb,o,none⟩)from hr 12 31 rfl rfl)) ⟨hg,fun _ _ _ q=>q,rfl⟩⟩
  ·have hG:JPut X9 jb o cur (failJ j c.why (fl 8) (fl 11) (fl 14) (fl 17)) jv/\Fr v6 X9 (fun k=>k=jb):=hg;obtain⟨cur2,j2,hz2,_,hr2⟩:=id hG.1;have z2:X9.frozen? ⟨jb,o+19,none⟩=false:=frozen_blk j2 _;obtain⟨old,c2⟩:∃ u,X9.cell? ⟨jb,o+19,none⟩=some u:=⟨_,hr2 19 _ rfl⟩
   have hst:(Instr.storeAt 9 (.pointer (some ⟨jb,o+19,none⟩)) (.string ⟨#[]⟩)).run Tryz.prog X9=.ok () (X9.setCell ⟨jb,o+19,none⟩ (.string ⟨#[]⟩)):=by
    clear hr2 hG hg hr
    go_simp
   refine⟨rfl,Runs.skips (op_storeAt (show ρ (.tmp 32)=.pointer (some ⟨jb,o+19,none⟩)from hr 13 32 rfl rfl) (hc _) hst) ⟨⟨hG.1.set PJ.out.2.1 (by decide) rfl,hG.2.set (a:=⟨jb,o+19,none⟩) (.inl rfl) _⟩,?_,trivial⟩⟩;intro j9 hj u q9
   match j9,hj,q9 with
   | 0,hj,q9=>exact q9
   | 1,hj,q9=>exact q9
   | 2,hj,q9=>exact q9
   | 3,hj,q9=>exact q9
   | 4,hj,q9=>exact q9
   | 5,hj,q9=>exact q9
   | 6,hj,q9=>exact q9
   | 7,hj,q9=>exact q9
   | 8,hj,q9=>exact q9
   | 9,hj,q9=>exact q9
   | 10,hj,q9=>exact q9
   | 11,hj,q9=>exact q9
   | 12,hj,q9=>exact q9
   | 13,hj,q9=>exact q9
   | 14,hj,q9=>exact q9
   | 15,hj,q9=>exact q9
   | 16,hj,q9=>exact q9
   | 17,hj,q9=>exact q9
   | m+18,_,q9=>exact q9
  ·exact⟨rfl,Runs.val _ (op_nil (show ρ (.tmp 24)=.pointer (some ⟨jb,o,none⟩)from hr 3 24 rfl rfl)) ⟨hg,fun _ _ _ q=>q,rfl⟩⟩
  ·exact⟨rfl,Runs.val _ (op_f66_9 (show ρ (.tmp 33)=.pointer (some ⟨jb,o,none⟩)from hr 15 33 rfl rfl)) ⟨hg,fun _ _ _ q=>q,rfl⟩⟩
  ·have hG:JPut X9 jb o cur (failJ j c.why (fl 8) (fl 11) (fl 14) (fl 17)) jv/\Fr v6 X9 (fun k=>k=jb):=hg;obtain⟨cur2,j2,hz2,_,hr2⟩:=id hG.1;have z2:X9.frozen? ⟨jb,o+21,none⟩=false:=frozen_blk j2 _;obtain⟨old,c2⟩:∃ u,X9.cell? ⟨jb,o+21,none⟩=some u:=⟨_,hr2 21 _ rfl⟩
   have hst:(Instr.storeAt 46 (.pointer (some ⟨jb,o+21,none⟩)) (.int .i64 c.why)).run Tryz.prog X9=.ok () (X9.setCell ⟨jb,o+21,none⟩ (.int .i64 c.why)):=by
    clear hr2 hG hg hr;obtain⟨z,hz⟩:∃ z,c.why=z:=⟨_,rfl⟩
    rw [hz]
    go_simp
   refine⟨rfl,Runs.skips (op_storeAt (show ρ (.tmp 34)=.pointer (some ⟨jb,o+21,none⟩)from hr 16 34 rfl rfl) (show ρ (.tmp 26)=.int .i64 c.why from hr 5 26 rfl rfl) hst) ⟨⟨hG.1.set PJ.out.2.1 (by decide) rfl,hG.2.set (a:=⟨jb,o+21,none⟩) (.inl rfl) _⟩,?_,trivial⟩⟩;intro j9 hj u q9
   match j9,hj,q9 with
   | 0,hj,q9=>exact q9
   | 1,hj,q9=>exact q9
   | 2,hj,q9=>exact q9
   | 3,hj,q9=>exact q9
   | 4,hj,q9=>exact q9
   | 5,hj,q9=>exact q9
   | 6,hj,q9=>exact q9
   | 7,hj,q9=>exact q9
   | 8,hj,q9=>exact q9
   | 9,hj,q9=>exact q9
   | 10,hj,q9=>exact q9
   | 11,hj,q9=>exact q9
   | 12,hj,q9=>exact q9
   | 13,hj,q9=>exact q9
   | 14,hj,q9=>exact q9
   | 15,hj,q9=>exact q9
   | 16,hj,q9=>exact q9
   | 17,hj,q9=>exact q9
   | m+18,_,q9=>exact q9
 case en =>
  intro a9 w6 fl hfl hG9 hs9 hd9 ho9 hr9;obtain⟨x9,hx,hxt⟩:=act_put hs9 hd9 ho9;have hG9:JPut w6 jb o cur (failJ j c.why (fl 8) (fl 11) (fl 14) (fl 17)) jv/\Fr v6 w6 (fun k=>k=jb):=hG9;rw [hfl 8 (by decide),hfl 11 (by decide),hfl 14 (by decide),hfl 17 (by decide)]at hG9;clear hfl;change a9=putAll _ x9 [21,22,23,24,25,26,27,28,29,30,31,32,33,34]at hx;simp only [putAll,Act.put,List.setIfInBounds_toArray,List.set_cons_zero,List.set_cons_succ]at hx;subst hx;clear hs9 hd9 ho9 hr9 hxt;generalize x9 21=z21,x9 22=z22,x9 23=z23,x9 24=z24,x9 25=z25,x9 26=z26,x9 27=z27,x9 28=z28,x9 29=z29,x9 30=z30,x9 31=z31,x9 32=z32,x9 33=z33,x9 34=z34;obtain⟨pf,ff⟩:=hG9;have j6:=(ff.block Y6 (blk_lt J6.out) (fun q=>PJ.out.2.2.1 q.symm)).trans J6.out;obtain⟨X',hst,j',f'⟩:=st_row j6 (us:=rsA rsN) rfl size53 (by simp [Value.oneCell']);have HS:=lh hst;have HX:=lh (And.intro j' (And.intro f' (And.intro pf ff)));clear hst j' f' pf ff j6;go_wp2_with (refine wpl_store _ _ rfl (by simp [Act.eval]) (by simp [Act.eval]) HS.out ?_)
  refine bodyPost_ret (results_one rfl rfl (load_var HX.out.1 Tryz.underlying53 rfl size53)) rfl ?_;refine⟨rfl,HX.out.2.2.1.stays (HX.out.2.1.block jb (by obtain⟨_,q,_⟩:=HX.out.2.2.1;exact blk_lt q) PJ.out.2.2.1),?_⟩;exact((Fr.ofBelow (fun k=>k=jb) BB.out).trans HX.out.2.2.2).step HX.out.2.1 (fun k q=>by
   right
   have h1:=HN.out.1;have h2:=HN.out.2;omega)
end
end Go.Proofs.YtkhehikaemdnnaaGreat
