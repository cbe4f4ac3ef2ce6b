import Derived.Test.YtkhehikaemdnnaaGreatQVv
import Derived.Test.YtkhehikaemdnnaaGreatQBa
import Derived.Deep.MidRow
import Derived.Deep.DeepCutAuto
namespace Go.Proofs.YtkhehikaemdnnaaGreat
section
variable {P : Program} {ops : Array Oper} {Q : Exit -> Act -> World -> Prop}
def upd(fl:Nat->Bool)(i:Nat):Nat->Bool:=fun k=>cond (Nat.beq k i) true (fl k)
def Led(ops:Array Oper)(fl:Nat->Bool):Prop:=∀ k o j,ops[k]?=some o->depOn o j=true->fl k=true->fl j=true
def OpFl(P:Program)(ops:Array Oper)(a0:Act)(G:(Nat->Bool)->World->Prop)(S:World->World->Prop)(R:List (Value->World->Prop))(i:Nat)(o:Oper):Prop :=
 ∀ ρ w fl,G fl w->fl i=false->Led ops fl->(∀ j,depOn o j=true->fl j=true)->(∀ t,outer ops t=true->ρ (.tmp t)=a0.eval (.tmp t))->(∀ x,ρ (.const x)=x)->(∀ f,ρ (.func f)=.func (.func f) #[] #[]) ->
  (∀ j t,depOn o j=true->dstOf ops j=some t->R.getD j (fun _ _=>True) (ρ (.tmp t)) w) ->
  (plainOp o/\Runs P o ρ w fun v w'=>G (upd fl i) w'/\S w w'/\R.getD i (fun _ _=>True) v w') \/
  (∃ j t c,onlyIf o j c/\dstOf ops j=some t/\ρ (.tmp t)=.bool c/\Runs P o ρ w fun v w'=>G (upd fl i) w'/\S w w'/\R.getD i (fun _ _=>True) v w') \/
  (∃ j t c,onlyIf o j c/\dstOf ops j=some t/\ρ (.tmp t)≠.bool c/\G (upd fl i) w/\S w w/\R.getD i (fun _ _=>True) undef w)
theorem yield_isnt{a:Act}{j t:Nat}{c:Bool}(h:dstOf ops j=some t)(e:a.eval (.tmp t)≠.bool c):yielded ops a.tmps j≠some c:=by
 unfold dstOf at h;unfold yielded;rw [h];rw [eval_tmp]at e;intro q;cases hx:a.tmps[t]? with
 | none =>
  simp [hx]at q
 | some v =>
  rw [Array.getD_eq_getD_getElem?,hx]at e;simp only [Option.getD_some]at e;simp only [Option.bind_some,hx]at q;cases v <;> simp at q;subst q;exact e rfl
theorem upd_is{l:Array Bool}{i:Nat}(hi:i<l.size):(fun j=>(l.setIfInBounds i true).getD j false)=upd (fun j=>l.getD j false) i:=by
 funext j
 unfold upd;by_cases e:j=i
 ·subst e;rw [Array.getD_eq_getD_getElem?,Array.getElem?_setIfInBounds_self_of_lt hi];simp
 ·rw [Array.getD_eq_getD_getElem?,Array.getElem?_setIfInBounds_ne (fun q=>e q.symm),<-Array.getD_eq_getD_getElem?];have:Nat.beq j i=false:=by
   cases h:Nat.beq j i with
   | false=>rfl
   | true=>exact absurd (Nat.eq_of_beq_eq_true h) e
  rw [this];rfl
theorem wp_region_fc{id:Nat}{a0:Act}{w0:World}(G:(Nat->Bool)->World->Prop)(S:World->World->Prop)(R:List (Value->World->Prop))
  (hm:P.follows .mixedOrders=true) (hd:dstsOk ops a0.tmps.size=true) (haf:∀ l:Array Bool,l.size=ops.size->Region.ready .any ops l=[]->∀ j,j<ops.size->l.getD j false=true) (hst:Stable S R) (hg:G (fun _=>false) w0.drew)
  (hops:AllOps (OpFl P ops a0 G S R) 0 ops.toList)
  (he:∀ (a:Act) (w:World) (fl:Nat->Bool),(∀ j,j<ops.size->fl j=true)->G fl w->a.tmps.size=a0.tmps.size->a.defers=a0.defers->(∀ t,outer ops t=true->a.tmps.getD t undef=a0.tmps.getD t undef) ->
   (∀ j t,dstOf ops j=some t->R.getD j (fun _ _=>True) (a.tmps.getD t undef) w)->Q .normal a w) :
  (Code.region id ops true).wp P Q a0 w0:=by
 refine wp_region_any hm (wpAny_kept (fun l a w=>G (fun j=>l.getD j false) w/\KeptIn ops a0 (fun _=>True) R l a w) ?_ ?_ _ _ _ _ (left_replicate _) ?_)
 ·intro l a w i ⟨hG,hk⟩ hi;obtain⟨hl,o,ho,hall⟩:=mem_ready.1 hi;have hok:OpFl P ops a0 G S R i o:=by
   have:=hops.get (k:=i) (o:=o) (by rw [Array.getElem?_toList];exact ho)
   rwa [Nat.zero_add]at this
  have hun:=unlisted hk.sz ho hl;have hil:i<l.size:=by rw [hk.sz];exact(Array.getElem?_eq_some_iff.1 ho).1
  have hrun:=hok a.eval w (fun j=>l.getD j false) hG hun (fun k ok j hok hdep hfl=>by
   obtain⟨e,he,rfl,hb⟩:=depOn_some hdep;exact hk.dn k ok hok hfl e he hb) (fun j hdep=>by
   obtain⟨e,he,rfl,hb⟩:=depOn_some hdep;exact hall e he hb) (fun t ht=>by
   rw [eval_tmp,eval_tmp];exact hk.out t fun j oj hj _ q=>outer_not ht hj q) (fun _=>rfl) (fun _=>rfl) (fun j t hj hdj=>by
   obtain⟨e,he,rfl,hb⟩:=depOn_some hj;obtain⟨oj,hoj,hdj⟩:=dstOf_some hdj;rw [eval_tmp];exact hk.is _ oj t hoj (hall e he hb) hdj)
  have hK:∀ v w',G (upd (fun j=>l.getD j false) i) w'/\S w w'/\R.getD i (fun _ _=>True) v w'->G (fun j=>(l.setIfInBounds i true).getD j false) w'/\KeptIn ops a0 (fun _=>True) R (l.setIfInBounds i true) (a.put o.dst v) w':=fun v w' ⟨h1,h2,h3⟩=>by
   rw [upd_is hil];exact⟨h1,hk.next hd hst ho hall trivial h2 h3⟩
  unfold wpOp;simp only [ho];have go:(Runs P o a.eval w fun v w'=>G (upd (fun j=>l.getD j false) i) w'/\S w w'/\R.getD i (fun _ _=>True) v w')->o.wp P a w (fun a' w'=>G (fun j=>(l.setIfInBounds i true).getD j false) w'/\KeptIn ops a0 (fun _=>True) R (l.setIfInBounds i true) a' w') Q:=fun hrun=>by
   unfold Oper.wp;rcases hrun with⟨v,w',hv,h⟩ | ⟨w',hv,h⟩ | ⟨f,args,w1,hv,hc⟩
   ·rw [hv];exact hK _ _ h
   ·rw [hv];exact hK _ _ h
   ·rw [hv];refine hc.mono ?_;rintro e w' ⟨v,rfl,h⟩;exact hK _ _ h
  rcases hrun with⟨hgd,hrun⟩ | ⟨j,t,c,hgd,hdj,hv,hrun⟩ | ⟨j,t,c,hgd,hdj,hv,h⟩
  ·rw [if_pos (wanted_none hgd _)];exact .inl (go hrun)
  ·rw [if_pos (by rw [hgd];simp only [yield_is hdj hv,beq_self_eq_true])];exact .inl (go hrun)
  ·rw [if_neg (by rw [hgd];simp only [beq_iff_eq];exact yield_isnt hdj hv)];exact hK _ _ h
 ·intro l a w ⟨hG,hk⟩ hr;have hall:=haf l hk.sz hr;refine he a w _ hall hG hk.size hk.defers (fun t ht=>hk.out t fun j oj hj _ q=>outer_not ht hj q) (fun j t hdj=>?_);obtain⟨oj,hj,hdj⟩:=dstOf_some hdj;exact hk.is j oj t hj (hall j (Array.getElem?_eq_some_iff.1 hj).1) hdj
 ·have hz:(fun m=>(Array.replicate ops.size false).getD m false)=fun _=>false:=by
   funext m
   cases hc:(Array.replicate ops.size false).getD m false with
   | false=>rfl
   | true=>exact absurd hc (none_listed _ _)
  refine⟨?_,⟨trivial,fun j _ _ hl=>absurd hl (none_listed _ j),by simp,rfl,rfl,fun _ _=>rfl,fun j o t hj hl _=>absurd hl (none_listed _ j)⟩⟩;rw [hz];exact hg
theorem wp_region_fl{id:Nat}{a0:Act}{w0:World}(G:(Nat->Bool)->World->Prop)(S:World->World->Prop)(R:List (Value->World->Prop))
  (hm:P.follows .mixedOrders=true) (hd:dstsOk ops a0.tmps.size=true) (haf:afterOk ops=true) (hst:Stable S R) (hg:G (fun _=>false) w0.drew)
  (hops:AllOps (OpFl P ops a0 G S R) 0 ops.toList)
  (he:∀ (a:Act) (w:World) (fl:Nat->Bool),(∀ j,j<ops.size->fl j=true)->G fl w->a.tmps.size=a0.tmps.size->a.defers=a0.defers->(∀ t,outer ops t=true->a.tmps.getD t undef=a0.tmps.getD t undef) ->
   (∀ j t,dstOf ops j=some t->R.getD j (fun _ _=>True) (a.tmps.getD t undef) w)->Q .normal a w) :
  (Code.region id ops true).wp P Q a0 w0:=wp_region_fc G S R hm hd (fun l hl hr=>all_listed haf l hl hr) hst hg hops he
def afterOkB(ops:Array Oper):Bool:=(List.range ops.size).all fun i=>match ops[i]? with | some o=>o.after.all (fun e=>!Region.binds .any e || decide (e.on<i))| none=>true
theorem all_listedB(h:afterOkB ops=true)(l:Array Bool)(hl:l.size=ops.size)(hr:Region.ready .any ops l=[]):∀ j,j<ops.size->l.getD j false=true:=by
 intro j
 induction j using Nat.strongRecOn with
 | _ j ih =>
  intro hj;cases hc:l.getD j false with
  | true=>rfl
  | false =>
   exfalso;have ho:ops[j]?=some ops[j]:=Array.getElem?_eq_getElem hj;have hm:j ∈ Region.ready .any ops l:=by
    refine mem_ready.2 ⟨?_,ops[j],ho,fun e he hbd=>?_⟩
    ·rw [Array.getD_eq_getD_getElem?,Array.getElem?_eq_getElem (by omega)]at hc ⊢;simpa using hc
    ·unfold afterOkB at h;rw [List.all_eq_true]at h;have:=h j (List.mem_range.2 hj);rw [ho]at this;simp only at this;have:=Array.all_eq_true_iff_forall_mem.1 this e he;rw [hbd]at this;simp only [Bool.not_true,Bool.false_or,decide_eq_true_eq]at this;exact ih e.on this (by omega)
   rw [hr]at hm;cases hm
theorem wp_region_fb{id:Nat}{a0:Act}{w0:World}(G:(Nat->Bool)->World->Prop)(S:World->World->Prop)(R:List (Value->World->Prop))
  (hm:P.follows .mixedOrders=true) (hd:dstsOk ops a0.tmps.size=true) (haf:afterOkB ops=true) (hst:Stable S R) (hg:G (fun _=>false) w0.drew)
  (hops:AllOps (OpFl P ops a0 G S R) 0 ops.toList)
  (he:∀ (a:Act) (w:World) (fl:Nat->Bool),(∀ j,j<ops.size->fl j=true)->G fl w->a.tmps.size=a0.tmps.size->a.defers=a0.defers->(∀ t,outer ops t=true->a.tmps.getD t undef=a0.tmps.getD t undef) ->
   (∀ j t,dstOf ops j=some t->R.getD j (fun _ _=>True) (a.tmps.getD t undef) w)->Q .normal a w) :
  (Code.region id ops true).wp P Q a0 w0:=wp_region_fc G S R hm hd (fun l hl hr=>all_listedB haf l hl hr) hst hg hops he
end
end Go.Proofs.YtkhehikaemdnnaaGreat
namespace Go.Proofs.YtkhehikaemdnnaaGreat
open Go.RowKit
section
variable {V : World}
theorem cell_on{X:World}{a:Addr}{u:Value}(h:Below V.heap.size V X)(y:V.cell? a=some u):X.cell? a=some u:=by
 have hl:a.block<V.heap.size:=by
  refine Classical.byContradiction fun q=>?_;unfold World.cell? at y;rw [Array.getElem?_eq_none (by omega)]at y;simp at y
 unfold World.cell? at y ⊢;rw [h.block _ hl];exact y
end
def Lr{α:Type}(E:World->α->List Value->Prop)(c:Nat)(w:World)(L:List α)(v:Value):Prop:=∃ ad cap,v=.slice ad L.length cap/\(ad=none->cap=0)/\L.length<=cap/\cap<=maxLen /\
 ∀ i (h:i<L.length),∃ b o cs,ad=some ⟨b,o,none⟩/\b<w.heap.size/\E w L[i] cs/\cs.length=c/\∀ j u,cs[j]?=some u->w.cell? ⟨b,o+i*c+j,none⟩=some u
def Held{α:Type}(E:World->α->List Value->Prop):Prop:=∀ w w' x cs,Below w.heap.size w w'->E w x cs->E w' x cs
theorem Lr.on{α:Type}{E:World->α->List Value->Prop}{c:Nat}{w w':World}{L:List α}{v:Value}(hE:Held E)(h:Lr E c w L v)(hb:Below w.heap.size w w'):Lr E c w' L v:=by
 obtain⟨ad,cap,e,h0,h1,h2,h3⟩:=h;refine⟨ad,cap,e,h0,h1,h2,fun i hi=>?_⟩;obtain⟨b,o,cs,ha,hl,hE',hc,hh⟩:=h3 i hi;exact⟨b,o,cs,ha,Nat.lt_of_lt_of_le hl hb.size,hE w w' _ cs hb hE',hc,fun j u hu=>cell_on hb (hh j u hu)⟩
section
variable {α : Type} {f : α -> List Value} {c : Nat} {w w' : World} {B : Nat} {T : TypeId} {v : Value} {L : List α}
theorem fl_len(hc:∀ x,(f x).length=c):∀ L:List α,(L.flatMap f).length=L.length*c
 | []=>by simp
 | x :: L=>by
  rw [List.flatMap_cons,List.length_append,hc,fl_len hc L,List.length_cons,Nat.succ_mul];omega
theorem fl_get(hc:∀ x,(f x).length=c):∀ (L:List α) (k:Nat) (hk:k<L.length) (j:Nat),j<c->(L.flatMap f)[k*c+j]?=(f L[k])[j]?
 | x :: L,0,_,j,hj=>by
  rw [List.flatMap_cons,Nat.zero_mul,Nat.zero_add,List.getElem?_append_left (by rw [hc];exact hj)];rfl
 | x :: L,k+1,hk,j,hj=>by
  have e:(k+1)*c+j=(f x).length+(k*c+j):=by rw [hc,Nat.succ_mul];omega
  rw [List.flatMap_cons,e,List.getElem?_append_right (by omega),Nat.add_sub_cancel_left];exact fl_get hc L k (by simpa using hk) j hj
theorem Lr.own(hc:∀ x,(f x).length=c)(h:w.ownsRow B T c v L.length (L.flatMap f)):Lr (fun _ x cs=>cs=f x) c w L v:=by
 have h':=own_mono h (Nat.zero_le B);rcases h.2 with⟨hv,hz⟩ | ⟨g,cap,cur,hv,hg,hcc,h1,h2,hr⟩
 ·exact⟨none,0,by rw [hv,hz],fun _=>rfl,by omega,Nat.zero_le _,fun i hi=>by omega⟩
 ·subst hv;refine⟨_,cap,rfl,fun q=>(by cases q),h1,h2,fun i hi=>⟨g,0,f L[i],rfl,blk_lt hcc,rfl,hc _,fun j u hu=>?_⟩⟩;have hj:j<c:=by
   have:=(List.getElem?_eq_some_iff.1 hu).1
   rwa [hc]at this
  have hlt:i*c+j<L.length*c:=by
   have:(i+1)*c<=L.length*c:=Nat.mul_le_mul_right c hi;rw [Nat.succ_mul]at this;omega
  rw [Nat.zero_add,h'.cellAt _ hlt,fl_get hc L i hi j hj];exact hu
end
theorem Lr.src{α:Type}{f:α->List Value}{c:Nat}{w:World}{L:List α}{ad:Option Addr}{cap:Nat}(hc:∀ x,(f x).length=c)(h:Lr (fun _ x cs=>cs=f x) c w L (.slice ad L.length cap)):(ad=none/\L.length=0/\cap=0/\L.flatMap f=[])\/∃ a,ad=some a/\(L.flatMap f).length=L.length*c/\(∀ j u,(L.flatMap f)[j]?=some u->w.cell? (a.add j)=some u):=by
 obtain⟨ad',cap',e,h0,h1,h2,h3⟩:=h;cases e;cases had:ad with
 | none =>
  have hL:L=[]:=by
   rcases L with _ | ⟨x,L⟩
   ·rfl
   ·obtain⟨b,o,cs,e,_⟩:=h3 0 (by simp);rw [had]at e;cases e
  subst hL;exact .inl ⟨rfl,rfl,h0 had,rfl⟩
 | some a =>
  refine .inr ⟨a,rfl,fl_len hc L,fun j u hu=>?_⟩;have hj:j<L.length*c:=by
   have:=(List.getElem?_eq_some_iff.1 hu).1
   rwa [fl_len hc]at this
  have hc0:0<c:=by
   rcases Nat.eq_zero_or_pos c with q | q
   ·subst q;simp at hj
   ·exact q
  have hi:j / c<L.length:=Nat.div_lt_of_lt_mul (by rw [Nat.mul_comm];exact hj);have hm:j % c<c:=Nat.mod_lt _ hc0;have e2:j=j / c*c+j % c:=by
   have:=Nat.div_add_mod j c;rw [Nat.mul_comm]at this;exact this.symm
  obtain⟨b,o,cs,e,_,hE,_,hh⟩:=h3 (j / c) hi;rw [had]at e;cases e;have hE':cs=f L[j / c]:=hE;have:=hh (j % c) u (by
   rw [hE',<-fl_get hc L (j / c) hi _ hm,<-e2];exact hu)
  rw [add_at];rw [Nat.add_assoc,<-e2]at this;exact this
theorem row_blk{w:World}{g cap:Nat}{e:TypeId}{c n:Nat}{xs:List Value}(h:w.ownsRow 0 e c (.slice (some ⟨g,0,none⟩) n cap) n xs):∃ cur,w.heap[g]?=some (.cells cur e (0,0))/\n<=cap/\cap<=maxLen/\cur.size=cap*c/\cur.toList.take (n*c)=xs:=by
 rcases h.2 with⟨hv,_⟩ | ⟨g',cap',cur,hv,h0,hg,h1,h2,h3,h4⟩
 ·cases hv
 ·cases hv;exact⟨cur,hg,h1,h2,h3,h4⟩
theorem row_setc{w:World}{base g cap n c:Nat}{e:TypeId}{xs:List Value}(h:w.ownsRow base e c (.slice (some ⟨g,0,none⟩) n cap) n xs)(j:Nat)(u:Value):(w.setCell ⟨g,j,none⟩ u).ownsRow base e c (.slice (some ⟨g,0,none⟩) n cap) n (xs.set j u):=by
 rcases h.2 with⟨hv,_⟩ | ⟨g',cap',cur,hv,h0,hg,h1,h2,h3,h4⟩
 ·cases hv
 ·cases hv;refine⟨by rw [List.length_set];exact h.1,.inr ⟨g,cap,cur.setIfInBounds j u,rfl,h0,set_blk hg u,h1,h2,by simp [h3],?_⟩⟩;rw [Array.toList_setIfInBounds,List.take_set,h4]
theorem own_tag{w:World}{B:Nat}{e:TypeId}{c n:Nat}{v:Value}{xs:List Value}(h:w.ownsRow B e c v n xs):∀ k,v.ownBlock=some k->∃ cs,w.heap[k]?=some (.cells cs e (0,0)):=by
 intro k hk;rcases h.2 with⟨hv,_⟩ | ⟨g,cap,cur,hv,_,hg,_⟩
 ·rw [hv]at hk;cases hk
 ·rw [hv]at hk;simp only [Value.ownBlock,Option.some.injEq]at hk;subst hk;exact⟨cur,hg⟩
theorem load_row{w:World}{g:Nat}{t ty:TypeId}{cs:Array Value}{fr:Nat × Nat}{d:TypeDesc}(hg:w.heap[g]?=some (.cells cs t fr))(hu:Tryz.prog.underlying ty=some d)(hd:d.isRow=true)(hi:(Tryz.prog.info? ty).map (·.size)=some cs.size):(Instr.loadAt ty (.pointer (some ⟨g,0,none⟩))).run Tryz.prog w=.ok (.agg cs) w:=by
 have h:=run_loadVar_row w g t ty cs fr d hg hu (by cases d <;> first | rfl | cases hd) hi;simp only [Instr.loadAt,Instr.sureAddr,Sem.run_bind,Sem.run_pure,Result.andThen_ok,h]
theorem wpl_load{P:Program}{w:World}{ops:Array Oper}{rest:List Oper}{o:Oper}{a:Act}{Q:Exit->Act->World->Prop}{t ty:TypeId}{v p:Value}{ds:Option Tmp}{ps:String}{af:Array Edge}(x:Operand)
  (ho:o=⟨ds,.load t x,ty,ps,af,none⟩) (hx:a.eval x=p) (hld:(Instr.loadAt t p).run P w=.ok v w)
  (h:wpList P ops Q rest (a.put ds v) w):wpList P ops Q (o :: rest) a w:=by
 subst ho;subst hx;refine wpList_plain rfl fun K hK=>?_;unfold Oper.wp execOp;simp only [Sem.run_bind,Sem.run_pure,Result.andThen_ok,hld];exact hK _ _ h
theorem wpl_store{P:Program}{w w':World}{ops:Array Oper}{rest:List Oper}{o:Oper}{a:Act}{Q:Exit->Act->World->Prop}{t ty:TypeId}{v p:Value}{ds:Option Tmp}{ps:String}{af:Array Edge}(x y:Operand)
  (ho:o=⟨ds,.store t x y,ty,ps,af,none⟩) (hx:a.eval x=p) (hy:a.eval y=v) (hst:(Instr.storeAt t p v).run P w=.ok () w')
  (h:wpList P ops Q rest (a.put ds undef) w'):wpList P ops Q (o :: rest) a w:=by
 subst ho;subst hx;subst hy;refine wpList_plain rfl fun K hK=>?_;unfold Oper.wp execOp;simp only [Sem.run_bind,Sem.run_pure,Result.andThen_ok,hst];exact hK _ _ h
theorem store_row{w:World}{g:Nat}{t ty:TypeId}{cs us:Array Value}(hg:w.heap[g]?=some (.cells cs t (0,0)))(hl:us.size=cs.size)(hi:(Tryz.prog.info? ty).map (·.size)=some us.size)(h1:us.all (·.oneCell')=true):(Instr.storeAt ty (.pointer (some ⟨g,0,none⟩)) (.agg us)).run Tryz.prog w=.ok () (w.setCells g 0 us.toList):=by
 refine run_storeAt_mid w g 0 ty us (fun j hj=>?_) hi h1;rw [Nat.zero_add];refine⟨?_,frozen_blk hg j⟩;rw [cell_blk hg j,Array.getElem?_eq_getElem (by omega)];rfl
theorem setCells_gen{R:Nat}{t:TypeId}{fr:Nat × Nat}:∀ (vs:List Value) (o:Nat) (w:World) (cs:Array Value),w.heap[R]?=some (.cells cs t fr)->o+vs.length<=cs.size ->
  (∃ ds:Array Value,(w.setCells R o vs).heap[R]?=some (.cells ds t fr)/\ds.toList=cs.toList.take o ++ vs ++ cs.toList.drop (o+vs.length))/\(∀ k,k≠R->(w.setCells R o vs).heap[k]?=w.heap[k]?)/\(w.setCells R o vs).heap.size=w.heap.size/\(w.setCells R o vs).os=w.os/\(w.setCells R o vs).tape=w.tape/\(w.setCells R o vs).output=w.output
 | [],o,w,cs,h,_=>⟨⟨cs,h,by simp⟩,fun _ _=>rfl,rfl,rfl,rfl,rfl⟩
 | v :: r,o,w,cs,h,hl=>by
  simp only [List.length_cons]at hl;obtain⟨⟨ds,h1,h2⟩,h3,h4,h5,h6,h7⟩:=setCells_gen r (o+1) (w.setCell ⟨R,o,none⟩ v) (cs.setIfInBounds o v) (set_blk h v) (by simp;omega);refine⟨⟨ds,h1,?_⟩,fun k hk=>(h3 k hk).trans (set_other (a:=⟨R,o,none⟩) _ hk),h4.trans (by simp [World.setCell]),h5,h6,h7⟩;have ho:o<cs.toList.length:=by simp;omega
  rw [h2,Array.toList_setIfInBounds,List.drop_set_of_lt (by omega),List.take_add_one,List.take_set_of_le (Nat.le_refl _),List.getElem?_set_self ho];simp [List.length_cons,Nat.add_assoc,Nat.add_comm 1]
theorem sets_row{w:World}{R:Nat}{cs:Array Value}{t:TypeId}{fr:Nat × Nat}(h:w.heap[R]?=some (.cells cs t fr))(vs:Array Value)(hl:vs.size=cs.size):∃ W,W=w.setCells R 0 vs.toList/\W.heap[R]?=some (.cells vs t fr)/\Fr w W (fun k=>k=R):=by
 obtain⟨⟨ds,h1,h2⟩,h3,h4,h5,h6,h7⟩:=setCells_gen vs.toList 0 w cs h (by simp;omega);refine⟨_,rfl,?_,⟨h5,h6,h7,by omega,fun k _ hk=>h3 k hk⟩⟩;have e:ds=vs:=by
  apply Array.toList_inj.1;rw [h2];simp [hl]
 rw [h1,e]
theorem load_var{w:World}{g:Nat}{t ty:TypeId}{cs:Array Value}{fr:Nat × Nat}{d:TypeDesc}(hg:w.heap[g]?=some (.cells cs t fr))(hu:Tryz.prog.underlying ty=some d)(hd:d.isRow=true)(hi:(Tryz.prog.info? ty).map (·.size)=some cs.size):(loadVar ty ⟨g,0,none⟩).run Tryz.prog w=.ok (.agg cs) w :=
 run_loadVar_row w g t ty cs fr d hg hu (by cases d <;> first | rfl | cases hd) hi
theorem results_one{fn:Func}{t:Tmp}{ty:TypeId}{ad:Addr}{v:Value}{tmps:Array Value}{w:World}(h:fn.results=#[.cell t ty])(ha:tmps.getD t undef=.pointer (some ad))(hl:(loadVar ty ad).run Tryz.prog w=.ok v w):(results fn tmps).run Tryz.prog w=.ok v w:=by
 have ha2:tmps[t]?.getD undef=.pointer (some ad):=by simpa using ha
 simp [results,h,ha2,asAddr,hl]
theorem Lr.shape{α:Type}{E:World->α->List Value->Prop}{c:Nat}{w:World}{L:List α}{v:Value}(h:Lr E c w L v):∃ ad cap,v=.slice ad L.length cap/\cap<=maxLen/\L.length<=cap:=by
 obtain⟨ad,cap,e,_,h1,h2,_⟩:=h;exact⟨ad,cap,e,h2,h1⟩
theorem keep_rowB{w w':World}{B:Nat}{T:Nat->Prop}{e:TypeId}{c n:Nat}{v:Value}{xs:List Value}(hr:w.ownsRow B e c v n xs)(hf:Fr w w' T)(ht:∀ k,T k->∀ cs,w.heap[k]?≠some (.cells cs e (0,0))):w'.ownsRow B e c v n xs :=
 row_keep hr hf (fun j hj q=>by
  obtain⟨cs,t⟩:=own_tag hr j hj;exact ht j q cs t)
abbrev vlL(v:Vl):List Value:=[.int .i64 v.k,.int .i64 v.n,.string v.s]
abbrev vlV(v:Vl):Value:=.agg #[.int .i64 v.k,.int .i64 v.n,.string v.s]
abbrev colL(c:Col):List Value:=[.int .i64 c.id,.string c.nm,.int .i64 c.kd,.int .i64 c.st,.int .i64 c.df.k,.int .i64 c.df.n,.string c.df.s]
abbrev colA(c:Col):Array Value:=#[.int .i64 c.id,.string c.nm,.int .i64 c.kd,.int .i64 c.st,.int .i64 c.df.k,.int .i64 c.df.n,.string c.df.s]
abbrev ixL(c:Ix):List Value:=[.int .i64 c.id,.string c.nm,.int .i64 c.col,.bool c.uq,.int .i64 c.st]
abbrev ixA(c:Ix):Array Value:=#[.int .i64 c.id,.string c.nm,.int .i64 c.col,.bool c.uq,.int .i64 c.st]
abbrev fkL(c:Fk):List Value:=[.int .i64 c.id,.string c.nm,.int .i64 c.col,.int .i64 c.par,.int .i64 c.st]
abbrev fkA(c:Fk):Array Value:=#[.int .i64 c.id,.string c.nm,.int .i64 c.col,.int .i64 c.par,.int .i64 c.st]
theorem colL_len(x:Col):(colL x).length=7:=rfl
theorem ixL_len(x:Ix):(ixL x).length=5:=rfl
theorem fkL_len(x:Fk):(fkL x).length=5:=rfl
abbrev inL(n:Int):List Value:=[.int .i64 n]
abbrev stL(s:ByteArray):List Value:=[.string s]
theorem inL_len(x:Int):(inL x).length=1:=rfl
theorem stL_len(x:ByteArray):(stL x).length=1:=rfl
def colE(_:World)(x:Col)(cs:List Value):Prop:=cs=colL x
def ixE(_:World)(x:Ix)(cs:List Value):Prop:=cs=ixL x
def fkE(_:World)(x:Fk)(cs:List Value):Prop:=cs=fkL x
def inE(_:World)(x:Int)(cs:List Value):Prop:=cs=inL x
def stE(_:World)(x:ByteArray)(cs:List Value):Prop:=cs=stL x
theorem colE_held:Held colE:=fun _ _ _ _ _ h=>h
theorem ixE_held:Held ixE:=fun _ _ _ _ _ h=>h
theorem fkE_held:Held fkE:=fun _ _ _ _ _ h=>h
theorem inE_held:Held inE:=fun _ _ _ _ _ h=>h
theorem stE_held:Held stE:=fun _ _ _ _ _ h=>h
abbrev tbL(t:Tb)(cv iv kv:Value):List Value:=[.int .i64 t.id,.string t.nm,cv,iv,kv]
structure Three (w:World) (t:Tb) (cv iv kv:Value):Prop where
 c:Lr colE 7 w t.cols cv
 i:Lr ixE 5 w t.ixs iv
 k:Lr fkE 5 w t.fks kv
theorem Three.on{w w':World}{t:Tb}{cv iv kv:Value}(h:Three w t cv iv kv)(hb:Below w.heap.size w w'):Three w' t cv iv kv:=⟨h.c.on colE_held hb,h.i.on ixE_held hb,h.k.on fkE_held hb⟩
def tbE(w:World)(t:Tb)(cs:List Value):Prop:=∃ cv iv kv,cs=tbL t cv iv kv/\Three w t cv iv kv
theorem tbE_held:Held tbE:=fun _ _ _ _ hb ⟨cv,iv,kv,e,h⟩=>⟨cv,iv,kv,e,h.on hb⟩
abbrev scV(s:Sc)(tv:Value):Value:=.agg #[.int .i64 s.ver,.int .i64 s.last,tv]
abbrev scA(s:Sc)(tv:Value):Array Value:=#[.int .i64 s.ver,.int .i64 s.last,tv]
abbrev tbV(t:Tb)(cv iv kv:Value):Value:=.agg #[.int .i64 t.id,.string t.nm,cv,iv,kv]
abbrev tbA(t:Tb)(cv iv kv:Value):Array Value:=#[.int .i64 t.id,.string t.nm,cv,iv,kv]
abbrev ddA(d:Dd)(cv:Value):Array Value:=#[.int .i64 d.kind,.string d.table,.string d.name,.string d.column,.string d.parent,.bool d.uq,.int .i64 d.ty,.int .i64 d.df.k,.int .i64 d.df.n,.string d.df.s,cv]
theorem bnew(w:World)(o:Obj):Below w.heap.size w (w.alloc o):=(Below.refl _ w).alloc (Nat.le_refl _) o
theorem bgo{w W X:World}(h:Below w.heap.size w W)(k:Below W.heap.size W X):Below w.heap.size w X:=h.trans (k.mono h.size)
theorem bw1{w W:World}{a:Obj}(h:W=w.alloc a):Below w.heap.size w W:=by rw [h];exact bnew _ _
theorem bw2{w W:World}{a b:Obj}(h:W=(w.alloc a).alloc b):Below w.heap.size w W:=by rw [h];exact((Below.refl _ w).alloc (Nat.le_refl _) _).alloc (by simp) _
theorem bw3{w W:World}{a b c:Obj}(h:W=((w.alloc a).alloc b).alloc c):Below w.heap.size w W:=by rw [h];exact(((Below.refl _ w).alloc (Nat.le_refl _) _).alloc (by simp) _).alloc (by simp;omega) _
theorem nw11{w W:World}{a:Obj}{Y:Nat}(h:W=w.alloc a)(h0:w.heap.size=Y):W.heap[Y]?=some a:=by
 rw [h,<-h0];exact heap_alloc_new w a
theorem nw21{w W:World}{a b:Obj}{Y:Nat}(h:W=(w.alloc a).alloc b)(h0:w.heap.size=Y):W.heap[Y]?=some a:=by
 have:=heap_alloc_new w a;rw [h,<-h0,Below.heap_alloc _ _ _ (by simp only [World.size_alloc];omega)];exact this
theorem nw22{w W:World}{a b:Obj}{Y Z:Nat}(h:W=(w.alloc a).alloc b)(h0:w.heap.size=Y)(h1:Y+1=Z):W.heap[Z]?=some b:=by
 have:=heap_alloc_new (w.alloc a) b;simp only [World.size_alloc]at this;rw [h,<-h1,<-h0];exact this
theorem nw31{w W:World}{a b c:Obj}{Y:Nat}(h:W=((w.alloc a).alloc b).alloc c)(h0:w.heap.size=Y):W.heap[Y]?=some a:=by
 have:=heap_alloc_new w a;rw [h,<-h0,Below.heap_alloc _ _ _ (by simp only [World.size_alloc];omega),Below.heap_alloc _ _ _ (by simp only [World.size_alloc];omega)];exact this
theorem nw32{w W:World}{a b c:Obj}{Y Z:Nat}(h:W=((w.alloc a).alloc b).alloc c)(h0:w.heap.size=Y)(h1:Y+1=Z):W.heap[Z]?=some b:=by
 have:=heap_alloc_new (w.alloc a) b;simp only [World.size_alloc]at this;rw [h,<-h1,<-h0,Below.heap_alloc _ _ _ (by simp only [World.size_alloc];omega)];exact this
theorem nw33{w W:World}{a b c:Obj}{Y Z V:Nat}(h:W=((w.alloc a).alloc b).alloc c)(h0:w.heap.size=Y)(h1:Y+1=Z)(h2:Z+1=V):W.heap[V]?=some c:=by
 have:=heap_alloc_new ((w.alloc a).alloc b) c;simp only [World.size_alloc]at this;rw [h,<-h2,<-h1,<-h0];exact this
theorem key_inj{a b:ByteArray}(h:a.data.toList=b.data.toList):a=b:=by
 cases a;cases b;simpa [Array.toList_inj]using h
theorem same_eq(a b:ByteArray):(a.toList == b.toList)=decide (a=b):=by
 rw [ByteArray.toList_eq,ByteArray.toList_eq];by_cases h:a=b
 ·subst h;simp
 ·simp only [h,decide_false];rw [beq_eq_false_iff_ne];exact fun e=>h (key_inj e)
end Go.Proofs.YtkhehikaemdnnaaGreat
