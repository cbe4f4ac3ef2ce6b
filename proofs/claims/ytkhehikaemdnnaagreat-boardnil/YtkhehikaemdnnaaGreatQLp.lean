import Derived.Test.YtkhehikaemdnnaaGreatQLk
import Derived.Test.YtkhehikaemdnnaaGreatQLd
import Derived.Test.YtkhehikaemdnnaaGreatQLe
import Derived.Test.YtkhehikaemdnnaaGreatQLf
namespace Go.Proofs.YtkhehikaemdnnaaGreat
open Go.RowKit Go.Maps
structure Bx (w:World) (B:Nat) (W:Nat->Nat) (b:Bd) (J:List (Jb × Value)) (tv lv jv rv mv:Value):Prop where
 ob:w.heap[B]?=some (.cells (bdA b.sch.ver b.sch.last tv lv jv rv mv) 88 (0,0))
 jj:J.map Prod.fst=b.jobs
 tb:Reads (fun k=>W k≠2) w fun V=>Lr tbE 5 V b.sch.tabs tv
 co:∀ x ∈ J,Reads (fun k=>W k≠2) w fun V=>Lr colE 7 V x.1.ddl.cols x.2
 le:w.ownsRow 0 78 3 lv b.leases.length (b.leases.flatMap leL)
 jb:w.ownsRow 0 66 22 jv J.length (J.flatMap jrow)
 rn:RunL w rv (runsF 0 b.jobs)
 id:MapIs w mv b.jobs
 wB:W B=1
 wl:∀ k,lv.ownBlock=some k->W k=1
 wj:∀ k,jv.ownBlock=some k->W k=1
 wr:∀ k,RunBlk rv k->W k=1
 wm:∀ m,mv=.map (some m)->W m=1
 lt:∀ k,W k≠0->k<w.heap.size
def Bo(w:World)(B:Nat)(W:Nat->Nat)(b:Bd):Prop:=∃ J tv lv jv rv mv,Bx w B W b J tv lv jv rv mv
def Went(w:World)(B:Nat)(W:Nat->Nat)(b:Bd)(w':World):Prop:=∃ W',Bo w' B W' b/\Fr w w' (fun k=>W k=1)/\∀ k,k<w.heap.size->W' k=W k
section
variable {w w' : World} {B : Nat} {W : Nat -> Nat} {b : Bd} {J : List (Jb × Value)} {tv lv jv rv mv : Value}
theorem Bx.stays(hx:Bx w B W b J tv lv jv rv mv)(hs:w.heap.size<=w'.heap.size)(hk:∀ k,k<w.heap.size->W k≠0->w'.heap[k]?=w.heap[k]?):Bx w' B W b J tv lv jv rv mv where
 ob:=(hk B (blk_lt hx.ob) (by rw [hx.wB];decide)).trans hx.ob
 jj:=hx.jj
 tb:=hx.tb.go hs (fun k h1 h2=>hk k h1 (by omega)) fun _ _ q=>q
 co:=fun x h=>(hx.co x h).go hs (fun k h1 h2=>hk k h1 (by omega)) fun _ _ q=>q
 le:=own_blk hx.le fun g h1 h2=>hk g h2 (by rw [hx.wl g h1];decide)
 jb:=own_blk hx.jb fun g h1 h2=>hk g h2 (by rw [hx.wj g h1];decide)
 rn:=hx.rn.stays fun k h=>hk k (run_lt hx.rn h) (by rw [hx.wr k h];decide)
 id:=hx.id.like fun m h=>hk m (hx.id.lt m h) (by rw [hx.wm m h];decide)
 wB:=hx.wB
 wl:=hx.wl
 wj:=hx.wj
 wr:=hx.wr
 wm:=hx.wm
 lt:=fun k h=>Nat.lt_of_lt_of_le (hx.lt k h) hs
theorem Bx.on(hx:Bx w B W b J tv lv jv rv mv)(hb:Below w.heap.size w w'):Bx w' B W b J tv lv jv rv mv:=hx.stays hb.size fun k h _=>hb.block k h
theorem Bo.on(hx:Bo w B W b)(hb:Below w.heap.size w w'):Bo w' B W b:=by
 obtain⟨J,tv,lv,jv,rv,mv,hx⟩:=hx;exact⟨J,tv,lv,jv,rv,mv,hx.on hb⟩
theorem Bo.off{T:Nat->Prop}(hx:Bo w B W b)(hf:Fr w w' T)(hT:∀ k,T k->W k=0):Bo w' B W b:=by
 obtain⟨J,tv,lv,jv,rv,mv,hx⟩:=hx;exact⟨J,tv,lv,jv,rv,mv,hx.stays hf.size fun k h h0=>hf.block k h fun q=>h0 (hT k q)⟩
theorem Bo.lt(hx:Bo w B W b){k:Nat}(h:W k≠0):k<w.heap.size:=by
 obtain⟨J,tv,lv,jv,rv,mv,hx⟩:=hx;exact hx.lt k h
theorem Bo.wB(hx:Bo w B W b):W B=1:=by
 obtain⟨J,tv,lv,jv,rv,mv,hx⟩:=hx;exact hx.wB
theorem Went.same(hx:Bo w B W b)(hb:Below w.heap.size w w'):Went w B W b w':=⟨W,hx.on hb,Fr.ofBelow _ hb,fun _ _=>rfl⟩
theorem Went.below{w2:World}(h:Went w B W b w')(hb:Below w'.heap.size w' w2):Went w B W b w2:=by
 obtain⟨W',h1,h2,h3⟩:=h;exact⟨W',h1.on hb,h2.below hb,h3⟩
theorem new_col(W:Nat->Nat)(n n':Nat)(P:Nat->Prop):∃ W':Nat->Nat,(∀ k,k<n->W' k=W k)/\(∀ k,n<=k->P k->W' k=1)/\(∀ k,n<=k->¬ P k->k<n'->W' k=2)/\∀ k,n<=k->¬ P k->n'<=k->W' k=0:=by
 classical
 refine⟨fun k=>if k<n then W k else if P k then 1 else if k<n' then 2 else 0,fun k h=>if_pos h,fun k h hp=>?_,fun k h hp h2=>?_,fun k h hp h2=>?_⟩
 ·show(if k<n then _ else _)=_
  rw [if_neg (by omega),if_pos hp]
 ·show(if k<n then _ else _)=_
  rw [if_neg (by omega),if_neg hp,if_pos h2]
 ·show(if k<n then _ else _)=_
  rw [if_neg (by omega),if_neg hp,if_neg (by omega)]
theorem jj_at(hj:J.map Prod.fst=b.jobs){i:Nat}{j:Jb}(h:b.jobs[i]?=some j):∃ cv,J[i]?=some (j,cv):=by
 rw [<-hj,List.getElem?_map]at h;obtain⟨x,hx,rfl⟩:=Option.map_eq_some_iff.1 h;exact⟨x.2,hx⟩
theorem Bx.row(hx:Bx w B W b J tv lv jv rv mv){i:Nat}{j:Jb}{cv:Value}(h:J[i]?=some (j,cv)):∃ jb cap cur,jv=.slice (some ⟨jb,0,none⟩) J.length cap/\w.heap[jb]?=some (.cells cur 66 (0,0))/\i*22+22<=cur.size/\JobAt w jb (i*22) j cv/\i<J.length/\jb≠B:=by
 obtain⟨hlt,hg⟩:=List.getElem?_eq_some_iff.1 h;have hb:=hx.jb;rcases hb.2 with⟨_,h0⟩ | ⟨jb,cap,cur,rfl,_,h1,h2,h3,h4,h5⟩
 ·omega
 ·have hle:i*22+22<=J.length*22:=by omega
  refine⟨jb,cap,cur,rfl,h1,by omega,fun k v hv=>?_,hlt,fun e=>?_⟩
  ·have hk:k<22:=by
    have:=(List.getElem?_eq_some_iff.1 hv).1;rw [jbL_len]at this;exact this
   rw [cell_blk h1,<-Array.getElem?_toList];have h6:(J.flatMap jrow)[i*22+k]?=some v:=by
    rw [fl_get (jrow_len) J i hlt k hk,hg];exact hv
   rw [<-h5,List.getElem?_take]at h6;rw [if_pos (by omega)]at h6;exact h6
  ·exact ty_ne h1 hx.ob (by decide) e
theorem own_jput{jb cap i:Nat}{cur:Array Value}{j':Jb}{cv:Value}(h:w.ownsRow 0 66 22 (.slice (some ⟨jb,0,none⟩) J.length cap) J.length (J.flatMap jrow))(hcur:w.heap[jb]?=some (.cells cur 66 (0,0)))(hi:i<J.length)(hP:JPut w' jb (i*22) cur j' cv):w'.ownsRow 0 66 22 (.slice (some ⟨jb,0,none⟩) (J.set i (j',cv)).length cap) (J.set i (j',cv)).length ((J.set i (j',cv)).flatMap jrow):=by
 obtain⟨cur0,g0,g1,g2,g3,g4⟩:=row_blk h;rw [hcur]at g0;cases g0;obtain⟨cur',p1,p2,p3,p4⟩:=hP;rw [List.length_set];refine⟨by rw [fl_len jrow_len,List.length_set],.inr ⟨jb,cap,cur',rfl,Nat.zero_le _,p1,g1,g2,p2.trans g3,?_⟩⟩;refine List.ext_getElem? fun k=>?_;rw [List.getElem?_take];by_cases hk:k<J.length*22
 ·rw [if_pos hk,Array.getElem?_toList];have hdm:(k / 22)*22+k % 22=k:=by omega
  have hq:k / 22<J.length:=by omega
  have hm:k % 22<22:=Nat.mod_lt _ (by decide);have e1:=fl_get jrow_len (J.set i (j',cv)) (k / 22) (by rw [List.length_set];exact hq) (k % 22) hm;rw [hdm]at e1;rw [e1];by_cases hki:k / 22=i
  ·subst hki;rw [List.getElem_set_self];have:=jrow_len (j',cv);have hv:=List.getElem?_eq_getElem (l:=jbL j' cv) (i:=k % 22) (by rw [jbL_len];exact hm);have:=p4 (k % 22) _ hv;rw [cell_blk p1,hdm]at this;rw [this,hv]
  ·rw [List.getElem_set_ne (fun q=>hki q.symm)];rw [p3 k (by omega)];have e2:=fl_get jrow_len J (k / 22) hq (k % 22) hm;rw [hdm]at e2;rw [<-e2,<-g4,List.getElem?_take,if_pos hk,Array.getElem?_toList]
 ·rw [if_neg hk]
  symm
  rw [List.getElem?_eq_none_iff,fl_len jrow_len,List.length_set];omega
end
end Go.Proofs.YtkhehikaemdnnaaGreat
namespace Go.Proofs.YtkhehikaemdnnaaGreat
open Go.RowKit Go.Maps
section
variable {w w' : World} {B : Nat} {W : Nat -> Nat} {b : Bd} {J : List (Jb × Value)} {tv lv jv rv mv : Value}
theorem MapIs.set{js:List Jb}{i:Nat}{j j':Jb}(h:MapIs w mv js)(hj:js[i]?=some j)(ha:j'.asker=j.asker):MapIs w mv (js.set i j'):=by
 rcases h with⟨_,h2⟩ | ⟨m,n,h1,h2,h3⟩
 ·rw [h2]at hj;simp at hj
 ·exact .inr ⟨m,n,h1,by rw [List.length_set];exact h2,h3.same fun t=>idOf_set js i j j' hj ha t⟩
theorem Bx.next{s:Sc}{tv' rv' cv:Value}{i jb cap:Nat}{j j':Jb}{cur:Array Value}(hx:Bx w B W b J tv lv jv rv mv)(hJ:J[i]?=some (j,cv))(hjv:jv=.slice (some ⟨jb,0,none⟩) J.length cap)(hcur:w.heap[jb]?=some (.cells cur 66 (0,0)))(hP:JPut w' jb (i*22) cur j' cv)(hB:w'.heap[B]?=some (.cells (bdA s.ver s.last tv' lv jv rv' mv) 88 (0,0)))(hT:Reads (fun k=>k<w.heap.size) w' (fun V=>Lr tbE 5 V s.tabs tv')\/(s.tabs=b.sch.tabs/\tv'=tv))(hr:RunL w' rv' (runsF 0 (b.jobs.set i j')))(hrb:∀ k,RunBlk rv' k->RunBlk rv k)(hF:Fr w w' (fun k=>k=jb\/k=B))(hd:j'.ddl=j.ddl)(ha:j'.asker=j.asker):Went w B W ⟨s,b.leases,b.jobs.set i j'⟩ w':=by
 obtain⟨W',h1,_,h3,h4⟩:=new_col W w.heap.size w'.heap.size (fun _=>False);have hjb:W jb=1:=hx.wj jb (by rw [hjv];rfl);have hij:i<J.length:=(List.getElem?_eq_some_iff.1 hJ).1;have hlt:∀ k,W k≠0->W' k=W k:=fun k hk=>h1 k (hx.lt k hk);have h1':∀ k,W k=1->W' k=1:=fun k hk=>by rw [hlt k (by rw [hk];decide)];exact hk
 have hS:∀ k,k<w.heap.size->(k=jb\/k=B)->W k≠2:=fun k _ q=>by
  rcases q with q | q
  ·rw [q,hjb]
   decide
  ·rw [q,hx.wB]
   decide
 have hM:∀ k,k<w.heap.size->W' k≠2->W k≠2:=fun k hk q=>by rw [<-h1 k hk];exact q
 have hbj:b.jobs[i]?=some j:=by rw [<-hx.jj,List.getElem?_map,hJ];rfl
 refine⟨W',⟨J.set i (j',cv),tv',lv,jv,rv',mv,?_⟩,hF.mono fun k q=>by rcases q with q | q;rw [q];exact hjb;rw [q];exact hx.wB,h1⟩;refine { ob:=hB,jj:=?_,tb:=?_,co:=fun x hxm=>?_,le:=?_,jb:=?_,rn:=hr,id:=?_,wB:=h1' B hx.wB,wl:=fun k q=>h1' k (hx.wl k q),wj:=fun k q=>h1' k (hx.wj k q),wr:=fun k q=>h1' k (hx.wr k (hrb k q)),wm:=fun k q=>h1' k (hx.wm k q),lt:=fun k q=>?_ }
 ·rw [List.map_set,hx.jj]
 ·rcases hT with hT | ⟨e1,e2⟩
  ·exact hT.go (Nat.le_refl _) (fun _ _ _=>rfl) fun k hk q=>by
    rcases Nat.lt_or_ge k w.heap.size with g | g
    ·exact g
    ·exact absurd (h3 k g (fun q=>q) hk) q
  ·rw [e1,e2];exact hx.tb.fr hF hS hM
 ·rcases List.mem_or_eq_of_mem_set hxm with q | q
  ·exact(hx.co x q).fr hF hS hM
  ·subst q;show Reads _ w' fun V=>Lr colE 7 V j'.ddl.cols cv
   rw [hd];exact(hx.co (j,cv) (List.mem_of_getElem? hJ)).fr hF hS hM
 ·refine own_blk hx.le fun g hg hl=>hF.block g hl fun q=>?_;obtain⟨_,hc⟩:=own_ty hx.le hg;rcases q with q | q
  ·exact ty_ne hc hcur (by decide) q
  ·exact ty_ne hc hx.ob (by decide) q
 ·have h:=hx.jb;rw [hjv]at h;have:=own_jput h hcur hij hP;rw [hjv];rw [List.length_set]at this ⊢;exact this
 ·refine(hx.id.like (w':=w') fun m hm=>hF.block m (hx.id.lt m hm) fun q=>?_).set hbj ha;rcases hx.id with e | ⟨m',n,e,_,hMt⟩
  ·rw [e.1]at hm;cases hm
  ·rw [e]at hm;cases hm;rcases q with q | q
   ·exact map_ne hcur hMt q.symm
   ·exact map_ne hx.ob hMt q.symm
 ·rcases Nat.lt_or_ge k w.heap.size with g | g
  ·exact Nat.lt_of_lt_of_le g hF.size
  ·rcases Nat.lt_or_ge k w'.heap.size with g' | g'
   ·exact g'
   ·exact absurd (h4 k g (fun q=>q) g') q
structure At1 (w:World) (B:Nat) (b:Bd) (J:List (Jb × Value)) (jv:Value) (i:Nat) (j:Jb) (cv:Value) (jb cap:Nat) (cur:Array Value) (L:List Nat):Prop where
 hand:b.hand=some i
 job:b.jobs[i]?=some j
 row:J[i]?=some (j,cv)
 en:j.en=0
 jve:jv=.slice (some ⟨jb,0,none⟩) J.length cap
 blk:w.heap[jb]?=some (.cells cur 66 (0,0))
 sz:i*22+22<=cur.size
 at_:JobAt w jb (i*22) j cv
 ne:jb≠B
 is:HandIs w B (.pointer (some ⟨jb,i*22,none⟩))
 runs:runsF 0 b.jobs=i :: L
 sets:∀ j':Jb,runsF 0 (b.jobs.set i j')=if j'.runs then i :: L else L
theorem Bx.hand(hx:Bx w B W b J tv lv jv rv mv):(b.hand=none/\HandIs w B (.pointer none))\/∃ i j cv jb cap cur L,At1 w B b J jv i j cv jb cap cur L:=by
 have hr:=hx.rn;cases hh:b.hand with
 | none =>
  left
  rw [runs_none b.jobs 0 hh]at hr;obtain⟨ra,rc,rfl,_⟩:=hr;exact⟨rfl,hand_is_none hx.ob⟩
 | some i =>
  right
  obtain⟨hlt,hru,_⟩:=List.findIdx?_eq_some_iff_getElem.1 hh;have hj:b.jobs[i]?=some b.jobs[i]:=List.getElem?_eq_getElem hlt;obtain⟨j,hjd⟩:∃ j,b.jobs[i]=j:=⟨_,rfl⟩
  rw [hjd]at hj hru;obtain⟨cv,hJ⟩:=jj_at hx.jj hj;obtain⟨jb,cap,cur,e1,e2,e3,e4,e5,e6⟩:=hx.row hJ;obtain⟨L,l1,l2⟩:=runs_some b.jobs 0 i hh;rw [Nat.zero_add]at l1;simp only [Nat.zero_add]at l2;refine⟨i,j,cv,jb,cap,cur,L,⟨hh,hj,hJ,by simpa [Jb.runs]using hru,e1,e2,e3,e4,e6,?_,l1,l2⟩⟩;rw [l1]at hr;obtain⟨ra,rc,hrv,_⟩:=_root_.id hr;have hob:=hx.ob;rw [e1,hrv]at hob;rw [hrv]at hr;exact hand_is_some hob hr e5
theorem Bx.turn(hx:Bx w B W b J tv lv jv rv mv)(hk:b.Ok)(c:Cm)(r:Rest)(cv0:Value)(ks:List Int):(b.turn c ks=.none/\TurnIs w B c r cv0 ks (.pointer none))\/∃ i j cv jb cap cur L,b.turn c ks=some (i,j)/\TurnIs w B c r cv0 ks (.pointer (some ⟨jb,i*22,none⟩))/\At1 w B b J jv i j cv jb cap cur L:=by
 rcases hx.hand with⟨h1,h2⟩ | ⟨i,j,cv,jb,cap,cur,L,h⟩
 ·left
  exact⟨by unfold Bd.turn;rw [h1],turn_is_none h2⟩
 ·obtain⟨p,hp,hlt⟩:=hk.ph j (List.mem_of_getElem? h.job) h.en;rcases turn_is (c:=c) (r:=r) (cv:=cv0) (KS:=ks) h.is h.hand h.job h.at_ hp hlt with⟨e1,e2⟩ | ⟨e1,e2⟩
  ·exact .inl ⟨e1,e2⟩
  ·exact .inr ⟨i,j,cv,jb,cap,cur,L,e1,e2,h⟩
theorem Bx.put{i jb cap:Nat}{j j':Jb}{cv:Value}{cur:Array Value}{L:List Nat}(hx:Bx w B W b J tv lv jv rv mv)(ha:At1 w B b J jv i j cv jb cap cur L)(hP:JPut w' jb (i*22) cur j' cv)(hF:Fr w w' (fun k=>k=jb))(hd:j'.ddl=j.ddl)(hk:j'.asker=j.asker)(he:j'.en=0):Went w B W (b.setJ i j') w':=by
 refine hx.next (s:=b.sch) (tv':=tv) (rv':=rv) ha.row ha.jve ha.blk hP ((hF.block B (blk_lt hx.ob) (fun q=>ha.ne q.symm)).trans hx.ob) (.inr ⟨rfl,rfl⟩) ?_ (fun _ q=>q) (hF.mono fun k q=>.inl q) hd hk;have hr:j'.runs=true:=by unfold Jb.runs;rw [he];rfl
 rw [ha.sets j',hr,if_pos rfl,<-ha.runs];refine hx.rn.stays fun k h=>hF.block k (run_lt hx.rn h) fun q=>?_;obtain⟨_,hc⟩:=run_ty hx.rn h;exact ty_ne hc ha.blk (by decide) q
theorem Bx.step{i jb cap:Nat}{j j':Jb}{cv tv':Value}{cur:Array Value}{L:List Nat}{s:Sc}(hx:Bx w B W b J tv lv jv rv mv)(ha:At1 w B b J jv i j cv jb cap cur L)(hS:StepAns w B jb (i*22) cur j' cv s.ver s.last tv' lv jv rv mv (if j'.runs then i :: L else L) w')(hT:Reads (fun k=>k<w.heap.size) w' (fun V=>Lr tbE 5 V s.tabs tv')\/(s.tabs=b.sch.tabs/\tv'=tv))(hd:j'.ddl=j.ddl)(hk:j'.asker=j.asker):Went w B W (({ b with sch:=s }:Bd).setJ i j') w':=by
 obtain⟨rv',g1,g2,g3,g4,g5⟩:=hS;refine hx.next (s:=s) (tv':=tv') (rv':=rv') ha.row ha.jve ha.blk g2 g1 hT ?_ g4 g5 hd hk;rw [ha.sets j'];exact g3
end
end Go.Proofs.YtkhehikaemdnnaaGreat
namespace Go.Proofs.YtkhehikaemdnnaaGreat
open Go.RowKit Go.Maps
section
variable {w : World} {B : Nat} {W : Nat -> Nat} {b : Bd} {c : Cm} {r : Rest} {cv0 : Value} {t : Int}
def Does(w:World)(B:Nat)(W:Nat->Nat)(F:FuncId)(t:Int)(c:Cm)(r:Rest)(cv0:Value)(res:Bd × Rs):Prop:=Calls Tryz.prog F #[.pointer (some ⟨B,0,none⟩),.int .i64 t,.agg (cmA c r cv0)] w fun e w'=>e=.returned (.agg (rsA res.2))/\Went w B W res.1 w'
theorem drain_does(hx:Bo w B W b)(hk:b.Ok):Does w B W 29 t c r cv0 (b.drainC c):=by
 obtain⟨J,tv,lv,jv,rv,mv,hx⟩:=hx;unfold Does Bd.drainC;rcases hx.turn hk c r cv0 [2]with⟨e1,e2⟩ | ⟨i,j,cv,jb,cap,cur,L,e1,e2,ha⟩
 ·rw [e1];exact(drain_no e2).mono fun e w' ⟨h1,h2⟩=>⟨h1,Went.same ⟨J,tv,lv,jv,rv,mv,hx⟩ h2⟩
 ·rw [e1];exact(drain_yes e2 ha.blk ha.sz ha.at_).mono fun e w' ⟨h1,h2,h3⟩=>⟨h1,hx.put ha h2 h3 rfl rfl ha.en⟩
theorem fail_does(hx:Bo w B W b)(hk:b.Ok):Does w B W 32 t c r cv0 (b.failC c):=by
 obtain⟨J,tv,lv,jv,rv,mv,hx⟩:=hx;unfold Does Bd.failC;rcases hx.turn hk c r cv0 [4]with⟨e1,e2⟩ | ⟨i,j,cv,jb,cap,cur,L,e1,e2,ha⟩
 ·rw [e1];exact(fail_no e2).mono fun e w' ⟨h1,h2⟩=>⟨h1,Went.same ⟨J,tv,lv,jv,rv,mv,hx⟩ h2⟩
 ·rw [e1];simp only;cases hb:j.back with
  | true =>
   rw [if_pos rfl];exact(fail_back e2 ha.at_ hb).mono fun e w' ⟨h1,h2⟩=>⟨h1,Went.same ⟨J,tv,lv,jv,rv,mv,hx⟩ h2⟩
  | false =>
   rw [if_neg (by decide)];exact(fail_yes e2 hb ha.blk ha.sz ha.at_).mono fun e w' ⟨h1,h2,h3⟩=>⟨h1,hx.put ha h2 h3 rfl rfl ha.en⟩
variable {J : List (Jb × Value)} {tv lv jv rv mv cv : Value} {i jb cap : Nat} {j : Jb} {cur : Array Value} {L : List Nat}
theorem Bx.blks(hx:Bx w B W b J tv lv jv rv mv)(ha:At1 w B b J jv i j cv jb cap cur L):∀ k,RunBlk rv k->k<w.heap.size/\k≠B/\k≠jb:=fun k h=>by
 obtain⟨_,hc⟩:=run_ty hx.rn h;exact⟨run_lt hx.rn h,ty_ne hc hx.ob (by decide),ty_ne hc ha.blk (by decide)⟩
theorem Bx.runs(hx:Bx w B W b J tv lv jv rv mv)(ha:At1 w B b J jv i j cv jb cap cur L):RunL w rv (i :: L):=by
 have:=hx.rn;rw [ha.runs]at this;exact this
theorem mark_does(hx:Bo w B W b)(hk:b.Ok):Does w B W 31 t c r cv0 (b.markC c):=by
 obtain⟨J,tv,lv,jv,rv,mv,hx⟩:=hx;unfold Does Bd.markC;rcases hx.turn hk c r cv0 [4,5]with⟨e1,e2⟩ | ⟨i,j,cv,jb,cap,cur,L,e1,e2,ha⟩
 ·rw [e1];exact(mark_no e2).mono fun e w' ⟨h1,h2⟩=>⟨h1,Went.same ⟨J,tv,lv,jv,rv,mv,hx⟩ h2⟩
 ·rw [e1];simp only;obtain⟨p,hp,hlt⟩:=hk.ph j (List.mem_of_getElem? ha.job) ha.en;have hbl:=hx.blks ha;by_cases hv:c.ver=1
  ·rw [if_pos hv];have hst:StepIs w B jb (i*22) (fun X w'=>StepAns X B jb (i*22) cur j.step cv b.sch.ver b.sch.last tv lv jv rv mv (if j.step.runs then i :: L else L) w'):=by
    refine⟨fun X hX=>?_,fun X X' hQ=>?_⟩
    ·exact step_both ((hX.block B (blk_lt hx.ob)).trans hx.ob) ((hX.block jb (blk_lt ha.blk)).trans ha.blk) ha.sz (range_on hX ha.at_) hp hlt ha.en ha.ne ((hx.runs ha).stays fun k h=>hX.block k (run_lt hx.rn h)) fun k h=>(hbl k h).2
    ·obtain⟨_,_,_,_,_,hf⟩:=hQ;refine⟨_,hf,fun k q=>?_⟩;rcases q with q | q
     ·rw [q];exact blk_lt ha.blk
     ·rw [q];exact blk_lt hx.ob
   refine(mark_over e2 hv hst).mono ?_;rintro e w' ⟨h1,X,X',Y,hX,hQ,hY,hf⟩;have hP:=(JPut.start ha.blk ha.at_).stays (hX.block jb (blk_lt ha.blk));have hS:=StepAns.lift hP (fun cur1 q _=>by
    rw [hX.block jb (blk_lt ha.blk),ha.blk]at q;cases q;exact hQ) (Fr.ofBelow _ hX) hY hf (blk_lt hx.ob) (blk_lt ha.blk) fun k h=>(hbl k h).1
   exact⟨h1,hx.step (s:=b.sch) (tv':=tv) ha hS (.inr ⟨rfl,rfl⟩) rfl rfl⟩
  ·rw [if_neg hv];exact(mark_far e2 hv ha.blk ha.sz ha.at_).mono fun e w' ⟨h1,h2,h3⟩=>⟨h1,hx.put ha h2 h3 rfl rfl ha.en⟩
theorem go_does{n:Nat}(hx:Bo w B W b)(hk:Fit n b)(ht:At t):Does w B W 30 t c r cv0 (b.goC t c):=by
 obtain⟨J,tv,lv,jv,rv,mv,hx⟩:=hx;have hbo:Bo w B W b:=⟨J,tv,lv,jv,rv,mv,hx⟩
 unfold Does Bd.goC;rcases hx.turn hk.ok c r cv0 [1,2,3]with⟨e1,e2⟩ | ⟨i,j,cv,jb,cap,cur,L,e1,e2,ha⟩
 ·rw [e1];exact(go_no e2).mono fun e w' ⟨h1,h2⟩=>⟨h1,Went.same hbo h2⟩
 ·rw [e1];simp only;obtain⟨p,hp,hlt⟩:=hk.ok.ph j (List.mem_of_getElem? ha.job) ha.en;obtain⟨_,_,_,_,hm,_⟩:=turn_some e1;have hbl:=hx.blks ha;have hru:=hx.runs ha;have hle:Lr leE 3 w b.leases lv:=Lr.own leL_len hx.le;have hv:I64 b.sch.ver/\b.sch.ver+1<=9223372036854775807:=by have:=hk.sch.vr;unfold I64;omega
  have hT:=hx.tb.now;have hI:=hk.sch.id;have hxm:=List.mem_of_getElem? ha.row;have hd:Lr colE 7 w j.ddl.cols cv:=(hx.co _ hxm).now;have hz:=hk.co j (List.mem_of_getElem? ha.job);have no:∀ er,∀ (e:Ending) (w':World),AdvNo w er e w'->e=.returned (.agg (rsA (b,rsE er).2))/\Went w B W (b,rsE er).1 w':=fun er e w' h=>⟨h.1,Went.same hbo h.2⟩
  have en:∀ er,∀ (e:Ending) (w':World),AdvEnd w B jb (i*22) cur { j with why:=er,drain:=false,en:=3 } cv b.sch tv lv jv rv mv L e w'->e=.returned (.agg (rsA rsN))/\Went w B W (b.setJ i { j with why:=er,drain:=false,en:=3 }) w':=fun er e w' h=>⟨h.1,hx.step (s:=b.sch) (tv':=tv) ha (by
   have q:({ j with why:=er,drain:=false,en:=3 }:Jb).runs=false:=rfl;rw [q];exact h.2) (.inr ⟨rfl,rfl⟩) rfl rfl⟩
  have hmm:j.move.1=1\/j.move.1=2\/j.move.1=3:=by simpa using hm
  by_cases hA:j.move.1=2/\j.drain=false
  ·rw [if_pos hA];exact(adv_A2 (s:=b.sch) e2 hx.ob ha.at_ hp hlt hA.1 hA.2).mono fun e w' h=>no 160 e w' h
  rw [if_neg hA];unfold Bd.clear;by_cases h2:j.move.1=2
  ·rw [if_pos h2];have hdr:j.drain=true:=by
    cases q:j.drain with
    | true=>rfl
    | false=>exact absurd ⟨h2,q⟩ hA
   cases hcl:(b.leases.all fun l=>!(decide (l.ver<b.sch.ver+1) && forceB t l))with
   | false =>
    rw [if_pos rfl];exact(adv_B2 (s:=b.sch) e2 hx.ob ha.at_ hp hlt h2 hdr hle ht hk.til hv hcl).mono fun e w' h=>no 161 e w' h
   | true =>
    rw [if_neg (by decide),if_neg (by omega)];cases hs:turnS b.sch j.ddl j.move.2 with
    | error er =>
     exact(adv_C2 (s:=b.sch) (s2:=⟨0,0,[]⟩) (er:=er) e2 hx.ob ha.at_ hp hlt h2 hdr hle ht hk.til hv hcl ha.blk ha.sz ha.en ha.ne hru hbl hT hI hd hz (by unfold turnE;rw [hs]) (turn_er hs)).mono fun e w' h=>en er e w' h
    | ok s =>
     exact(adv_D2 (s:=b.sch) (s2:=s) (er:=0) e2 hx.ob ha.at_ hp hlt h2 hdr hle ht hk.til hv hcl ha.blk ha.sz ha.en ha.ne hru hbl rfl hT hI hd hz (by unfold turnE;rw [hs]) rfl).mono fun e w' ⟨h1,tv',h3,h4⟩=>⟨h1,hx.step (s:=s) (tv':=tv') ha h4 (.inl h3) rfl rfl⟩
  ·rw [if_neg h2];by_cases h3:j.move.1=3
   ·cases hcl:(b.leases.all fun l=>!(decide (l.ver<b.sch.ver) && forceB t l))with
    | false =>
     rw [if_pos rfl];exact(adv_B3 (s:=b.sch) e2 hx.ob ha.at_ hp hlt h3 hle ht hk.til hv hcl).mono fun e w' h=>no 161 e w' h
    | true =>
     rw [if_neg (by decide),if_pos h3];exact(adv_E3 (s:=b.sch) e2 hx.ob ha.at_ hp hlt h3 hle ht hk.til hv hcl ha.blk ha.sz ha.en ha.ne hru hbl rfl).mono fun e w' h=>⟨h.1,hx.step (s:=b.sch) (tv':=tv) ha h.2 (.inr ⟨rfl,rfl⟩) rfl rfl⟩
   ·have h1:j.move.1=1:=by omega
    cases hcl:(b.leases.all fun l=>!(decide (l.ver<b.sch.ver) && forceB t l))with
    | false =>
     rw [if_pos rfl];exact(adv_B1 (s:=b.sch) e2 hx.ob ha.at_ hp hlt h1 hle ht hk.til hv hcl).mono fun e w' h=>no 161 e w' h
    | true =>
     rw [if_neg (by decide),if_neg h3];cases hs:turnS b.sch j.ddl j.move.2 with
     | error er =>
      exact(adv_C1 (s:=b.sch) (s2:=⟨0,0,[]⟩) (er:=er) e2 hx.ob ha.at_ hp hlt h1 hle ht hk.til hv hcl ha.blk ha.sz ha.en ha.ne hru hbl hT hI hd hz (by unfold turnE;rw [hs]) (turn_er hs)).mono fun e w' h=>en er e w' h
     | ok s =>
      exact(adv_D1 (s:=b.sch) (s2:=s) (er:=0) e2 hx.ob ha.at_ hp hlt h1 hle ht hk.til hv hcl ha.blk ha.sz ha.en ha.ne hru hbl rfl hT hI hd hz (by unfold turnE;rw [hs]) rfl).mono fun e w' ⟨h1,tv',h3,h4⟩=>⟨h1,hx.step (s:=s) (tv':=tv') ha h4 (.inl h3) rfl rfl⟩
end
end Go.Proofs.YtkhehikaemdnnaaGreat
namespace Go.Proofs.YtkhehikaemdnnaaGreat
open Go.RowKit Go.Maps
section
variable {w : World} {B : Nat} {W : Nat -> Nat} {b : Bd} {c : Cm} {r : Rest} {cv0 : Value} {t : Int}
theorem own_reads{M:Nat->Prop}{n c m:Nat}{e:TypeId}{v:Value}{xs:List Value}(h:w.ownsRow n e c v m xs)(hM:∀ g,v.ownBlock=some g->¬ M g):Reads M w fun V=>V.ownsRow n e c v m xs:=fun _ _ h2=>own_blk h fun g hg hl=>h2 g hl (hM g hg)
theorem own_geB{b0:Nat}{e:TypeId}{c:Nat}{v:Value}{n:Nat}{xs:List Value}(h:w.ownsRow b0 e c v n xs){g:Nat}(hg:v.ownBlock=some g):b0<=g:=by
 rcases h.2 with q | ⟨g',cap,cur,hv,h0,hg',r⟩
 ·rw [q.1]at hg;cases hg
 ·rw [hv]at hg;have e:g'=g:=by simpa [Value.ownBlock]using hg
  omega
theorem grant_went{w':World}{J:List (Jb × Value)}{tv lv jv rv mv:Value}{e:Ending}(hx:Bx w B W b J tv lv jv rv mv)(h:GrAns w B b.sch.ver b.sch.last tv lv jv rv mv c.asker.1 t b.leases e w'):e=.returned (.agg (rsA ⟨0,b.sch.ver,t+20,0,true⟩))/\Went w B W { b with leases:=b.leases.filter (fun l=>!(!forceB t l || (decide (l.node=c.asker.1) && decide (l.ver=b.sch.ver)))) ++ [⟨c.asker.1,b.sch.ver,t+20⟩] } w':=by
 obtain⟨h0,lv',L',hL,g1,g2,g3,hF⟩:=h;subst hL;refine⟨h0,?_⟩;obtain⟨W',h1,h2,h3,h4⟩:=new_col W w.heap.size w'.heap.size (fun k=>lv'.ownBlock=some k);have h1':∀ k,W k=1->W' k=1:=fun k hk=>by rw [h1 k (hx.lt k (by rw [hk];decide))];exact hk
 have hS:∀ k,k<w.heap.size->(k=B\/lv.ownBlock=some k)->W k≠2:=fun k _ q=>by
  rcases q with q | q
  ·rw [q,hx.wB]
   decide
  ·rw [hx.wl k q]
   decide
 have hM:∀ k,k<w.heap.size->W' k≠2->W k≠2:=fun k hk q=>by rw [<-h1 k hk];exact q
 have off:∀ k,k<w.heap.size->(∀ cs,w.heap[k]?≠some (.cells cs 88 (0,0)))->(∀ cs,w.heap[k]?≠some (.cells cs 78 (0,0)))->w'.heap[k]?=w.heap[k]?:=fun k hk q1 q2=>hF.block k hk fun q=>by
  rcases q with q | q
  ·rw [q]at q1;exact q1 _ hx.ob
  ·obtain⟨_,hc⟩:=own_ty hx.le q;exact q2 _ hc
 refine⟨W',⟨J,tv,lv',jv,rv,mv,{ ob:=g1,jj:=hx.jj,tb:=hx.tb.fr hF hS hM,co:=fun x q=>(hx.co x q).fr hF hS hM,le:=g2,jb:=?_,rn:=?_,id:=?_,wB:=h1' B hx.wB,wl:=fun k q=>?_,wj:=fun k q=>h1' k (hx.wj k q),wr:=fun k q=>h1' k (hx.wr k q),wm:=fun k q=>h1' k (hx.wm k q),lt:=fun k q=>?_ }⟩,hF.mono fun k q=>by rcases q with q | q;rw [q];exact hx.wB;exact hx.wl k q,h1⟩
 ·refine own_blk hx.jb fun g hg hl=>?_;obtain⟨_,hc⟩:=own_ty hx.jb hg;exact off g hl (fun cs q=>by rw [hc]at q;simp at q) fun cs q=>by rw [hc]at q;simp at q
 ·refine hx.rn.stays fun k hk=>?_;obtain⟨_,hc⟩:=run_ty hx.rn hk;exact off k (run_lt hx.rn hk) (fun cs q=>by rw [hc]at q;simp at q) fun cs q=>by rw [hc]at q;simp at q
 ·refine hx.id.like fun m hm=>?_;rcases hx.id with q | ⟨m',n,e1,_,hMt⟩
  ·rw [q.1]at hm;cases hm
  ·rw [e1]at hm;cases hm;obtain⟨es,ck,hc⟩:=hMt.isMap;exact off _ hMt.lt (fun cs q=>by rw [hc]at q;cases q) fun cs q=>by rw [hc]at q;cases q
 ·rcases g3 k q with q2 | q2
  ·exact h1' k (hx.wl k q2)
  ·exact h2 k q2 q
 ·rcases Nat.lt_or_ge k w.heap.size with g | g
  ·exact Nat.lt_of_lt_of_le g hF.size
  ·by_cases hp:lv'.ownBlock=some k
   ·exact own_lt g2 k hp
   ·rcases Nat.lt_or_ge k w'.heap.size with g' | g'
    ·exact g'
    ·exact absurd (h4 k g hp g') q
theorem grant_does{n:Nat}(hx:Bo w B W b)(hk:Fit n b)(hn:n<=100000)(ht:At t):Does w B W 27 t c r cv0 (b.grant t c):=by
 obtain⟨J,tv,lv,jv,rv,mv,hx⟩:=hx;have hbo:Bo w B W b:=⟨J,tv,lv,jv,rv,mv,hx⟩
 have hne:lv.ownBlock≠some B:=fun q=>by
  obtain⟨_,hc⟩:=own_ty hx.le q;exact ty_ne hc hx.ob (by decide) rfl
 have hz:b.leases.length<=1000000:=by have:=hk.nl;omega
 unfold Does Bd.grant;rcases hx.hand with⟨h1,h2⟩ | ⟨i,j,cv,jb,cap,cur,L,ha⟩
 ·have hd:b.drains=false:=by unfold Bd.drains;rw [h1]
  rw [if_neg (by rw [hd];decide)];exact(grant_none h2 hx.ob hx.le hne ht hk.til hz).mono fun e w' h=>grant_went hx h
 ·have hd:b.drains=j.drain:=by unfold Bd.drains;rw [ha.hand];simp only;rw [ha.job];rfl
  rw [hd];cases hj:j.drain with
  | true =>
   rw [if_pos rfl];exact(grant_no ha.is ha.at_ hj).mono fun e w' h=>⟨h.1,Went.same hbo h.2⟩
  | false =>
   rw [if_neg (by decide)];exact(grant_some ha.is ha.at_ hj hx.ob hx.le hne ht hk.til hz).mono fun e w' h=>grant_went hx h
theorem submit_went{w':World}{J:List (Jb × Value)}{tv lv jv rv mv:Value}{e:Ending}{j:Jb}{RX:List Nat}(hx:Bx w B W b J tv lv jv rv mv)(hRX:RX=runsF 0 (b.jobs ++ [j]))(h:SubAns w B b.sch.ver b.sch.last tv lv jv rv mv J RX j e w'):e=.returned (.agg (rsA ⟨0,0,0,(b.jobs.length:Int)+1,true⟩))/\Went w B W { b with jobs:=b.jobs ++ [j] } w':=by
 subst hRX;obtain⟨h0,_,jv',rv',mv',cv',g1,g2,g3,g4,g5,g6,g7,g8,hF⟩:=h;have hln:J.length=b.jobs.length:=by rw [<-hx.jj,List.length_map]
 rw [hln]at h0;refine⟨h0,?_⟩;obtain⟨W',h1,h2,h3,h4⟩:=new_col W w.heap.size w'.heap.size (fun k=>jv'.ownBlock=some k\/RunBlk rv' k\/mv'=.map (some k));have h1':∀ k,W k=1->W' k=1:=fun k hk=>by rw [h1 k (hx.lt k (by rw [hk];decide))];exact hk
 have hW1:∀ k,(k=B\/jv.ownBlock=some k\/RunBlk rv k\/mv=.map (some k))->W k=1:=fun k q=>by
  rcases q with q | q | q | q
  ·rw [q];exact hx.wB
  ·exact hx.wj k q
  ·exact hx.wr k q
  ·exact hx.wm k q
 have hS:∀ k,k<w.heap.size->(k=B\/jv.ownBlock=some k\/RunBlk rv k\/mv=.map (some k))->W k≠2:=fun k _ q=>by
  rw [hW1 k q]
  decide
 have hM:∀ k,k<w.heap.size->W' k≠2->W k≠2:=fun k hk q=>by rw [<-h1 k hk];exact q
 refine⟨W',⟨J ++ [(j,cv')],tv,lv,jv',rv',mv',{ ob:=g1,jj:=by rw [List.map_append,hx.jj];rfl,tb:=hx.tb.fr hF hS hM,co:=fun x q=>?_,le:=?_,jb:=by rw [List.length_append,List.length_singleton];exact g3,rn:=g4,id:=by rw [<-hx.jj];exact g2,wB:=h1' B hx.wB,wl:=fun k q=>h1' k (hx.wl k q),wj:=fun k q=>?_,wr:=fun k q=>?_,wm:=fun k q=>?_,lt:=fun k q=>?_ }⟩,hF.mono hW1,h1⟩
 ·rcases List.mem_append.1 q with q | q
  ·exact(hx.co x q).fr hF hS hM
  ·have q:=List.mem_singleton.1 q;subst q;refine(own_reads g5 fun g hg hn=>?_).wk fun V hV=>Lr.own colL_len hV;refine hn (h3 g (own_geB g5 hg) (fun q=>?_) (own_lt g5 g hg));obtain⟨_,hc⟩:=own_ty g5 hg;rcases q with q | q | q
   ·obtain⟨_,hc2⟩:=own_ty g3 q;exact ty_ne hc hc2 (by decide) rfl
   ·obtain⟨_,hc2⟩:=run_ty g4 q;exact ty_ne hc hc2 (by decide) rfl
   ·rcases g2 with q2 | ⟨m',n,e1,_,hMt⟩
    ·rw [q2.1]at q;cases q
    ·rw [e1]at q;cases q;exact map_ne hc hMt rfl
 ·refine own_blk hx.le fun g hg hl=>hF.block g hl fun q=>?_;obtain⟨_,hc⟩:=own_ty hx.le hg;rcases q with q | q | q | q
  ·exact ty_ne hc hx.ob (by decide) q
  ·obtain⟨_,hc2⟩:=own_ty hx.jb q;exact ty_ne hc hc2 (by decide) rfl
  ·obtain⟨_,hc2⟩:=run_ty hx.rn q;exact ty_ne hc hc2 (by decide) rfl
  ·rcases hx.id with q2 | ⟨m',n,e1,_,hMt⟩
   ·rw [q2.1]at q;cases q
   ·rw [e1]at q;cases q;exact map_ne hc hMt rfl
 ·rcases g6 k q with q2 | q2
  ·exact h1' k (hx.wj k q2)
  ·exact h2 k q2 (.inl q)
 ·rcases g7 k q with q2 | q2
  ·exact h1' k (hx.wr k q2)
  ·exact h2 k q2 (.inr (.inl q))
 ·rcases g8 k q with q2 | q2
  ·exact h1' k (hx.wm k q2)
  ·exact h2 k q2 (.inr (.inr q))
 ·rcases Nat.lt_or_ge k w.heap.size with g | g
  ·exact Nat.lt_of_lt_of_le g hF.size
  ·by_cases hp:jv'.ownBlock=some k\/RunBlk rv' k\/mv'=.map (some k)
   ·rcases hp with hp | hp | hp
    ·exact own_lt g3 k hp
    ·exact run_lt g4 hp
    ·exact g2.lt k hp
   ·rcases Nat.lt_or_ge k w'.heap.size with g' | g'
    ·exact g'
    ·exact absurd (h4 k g hp g') q
theorem submit_does{n:Nat}(hx:Bo w B W b)(hk:Fit n b)(hn:n<=100000)(hc:Reads (fun k=>W k=1) w fun V=>Lr colE 7 V c.ddl.cols cv0)(hz:c.ddl.cols.length<=1000000)(htd:TdOk c.asker):Does w B W 28 t c r cv0 (b.submit c):=by
 obtain⟨J,tv,lv,jv,rv,mv,hx⟩:=hx;have hbo:Bo w B W b:=⟨J,tv,lv,jv,rv,mv,hx⟩
 have hln:J.length=b.jobs.length:=by rw [<-hx.jj,List.length_map]
 obtain⟨ca,cc,hcv,_⟩:=hc.now;unfold Does Bd.submit;by_cases hp:pathP c.ddl.kind false=[]
 ·rw [if_pos hp,hcv];exact(sub_bad hp).mono fun e w' h=>⟨h.1,Went.same hbo h.2⟩
 rw [if_neg hp];cases hf:b.jobs.findIdx? (fun j=>decide (j.asker=c.asker))with
 | some i =>
  rcases hx.id with q | ⟨m,k,e1,e2,hMt⟩
  ·rw [q.2]at hf;cases hf
  ·have hob:=hx.ob;rw [e1]at hob;rw [hcv];exact(sub_old hob hMt htd hp (by unfold idOf;rw [hf];rfl)).mono fun e w' h=>⟨h.1,Went.same hbo h.2⟩
 | none =>
  have hnew:(J.map Prod.fst).findIdx? (fun x=>decide (x.asker=c.asker))=none:=by rw [hx.jj];exact hf
  have hLz:(runsF 0 b.jobs).length<=100000:=by have:=runs_le b.jobs 0;have:=hk.nj;omega
  have hJz:J.length<=100000:=by have:=hk.nj;omega
  have hfl:=runs_len b.jobs 0;have hM:∀ k,k<w.heap.size->(k=B\/jv.ownBlock=some k\/RunBlk rv k\/mv=.map (some k))->W k=1:=fun k _ q=>by
   rcases q with q | q | q | q
   ·rw [q];exact hx.wB
   ·exact hx.wj k q
   ·exact hx.wr k q
   ·exact hx.wm k q
  have hcr:=hc.go (M':=fun k=>k=B\/jv.ownBlock=some k\/RunBlk rv k\/mv=.map (some k)) (Nat.le_refl _) (fun _ _ _=>rfl) hM;have hjob:∀ j:Jb,b.job c=j->∀ RX,RX=runsF 0 (b.jobs ++ [j])->∀ e w',SubAns w B b.sch.ver b.sch.last tv lv jv rv mv J RX j e w'->e=.returned (.agg (rsA (({ b with jobs:=b.jobs ++ [b.job c] }:Bd),(⟨0,0,0,(b.jobs.length:Int)+1,true⟩:Rs)).2))/\Went w B W (({ b with jobs:=b.jobs ++ [b.job c] }:Bd),(⟨0,0,0,(b.jobs.length:Int)+1,true⟩:Rs)).1 w':=fun j hj RX hR e w' h=>by
   rw [hj];exact submit_went hx hR h
  by_cases hmy:4<=(runsF 0 b.jobs).length
  ·have hd:decide (4<=(b.jobs.filter Jb.runs).length)=true:=decide_eq_true (by omega);have hj:b.job c=⟨(J.length:Int)+1,c.call,c.asker,c.ddl,0,false,false,⟨#[]⟩,3,156⟩:=by
    unfold Bd.job;rw [hd,hln];rfl
   rcases hx.id with q | ⟨m,k,e1,e2,hMt⟩
   ·rw [q.2]at hmy;simp [runsF]at hmy
   ·have hob:=hx.ob;subst e1;rw [<-hx.jj]at hMt;exact(sub_new_some_many hob hMt (by omega) hx.jb hx.rn hcr hz hJz hLz htd hnew hp hmy).mono (hjob _ hj _ (by rw [runs_add];simp [Jb.runs]))
  ·have hd:decide (4<=(b.jobs.filter Jb.runs).length)=false:=decide_eq_false (by omega);have hj:b.job c=⟨(J.length:Int)+1,c.call,c.asker,c.ddl,0,false,false,⟨#[]⟩,0,0⟩:=by
    unfold Bd.job;rw [hd,hln];rfl
   rcases hx.id with q | ⟨m,k,e1,e2,hMt⟩
   ·have hob:=hx.ob;obtain⟨q1,q2⟩:=q;subst q1;have hJ0:J=[]:=List.length_eq_zero_iff.1 (by rw [hln,q2];rfl);exact(sub_new_nil hob hJ0 hx.jb hx.rn hcr hz hJz hLz htd hnew hp (by omega)).mono (hjob _ hj _ (by rw [runs_add];simp [Jb.runs,hln]))
   ·have hob:=hx.ob;subst e1;rw [<-hx.jj]at hMt;exact(sub_new_some hob hMt (by omega) hx.jb hx.rn hcr hz hJz hLz htd hnew hp (by omega)).mono (hjob _ hj _ (by rw [runs_add];simp [Jb.runs,hln]))
end
end Go.Proofs.YtkhehikaemdnnaaGreat
