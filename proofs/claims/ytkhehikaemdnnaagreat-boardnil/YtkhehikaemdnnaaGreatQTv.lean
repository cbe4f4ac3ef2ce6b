import Derived.Test.YtkhehikaemdnnaaGreatQYa0
import Derived.Carry
import Derived.ProofKit
import Derived.SizedLaws
import Derived.OpenShut
import Derived.Deep.Slices
import Derived.Lib.SmallJoins
import Derived.Test.YtkhehikaemdnnaaGreatRows
namespace Go.Proofs.YtkhehikaemdnnaaGreat
set_option maxRecDepth 100000
set_option maxHeartbeats 4000000
open Go.ChangeShapes Go.WideShapes Go.ChangeAt Go.WideMaps Go.WideElems Go.RowKit Go.Joins Go.Deep
theorem own:ownKnob Tryz.prog.godebug=none:=by kernel_rfl
theorem cells2:Tryz.prog.cellsOf 2=1:=by kernel_rfl
theorem cells4:Tryz.prog.cellsOf 4=1:=by kernel_rfl
theorem cells9:Tryz.prog.cellsOf 9=1:=by kernel_rfl
theorem cells38:Tryz.prog.cellsOf 38=3:=by kernel_rfl
theorem cells39:Tryz.prog.cellsOf 39=1:=by kernel_rfl
theorem cells40:Tryz.prog.cellsOf 40=1:=by kernel_rfl
theorem cells42:Tryz.prog.cellsOf 42=3:=by kernel_rfl
theorem cells43:Tryz.prog.cellsOf 43=1:=by kernel_rfl
theorem cells45:Tryz.prog.cellsOf 45=11:=by kernel_rfl
theorem cells46:Tryz.prog.cellsOf 46=1:=by kernel_rfl
theorem cells48:Tryz.prog.cellsOf 48=30:=by kernel_rfl
theorem cells50:Tryz.prog.cellsOf 50=31:=by kernel_rfl
theorem cells56:Tryz.prog.cellsOf 56=7:=by kernel_rfl
theorem bytes56:Tryz.prog.bytesOf 56=72:=by kernel_rfl
theorem bulk_one{H:Type}(d:DataW H):1<=Rows.uptoBulk d:=by
 cases d with
 | lit l=>cases l <;> simp [Rows.uptoBulk]
 | nil=>simp [Rows.uptoBulk]
 | ptr d=>simp [Rows.uptoBulk]
 | slice elems spare=>simp [Rows.uptoBulk]
 | agg parts=>simp [Rows.uptoBulk]
 | iface t d=>simp [Rows.uptoBulk]
 | map entries=>simp [Rows.uptoBulk]
 | held h=>simp [Rows.uptoBulk]
theorem bulk_map{H:Type}{α:Type}{q:Nat->α}{D:Nat->DataW H}{f:α->Nat}:∀ l:List Nat,(∀ i ∈ l,f (q i)<=Rows.uptoBulk (D i))->((l.map q).map f).sum<=Rows.uptoBulkAll (l.map D)
 | [],_=>by simp
 | i :: l,h=>by
  have h1:=bulk_map l (fun j hj=>h j (List.mem_cons_of_mem _ hj));have h2:=h i List.mem_cons_self;simp only [List.map_cons,List.sum_cons,Rows.uptoBulkAll];omega
section
variable {H : Type} {enc : TypeId × Value -> H} {W : World} {fuel : Nat} {cs : List Value} {x : DataW H × List MemPlace}
theorem weights_all{P:Program}{e:TypeId}{n:Nat}{d:DataW H}:∀ {l:List (DataW H)},d ∈ l->n ∈ d.weights P e->n ∈ DataW.weightsAll P e l
 | [],h,_=>by cases h
 | a :: l,h,hn=>by
  simp only [DataW.weightsAll,List.mem_append];rcases List.mem_cons.1 h with rfl | h
  ·exact .inl hn
  ·exact .inr (weights_all h hn)
theorem list_trod{α:Type}(hinh:Inhabited α){E:World->α->List Value->Prop}{P Q:α->Prop}{f:α->Nat}{st et:TypeId}{c:Nat}(hu:Tryz.prog.underlying st=some (.slice et))(hcs:Tryz.prog.cellsOf et=c)(hc0:0<c){by0:Nat}(hby:Tryz.prog.bytesOf et=by0)
  (each0:∀ (cs':List Value) (fuel:Nat) (x':DataW H × List MemPlace),cs'.length=c->DataW.trod enc Tryz.prog W 0 (fun _=>true) true fuel et cs'=some x'->∃ q:α,E W q cs'/\P q/\f q<=Rows.uptoBulk x'.1/\((∀ n ∈ DataW.weights Tryz.prog et x'.1,n<=reachBytes)->Q q))
  (hf:DataW.trod enc Tryz.prog W 0 (fun _=>true) true fuel st cs=some x):∃ (l:List α) (v:Value),cs=[v]/\Lr E c W l v/\(∀ q ∈ l,P q)/\(l.map f).sum+1<=Rows.uptoBulk x.1/\((∀ n ∈ DataW.weights Tryz.prog st x.1,n<=reachBytes)->l.length*by0<=140737488355328/\∀ q ∈ l,Q q):=by
 rcases open_slice hu hf with⟨hcs',hx⟩ | ⟨a,len,cap,m,n,D,Pl,hcs',_,hl,hm,hmm,hx,hel⟩
 ·exact⟨[],.slice none 0 0,hcs',⟨none,0,rfl,fun _=>rfl,Nat.le_refl _,Nat.zero_le _,fun i hi=>by simp at hi⟩,fun q hq=>(by cases hq),bulk_one _,fun _=>⟨by simp,fun q hq=>(by cases hq)⟩⟩
 ·simp only [if_true]at hmm;subst hmm;have each:∀ i,i<len->∃ q:α,(∃ cs',E W q cs'/\cs'.length=c/\∀ j u,cs'[j]?=some u->W.cell? (a.add (i*c+j))=some u)/\P q/\f q<=Rows.uptoBulk (D i)/\((∀ n ∈ DataW.weights Tryz.prog et (D i),n<=reachBytes)->Q q):=by
   intro i hi;obtain⟨cs',h1,h2⟩:=hel i (by omega);rw [hcs]at h1;obtain⟨_,hlen,hcell⟩:=World.cells?_some h1;obtain⟨o,e,hP,hz,hQ⟩:=each0 cs' _ _ hlen h2;refine⟨o,⟨cs',e,hlen,fun j u hu=>?_⟩,hP,hz,hQ⟩;have hj:j<cs'.length:=by
    rw [List.getElem?_eq_some_iff]at hu;exact hu.1
   have z:=hcell j (by omega);rw [add_add]at z;rw [z];exact hu
  obtain⟨q,hq⟩:=choose_lt each;have hlen:((List.range len).map q).length=len:=by simp
  refine⟨(List.range len).map q,_,hcs',⟨some a,m,by rw [hlen],fun z=>(by cases z),by rw [hlen];exact hl,hm,fun i hi=>?cl⟩,?pp,?sz,fun h=>?qq⟩
  case pp =>
   intro r hr;obtain⟨i,hi,rfl⟩:=List.mem_map.1 hr;exact(hq i (List.mem_range.1 hi)).2.1
  case qq =>
   have hd:x.1=_:=congrArg Prod.fst hx;rw [hd]at h;simp only [DataW.weights,hu]at h;have z:=h _ (List.mem_cons_self);rw [hby,List.length_map,List.length_map,List.length_range,List.length_range]at z;have hR:=reachBytes_lt;have hm9:=Nat.mul_le_mul_right by0 (Nat.le_add_right len (m - len));refine⟨by rw [hlen];omega,?_⟩;intro r hr;obtain⟨i,hi,rfl⟩:=List.mem_map.1 hr;have hi':=List.mem_range.1 hi;exact(hq i hi').2.2.2 (fun n hn=>h n (by
    simp only [List.mem_cons,List.mem_append];exact .inr (.inl (weights_all (List.mem_map.2 ⟨i,hi,rfl⟩) hn))))
  case sz =>
   have hd:x.1=_:=congrArg Prod.fst hx;have h1:=bulk_map (f:=f) (q:=q) (D:=D) (List.range len) (fun i hi=>(hq i (List.mem_range.1 hi)).2.2.1);rw [hd];simp only [Rows.uptoBulk];omega
  case cl =>
   rw [hlen]at hi;obtain⟨⟨cs',e1,e2,e3⟩,_⟩:=hq i hi;obtain⟨b,o,sp⟩:=a;have hw0:∃ u,W.cell? ((⟨b,o,sp⟩:Addr).add (i*c+0))=some u:=⟨_,e3 0 _ (List.getElem?_eq_getElem (by omega))⟩
   have hsp:sp=none:=by
    obtain⟨⟨cs0,_,l0,c0⟩,_⟩:=hq 0 (by omega);have:=World.cell?_spot (c0 0 _ (List.getElem?_eq_getElem (by omega)));simpa [Addr.add]using this
   subst hsp;have e:((List.range len).map q)[i]'(by rw [hlen];exact hi)=q i:=by simp
   rw [e];have hbl:b<W.heap.size:=by
    obtain⟨u,z⟩:=hw0;rw [add_at]at z;exact pt_lt z
   exact⟨b,o,cs',rfl,hbl,e1,e2,fun j u hu=>by
    have z:=e3 j u hu;rw [add_at]at z;rw [Nat.add_assoc];exact z⟩
theorem fld{T c k:Nat}{l:List Value}{y:DataW H × List MemPlace}(h:Tryz.prog.cellsOf T=c)(g:DataW.trod enc Tryz.prog W 0 (fun _=>true) true k T (l.take (Tryz.prog.cellsOf T))=some y):DataW.trod enc Tryz.prog W 0 (fun _=>true) true k T (l.take c)=some y:=by rw [<-h];exact g
theorem vl_trod(hl:cs.length=3)(hf:DataW.trod enc Tryz.prog W 0 (fun _=>true) true fuel 42 cs=some x):∃ v:Vl,cs=[.int .i64 v.k,.int .i64 v.n,.string v.s]:=by
 obtain⟨xs,k,hk,hxy,_,hxl,hfl⟩:=DataW.trod_struct Tryz.underlying42 hf
 match xs,hxl,cs,hl with
 | [y0,y1,y2],_,[v0,v1,v2],_ =>
  have g0:DataW.trod _ _ W 0 _ true k 3 [v0]=some y0:=fld cells3 (hfl 0 _ rfl);have g1:DataW.trod _ _ W 0 _ true k 2 [v1]=some y1:=fld cells2 (hfl 1 _ rfl);have g2:DataW.trod _ _ W 0 _ true k 9 [v2]=some y2:=fld cells9 (hfl 2 _ rfl);obtain⟨k0,f0,_,b0⟩:=DataW.trod_int Tryz.underlying3 g0;simp only [List.cons.injEq,and_true]at f0;subst f0;obtain⟨k1,f1,_,b1⟩:=DataW.trod_int Tryz.underlying2 g1;simp only [List.cons.injEq,and_true]at f1;subst f1;obtain⟨s2,f2,_,_⟩:=DataW.trod_string Tryz.underlying9 g2;simp only [List.cons.injEq,and_true]at f2;subst f2;exact⟨⟨k0,k1,s2⟩,rfl⟩
theorem td_trod(hl:cs.length=3)(hf:DataW.trod enc Tryz.prog W 0 (fun _=>true) true fuel 38 cs=some x):∃ t:Td,cs=[.int .i64 t.1,.int .i64 t.2.1,.int .i64 t.2.2]/\TdOk t:=by
 obtain⟨xs,k,hk,hxy,_,hxl,hfl⟩:=DataW.trod_struct Tryz.underlying38 hf
 match xs,hxl,cs,hl with
 | [y0,y1,y2],_,[v0,v1,v2],_ =>
  have g0:DataW.trod _ _ W 0 _ true k 3 [v0]=some y0:=fld cells3 (hfl 0 _ rfl);have g1:DataW.trod _ _ W 0 _ true k 3 [v1]=some y1:=fld cells3 (hfl 1 _ rfl);have g2:DataW.trod _ _ W 0 _ true k 3 [v2]=some y2:=fld cells3 (hfl 2 _ rfl);obtain⟨k0,f0,_,b0⟩:=DataW.trod_int Tryz.underlying3 g0;simp only [List.cons.injEq,and_true]at f0;subst f0;obtain⟨k1,f1,_,b1⟩:=DataW.trod_int Tryz.underlying3 g1;simp only [List.cons.injEq,and_true]at f1;subst f1;obtain⟨k2,f2,_,b2⟩:=DataW.trod_int Tryz.underlying3 g2;simp only [List.cons.injEq,and_true]at f2;subst f2;exact⟨(k0,k1,k2),rfl,bounds_i64 b0,bounds_i64 b1,bounds_i64 b2⟩
theorem sl_trod{st et:TypeId}(hu:Tryz.prog.underlying st=some (.slice et))(hf:DataW.trod enc Tryz.prog W 0 (fun _=>true) true fuel st cs=some x):∃ u:Value,cs=[u]/\∃ a n m,u=.slice a n m:=by
 rcases open_slice hu hf with⟨hcs,_⟩ | ⟨a,len,cap,m,n,D,Pl,hcs,_⟩
 ·exact⟨_,hcs,_,_,_,rfl⟩
 ·exact⟨_,hcs,_,_,_,rfl⟩
theorem col_trod(hl:cs.length=7)(hf:DataW.trod enc Tryz.prog W 0 (fun _=>true) true fuel 56 cs=some x):∃ v:Col,colE W v cs/\True/\0<=Rows.uptoBulk x.1/\((∀ n ∈ DataW.weights Tryz.prog 56 x.1,n<=reachBytes)->True):=by
 obtain⟨xs,k,hk,hxy,_,hxl,hfl⟩:=DataW.trod_struct Tryz.underlying56 hf
 match xs,hxl,cs,hl with
 | [y0,y1,y2,y3,y4],_,[v0,v1,v2,v3,v4,v5,v6],_ =>
  have g0:DataW.trod _ _ W 0 _ true k 3 [v0]=some y0:=fld cells3 (hfl 0 _ rfl);have g1:DataW.trod _ _ W 0 _ true k 9 [v1]=some y1:=fld cells9 (hfl 1 _ rfl);have g2:DataW.trod _ _ W 0 _ true k 3 [v2]=some y2:=fld cells3 (hfl 2 _ rfl);have g3:DataW.trod _ _ W 0 _ true k 3 [v3]=some y3:=fld cells3 (hfl 3 _ rfl);have g4:DataW.trod _ _ W 0 _ true k 42 [v4,v5,v6]=some y4:=fld cells42 (hfl 4 _ rfl);obtain⟨k0,f0,_,b0⟩:=DataW.trod_int Tryz.underlying3 g0;simp only [List.cons.injEq,and_true]at f0;subst f0;obtain⟨s1,f1,_,_⟩:=DataW.trod_string Tryz.underlying9 g1;simp only [List.cons.injEq,and_true]at f1;subst f1;obtain⟨k2,f2,_,b2⟩:=DataW.trod_int Tryz.underlying3 g2;simp only [List.cons.injEq,and_true]at f2;subst f2;obtain⟨k3,f3,_,b3⟩:=DataW.trod_int Tryz.underlying3 g3;simp only [List.cons.injEq,and_true]at f3;subst f3;obtain⟨q4,f4⟩:=vl_trod (cs:=[v4,v5,v6]) rfl g4;simp only [List.cons.injEq,and_true]at f4;obtain⟨rfl,rfl,rfl⟩:=f4;exact⟨⟨k0,s1,k2,k3,q4⟩,rfl,trivial,Nat.zero_le _,fun _=>trivial⟩
theorem cols_trod(hf:DataW.trod enc Tryz.prog W 0 (fun _=>true) true fuel 43 cs=some x):∃ (l:List Col) (v:Value),cs=[v]/\Lr colE 7 W l v/\(∀ q ∈ l,True)/\(l.map fun _=>0).sum+1<=Rows.uptoBulk x.1/\((∀ n ∈ DataW.weights Tryz.prog 43 x.1,n<=reachBytes)->l.length*72<=140737488355328/\∀ q ∈ l,True) :=
 list_trod ⟨⟨0,⟨#[]⟩,0,0,⟨0,0,⟨#[]⟩⟩⟩⟩ Tryz.underlying43 cells56 (by decide) bytes56 (fun _ _ _ h1 h2=>col_trod h1 h2) hf
theorem dd_trod(hl:cs.length=11)(hf:DataW.trod enc Tryz.prog W 0 (fun _=>true) true fuel 45 cs=some x):∃ (d:Dd) (cv:Value),cs=[.int .i64 d.kind,.string d.table,.string d.name,.string d.column,.string d.parent,.bool d.uq,.int .i64 d.ty,.int .i64 d.df.k,.int .i64 d.df.n,.string d.df.s,cv]/\Lr colE 7 W d.cols cv/\((∀ n ∈ DataW.weights Tryz.prog 45 x.1,n<=reachBytes)->d.cols.length*72<=140737488355328):=by
 obtain⟨xs,k,hk,hxy,_,hxl,hfl⟩:=DataW.trod_struct Tryz.underlying45 hf
 match xs,hxl,cs,hl with
 | [y0,y1,y2,y3,y4,y5,y6,y7,y8],_,[v0,v1,v2,v3,v4,v5,v6,v7,v8,v9,v10],_ =>
  have g0:DataW.trod _ _ W 0 _ true k 3 [v0]=some y0:=fld cells3 (hfl 0 _ rfl);have g1:DataW.trod _ _ W 0 _ true k 9 [v1]=some y1:=fld cells9 (hfl 1 _ rfl);have g2:DataW.trod _ _ W 0 _ true k 9 [v2]=some y2:=fld cells9 (hfl 2 _ rfl);have g3:DataW.trod _ _ W 0 _ true k 9 [v3]=some y3:=fld cells9 (hfl 3 _ rfl);have g4:DataW.trod _ _ W 0 _ true k 9 [v4]=some y4:=fld cells9 (hfl 4 _ rfl);have g5:DataW.trod _ _ W 0 _ true k 4 [v5]=some y5:=fld cells4 (hfl 5 _ rfl);have g6:DataW.trod _ _ W 0 _ true k 3 [v6]=some y6:=fld cells3 (hfl 6 _ rfl);have g7:DataW.trod _ _ W 0 _ true k 42 [v7,v8,v9]=some y7:=fld cells42 (hfl 7 _ rfl);have g8:DataW.trod _ _ W 0 _ true k 43 [v10]=some y8:=fld cells43 (hfl 8 _ rfl);obtain⟨k0,f0,_,b0⟩:=DataW.trod_int Tryz.underlying3 g0;simp only [List.cons.injEq,and_true]at f0;subst f0;obtain⟨s1,f1,_,_⟩:=DataW.trod_string Tryz.underlying9 g1;simp only [List.cons.injEq,and_true]at f1;subst f1;obtain⟨s2,f2,_,_⟩:=DataW.trod_string Tryz.underlying9 g2;simp only [List.cons.injEq,and_true]at f2;subst f2;obtain⟨s3,f3,_,_⟩:=DataW.trod_string Tryz.underlying9 g3;simp only [List.cons.injEq,and_true]at f3;subst f3;obtain⟨s4,f4,_,_⟩:=DataW.trod_string Tryz.underlying9 g4;simp only [List.cons.injEq,and_true]at f4;subst f4;obtain⟨p5,f5,_⟩:=DataW.trod_bool Tryz.underlying4 g5;simp only [List.cons.injEq,and_true]at f5;subst f5;obtain⟨k6,f6,_,b6⟩:=DataW.trod_int Tryz.underlying3 g6;simp only [List.cons.injEq,and_true]at f6;subst f6;obtain⟨q7,f7⟩:=vl_trod (cs:=[v7,v8,v9]) rfl g7;simp only [List.cons.injEq,and_true]at f7;obtain⟨rfl,rfl,rfl⟩:=f7;obtain⟨l8,u8,f8,h8,_,_,w8⟩:=cols_trod g8;simp only [List.cons.injEq,and_true]at f8;subst f8;have hx:x.1=.agg [y0.1,y1.1,y2.1,y3.1,y4.1,y5.1,y6.1,y7.1,y8.1]:=by rw [hxy];rfl
  refine⟨⟨k0,s1,s2,s3,s4,p5,k6,q7,l8⟩,_,rfl,h8,fun h=>?_⟩;rw [hx]at h;exact(w8 (fun n hn=>h n (by
   simp only [DataW.weights,Tryz.underlying45,DataW.weightsEach,List.map_cons,List.mem_append];simp [hn]))).1
structure CmIn (w:World) (c:Cm) (r:Rest) (cv:Value):Prop where
 kd:I64 c.kind
 td:TdOk c.asker
 rv:∃ a n m,r.rv=.slice a n m
 wv:∃ a n m,r.wv=.slice a n m
 co:Lr colE 7 w c.ddl.cols cv
theorem cm_trod(hl:cs.length=30)(hf:DataW.trod enc Tryz.prog W 0 (fun _=>true) true fuel 48 cs=some x):∃ (c:Cm) (r:Rest) (cv:Value),cs=(cmA c r cv).toList/\CmIn W c r cv/\((∀ n ∈ DataW.weights Tryz.prog 48 x.1,n<=reachBytes)->c.ddl.cols.length*72<=140737488355328):=by
 obtain⟨xs,k,hk,hxy,_,hxl,hfl⟩:=DataW.trod_struct Tryz.underlying48 hf
 match xs,hxl,cs,hl with
 | [y0,y1,y2,y3,y4,y5,y6,y7,y8,y9,y10,y11,y12,y13,y14,y15],_,[v0,v1,v2,v3,v4,v5,v6,v7,v8,v9,v10,v11,v12,v13,v14,v15,v16,v17,v18,v19,v20,v21,v22,v23,v24,v25,v26,v27,v28,v29],_ =>
  have g0:DataW.trod _ _ W 0 _ true k 3 [v0]=some y0:=fld cells3 (hfl 0 _ rfl);have g1:DataW.trod _ _ W 0 _ true k 38 [v1,v2,v3]=some y1:=fld cells38 (hfl 1 _ rfl);have g2:DataW.trod _ _ W 0 _ true k 38 [v4,v5,v6]=some y2:=fld cells38 (hfl 2 _ rfl);have g3:DataW.trod _ _ W 0 _ true k 3 [v7]=some y3:=fld cells3 (hfl 3 _ rfl);have g4:DataW.trod _ _ W 0 _ true k 39 [v8]=some y4:=fld cells39 (hfl 4 _ rfl);have g5:DataW.trod _ _ W 0 _ true k 40 [v9]=some y5:=fld cells40 (hfl 5 _ rfl);have g6:DataW.trod _ _ W 0 _ true k 3 [v10]=some y6:=fld cells3 (hfl 6 _ rfl);have g7:DataW.trod _ _ W 0 _ true k 3 [v11]=some y7:=fld cells3 (hfl 7 _ rfl);have g8:DataW.trod _ _ W 0 _ true k 3 [v12]=some y8:=fld cells3 (hfl 8 _ rfl);have g9:DataW.trod _ _ W 0 _ true k 3 [v13]=some y9:=fld cells3 (hfl 9 _ rfl);have g10:DataW.trod _ _ W 0 _ true k 3 [v14]=some y10:=fld cells3 (hfl 10 _ rfl);have g11:DataW.trod _ _ W 0 _ true k 45 [v15,v16,v17,v18,v19,v20,v21,v22,v23,v24,v25]=some y11:=fld cells45 (hfl 11 _ rfl);have g12:DataW.trod _ _ W 0 _ true k 3 [v26]=some y12:=fld cells3 (hfl 12 _ rfl);have g13:DataW.trod _ _ W 0 _ true k 3 [v27]=some y13:=fld cells3 (hfl 13 _ rfl);have g14:DataW.trod _ _ W 0 _ true k 9 [v28]=some y14:=fld cells9 (hfl 14 _ rfl);have g15:DataW.trod _ _ W 0 _ true k 46 [v29]=some y15:=fld cells46 (hfl 15 _ rfl);obtain⟨k0,f0,_,b0⟩:=DataW.trod_int Tryz.underlying3 g0;simp only [List.cons.injEq,and_true]at f0;subst f0;obtain⟨q1,f1,b1⟩:=td_trod (cs:=[v1,v2,v3]) rfl g1;simp only [List.cons.injEq,and_true]at f1;obtain⟨rfl,rfl,rfl⟩:=f1;obtain⟨q2,f2,b2⟩:=td_trod (cs:=[v4,v5,v6]) rfl g2;simp only [List.cons.injEq,and_true]at f2;obtain⟨rfl,rfl,rfl⟩:=f2;obtain⟨k3,f3,_,b3⟩:=DataW.trod_int Tryz.underlying3 g3;simp only [List.cons.injEq,and_true]at f3;subst f3;obtain⟨u4,f4,b4⟩:=sl_trod Tryz.underlying39 g4;simp only [List.cons.injEq,and_true]at f4;subst f4;obtain⟨u5,f5,b5⟩:=sl_trod Tryz.underlying40 g5;simp only [List.cons.injEq,and_true]at f5;subst f5;obtain⟨k6,f6,_,b6⟩:=DataW.trod_int Tryz.underlying3 g6;simp only [List.cons.injEq,and_true]at f6;subst f6;obtain⟨k7,f7,_,b7⟩:=DataW.trod_int Tryz.underlying3 g7;simp only [List.cons.injEq,and_true]at f7;subst f7;obtain⟨k8,f8,_,b8⟩:=DataW.trod_int Tryz.underlying3 g8;simp only [List.cons.injEq,and_true]at f8;subst f8;obtain⟨k9,f9,_,b9⟩:=DataW.trod_int Tryz.underlying3 g9;simp only [List.cons.injEq,and_true]at f9;subst f9;obtain⟨k10,f10,_,b10⟩:=DataW.trod_int Tryz.underlying3 g10;simp only [List.cons.injEq,and_true]at f10;subst f10;obtain⟨q11,u11,f11,h11,w11⟩:=dd_trod (cs:=[v15,v16,v17,v18,v19,v20,v21,v22,v23,v24,v25]) rfl g11;simp only [List.cons.injEq,and_true]at f11;obtain⟨rfl,rfl,rfl,rfl,rfl,rfl,rfl,rfl,rfl,rfl,rfl⟩:=f11;obtain⟨k12,f12,_,b12⟩:=DataW.trod_int Tryz.underlying3 g12;simp only [List.cons.injEq,and_true]at f12;subst f12;obtain⟨k13,f13,_,b13⟩:=DataW.trod_int Tryz.underlying3 g13;simp only [List.cons.injEq,and_true]at f13;subst f13;obtain⟨s14,f14,_,_⟩:=DataW.trod_string Tryz.underlying9 g14;simp only [List.cons.injEq,and_true]at f14;subst f14;obtain⟨k15,f15,_,b15⟩:=DataW.trod_int Tryz.underlying46 g15;simp only [List.cons.injEq,and_true]at f15;subst f15;have hx:x.1=.agg [y0.1,y1.1,y2.1,y3.1,y4.1,y5.1,y6.1,y7.1,y8.1,y9.1,y10.1,y11.1,y12.1,y13.1,y14.1,y15.1]:=by rw [hxy];rfl
  refine⟨⟨k0,q1,k9,k10,q11,k12,k13,s14,k15⟩,⟨q2,k3,v8,v9,k6,k7,k8⟩,v25,rfl,⟨bounds_i64 b0,b1,b4,b5,h11⟩,fun h=>?_⟩;rw [hx]at h;exact w11 (fun n hn=>h n (by
   simp only [DataW.weights,Tryz.underlying48,DataW.weightsEach,List.map_cons,List.mem_append];simp [hn]))
def opF(w:World)(x:Oq)(cs:List Value):Prop:=cs=opL x/\I64 x.at_/\CmIn w x.c x.r x.cv
theorem op_trod(hl:cs.length=31)(hf:DataW.trod enc Tryz.prog W 0 (fun _=>true) true fuel 50 cs=some x):∃ q:Oq,opF W q cs/\True/\0<=Rows.uptoBulk x.1/\((∀ n ∈ DataW.weights Tryz.prog 50 x.1,n<=reachBytes)->q.c.ddl.cols.length*72<=140737488355328):=by
 obtain⟨xs,k,hk,hxy,_,hxl,hfl⟩:=DataW.trod_struct Tryz.underlying50 hf
 match xs,hxl,cs,hl with
 | [y0,y1],_,[v0,v1,v2,v3,v4,v5,v6,v7,v8,v9,v10,v11,v12,v13,v14,v15,v16,v17,v18,v19,v20,v21,v22,v23,v24,v25,v26,v27,v28,v29,v30],_ =>
  have g0:DataW.trod _ _ W 0 _ true k 3 [v0]=some y0:=fld cells3 (hfl 0 _ rfl);have g1:DataW.trod _ _ W 0 _ true k 48 [v1,v2,v3,v4,v5,v6,v7,v8,v9,v10,v11,v12,v13,v14,v15,v16,v17,v18,v19,v20,v21,v22,v23,v24,v25,v26,v27,v28,v29,v30]=some y1:=fld cells48 (hfl 1 _ rfl);obtain⟨k0,f0,_,b0⟩:=DataW.trod_int Tryz.underlying3 g0;simp only [List.cons.injEq,and_true]at f0;subst f0;obtain⟨q1,r1,u1,f1,h1,w1⟩:=cm_trod (cs:=[v1,v2,v3,v4,v5,v6,v7,v8,v9,v10,v11,v12,v13,v14,v15,v16,v17,v18,v19,v20,v21,v22,v23,v24,v25,v26,v27,v28,v29,v30]) rfl g1;simp only [List.cons.injEq,and_true]at f1;obtain⟨rfl,rfl,rfl,rfl,rfl,rfl,rfl,rfl,rfl,rfl,rfl,rfl,rfl,rfl,rfl,rfl,rfl,rfl,rfl,rfl,rfl,rfl,rfl,rfl,rfl,rfl,rfl,rfl,rfl,rfl⟩:=f1;have hx:x.1=.agg [y0.1,y1.1]:=by rw [hxy];rfl
  refine⟨⟨k0,q1,r1,v26⟩,⟨rfl,bounds_i64 b0,h1⟩,trivial,Nat.zero_le _,fun h=>?_⟩;rw [hx]at h;exact w1 (fun n hn=>h n (by
   simp only [DataW.weights,Tryz.underlying50,DataW.weightsEach,List.map_cons,List.mem_append];simp [hn]))
end
end Go.Proofs.YtkhehikaemdnnaaGreat
namespace Go.Proofs.YtkhehikaemdnnaaGreat
set_option maxRecDepth 100000
open Go.ChangeShapes Go.WideShapes Go.ChangeAt Go.WideMaps Go.WideElems Go.RowKit Go.Joins Go.Deep
section
variable {H : Type} {enc : TypeId × Value -> H} {W : World}
theorem open_op{base:Nat}{v:Value}{d:DataW H}{p:List MemPlace}(hv:Value.okWide Tryz.prog W .any base 50 v)(h:DataW.Trod enc Tryz.prog W 0 (fun _=>true) true 50 v d p)(hz:∀ n ∈ DataW.weights Tryz.prog 50 d,n<=reachBytes):∃ x:Oq,v=.agg (opA x)/\OqOk W x/\x.c.ddl.cols.length*72<=140737488355328:=by
 obtain⟨cs,rfl,hsz⟩:=okWide_struct Tryz.underlying50 hv;obtain⟨fuel,hf⟩:=h;obtain⟨l⟩:=cs;have hl:l.length=31:=hsz.trans cells50;obtain⟨q,⟨e1,e2,e3⟩,_,_,hQ⟩:=op_trod (cs:=l) hl hf;have hq:=hQ hz;subst e1;exact⟨q,rfl,⟨e2,e3.kd,e3.td,e3.rv,e3.wv,e3.co,by omega⟩,hq⟩
theorem againT_op{W':World}{v:Value}{d:DataW H}{p:List MemPlace}(h:DataW.Trod enc Tryz.prog W 0 (fun _=>true) true 50 v d p)(hb:Below W.heap.size W W')(hlt:∀ x ∈ p,x.block<W.heap.size):DataW.Trod enc Tryz.prog W' 0 (fun b=>decide (b<W.heap.size)) true 50 v d p :=
 Below.trod laidOut (by kernel_rfl) (of_decide_eq_true (by kernel_rfl)) h hb hlt
theorem againT_int{W':World}{v:Value}{d:DataW H}{p:List MemPlace}(h:DataW.Trod enc Tryz.prog W 0 (fun _=>true) true 3 v d p)(hb:Below W.heap.size W W')(hlt:∀ x ∈ p,x.block<W.heap.size):DataW.Trod enc Tryz.prog W' 0 (fun b=>decide (b<W.heap.size)) true 3 v d p :=
 Below.trod laidOut (by kernel_rfl) (of_decide_eq_true (by kernel_rfl)) h hb hlt
end
end Go.Proofs.YtkhehikaemdnnaaGreat
