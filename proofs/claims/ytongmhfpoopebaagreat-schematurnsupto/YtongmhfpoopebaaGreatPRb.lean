import Derived.Test.YtongmhfpoopebaaGreatPUs
import Derived.Test.YtongmhfpoopebaaGreatPBo
import Derived.Test.YtongmhfpoopebaaGreatPRa
import Derived.Test.YtongmhfpoopebaaGreatPCk
import Derived.Test.YtongmhfpoopebaaGreatPNb
namespace Go.Proofs.YtongmhfpoopebaaGreat
section
variable {P : Program} {ops : Array Oper} {Q : Exit → Act → World → Prop}
def OpFo (P:Program) (ops:Array Oper) (a0:Act) (G:(Nat→Bool)→World→Prop) (S:World→World→Prop) (R:List (Value→World→Prop)) (i:Nat) (o:Oper):Prop :=
 ∀ ρ w fl,G fl w→fl i=false→Led ops fl→(∀ j,depOn o j=true→fl j=true)→(∀ t,outer ops t=true→ρ (.tmp t)=a0.eval (.tmp t))→(∀ j t,dstOf ops j=some t→fl j=false→ρ (.tmp t)=a0.eval (.tmp t))→(∀ x,ρ (.const x)=x)→(∀ f,ρ (.func f)=.func (.func f) #[] #[]) →
  (∀ j t,depOn o j=true→dstOf ops j=some t→R.getD j (fun _ _=>True) (ρ (.tmp t)) w) →
  (plainOp o∧Runs P o ρ w fun v w'=>G (upd fl i) w'∧S w w'∧R.getD i (fun _ _=>True) v w') ∨
  (∃ j t c,onlyIf o j c∧dstOf ops j=some t∧ρ (.tmp t)=.bool c∧Runs P o ρ w fun v w'=>G (upd fl i) w'∧S w w'∧R.getD i (fun _ _=>True) v w') ∨
  (∃ j t c,onlyIf o j c∧dstOf ops j=some t∧ρ (.tmp t)≠.bool c∧G (upd fl i) w∧S w w∧R.getD i (fun _ _=>True) undef w)
theorem wp_region_fo {id:Nat} {a0:Act} {w0:World} (G:(Nat→Bool)→World→Prop) (S:World→World→Prop) (R:List (Value→World→Prop))
  (hm:P.follows .mixedOrders=true) (hd:dstsOk ops a0.tmps.size=true) (haf:afterOkB ops=true) (hst:Stable S R) (hg:G (fun _=>false) w0.drew)
  (hops:AllOps (OpFo P ops a0 G S R) 0 ops.toList)
  (he:∀ (a:Act) (w:World) (fl:Nat→Bool),(∀ j,j<ops.size→fl j=true)→G fl w→a.tmps.size=a0.tmps.size→a.defers=a0.defers→(∀ t,outer ops t=true→a.tmps.getD t undef=a0.tmps.getD t undef) →
   (∀ j t,dstOf ops j=some t→R.getD j (fun _ _=>True) (a.tmps.getD t undef) w)→Q .normal a w) :
  (Code.region id ops true).wp P Q a0 w0:=by
 refine wp_region_any hm (wpAny_kept (fun l a w=>G (fun j=>l.getD j false) w∧KeptIn ops a0 (fun _=>True) R l a w) ?_ ?_ _ _ _ _ (left_replicate _) ?_)
 ·intro l a w i ⟨hG,hk⟩ hi
  obtain ⟨hl,o,ho,hall⟩:=mem_ready.1 hi
  have hok:OpFo P ops a0 G S R i o:=by
   have:=hops.get (k:=i) (o:=o) (by rw [Array.getElem?_toList];exact ho)
   rwa [Nat.zero_add] at this
  have hun:=unlisted hk.sz ho hl
  have hil:i<l.size:=by rw [hk.sz];exact (Array.getElem?_eq_some_iff.1 ho).1
  have hrun:=hok a.eval w (fun j=>l.getD j false) hG hun (fun k ok j hok hdep hfl=>by
   obtain ⟨e,he,rfl,hb⟩:=depOn_some hdep
   exact hk.dn k ok hok hfl e he hb) (fun j hdep=>by
   obtain ⟨e,he,rfl,hb⟩:=depOn_some hdep
   exact hall e he hb) (fun t ht=>by
   rw [eval_tmp,eval_tmp]
   exact hk.out t fun j oj hj _ q=>outer_not ht hj q) (fun j t hdj hfl=>by
   rw [eval_tmp,eval_tmp]
   refine hk.out t fun j' oj hj hl' q=>?_
   obtain ⟨oj2,hj2,hdj2⟩:=dstOf_some hdj
   unfold dstsOk at hd
   simp only [Bool.and_eq_true,decide_eq_true_eq] at hd
   have e:j'=j:=nodup_filterMap hd.1 (by rw [Array.getElem?_toList];exact hj) (by rw [Array.getElem?_toList];exact hj2) q hdj2
   rw [e] at hl'
   rw [hfl] at hl'
   cases hl') (fun _=>rfl) (fun _=>rfl) (fun j t hj hdj=>by
   obtain ⟨e,he,rfl,hb⟩:=depOn_some hj
   obtain ⟨oj,hoj,hdj⟩:=dstOf_some hdj
   rw [eval_tmp]
   exact hk.is _ oj t hoj (hall e he hb) hdj)
  have hK:∀ v w',G (upd (fun j=>l.getD j false) i) w'∧S w w'∧R.getD i (fun _ _=>True) v w'→G (fun j=>(l.setIfInBounds i true).getD j false) w'∧KeptIn ops a0 (fun _=>True) R (l.setIfInBounds i true) (a.put o.dst v) w':=fun v w' ⟨h1,h2,h3⟩=>by
   rw [upd_is hil]
   exact ⟨h1,hk.next hd hst ho hall trivial h2 h3⟩
  unfold wpOp
  simp only [ho]
  have go:(Runs P o a.eval w fun v w'=>G (upd (fun j=>l.getD j false) i) w'∧S w w'∧R.getD i (fun _ _=>True) v w')→o.wp P a w (fun a' w'=>G (fun j=>(l.setIfInBounds i true).getD j false) w'∧KeptIn ops a0 (fun _=>True) R (l.setIfInBounds i true) a' w') Q:=fun hrun=>by
   unfold Oper.wp
   rcases hrun with ⟨v,w',hv,h⟩ | ⟨w',hv,h⟩ | ⟨f,args,w1,hv,hc⟩
   ·rw [hv]
    exact hK _ _ h
   ·rw [hv]
    exact hK _ _ h
   ·rw [hv]
    refine hc.mono ?_
    rintro e w' ⟨v,rfl,h⟩
    exact hK _ _ h
  rcases hrun with ⟨hgd,hrun⟩ | ⟨j,t,c,hgd,hdj,hv,hrun⟩ | ⟨j,t,c,hgd,hdj,hv,h⟩
  ·rw [if_pos (wanted_none hgd _)]
   exact .inl (go hrun)
  ·rw [if_pos (by rw [hgd];simp only [yield_is hdj hv,beq_self_eq_true])]
   exact .inl (go hrun)
  ·rw [if_neg (by rw [hgd];simp only [beq_iff_eq];exact yield_isnt hdj hv)]
   exact hK _ _ h
 ·intro l a w ⟨hG,hk⟩ hr
  have hall:=all_listedB haf l hk.sz hr
  refine he a w _ hall hG hk.size hk.defers (fun t ht=>hk.out t fun j oj hj _ q=>outer_not ht hj q) (fun j t hdj=>?_)
  obtain ⟨oj,hj,hdj⟩:=dstOf_some hdj
  exact hk.is j oj t hj (hall j (Array.getElem?_eq_some_iff.1 hj).1) hdj
 ·have hz:(fun m=>(Array.replicate ops.size false).getD m false)=fun _=>false:=by
   funext m
   cases hc:(Array.replicate ops.size false).getD m false with
   | false=>rfl
   | true=>exact absurd hc (none_listed _ _)
  refine ⟨?_,⟨trivial,fun j _ _ hl=>absurd hl (none_listed _ j),by simp,rfl,rfl,fun _ _=>rfl,fun j o t hj hl _=>absurd hl (none_listed _ j)⟩⟩
  rw [hz]
  exact hg
end
end Go.Proofs.YtongmhfpoopebaaGreat
namespace Go.Proofs.YtongmhfpoopebaaGreat
open Go.RowKit
def Kp24 (w w':World):Prop:=∀ (k:Nat) (cs:Array Value),w.heap[k]?=some (.cells cs 24 (0,0))→w'.heap[k]?=some (.cells cs 24 (0,0))
def CrAns (B:Nat) (w:World) (s:Sc) (tv:Value) (res:Except Int Sc) (e:Ending) (w':World):Prop:=match res with
 | .error er=>e=.returned (.tuple #[.agg #[.int .i64 (s.ver+1),.int .i64 s.last,tv],.int .i64 er])∧er≠0∧Below B w w'∧Kp24 w w'
 | .ok s'=>∃ G tv',e=.returned (.tuple #[scV s' tv',.int .i64 0])∧G.map Prod.fst=s'.tabs∧Dr w' B G tv'∧Below B w w'∧Kp24 w w'
theorem CrAns.err {B:Nat} {w w':World} {s:Sc} {tv:Value} {res:Except Int Sc} {er:Int} (h:res=.error er) (hn:er≠0) (hB:B≤w.heap.size) (hb:Below w.heap.size w w'):CrAns B w s tv res (.returned (.tuple #[.agg #[.int .i64 (s.ver+1),.int .i64 s.last,tv],.int .i64 er])) w':=by
 rw [h]
 exact ⟨rfl,hn,hb.mono hB,fun k cs hk=>(hb.block k (blk_lt hk)).trans hk⟩
theorem CrAns.ok {B:Nat} {w w':World} {s s':Sc} {tv tv':Value} {res:Except Int Sc} {G:List Gt} {e:Ending} (h:res=.ok s') (hG:G.map Prod.fst=s'.tabs) (hD:Dr w' B G tv') (hb:Below B w w') (hk:Kp24 w w') (he:e=.returned (.tuple #[scV s' tv',.int .i64 0]):=by rfl):CrAns B w s tv res e w':=by
 rw [h]
 exact ⟨G,tv',he,hG,hD,hb,hk⟩
def GW3 (X0 X1 X2 X3:World) (a b c:Bool) (X:World):Prop:=X=bif c then X3 else bif b then X2 else bif a then X1 else X0
theorem tabB_facts {t:Tb} (h:tabB t=true):1≤t.cols.length∧t.cols.length≤8∧t.ixs.length≤8∧t.fks.length≤8∧(t.cols.map Col.nm).Nodup∧(∀ x ∈ t.cols,x.st≠0)∧(∀ x ∈ t.ixs,x.st≠0)∧∀ x ∈ t.fks,x.st≠0:=by
 unfold tabB cntB elB partsB at h
 simp only [Bool.and_eq_true,decide_eq_true_eq,List.all_eq_true] at h
 obtain ⟨⟨⟨⟨⟨h1,h2⟩,h3⟩,h4⟩,_⟩,⟨⟨⟨⟨_,_⟩,hc,hn⟩,hi,_⟩,hk,_⟩⟩:=h
 have key:∀ z:Int,stB z=true→z≠0:=fun z hz=>by
  unfold stB at hz
  simp only [Bool.and_eq_true,decide_eq_true_eq] at hz
  omega
 exact ⟨h1,h2,h3,h4,hn,fun x hx=>key _ (hc x hx).2,fun x hx=>key _ (hi x hx).2,fun x hx=>key _ (hk x hx).2⟩
theorem find_no {α:Type} {p:α→Bool} {l:List α} (h:l.findIdx? p=none):l.find? p=none:=List.find?_eq_none.2 fun x hx=>by
 have:=List.findIdx?_eq_none_iff.1 h x hx
 simp [this]
theorem find_yes {α:Type} {p:α→Bool} {l:List α} {i:Nat} (h:l.findIdx? p=some i) (hi:i<l.length):l.find? p=some l[i]:=by
 obtain ⟨hi',hp,hb⟩:=List.findIdx?_eq_some_iff_getElem.1 h
 rw [List.find?_eq_some_iff_getElem]
 exact ⟨hp,i,hi,rfl,fun j hj=>by have:=hb j hj;simpa using this⟩
section
variable {ρ : Operand → Value} {X : World} {d : Option Tmp} {ty : TypeId} {ps : String} {af : Array Edge} {g : Option (Nat × Bool)}
theorem op_i22z {x y:Operand} {B n m i:Nat} (e:ρ x=.slice (some ⟨B,0,none⟩) n m) (e2:ρ y=.int .i64 (i:Int)) (h:i<n):(execOp ρ ⟨d,.indexAddr 22 x y,ty,ps,af,g⟩).run Tryz.prog X=.ok (.value (.pointer (some ⟨B,i*5,none⟩))) X:=by
 have:=op_i22 (X:=X) (d:=d) (ty:=ty) (ps:=ps) (af:=af) (g:=g) e e2 h
 rwa [Nat.zero_add] at this
theorem op_b71 {x y z u v:Operand} {a c:Int} {b:ByteArray} {q:Bool} {r:Int} (e0:ρ x=.int .i64 a) (e1:ρ y=.string b) (e2:ρ z=.int .i64 c) (e4:ρ u=.bool q) (e5:ρ v=.int .i64 r):(execOp ρ ⟨d,.build 71 #[(0,x),(1,y),(2,z),(3,u),(4,v)],ty,ps,af,g⟩).run Tryz.prog X=.ok (.value (.agg #[.int .i64 a,.string b,.int .i64 c,.bool q,.int .i64 r])) X:=by
 simp only [execOp]
 simp [e0,e1,e2,e4,e5]
 go_simp
theorem op_b74 {x y z u v:Operand} {a c q:Int} {b:ByteArray} {r:Int} (e0:ρ x=.int .i64 a) (e1:ρ y=.string b) (e2:ρ z=.int .i64 c) (e4:ρ u=.int .i64 q) (e5:ρ v=.int .i64 r):(execOp ρ ⟨d,.build 74 #[(0,x),(1,y),(2,z),(3,u),(4,v)],ty,ps,af,g⟩).run Tryz.prog X=.ok (.value (.agg #[.int .i64 a,.string b,.int .i64 c,.int .i64 q,.int .i64 r])) X:=by
 simp only [execOp]
 simp [e0,e1,e2,e4,e5]
 go_simp
theorem op_b50 {x y z u v:Operand} {a c q:Int} {b:ByteArray} {r:Vl} (e0:ρ x=.int .i64 a) (e1:ρ y=.string b) (e2:ρ z=.int .i64 c) (e4:ρ u=.int .i64 q) (e5:ρ v=vlV r):(execOp ρ ⟨d,.build 50 #[(0,x),(1,y),(2,z),(3,u),(4,v)],ty,ps,af,g⟩).run Tryz.prog X=.ok (.value (.agg #[.int .i64 a,.string b,.int .i64 c,.int .i64 q,.int .i64 r.k,.int .i64 r.n,.string r.s])) X:=by
 simp only [execOp]
 simp [e0,e1,e2,e4,e5]
 go_simp
theorem op_s32 {x:Operand} {c:Ix} (e:ρ x=.agg (ixA c)):(execOp ρ ⟨d,.buildSlice 32 1 #[(0,x)],ty,ps,af,g⟩).run Tryz.prog X=.ok (.value (.slice (some ⟨X.heap.size,0,none⟩) 1 1)) (X.alloc (.cells (ixA c) 71)):=by
 simp only [execOp]
 simp [e]
 go_simp
theorem op_s33 {x:Operand} {c:Fk} (e:ρ x=.agg (fkA c)):(execOp ρ ⟨d,.buildSlice 33 1 #[(0,x)],ty,ps,af,g⟩).run Tryz.prog X=.ok (.value (.slice (some ⟨X.heap.size,0,none⟩) 1 1)) (X.alloc (.cells (fkA c) 74)):=by
 simp only [execOp]
 simp [e]
 go_simp
end
end Go.Proofs.YtongmhfpoopebaaGreat
