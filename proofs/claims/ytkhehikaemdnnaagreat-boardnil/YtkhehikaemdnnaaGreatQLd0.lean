import Derived.Test.YtkhehikaemdnnaaGreatQLb
import Derived.Test.YtkhehikaemdnnaaGreatQPw
namespace Go.Proofs.YtkhehikaemdnnaaGreat
open Go.RowKit
theorem JPut.from{w1 w2:World}{jb o:Nat}{cur:Array Value}{j1 j2:Jb}{jv:Value}(h:JPut w1 jb o cur j1 jv)(k:∀ cur1,w1.heap[jb]?=some (.cells cur1 66 (0,0))->cur1.size=cur.size->JPut w2 jb o cur1 j2 jv):JPut w2 jb o cur j2 jv:=by
 obtain⟨cur1,h1,h2,h3,h4⟩:=h;obtain⟨cur2,k1,k2,k3,k4⟩:=k cur1 h1 h2;exact⟨cur2,k1,k2.trans h2,fun i hi=>(k3 i hi).trans (h3 i hi),k4⟩
theorem RunL.first{w:World}{rv:Value}{x:Nat}{L:List Nat}(h:RunL w rv (x :: L)):∃ g o n cap,rv=.slice (some ⟨g,o,none⟩) n cap/\g<w.heap.size/\RunBlk rv g:=by
 obtain⟨ad,cap,e,h1,h2,h3⟩:=h;rw [List.length_cons]at h1;obtain⟨g,o,cs,ea,hg,_⟩:=h3 (by omega);subst ea;exact⟨g,o,_,cap,e,blk_lt hg,⟨o,_,cap,e,by omega⟩⟩
def StepAns(w:World)(B jb o:Nat)(cur:Array Value)(j:Jb)(jv:Value)(s0 s1:Int)(tv lv jvs rv mv:Value)(L:List Nat)(w':World):Prop:=∃ rv',w'.heap[B]?=some (.cells (bdA s0 s1 tv lv jvs rv' mv) 88 (0,0))/\JPut w' jb o cur j jv/\RunL w' rv' L/\(∀ k,RunBlk rv' k->RunBlk rv k)/\Fr w w' (fun k=>k=jb\/k=B)
section
variable {w : World} {B jb o p x : Nat} {cur : Array Value} {j : Jb} {jv tv lv jvs rv mv : Value} {s0 s1 : Int} {L : List Nat}
theorem step_both(hB:w.heap[B]?=some (.cells (bdA s0 s1 tv lv jvs rv mv) 88 (0,0)))(hJ:w.heap[jb]?=some (.cells cur 66 (0,0)))(ho:o+22<=cur.size)(h:JobAt w jb o j jv)(hp:j.phase=(p:Int))(hlt:p<j.path.length)(hen:j.en=0)(hne:jb≠B)(hr:RunL w rv (x :: L))(hg:∀ k,RunBlk rv k->k≠B/\k≠jb):Calls Tryz.prog 68 #[.pointer (some ⟨B,0,none⟩),.pointer (some ⟨jb,o,none⟩)] w fun e w'=>e=.returned (.tuple #[])/\StepAns w B jb o cur j.step jv s0 s1 tv lv jvs rv mv (if j.step.runs then x :: L else L) w':=by
 obtain⟨g,ro,n,cap,rfl,hgl,hb⟩:=hr.first;have hst:j.step.en=if p+1<j.path.length then 0 else if j.back then 2 else 1:=by
  unfold Jb.step;simp only [hp,hen];by_cases q:p+1<j.path.length
  ·rw [if_pos q,if_pos (by omega)]
  ·rw [if_neg q,if_neg (by omega)]
 by_cases q:p+1<j.path.length
 ·refine(step_on hJ ho h hp q (B:=B)).mono ?_;rintro e w' ⟨rfl,h1,h2⟩;have hr':j.step.runs=true:=by unfold Jb.runs;rw [hst,if_pos q];rfl
  rw [hr',if_pos rfl];exact⟨rfl,_,(h2.block B (blk_lt hB) (fun q=>hne q.symm)).trans hB,h1,hr.stays fun k hk=>h2.block k (by
   obtain⟨_,_,_,e,_⟩:=hk;cases e;exact hgl) (hg k hk).2,fun k hk=>hk,h2.mono fun k q=>.inl q⟩
 ·have hr':j.step.runs=false:=by
   unfold Jb.runs;rw [hst,if_neg q];cases j.back <;> rfl
  rw [hr'];refine(step_end hJ ho h hp (by omega) hB hne hr hgl (hg g hb).1 (hg g hb).2).mono ?_;rintro e w' ⟨rfl,h1,⟨rv',h2,h3,h4⟩,h5⟩;exact⟨rfl,rv',h2,h1,h3,fun k hk=>by rw [h4 k hk];exact hb,h5⟩
theorem end_both{how:Int}(hB:w.heap[B]?=some (.cells (bdA s0 s1 tv lv jvs rv mv) 88 (0,0)))(hJ:w.heap[jb]?=some (.cells cur 66 (0,0)))(ho:o+22<=cur.size)(h:JobAt w jb o j jv)(hne:jb≠B)(hr:RunL w rv (x :: L))(hg:∀ k,RunBlk rv k->k≠B/\k≠jb):Calls Tryz.prog 67 #[.pointer (some ⟨B,0,none⟩),.pointer (some ⟨jb,o,none⟩),.int .i64 how] w fun e w'=>e=.returned (.tuple #[])/\StepAns w B jb o cur { j with en:=how } jv s0 s1 tv lv jvs rv mv L w':=by
 obtain⟨g,ro,n,cap,rfl,hgl,hb⟩:=hr.first;refine(end_any hB hJ ho hne hr (hg g hb).1 (hg g hb).2).mono ?_;rintro e w' ⟨rfl,rv',h1,h2,h3,h4,h5⟩;refine⟨rfl,rv',h1,jput_mk (j:=j) (v:=.int .i64 how) rfl (fun _ _=>rfl) (fun k v hv=>?_) h2 ho (by decide) rfl,h3,fun k hk=>by rw [h4 k hk];exact hb,h5⟩;rw [<-cell_blk hJ];exact h k v hv
def SchIs(n0:Nat)(s:Sc)(u:Value)(X:World):Prop:=∃ G ad cap,u=.agg #[.int .i64 s.ver,.int .i64 s.last,.slice ad s.tabs.length cap]/\G.map Prod.fst=s.tabs/\Dr X n0 G (.slice ad s.tabs.length cap)
def Typ(T0:TypeId)(X X':World):Prop:=∃ T,Fr X X' T/\∀ k,T k->∃ cs,X.heap[k]?=some (.cells cs T0 (0,0))
theorem Typ.refl(T0:TypeId)(X:World):Typ T0 X X:=⟨fun _=>False,Fr.refl _ _,fun _ q=>q.elim⟩
theorem Typ.on{T0:TypeId}{X X':World}(h:Below X.heap.size X X'):Typ T0 X X':=⟨fun _=>False,Fr.ofBelow _ h,fun _ q=>q.elim⟩
theorem SchIs.keep{n0:Nat}{s:Sc}{u:Value}{X X':World}(h:SchIs n0 s u X)(k:Typ 30 X X'):SchIs n0 s u X':=by
 obtain⟨G,ad,cap,h1,h2,h3⟩:=h;obtain⟨T,hf,ht⟩:=k;refine⟨G,ad,cap,h1,h2,h3.keep hf fun i hi=>.inr fun cs e he=>?_⟩;obtain⟨cs',he'⟩:=ht i hi;rw [he']at he;simp only [Option.some.injEq,Obj.cells.injEq]at he;obtain⟨_,rfl,_⟩:=he
 decide
theorem SchIs.mono{n0 n1:Nat}{s:Sc}{u:Value}{X:World}(h:SchIs n0 s u X)(hn:n1<=n0):SchIs n1 s u X:=by
 obtain⟨G,ad,cap,h1,h2,h3⟩:=h;exact⟨G,ad,cap,h1,h2,h3.mono hn⟩
theorem SchIs.reads{n0:Nat}{s:Sc}{u:Value}{X:World}(h:SchIs n0 s u X):∃ ad cap,u=.agg #[.int .i64 s.ver,.int .i64 s.last,.slice ad s.tabs.length cap]/\Reads (fun k=>k<n0) X fun V=>Lr tbE 5 V s.tabs (.slice ad s.tabs.length cap):=by
 obtain⟨G,ad,cap,h1,h2,h3⟩:=h;refine⟨ad,cap,h1,fun V a b=>?_⟩;have hd:Dr V n0 G (.slice ad s.tabs.length cap):=⟨Reads.own h3.row (fun _ q=>q) V a b,fun g hg=>Reads.own (h3.c g hg) (fun _ q=>q) V a b,fun g hg=>Reads.own (h3.i g hg) (fun _ q=>q) V a b,fun g hg=>Reads.own (h3.k g hg) (fun _ q=>q) V a b,h3.apc,h3.api,h3.apk⟩
 have:=hd.reads;rw [h2]at this;exact this
def turnE(s:Sc)(d:Dd)(st:Int):Sc × Int:=match turnS s d st with
 | .error e=>(⟨0,0,[]⟩,e)
 | .ok s'=>(s',0)
theorem turn_both{s:Sc}{tv:Value}{d:Dd}{st:Int}{da:Option Addr}{dc:Nat}(hL:Lr tbE 5 w s.tabs tv)(hI:∀ t ∈ s.tabs,∀ i ∈ idsT t,I64 i)(hd:Lr colE 7 w d.cols (.slice da d.cols.length dc))(hz:d.cols.length<=1000000):Calls Tryz.prog 66 #[scV s tv,.agg (ddA d (.slice da d.cols.length dc)),.int .i64 st] w fun e w'=>∃ u,e=.returned (.tuple #[u,.int .i64 (turnE s d st).2])/\SchIs w.heap.size (turnE s d st).1 u w'/\Below w.heap.size w w':=by
 have h:=turn_any (st:=st) (da:=da) (dc:=dc) hL hI hd hz;unfold turnE;cases he:turnS s d st with
 | error er =>
  rw [he]at h;refine h.mono ?_;rintro e w' ⟨e1,_,hb⟩;exact⟨_,e1,⟨[],none,0,rfl,rfl,Dr.nil _ _⟩,hb⟩
 | ok s' =>
  rw [he]at h;refine h.mono ?_;rintro e w' ⟨G,tv,e1,hG,hD,hb⟩;obtain⟨ad,cap,hsh⟩:=own_shape hD.row;have hl:G.length=s'.tabs.length:=by rw [<-hG,List.length_map]
  rw [hl]at hsh;subst hsh;exact⟨_,e1,⟨G,ad,cap,rfl,hG,hD⟩,hb⟩
theorem set_sch{X:World}{a b:Int}{a' b':Int}{n cap:Nat}{ad:Option Addr}(h:X.heap[B]?=some (.cells (bdA a b tv lv jvs rv mv) 88 (0,0))):∃ X',(Instr.storeAt 30 (.pointer (some ⟨B,0,none⟩)) (.agg #[.int .i64 a',.int .i64 b',.slice ad n cap])).run Tryz.prog X=.ok () X'/\X'.heap[B]?=some (.cells (bdA a' b' (.slice ad n cap) lv jvs rv mv) 88 (0,0))/\Fr X X' (fun k=>k=B):=by
 obtain⟨⟨ds,d1,d2⟩,e1,e2,e3,e4,e5⟩:=setCells_gen [.int .i64 a',.int .i64 b',.slice ad n cap] 0 X _ h (by simp);refine⟨X.setCells B 0 [.int .i64 a',.int .i64 b',.slice ad n cap],run_storeAt_mid X B 0 30 #[.int .i64 a',.int .i64 b',.slice ad n cap] (fun k hk=>?_) size30 (by simp [Value.oneCell']),?_,⟨e3,e4,e5,by omega,fun k _ hk=>e1 k hk⟩⟩
 ·have hk':k<3:=hk;refine⟨?_,frozen_blk h _⟩;rw [cell_blk h];rcases k with _ | _ | _ | k
  ·rfl
  ·rfl
  ·rfl
  ·omega
 ·rw [d1];have:ds=bdA a' b' (.slice ad n cap) lv jvs rv mv:=by
   apply Array.toList_inj.1;rw [d2];rfl
  rw [this]
end
end Go.Proofs.YtkhehikaemdnnaaGreat
namespace Go.Proofs.YtkhehikaemdnnaaGreat
open Go.RowKit
section
variable {ρ : Operand -> Value} {X : World} {d : Option Tmp} {ty : TypeId} {ps : String} {af : Array Edge} {g : Option (Nat × Bool)}
theorem op_alloc74:(execOp ρ ⟨d,.alloc 74,ty,ps,af,g⟩).run Tryz.prog X=.ok (.value (.pointer (some ⟨X.heap.size,0,none⟩))) (X.alloc (.cells #[.int .i64 0,.int .i64 0] 74)):=by
 simp only [execOp]
 go_simp
theorem op_alloc30:(execOp ρ ⟨d,.alloc 30,ty,ps,af,g⟩).run Tryz.prog X=.ok (.value (.pointer (some ⟨X.heap.size,0,none⟩))) (X.alloc (.cells #[.int .i64 0,.int .i64 0,.slice none 0 0] 30)):=by
 simp only [execOp]
 go_simp
end
theorem StepAns.lift{w w1 w2 w':World}{B jb o Y:Nat}{cur:Array Value}{j0 j:Jb}{jv tv lv jvs rv mv:Value}{s0 s1:Int}{L:List Nat}(hP:JPut w1 jb o cur j0 jv)(h:∀ cur1,w1.heap[jb]?=some (.cells cur1 66 (0,0))->cur1.size=cur.size->StepAns w1 B jb o cur1 j jv s0 s1 tv lv jvs rv mv L w2)(hF:Fr w w1 (fun k=>k=jb\/k=B))(hY:w.heap.size<=Y)(hf:Fr w2 w' (fun k=>k=Y))(hB:B<w.heap.size)(hj:jb<w.heap.size)(hg:∀ k,RunBlk rv k->k<w.heap.size):StepAns w B jb o cur j jv s0 s1 tv lv jvs rv mv L w':=by
 obtain⟨cur1,h1,h2,h3,h4⟩:=id hP;obtain⟨rv',g1,g2,g3,g4,g5⟩:=h cur1 h1 h2;have hs:w.heap.size<=w2.heap.size:=Nat.le_trans hF.size g5.size;have hP2:JPut w2 jb o cur j jv:=hP.from fun cur2 e1 _=>by
  rw [h1]at e1;cases e1;exact g2
 refine⟨rv',(hf.block B (by omega) (fun q=>by have q':B=Y:=q;omega)).trans g1,hP2.stays (hf.block jb (by omega) (fun q=>by have q':jb=Y:=q;omega)),g3.stays fun k hk=>hf.block k (by have:=hg k (g4 k hk);omega) (fun q=>by have q':k=Y:=q;have:=hg k (g4 k hk);omega),g4,(hF.trans g5).step hf (fun k q=>.inr (by have q':k=Y:=q;omega))⟩
def Sch2(W:World)(s:Sc)(v:Value)(X:World):Prop:=∃ Y us,v=.pointer (some ⟨Y,0,none⟩)/\W.heap.size<=Y/\X.heap[Y]?=some (.cells us 30 (0,0))/\SchIs W.heap.size s (.agg us) X/\Below W.heap.size W X
theorem Sch2.go{W X X':World}{s:Sc}{v:Value}(h:Sch2 W s v X)(b:Below X.heap.size X X'):Sch2 W s v X':=by
 obtain⟨Y,us,h1,h2,h3,h4,h5⟩:=h;exact⟨Y,us,h1,h2,(b.block Y (blk_lt h3)).trans h3,h4.keep (Typ.on b),bgo h5 b⟩
def AdvAns(w:World)(B jb o:Nat)(cur:Array Value)(j:Jb)(jv:Value)(s:Sc)(lv jvs rv mv:Value)(L:List Nat)(e:Ending)(w':World):Prop:=e=.returned (.agg (rsA ⟨0,s.ver,0,0,true⟩))/\∃ tv',Reads (fun k=>k<w.heap.size) w' (fun V=>Lr tbE 5 V s.tabs tv')/\StepAns w B jb o cur j jv s.ver s.last tv' lv jvs rv mv L w'
def AdvAns3(w:World)(B jb o:Nat)(cur:Array Value)(j:Jb)(jv:Value)(s:Sc)(tv lv jvs rv mv:Value)(L:List Nat)(e:Ending)(w':World):Prop:=e=.returned (.agg (rsA ⟨0,s.ver,0,0,true⟩))/\StepAns w B jb o cur j jv s.ver s.last tv lv jvs rv mv L w'
def AdvEnd(w:World)(B jb o:Nat)(cur:Array Value)(j:Jb)(jv:Value)(s:Sc)(tv lv jvs rv mv:Value)(L:List Nat)(e:Ending)(w':World):Prop:=e=.returned (.agg (rsA rsN))/\StepAns w B jb o cur j jv s.ver s.last tv lv jvs rv mv L w'
def AdvNo(w:World)(er:Int)(e:Ending)(w':World):Prop:=e=.returned (.agg (rsA (rsE er)))/\Below w.heap.size w w'
end Go.Proofs.YtkhehikaemdnnaaGreat
