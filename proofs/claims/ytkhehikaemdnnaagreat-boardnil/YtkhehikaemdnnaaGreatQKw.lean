import Derived.Test.YtkhehikaemdnnaaGreatQKc
import Derived.Test.YtkhehikaemdnnaaGreatQKn
import Derived.Test.YtkhehikaemdnnaaGreatQBg
namespace Go.Proofs.YtkhehikaemdnnaaGreat
theorem turnS_ver{s s':Sc}{d:Dd}{st:Int}(h:turnS s d st=.ok s'):s'.ver=s.ver+1:=by
 unfold turnS changeS createS changeT at h
 repeat' split at h
 all_goals first|(cases h;done)|(cases h;rfl)
def Bd.Near(b:Bd)(t:Int):Prop:=∀ l ∈ b.leases,l.ver<=b.sch.ver/\(l.ver<b.sch.ver - 1->3<t - l.til)
theorem Bd.Near.mono{b:Bd}{t t':Int}(h:b.Near t)(ht:t<=t'):b.Near t':=fun l hl=>⟨(h l hl).1,fun q=>by have:=(h l hl).2 q;omega⟩
theorem clear_off{b:Bd}{t below:Int}(h:b.clear t below=true):∀ l ∈ b.leases,l.ver<below->3<t - l.til:=by
 intro l hl hv;have:=List.all_eq_true.1 h l hl;rw [decide_eq_true hv]at this;simp only [Bool.true_and,Bool.not_eq_true',forceB,decide_eq_false_iff_not]at this;omega
theorem near_ver{b:Bd}{t below:Int}{s:Sc}{js:List Jb}(h:b.Near t)(hc:b.clear t below=true)(hb:b.sch.ver<=below)(hs:s.ver=b.sch.ver+1):(Bd.mk s b.leases js).Near t:=by
 intro l hl;have h1:=(h l hl).1;have h2:=clear_off hc l hl;show l.ver<=s.ver/\(l.ver<s.ver - 1->3<t - l.til)
 rw [hs];exact⟨by omega,fun q=>h2 (by omega)⟩
theorem goC_near{b:Bd}{t:Int}{c:Cm}(h:b.Near t):(b.goC t c).1.Near t:=by
 unfold Bd.goC
 split
 ·exact h
 ·rename_i i j _
  generalize hb:(if j.move.1=2 then b.sch.ver+1 else b.sch.ver)=below;have hle:b.sch.ver<=below:=by rw [<-hb];split <;> omega
  split
  ·exact h
  ·split
   ·exact h
   ·rename_i hc
    have hc':b.clear t below=true:=by simpa using hc
    split
    ·exact h
    ·split
     ·exact h
     ·rename_i s hs
      exact near_ver (b:=b) (s:=s) (js:=b.jobs.set i _) h hc' hle (turnS_ver hs)
theorem act_near{b:Bd}{t:Int}{c:Cm}(h:b.Near t):(b.act t c).1.Near t:=by
 unfold Bd.act
 split
 ·exact h
 split
 ·unfold Bd.grant
  split
  ·exact h
  ·intro l hl;rcases List.mem_append.1 hl with q | q
   ·exact h l (List.mem_filter.1 q).1
   ·simp only [List.mem_singleton]at q;subst q;exact⟨Int.le_refl _,fun q=>by simp only at q;omega⟩
 split
 ·unfold Bd.submit
  split
  ·exact h
  ·split <;> exact h
 split
 ·unfold Bd.drainC
  split <;> exact h
 split
 ·exact goC_near h
 split
 ·unfold Bd.markC
  split <;> exact h
 ·unfold Bd.failC
  split
  ·exact h
  ·split <;> exact h
theorem act_ver{b:Bd}{t:Int}{c:Cm}(h:(b.act t c).1.sch.ver≠b.sch.ver):(b.act t c).1.sch.ver=b.sch.ver+1/\(b.act t c).1.leases=b.leases/\∃ i j,b.hand=some i/\b.jobs[i]?=some j/\(j.move.1=2->b.clear t (b.sch.ver+1)=true):=by
 unfold Bd.act at h ⊢
 split at h
 ·exact absurd rfl h
 rename_i h0
 rw [if_neg h0]
 split at h
 ·unfold Bd.grant at h
  split at h <;> exact absurd rfl h
 rename_i h1
 rw [if_neg h1]
 split at h
 ·unfold Bd.submit at h
  split at h
  ·exact absurd rfl h
  ·split at h <;> exact absurd rfl h
 rename_i h2
 rw [if_neg h2]
 split at h
 ·unfold Bd.drainC at h
  split at h <;> exact absurd rfl h
 rename_i h3
 rw [if_neg h3]
 split at h
 ·rename_i h4
  rw [if_pos h4];unfold Bd.goC at h ⊢;cases ht:b.turn c [1,2,3]with
  | none =>
   rw [ht]at h;exact absurd rfl h
  | some p =>
   obtain⟨i,j⟩:=p;rw [ht]at h;simp only at h ⊢;generalize hb:(if j.move.1=2 then b.sch.ver+1 else b.sch.ver)=below at h ⊢
   split at h
   ·exact absurd rfl h
   rename_i g1
   rw [if_neg g1]
   split at h
   ·exact absurd rfl h
   rename_i g2
   rw [if_neg g2]
   split at h
   ·exact absurd rfl h
   rename_i g3
   rw [if_neg g3];cases hs:turnS b.sch j.ddl j.move.2 with
   | error e =>
    rw [hs]at h;exact absurd rfl h
   | ok s =>
    refine⟨turnS_ver hs,rfl,i,j,?_⟩;unfold Bd.turn at ht;cases hh:b.hand with
    | none =>
     rw [hh]at ht;cases ht
    | some k =>
     rw [hh]at ht;simp only at ht;cases hk:b.jobs[k]? with
     | none =>
      rw [hk]at ht;cases ht
     | some x =>
      rw [hk]at ht;simp only at ht
      split at ht
      ·cases ht;refine⟨rfl,hk,fun q=>?_⟩;rw [if_pos q]at hb;rw [hb];simpa using g2
      ·cases ht
 rename_i h4
 rw [if_neg h4]
 split at h
 ·unfold Bd.markC at h
  split at h <;> exact absurd rfl h
 ·unfold Bd.failC at h
  split at h
  ·exact absurd rfl h
  ·split at h <;> exact absurd rfl h
theorem grant_drains{b:Bd}{t:Int}{c:Cm}(ht:0<=t/\t<=1125899906842624)(hk:c.kind=11)(hd:b.drains=true):(b.act t c).2=rsE 162:=by
 unfold Bd.act;rw [if_neg (by omega),if_pos hk];unfold Bd.grant;rw [if_pos hd]
end Go.Proofs.YtkhehikaemdnnaaGreat
namespace Go.Proofs.YtkhehikaemdnnaaGreat
structure Bd.Ok (b:Bd):Prop where
 ids:∀ (i:Nat) (j:Jb),b.jobs[i]?=some j->j.id=(i:Int)+1
 ph:∀ j:Jb,j ∈ b.jobs->j.en=0->∃ p:Nat,j.phase=(p:Int)/\p<j.path.length
theorem none_ok:Bd.none.Ok:=⟨fun i j h=>by simp [Bd.none]at h,fun j h=>by simp [Bd.none]at h⟩
theorem set_ok{b:Bd}{i:Nat}{j j':Jb}{s:Sc}{ls:List Le}(h:b.Ok)(hj:b.jobs[i]?=some j)(hi:j'.id=j.id)(hp:j'.en=0->∃ p:Nat,j'.phase=(p:Int)/\p<j'.path.length):(Bd.mk s ls (b.jobs.set i j')).Ok:=by
 have hlt:i<b.jobs.length:=(List.getElem?_eq_some_iff.1 hj).1;refine⟨fun k x hx=>?_,fun x hx hz=>?_⟩
 ·by_cases e:k=i
  ·subst e;have:(b.jobs.set k j')[k]?=some x:=hx;rw [List.getElem?_set_self hlt]at this;cases this;rw [hi];exact h.ids k j hj
  ·have:(b.jobs.set i j')[k]?=some x:=hx;rw [List.getElem?_set_ne (fun q=>e q.symm)]at this;exact h.ids k x this
 ·rcases List.mem_or_eq_of_mem_set hx with q | q
  ·exact h.ph x q hz
  ·subst q;exact hp hz
theorem turn_some{b:Bd}{c:Cm}{ks:List Int}{i:Nat}{j:Jb}(h:b.turn c ks=some (i,j)):b.hand=some i/\b.jobs[i]?=some j/\j.id=c.job/\j.phase=c.phase/\j.move.1 ∈ ks/\j.en=0:=by
 unfold Bd.turn at h;cases hh:b.hand with
 | none =>
  rw [hh]at h;cases h
 | some k =>
  rw [hh]at h;simp only at h;cases hk:b.jobs[k]? with
  | none =>
   rw [hk]at h;cases h
  | some x =>
   rw [hk]at h;simp only at h
   split at h
   ·rename_i q
    cases h;refine⟨rfl,hk,q.1,q.2.1,q.2.2,?_⟩;obtain⟨hlt,hr,_⟩:=List.findIdx?_eq_some_iff_getElem.1 hh;rw [List.getElem?_eq_getElem hlt]at hk;cases hk;simpa [Jb.runs]using hr
   ·cases h
theorem step_ok{j:Jb}{p:Nat}(hp:j.phase=(p:Int)):j.step.en=0->∃ q:Nat,j.step.phase=(q:Int)/\q<j.step.path.length:=by
 intro h;unfold Jb.step at h;simp only at h
 split at h
 ·rename_i hlt
  refine⟨p+1,?_,?_⟩
  ·show j.phase+1=_
   rw [hp];omega
  ·show p+1<j.path.length
   rw [hp]at hlt;omega
 ·split at h <;> cases h
theorem move_mem{j:Jb}(h:j.move.1≠0):∃ p:Nat,j.phase.toNat=p/\j.path[p]?=some j.move:=by
 unfold Jb.move at h ⊢;cases hq:j.path[j.phase.toNat]? with
 | none =>
  rw [hq]at h;exact absurd rfl h
 | some m=>exact⟨_,rfl,hq⟩
theorem fill_back{j:Jb}(h:j.move.1=4)(hb:j.back=false):0<(pathP j.ddl.kind true).length/\j.phase.toNat≠0:=by
 obtain⟨p,hp,hm⟩:=move_mem (j:=j) (by omega);rw [hp];unfold Jb.path at hm;rw [hb]at hm;generalize j.move=m at h hm;generalize j.ddl.kind=k at hm ⊢;unfold pathP at hm ⊢;simp only [Bool.false_eq_true,if_false,if_true]at hm ⊢;unfold onP at hm;unfold backP;have key:∀ (L:List Mv) (x:Mv),L[p]?=some x->x ∈ L:=fun L x hx=>List.mem_of_getElem? hx
 split at hm
 ·have:=key _ _ hm;simp at this;subst this;simp at h
 split at hm
 ·rename_i h2
  subst h2;refine⟨by simp,fun q=>?_⟩;subst q;simp at hm;subst hm;simp at h
 split at hm
 ·have:=key _ _ hm;simp at this;rcases this with rfl | rfl | rfl | rfl | rfl <;> simp at h
 split at hm
 ·rename_i h4
  subst h4;refine⟨by simp,fun q=>?_⟩;subst q;simp at hm;subst hm;simp at h
 split at hm
 ·have:=key _ _ hm;simp at this;rcases this with rfl | rfl | rfl <;> simp at h
 split at hm
 ·rename_i h6
  subst h6;refine⟨by simp,fun q=>?_⟩;subst q;simp at hm;subst hm;simp at h
 split at hm
 ·have:=key _ _ hm;simp at this;subst this;simp at h
 ·simp at hm
theorem act_ok{b:Bd}{t:Int}{c:Cm}(h:b.Ok):(b.act t c).1.Ok:=by
 unfold Bd.act
 split
 ·exact h
 split
 ·unfold Bd.grant
  split
  ·exact h
  ·exact⟨h.ids,h.ph⟩
 split
 ·unfold Bd.submit
  split
  ·exact h
  ·rename_i hp
   split
   ·exact h
   ·refine⟨fun i j hj=>?_,fun j hj hz=>?_⟩
    ·have hj':(b.jobs ++ [b.job c])[i]?=some j:=hj;rcases Nat.lt_trichotomy i b.jobs.length with q | q | q
     ·rw [List.getElem?_append_left q]at hj';exact h.ids i j hj'
     ·subst q;rw [List.getElem?_append_right (Nat.le_refl _),Nat.sub_self]at hj';cases hj';rfl
     ·rw [List.getElem?_eq_none (by rw [List.length_append];simp;omega)]at hj';cases hj'
    ·rcases List.mem_append.1 hj with q | q
     ·exact h.ph j q hz
     ·simp only [List.mem_singleton]at q;subst q;refine⟨0,rfl,?_⟩;show 0<(pathP c.ddl.kind false).length
      exact List.length_pos_iff.2 hp
 split
 ·unfold Bd.drainC
  split
  ·exact h
  ·rename_i i j ht
   obtain⟨_,hj,_,_,_,he⟩:=turn_some ht;exact set_ok (b:=b) h hj rfl fun _=>h.ph j (List.mem_of_getElem? hj) he
 split
 ·unfold Bd.goC
  split
  ·exact h
  ·rename_i i j ht
   obtain⟨_,hj,_,_,_,he⟩:=turn_some ht;obtain⟨p,hp,hlt⟩:=h.ph j (List.mem_of_getElem? hj) he;generalize hb:(if j.move.1=2 then b.sch.ver+1 else b.sch.ver)=below
   split
   ·exact h
   split
   ·exact h
   split
   ·exact set_ok (b:=b) h hj rfl (step_ok (j:={ j with drain:=false }) hp)
   split
   ·exact set_ok (b:=b) h hj rfl fun q=>by cases q
   ·exact set_ok (b:=b) h hj rfl (step_ok (j:={ j with drain:=false }) hp)
 split
 ·unfold Bd.markC
  split
  ·exact h
  ·rename_i i j ht
   obtain⟨_,hj,_,_,_,he⟩:=turn_some ht;obtain⟨p,hp,hlt⟩:=h.ph j (List.mem_of_getElem? hj) he;by_cases hv:c.ver=1
   ·rw [if_pos hv];exact set_ok (b:=b) h hj rfl (step_ok hp)
   ·rw [if_neg hv];exact set_ok (b:=b) h hj rfl fun _=>⟨p,hp,hlt⟩
 ·unfold Bd.failC
  split
  ·exact h
  ·rename_i i j ht
   obtain⟨_,hj,_,_,hm,he⟩:=turn_some ht
   split
   ·exact h
   ·rename_i hbk
    have hf:=fill_back (j:=j) (by simpa using hm) (by simpa using hbk);exact set_ok (b:=b) h hj rfl fun _=>⟨0,rfl,hf.1⟩
end Go.Proofs.YtkhehikaemdnnaaGreat
namespace Go.Proofs.YtkhehikaemdnnaaGreat
end Go.Proofs.YtkhehikaemdnnaaGreat
namespace Go.Proofs.YtkhehikaemdnnaaGreat
end Go.Proofs.YtkhehikaemdnnaaGreat
namespace Go.Proofs.YtkhehikaemdnnaaGreat
open Go.RowKit
section
variable {w : World}
theorem hand_is_none{B:Nat}{s0 s1:Int}{tv lv jv mv:Value}{ra:Option Addr}{rc:Nat}(hB:w.heap[B]?=some (.cells #[.int .i64 s0,.int .i64 s1,tv,lv,jv,.slice ra 0 rc,mv] 88 (0,0))):HandIs w B (.pointer none) :=
 fun _ hX=>atHand_none ((hX.block B (blk_lt hB)).trans hB)
theorem hand_is_some{B jb jn jc i n rc:Nat}{ra:Option Addr}{L:List Nat}{s0 s1:Int}{tv lv mv:Value}(hB:w.heap[B]?=some (.cells #[.int .i64 s0,.int .i64 s1,tv,lv,.slice (some ⟨jb,0,none⟩) jn jc,.slice ra n rc,mv] 88 (0,0)))(hr:RunL w (.slice ra n rc) (i :: L))(hi:i<jn):HandIs w B (.pointer (some ⟨jb,i*22,none⟩)):=by
 intro X hX;obtain⟨ad,cap,e,h1,_,h3⟩:=hr;cases e;rw [List.length_cons]at h1;obtain⟨g,o,cs,ea,hg,_,hc⟩:=h3 (by omega);cases ea;have h0:w.cell? ⟨g,o,none⟩=some (.int .i64 (i:Int)):=by
  rw [cell_blk hg];have:=hc 0 (by simp);rw [Nat.add_zero]at this;exact this
 exact atHand_some ((hX.block B (blk_lt hB)).trans hB) (by simp) (cell_on hX h0) hi
theorem HandIs.on{B:Nat}{P:Value}{X:World}(h:HandIs w B P)(hX:Below w.heap.size w X):HandIs X B P:=fun Y hY=>h Y (bgo hX hY)
theorem turn_is_none{B:Nat}{c:Cm}{r:Rest}{cv:Value}{KS:List Int}(hh:HandIs w B (.pointer none)):TurnIs w B c r cv KS (.pointer none):=fun _ hX _ _=>turn_none (hh.on hX)
theorem turn_is{b:Bd}{B jb o i p:Nat}{c:Cm}{r:Rest}{cv jv:Value}{KS:List Int}{j:Jb}(hh:HandIs w B (.pointer (some ⟨jb,o,none⟩)))(hb:b.hand=some i)(hj:b.jobs[i]?=some j)(h:JobAt w jb o j jv)(hp:j.phase=(p:Int))(hlt:p<j.path.length):
  (b.turn c KS=.none/\TurnIs w B c r cv KS (.pointer none))\/(b.turn c KS=some (i,j)/\TurnIs w B c r cv KS (.pointer (some ⟨jb,o,none⟩))):=by
 have ht:b.turn c KS=if j.id=c.job/\j.phase=c.phase/\j.move.1 ∈ KS then some (i,j) else .none:=by
  unfold Bd.turn;rw [hb];simp only;rw [hj]
 rw [ht];by_cases q1:j.id=c.job
 ·by_cases q2:j.phase=c.phase
  ·by_cases q3:j.move.1 ∈ KS
   ·right
    exact⟨if_pos ⟨q1,q2,q3⟩,fun X hX kv hk=>turn_yes (hh.on hX) (range_on hX h) q1 q2 hp hlt hk (decide_eq_true q3)⟩
   ·left
    exact⟨if_neg fun q=>q3 q.2.2,fun X hX kv hk=>turn_kind (hh.on hX) (range_on hX h) q1 q2 hp hlt hk (decide_eq_false q3)⟩
  ·left
   exact⟨if_neg fun q=>q2 q.2.1,fun X hX kv _=>turn_ph (hh.on hX) (range_on hX h) q1 q2⟩
 ·left
  exact⟨if_neg fun q=>q1 q.1,fun X hX kv _=>turn_id (hh.on hX) (range_on hX h) q1⟩
end
end Go.Proofs.YtkhehikaemdnnaaGreat
namespace Go.Proofs.YtkhehikaemdnnaaGreat
open Go.RowKit
section
variable {w : World} {g cap c i : Nat} {e : TypeId} {α : Type} {f : α -> List Value}
theorem own_setRow(hc:∀ x,(f x).length=c){R:List α}(y:α)(h:w.ownsRow 0 e c (.slice (some ⟨g,0,none⟩) R.length cap) R.length (R.flatMap f))(hi:i<R.length):(w.setCells g (i*c) (f y)).ownsRow 0 e c (.slice (some ⟨g,0,none⟩) R.length cap) R.length ((R.set i y).flatMap f)/\Fr w (w.setCells g (i*c) (f y)) (fun k=>k=g):=by
 obtain⟨cur,hg,h1,h2,h3,h4⟩:=row_blk h;have hle:i*c+c<=R.length*c:=by
  have:=Nat.mul_le_mul_right c hi;rw [Nat.succ_mul]at this;exact this
 have hcap:R.length*c<=cap*c:=Nat.mul_le_mul_right c h1;obtain⟨⟨ds,d1,d2⟩,e1,e2,e3,e4,e5⟩:=setCells_gen (f y) (i*c) w cur hg (by rw [hc,h3];omega);rw [hc]at d2;refine⟨⟨by rw [fl_len hc,List.length_set],.inr ⟨g,cap,ds,rfl,Nat.zero_le _,d1,h1,h2,?_,?_⟩⟩,⟨e3,e4,e5,by omega,fun k _ hk=>e1 k hk⟩⟩
 ·have:=congrArg List.length d2;rw [Array.length_toList,List.length_append,List.length_append,List.length_take,List.length_drop,hc,Array.length_toList]at this;omega
 ·have t1:cur.toList.take (i*c)=(R.take i).flatMap f:=by
   rw [<-fl_take hc R i (by omega),<-h4,List.take_take,Nat.min_eq_left (by omega)]
  have t2:(cur.toList.drop (i*c+c)).take (R.length*c - (i*c+c))=(R.drop (i+1)).flatMap f:=by
   rw [<-List.drop_take,h4];refine List.ext_getElem? fun k=>?_;rw [List.getElem?_drop,fl_drop hc R (i+1) hi k,Nat.succ_mul]
  have s1:R.set i y=R.take i ++ [y] ++ R.drop (i+1):=by
   rw [List.set_eq_take_append_cons_drop,if_pos hi];simp
  rw [d2,s1,List.flatMap_append,List.flatMap_append,<-t1,<-t2,List.take_append,List.take_append];have l1:(cur.toList.take (i*c)).length=i*c:=by rw [List.length_take,Array.length_toList];omega
  rw [l1,List.length_append,l1,hc,List.take_take,Nat.min_eq_right (show i*c<=R.length*c by omega),List.take_of_length_le (l:=f y) (by rw [hc];omega)];simp
end
def zLs(m:Nat):List Value:=(Builtin.zeroCells #[.int .i64 0,.int .i64 0,.int .i64 0] m).toList
theorem zLs_len(m:Nat):(zLs m).length=m*3:=by
 unfold zLs;rw [Array.length_toList,size_zeroCells];rfl
end Go.Proofs.YtkhehikaemdnnaaGreat
namespace Go.Proofs.YtkhehikaemdnnaaGreat
open Go.RowKit
theorem info78:(Tryz.prog.info? 78).map (fun i=>(i.zero,i.size,i.bytes))=some (some (.agg #[.int .i64 0,.int .i64 0,.int .i64 0]),3,24):=by kernel_rfl
theorem zLs_one(m:Nat):∀ v ∈ zLs m,v.oneCell'=true:=by
 intro v hv;unfold zLs Builtin.zeroCells at hv;simp only [Array.toList_map,List.mem_map]at hv;obtain⟨i,_,rfl⟩:=hv;have h3:i % 3<3:=Nat.mod_lt _ (by decide);have:i % 3=0\/i % 3=1\/i % 3=2:=by omega
 show((#[.int .i64 0,.int .i64 0,.int .i64 0]:Array Value)[i % 3]!).oneCell'=true
 rcases this with e | e | e <;> rw [e] <;> rfl
theorem clear_runL{w:World}{g o m cap:Nat}{cur:Array Value}(ty:TypeId)(hb:w.heap[g]?=some (.cells cur 78 (0,0)))(hin:o+m*3<=cur.size)(hm:0<m):
  (Builtin.clear_ #[31] ty #[.slice (some ⟨g,o,none⟩) m cap]).run Tryz.prog w=.ok (.tuple #[]) (w.setCells g o (zLs m)):=by
 obtain⟨i0,hi,hz0,hz1,hz2⟩:=info_parts info78;have hst:=run_storeCells_cells (P:=Tryz.prog) g o (zLs m) 0 w (fun j hj=>by
  have hj':j<m*3:=by rw [<-zLs_len];exact hj
  rw [cell_blk hb,Array.getElem?_eq_getElem (by omega)];rfl) (fun j _=>frozen_blk hb _) (zLs_one m)
 simp only [Nat.add_zero]at hst;have hzc:(Builtin.zeroCells (Value.agg #[.int .i64 0,.int .i64 0,.int .i64 0]).cells m).toList=zLs m:=rfl;rcases m with _ | m
 ·omega
 simp [Builtin.clear_,run_underlying Tryz.underlying31,zeroValue,typeInfo,hi,hz0,hzc,hst]
theorem own_clearL{w:World}{g n k cap:Nat}{R:List Le}(h:w.ownsRow 0 78 3 (.slice (some ⟨g,0,none⟩) n cap) n (R.flatMap leL))(hR:R.length=n)(hk:k<=n):(w.setCells g (k*3) (zLs (n - k))).ownsRow 0 78 3 (.slice (some ⟨g,0,none⟩) k cap) k ((R.take k).flatMap leL)/\Fr w (w.setCells g (k*3) (zLs (n - k))) (fun j=>j=g):=by
 obtain⟨cur,hg,h1,h2,h3,h4⟩:=row_blk h;have hz:=zLs_len (n - k);obtain⟨⟨ds,d1,d2⟩,e1,e2,e3,e4,e5⟩:=setCells_gen (zLs (n - k)) (k*3) w cur hg (by rw [hz,h3];omega);refine⟨⟨by rw [fl_len leL_len,List.length_take,hR,Nat.min_eq_left hk],.inr ⟨g,cap,ds,rfl,Nat.zero_le _,d1,by omega,h2,?_,?_⟩⟩,⟨e3,e4,e5,by omega,fun j _ hj=>e1 j hj⟩⟩
 ·have:=congrArg List.length d2;rw [Array.length_toList,List.length_append,List.length_append,List.length_take,List.length_drop,hz,Array.length_toList]at this;omega
 ·rw [d2,List.append_assoc,List.take_append_of_le_length (by rw [List.length_take,Array.length_toList];omega),List.take_take,Nat.min_self,<-fl_take leL_len R k (by omega),<-h4,List.take_take,Nat.min_eq_left (by omega)]
end Go.Proofs.YtkhehikaemdnnaaGreat
namespace Go.Proofs.YtkhehikaemdnnaaGreat
def keepL(p:Le->Bool)(L:List Le):List Le:=L.filter fun l=>!p l
structure DelIn (p:Le->Bool) (L:List Le) (j k:Nat) (R:List Le):Prop where
 le:j<=L.length
 lt:k<j
 len:R.length=L.length
 kept:R.take k=keepL p (L.take j)
 rest:R.drop j=L.drop j
variable {p : Le -> Bool} {L R : List Le} {i j k : Nat}
theorem keep_next(h:j<L.length):keepL p (L.take (j+1))=keepL p (L.take j) ++ if p L[j] then [] else [L[j]]:=by
 unfold keepL;rw [List.take_add_one,List.getElem?_eq_getElem h,List.filter_append];cases hp:p L[j] <;> simp [hp]
theorem keep_all(h:L.findIdx? p=none):keepL p L=L:=by
 unfold keepL;rw [List.filter_eq_self];intro x hx;simp [List.findIdx?_eq_none_iff.1 h x hx]
theorem del_start(h:L.findIdx? p=some i):DelIn p L (i+1) i L:=by
 obtain⟨hlt,hp,hb⟩:=List.findIdx?_eq_some_iff_getElem.1 h;refine⟨hlt,Nat.lt_succ_self i,rfl,?_,rfl⟩;rw [keep_next hlt,if_pos hp,List.append_nil];unfold keepL;rw [List.filter_eq_self.2];intro x hx;obtain⟨m,hm,e⟩:=List.getElem_of_mem hx;rw [List.length_take]at hm;rw [<-e,List.getElem_take];have:=hb m (by omega);simpa using this
theorem DelIn.at(h:DelIn p L j k R)(hj:j<L.length):R[j]'(by rw [h.len];exact hj)=L[j]:=by
 have:=congrArg (fun l=>l[0]?) h.rest;simp only [List.getElem?_drop,Nat.add_zero]at this;rw [List.getElem?_eq_getElem (by rw [h.len];exact hj),List.getElem?_eq_getElem hj]at this;exact Option.some.inj this
theorem DelIn.skip(h:DelIn p L j k R)(hj:j<L.length)(hp:p L[j]=true):DelIn p L (j+1) k R:=by
 refine⟨hj,Nat.lt_succ_of_lt h.lt,h.len,?_,?_⟩
 ·rw [keep_next hj,if_pos hp,List.append_nil];exact h.kept
 ·rw [<-List.drop_drop,h.rest,List.drop_drop]
theorem DelIn.keep(h:DelIn p L j k R)(hj:j<L.length)(hp:p L[j]=false):DelIn p L (j+1) (k+1) (R.set k L[j]):=by
 have hk:k<R.length:=by have:=h.len;have:=h.lt;omega
 refine⟨hj,Nat.succ_lt_succ h.lt,by rw [List.length_set];exact h.len,?_,?_⟩
 ·rw [keep_next hj,if_neg (by rw [hp];decide),<-h.kept,List.take_add_one,List.getElem?_set_self hk,List.take_set_of_le (Nat.le_refl k)];rfl
 ·rw [List.drop_set_of_lt (by have:=h.lt;omega),<-List.drop_drop,h.rest,List.drop_drop]
theorem DelIn.done(h:DelIn p L L.length k R):R.take k=keepL p L:=by
 have:=h.kept
 rwa [List.take_of_length_le (Nat.le_refl _)]at this
theorem DelIn.num(h:DelIn p L L.length k R):k=(keepL p L).length:=by
 rw [<-h.done,List.length_take,h.len];have:=h.lt;omega
end Go.Proofs.YtkhehikaemdnnaaGreat
