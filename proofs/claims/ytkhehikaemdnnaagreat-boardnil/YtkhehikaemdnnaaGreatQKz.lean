import Derived.Test.YtkhehikaemdnnaaGreatQKw
import Derived.Test.YtkhehikaemdnnaaGreatQBl
import Derived.Test.YtkhehikaemdnnaaGreatQKf
import Derived.Test.YtkhehikaemdnnaaGreatQKy
import Derived.DeepKeys4
import Derived.Maps.OwnSet
import Derived.Maps.Keyed
namespace Go.Proofs.YtkhehikaemdnnaaGreat
structure SInv (s:Sc):Prop where
 nm:(s.tabs.map Tb.nm).Nodup
 fw:∀ t ∈ s.tabs,t.few
 sz:s.tabs.length<=1000000
 id:∀ t ∈ s.tabs,∀ i ∈ idsT t,I64 i
 vr:0<=s.ver/\s.ver<=2251799813685248
 ls:I64 s.last
theorem sinv_none:SInv ⟨0,0,[]⟩:=⟨List.nodup_nil,fun _ h=>(by cases h),Nat.zero_le _,fun _ h=>(by cases h),by simp,by unfold I64;simp⟩
theorem setAt_mem{α:Type}{st:Int}{i:Nat}{f:α->α}{l:List α}{x:α}(h:x ∈ setAt st i f l):x ∈ l\/∃ y ∈ l,x=f y:=by
 unfold setAt at h;rcases List.mem_append.1 h with h | h
 ·rcases List.mem_append.1 h with h | h
  ·exact .inl (List.mem_of_mem_take h)
  ·split at h
   ·cases h
   ·obtain⟨y,hy,e⟩:=List.mem_map.1 h;exact .inr ⟨y,List.mem_of_mem_drop (List.mem_of_mem_take hy),e.symm⟩
 ·exact .inl (List.mem_of_mem_drop h)
theorem setAt_le{α:Type}{st:Int}{i:Nat}{f:α->α}{l:List α}(hi:i<l.length):(setAt st i f l).length<=l.length:=by
 unfold setAt
 split <;> simp <;> omega
section
variable {α : Type} {nm : α -> ByteArray} {stt : α -> Int} {put : Int -> α -> α} {l l' : List α} {name : ByteArray} {st : Int} {new : Except Int α} {b : Bool}
theorem findIdx_lt{p:α->Bool}{k:Nat}(e:l.findIdx? p=some k):k<l.length:=(List.findIdx?_eq_some_iff_getElem.1 e).1
theorem addL_mem(h:addL nm stt put l name st new=.ok (l',b)):l'.length<=l.length+1/\∀ x ∈ l',x ∈ l\/(∃ y ∈ l,x=put st y)\/∃ y,new=.ok y/\x=put st y:=by
 unfold addL at h;cases e:l.findIdx? (fun x=>decide (nm x=name))with
 | some k =>
  rw [e]at h;simp only at h
  split at h
  ·cases h
  ·cases h;exact⟨Nat.le_succ_of_le (setAt_le (findIdx_lt e)),fun x hx=>(setAt_mem hx).elim .inl fun q=>.inr (.inl q)⟩
 | none =>
  rw [e]at h;simp only at h
  split at h
  ·cases h
  split at h
  ·cases h
  cases en:new with
  | error er=>rw [en]at h;cases h
  | ok y =>
   rw [en]at h;simp only at h
   split at h
   ·cases h
   cases h;refine⟨by simp,fun x hx=>?_⟩;rcases List.mem_append.1 hx with q | q
   ·exact .inl q
   ·exact .inr (.inr ⟨y,rfl,List.mem_singleton.1 q⟩)
variable {no : Int} {used : Nat -> α -> Bool}
theorem dropL_mem(h:dropL nm put l name st no used=.ok l'):l'.length<=l.length+1/\∀ x ∈ l',x ∈ l\/∃ y ∈ l,x=put st y:=by
 unfold dropL at h;cases e:l.findIdx? (fun x=>decide (nm x=name))with
 | none=>rw [e]at h;cases h
 | some k =>
  rw [e]at h;simp only at h
  split at h
  ·cases h
  ·cases h;exact⟨Nat.le_succ_of_le (setAt_le (findIdx_lt e)),fun x hx=>setAt_mem hx⟩
end
structure SRight (s:Sc):Prop where
 ver:0<=s.ver/\s.ver<=1125899906842624
 last:0<=s.last/\s.last<=1125899906842624
 sz:s.tabs.length<=6
 cnt:∀ t ∈ s.tabs,t.cols.length<=8/\t.ixs.length<=8/\t.fks.length<=8
 id:∀ t ∈ s.tabs,∀ i ∈ idsT t,1<=i/\i<=s.last
 nm:(s.tabs.map Tb.nm).Nodup
theorem sright_of{s:Sc}(h:rightS s=true):SRight s:=by
 unfold rightS at h;simp only [Bool.and_eq_true,decide_eq_true_eq,farB,List.all_eq_true]at h;obtain⟨⟨⟨⟨⟨⟨⟨h1,h2⟩,h3⟩,h4⟩,h5⟩,_⟩,h7⟩,_⟩:=h;refine⟨h1,h2,h3,fun t ht=>?_,fun t ht i hi=>h5 i (List.mem_flatMap.2 ⟨t,ht,hi⟩),h7⟩;have:=h4 t ht;unfold tabB cntB at this;simp only [Bool.and_eq_true,decide_eq_true_eq]at this;obtain⟨⟨⟨⟨⟨_,a⟩,b⟩,c⟩,_⟩,_⟩:=this;exact⟨a,b,c⟩
theorem ids_iff{t:Tb}{i:Int}:i ∈ idsT t ↔ i=t.id\/(∃ c ∈ t.cols,c.id=i)\/(∃ c ∈ t.ixs,c.id=i)\/∃ c ∈ t.fks,c.id=i:=by
 unfold idsT;simp only [List.mem_cons,List.mem_append,List.mem_map,or_assoc]
theorem sinv_set{s:Sc}(hr:SRight s){i:Nat}{t t':Tb}{m:Int}(ht:s.tabs[i]?=some t)(hn:t'.nm=t.nm)(h1:t'.cols.length<=9)(h2:t'.ixs.length<=9)(h3:t'.fks.length<=9)(hi:∀ k ∈ idsT t',1<=k/\k<=s.last+1)(hm:s.last<=m/\m<=s.last+1):SInv ⟨s.ver+1,m,s.tabs.set i t'⟩:=by
 have v:=hr.ver;have l:=hr.last;obtain⟨hlt,hg⟩:=List.getElem?_eq_some_iff.1 ht;refine⟨?_,fun x hx=>?_,by simp only [List.length_set];have:=hr.sz;omega,fun x hx k hk=>?_,by simp only;omega,by unfold I64;simp only;omega⟩
 ·have:(s.tabs.set i t').map Tb.nm=s.tabs.map Tb.nm:=by
   rw [List.map_set,hn,<-hg];refine List.ext_getElem? fun j=>?_;by_cases e:i=j
   ·subst e;rw [List.getElem?_set_self (by simpa using hlt),List.getElem?_map,List.getElem?_eq_getElem hlt];rfl
   ·rw [List.getElem?_set_ne e]
  show((s.tabs.set i t').map Tb.nm).Nodup
  rw [this];exact hr.nm
 ·rcases List.mem_or_eq_of_mem_set hx with q | q
  ·obtain⟨a,b,c⟩:=hr.cnt x q;exact⟨by omega,by omega,by omega⟩
  ·subst q;exact⟨by omega,by omega,by omega⟩
 ·rcases List.mem_or_eq_of_mem_set hx with q | q
  ·have:=hr.id x q k hk;unfold I64;omega
  ·subst q;have:=hi k hk;unfold I64;omega
theorem fresh_ids:∀ (l:List Col) (k:Int),∀ c ∈ freshC k l,k<=c.id/\c.id<k+l.length
 | [],_,_,h=>by cases h
 | x :: l,k,c,h=>by
  unfold freshC at h;rcases List.mem_cons.1 h with q | q
  ·subst q;simp only [List.length_cons];omega
  ·have:=fresh_ids l (k+1) c q;simp only [List.length_cons];omega
theorem fresh_len:∀ (l:List Col) (k:Int),(freshC k l).length=l.length
 | [],_=>rfl
 | x :: l,k=>by unfold freshC;rw [List.length_cons,fresh_len l,List.length_cons]
theorem turn_inv{s s':Sc}{d:Dd}{st:Int}(h:turnS s d st=.ok s'):SInv s':=by
 unfold turnS at h
 split at h
 ·cases h
 rename_i hr
 have hr:SRight s:=sright_of (by
  cases q:rightS s with
  | false=>exact absurd (.inl q) hr
  | true=>rfl)
 have v:=hr.ver;have l:=hr.last;unfold changeS at h
 split at h
 ·cases h
 split at h
 ·unfold createS at h
  split at h
  ·cases h
  split at h
  ·cases h
  rename_i hn
  split at h
  ·cases h
  rename_i hc
  split at h
  ·cases h
  split at h
  ·cases h
  cases h;have hc1:d.cols.length<=8:=by omega
  have hs:=hr.sz;refine⟨?_,fun x hx=>?_,by simp only [List.length_append,List.length_singleton];omega,fun x hx k hk=>?_,by simp only;omega,by unfold I64;simp only;omega⟩
  ·show((s.tabs ++ [_]).map Tb.nm).Nodup
   rw [List.map_append,List.nodup_append];refine⟨hr.nm,by simp,fun a ha b hb=>?_⟩;obtain⟨t,ht,e⟩:=List.mem_map.1 ha;have hb':b=d.table:=by simpa using hb
   subst e;subst hb';intro q;exact hn (.inl (List.any_eq_true.2 ⟨t,ht,by simpa using q⟩))
  ·rcases List.mem_append.1 hx with q | q
   ·obtain⟨a,b,c⟩:=hr.cnt x q;exact⟨by omega,by omega,by omega⟩
   ·have q:=List.mem_singleton.1 q;subst q;exact⟨by rw [fresh_len];omega,by simp,by simp⟩
  ·rcases List.mem_append.1 hx with q | q
   ·have:=hr.id x q k hk;unfold I64;omega
   ·have q:=List.mem_singleton.1 q;subst q;unfold I64;rcases ids_iff.1 hk with q | ⟨c,hc,q⟩ | ⟨c,hc,q⟩ | ⟨c,hc,q⟩
    ·subst q;simp only;omega
    ·have:=fresh_ids _ _ c hc;omega
    ·cases hc
    ·cases hc
 ·split at h
  ·cases h
  rename_i i _
  split at h
  ·cases h
  rename_i t ht
  have htm:=List.mem_of_getElem? ht;obtain⟨n1,n2,n3⟩:=hr.cnt t htm;have hid:=hr.id t htm;have hd:∀ k ∈ idsT t,1<=k/\k<=s.last+1:=fun k hk=>by have:=hid k hk;omega
  have hm:∀ b:Bool,s.last<=(if b then s.last+1 else s.last)/\(if b then s.last+1 else s.last)<=s.last+1:=fun b=>by cases b <;> simp <;> omega
  have w1:∀ lst:List Col,(lst.length<=t.cols.length+1/\∀ x ∈ lst,x.id=s.last+1\/∃ y ∈ t.cols,x.id=y.id)->∀ b,SInv (withC s i t lst b):=fun lst q b=>by
   refine sinv_set hr ht rfl (show lst.length<=9 by omega) (by simp only;omega) (by simp only;omega) (fun k hk=>?_) (hm b);rcases ids_iff.1 hk with e | ⟨c,hc,e⟩ | ⟨c,hc,e⟩ | ⟨c,hc,e⟩
   ·exact hd k (ids_iff.2 (.inl e))
   ·rcases q.2 c hc with g | ⟨y,hy,g⟩
    ·omega
    ·exact hd k (ids_iff.2 (.inr (.inl ⟨y,hy,by rw [<-g];exact e⟩)))
   ·exact hd k (ids_iff.2 (.inr (.inr (.inl ⟨c,hc,e⟩))))
   ·exact hd k (ids_iff.2 (.inr (.inr (.inr ⟨c,hc,e⟩))))
  have w2:∀ lst:List Ix,(lst.length<=t.ixs.length+1/\∀ x ∈ lst,x.id=s.last+1\/∃ y ∈ t.ixs,x.id=y.id)->∀ b,SInv (withI s i t lst b):=fun lst q b=>by
   refine sinv_set hr ht rfl (by simp only;omega) (show lst.length<=9 by omega) (by simp only;omega) (fun k hk=>?_) (hm b);rcases ids_iff.1 hk with e | ⟨c,hc,e⟩ | ⟨c,hc,e⟩ | ⟨c,hc,e⟩
   ·exact hd k (ids_iff.2 (.inl e))
   ·exact hd k (ids_iff.2 (.inr (.inl ⟨c,hc,e⟩)))
   ·rcases q.2 c hc with g | ⟨y,hy,g⟩
    ·omega
    ·exact hd k (ids_iff.2 (.inr (.inr (.inl ⟨y,hy,by rw [<-g];exact e⟩))))
   ·exact hd k (ids_iff.2 (.inr (.inr (.inr ⟨c,hc,e⟩))))
  have w3:∀ lst:List Fk,(lst.length<=t.fks.length+1/\∀ x ∈ lst,x.id=s.last+1\/∃ y ∈ t.fks,x.id=y.id)->∀ b,SInv (withK s i t lst b):=fun lst q b=>by
   refine sinv_set hr ht rfl (by simp only;omega) (by simp only;omega) (show lst.length<=9 by omega) (fun k hk=>?_) (hm b);rcases ids_iff.1 hk with e | ⟨c,hc,e⟩ | ⟨c,hc,e⟩ | ⟨c,hc,e⟩
   ·exact hd k (ids_iff.2 (.inl e))
   ·exact hd k (ids_iff.2 (.inr (.inl ⟨c,hc,e⟩)))
   ·exact hd k (ids_iff.2 (.inr (.inr (.inl ⟨c,hc,e⟩))))
   ·rcases q.2 c hc with g | ⟨y,hy,g⟩
    ·omega
    ·exact hd k (ids_iff.2 (.inr (.inr (.inr ⟨y,hy,by rw [<-g];exact e⟩))))
  have ed:∀ {α:Type} {f:α->Int} {put:Int->α->α} {lo ln:List α},(∀ k y,f (put k y)=f y)->(ln.length<=lo.length+1/\∀ x ∈ ln,x ∈ lo\/∃ y ∈ lo,x=put st y)->ln.length<=lo.length+1/\∀ x ∈ ln,f x=s.last+1\/∃ y ∈ lo,f x=f y:=fun hp q=>⟨q.1,fun x hx=>(q.2 x hx).elim (fun g=>.inr ⟨x,g,rfl⟩) fun ⟨y,hy,g⟩=>.inr ⟨y,hy,by rw [g,hp]⟩⟩
  have ea:∀ {α:Type} {f:α->Int} {put:Int->α->α} {lo ln:List α} {new:Except Int α},(∀ k y,f (put k y)=f y)->(∀ y,new=.ok y->f y=s.last+1)->(ln.length<=lo.length+1/\∀ x ∈ ln,x ∈ lo\/(∃ y ∈ lo,x=put st y)\/∃ y,new=.ok y/\x=put st y)->ln.length<=lo.length+1/\∀ x ∈ ln,f x=s.last+1\/∃ y ∈ lo,f x=f y:=fun hp hn q=>⟨q.1,fun x hx=>(q.2 x hx).elim (fun g=>.inr ⟨x,g,rfl⟩) fun g=>g.elim (fun ⟨y,hy,g⟩=>.inr ⟨y,hy,by rw [g,hp]⟩) fun ⟨y,hy,g⟩=>.inl (by rw [g,hp,hn y hy])⟩
  unfold changeT at h
  split at h
  ·cases e:addL Col.nm Col.st putC t.cols d.column st (newC s d)with
   | error er=>rw [e]at h;cases h
   | ok r =>
    obtain⟨lst,b⟩:=r;rw [e]at h;cases h;refine w1 lst (ea (f:=Col.id) (put:=putC) (fun _ _=>rfl) (fun y hy=>?_) (addL_mem e)) b;unfold newC at hy
    split at hy
    ·cases hy;rfl
    ·cases hy
  split at h
  ·cases e:addL Ix.nm Ix.st putI t.ixs d.name st (newI s t d)with
   | error er=>rw [e]at h;cases h
   | ok r =>
    obtain⟨lst,b⟩:=r;rw [e]at h;cases h;refine w2 lst (ea (f:=Ix.id) (put:=putI) (fun _ _=>rfl) (fun y hy=>?_) (addL_mem e)) b;unfold newI at hy
    split at hy
    ·cases hy
    ·cases hy;rfl
  split at h
  ·cases e:addL Fk.nm Fk.st putK t.fks d.name st (newK s t d)with
   | error er=>rw [e]at h;cases h
   | ok r =>
    obtain⟨lst,b⟩:=r;rw [e]at h;cases h;refine w3 lst (ea (f:=Fk.id) (put:=putK) (fun _ _=>rfl) (fun y hy=>?_) (addL_mem e)) b;unfold newK at hy
    split at hy
    ·cases hy
    ·split at hy
     ·cases hy
     ·split at hy
      ·cases hy;rfl
      ·cases hy
  split at h
  ·cases e:dropL Col.nm putC t.cols d.column st 151 (usedB t)with
   | error er=>rw [e]at h;cases h
   | ok lst =>
    rw [e]at h;cases h;exact w1 lst (ed (f:=Col.id) (put:=putC) (fun _ _=>rfl) (dropL_mem e)) false
  split at h
  ·cases e:dropL Ix.nm putI t.ixs d.name st 153 (fun _ _=>false)with
   | error er=>rw [e]at h;cases h
   | ok lst =>
    rw [e]at h;cases h;exact w2 lst (ed (f:=Ix.id) (put:=putI) (fun _ _=>rfl) (dropL_mem e)) false
  ·cases e:dropL Fk.nm putK t.fks d.name st 153 (fun _ _=>false)with
   | error er=>rw [e]at h;cases h
   | ok lst =>
    rw [e]at h;cases h;exact w3 lst (ed (f:=Fk.id) (put:=putK) (fun _ _=>rfl) (dropL_mem e)) false
theorem addL_er{α:Type}{nm:α->ByteArray}{stt:α->Int}{put:Int->α->α}{l:List α}{name:ByteArray}{st:Int}{new:Except Int α}{e:Int}(h:addL nm stt put l name st new=.error e)(hn:∀ e,new=.error e->e≠0):e≠0:=by
 unfold addL at h;cases e1:l.findIdx? (fun x=>decide (nm x=name))with
 | some k =>
  rw [e1]at h;simp only at h
  split at h
  ·cases h
   decide
  ·cases h
 | none =>
  rw [e1]at h;simp only at h
  split at h
  ·cases h
   decide
  split at h
  ·cases h
   decide
  cases en:new with
  | error er =>
   rw [en]at h;cases h;exact hn _ en
  | ok y =>
   rw [en]at h;simp only at h
   split at h
   ·cases h
    decide
   ·cases h
theorem dropL_er{α:Type}{nm:α->ByteArray}{put:Int->α->α}{l:List α}{name:ByteArray}{st no:Int}{used:Nat->α->Bool}{e:Int}(h:dropL nm put l name st no used=.error e)(hn:no≠0):e≠0:=by
 unfold dropL at h;cases e1:l.findIdx? (fun x=>decide (nm x=name))with
 | none =>
  rw [e1]at h;cases h;exact hn
 | some k =>
  rw [e1]at h;simp only at h
  split at h
  ·cases h
   decide
  ·cases h
theorem turn_er{s:Sc}{d:Dd}{st e:Int}(h:turnS s d st=.error e):e≠0:=by
 unfold turnS at h
 split at h
 ·cases h
  decide
 unfold changeS at h
 split at h
 ·cases h
  decide
 split at h
 ·unfold createS at h
  split at h
  ·cases h
   decide
  split at h
  ·cases h
   decide
  split at h
  ·cases h
   decide
  split at h
  ·cases h
   decide
  split at h
  ·cases h
   decide
  ·cases h
 split at h
 ·cases h
  decide
 split at h
 ·cases h
  decide
 rename_i i _ _ t _
 unfold changeT at h
 split at h
 ·cases e1:addL Col.nm Col.st putC t.cols d.column st (newC s d)with
  | ok r=>rw [e1]at h;cases h
  | error er =>
   rw [e1]at h;cases h;refine addL_er e1 fun e he=>?_;unfold newC at he
   split at he
   ·cases he
   ·cases he
    decide
 split at h
 ·cases e1:addL Ix.nm Ix.st putI t.ixs d.name st (newI s t d)with
  | ok r=>rw [e1]at h;cases h
  | error er =>
   rw [e1]at h;cases h;refine addL_er e1 fun e he=>?_;unfold newI at he
   split at he
   ·cases he
    decide
   ·cases he
 split at h
 ·cases e1:addL Fk.nm Fk.st putK t.fks d.name st (newK s t d)with
  | ok r=>rw [e1]at h;cases h
  | error er =>
   rw [e1]at h;cases h;refine addL_er e1 fun e he=>?_;unfold newK at he
   split at he
   ·cases he
    decide
   split at he
   ·cases he
    decide
   split at he
   ·cases he
   ·cases he
    decide
 split at h
 ·cases e1:dropL Col.nm putC t.cols d.column st 151 (usedB t)with
  | ok r=>rw [e1]at h;cases h
  | error er =>
   rw [e1]at h;cases h;exact dropL_er e1 (by decide)
 split at h
 ·cases e1:dropL Ix.nm putI t.ixs d.name st 153 (fun _ _=>false)with
  | ok r=>rw [e1]at h;cases h
  | error er =>
   rw [e1]at h;cases h;exact dropL_er e1 (by decide)
 ·cases e1:dropL Fk.nm putK t.fks d.name st 153 (fun _ _=>false)with
  | ok r=>rw [e1]at h;cases h
  | error er =>
   rw [e1]at h;cases h;exact dropL_er e1 (by decide)
end Go.Proofs.YtkhehikaemdnnaaGreat
namespace Go.Proofs.YtkhehikaemdnnaaGreat
def runsF:Nat->List Jb->List Nat
 | _,[]=>[]
 | k,j :: r=>if j.runs then k :: runsF (k+1) r else runsF (k+1) r
theorem runs_none:∀ (js:List Jb) (k:Nat),js.findIdx? Jb.runs=none->runsF k js=[]
 | [],_,_=>rfl
 | j :: r,k,h=>by
  rw [List.findIdx?_cons]at h;unfold runsF;cases hj:j.runs with
  | true=>rw [hj]at h;simp at h
  | false =>
   rw [hj]at h;simp only [Bool.false_eq_true,if_false,Option.map_eq_none_iff]at h;simp only [Bool.false_eq_true,if_false];exact runs_none r (k+1) h
theorem runs_some:∀ (js:List Jb) (k i:Nat),js.findIdx? Jb.runs=some i->∃ L,runsF k js=(k+i) :: L/\∀ j':Jb,runsF k (js.set i j')=if j'.runs then (k+i) :: L else L
 | [],_,_,h=>by simp at h
 | j :: r,k,i,h=>by
  rw [List.findIdx?_cons]at h;cases hj:j.runs with
  | true =>
   rw [hj]at h;simp only [if_true,Option.some.injEq]at h;subst h;refine⟨runsF (k+1) r,by show(if j.runs then k :: runsF (k+1) r else runsF (k+1) r)=_;rw [hj];rfl,fun j'=>?_⟩;rw [List.set_cons_zero];rfl
  | false =>
   rw [hj]at h;simp only [Bool.false_eq_true,if_false,Option.map_eq_some_iff]at h;obtain⟨m,hm,rfl⟩:=h;obtain⟨L,h1,h2⟩:=runs_some r (k+1) m hm;have e:k+1+m=k+(m+1):=by omega
   rw [e]at h1 h2;refine⟨L,by show(if j.runs then k :: runsF (k+1) r else runsF (k+1) r)=_;rw [hj];simpa using h1,fun j'=>?_⟩;rw [List.set_cons_succ];show(if j.runs then _ else _)=_
   rw [hj];simpa using h2 j'
theorem runs_add:∀ (js:List Jb) (k:Nat) (j:Jb),runsF k (js ++ [j])=runsF k js ++ if j.runs then [k+js.length] else []
 | [],k,j=>by
  show(if j.runs then _ else _)=_
  cases j.runs <;> simp [runsF]
 | x :: r,k,j=>by
  show(if x.runs then _ else _)=(if x.runs then _ else _) ++ _
  have e:k+1+r.length=k+(x :: r).length:=by rw [List.length_cons];omega
  cases x.runs <;> simp [runs_add r (k+1) j,e] <;> omega
theorem runs_len:∀ (js:List Jb) (k:Nat),(runsF k js).length=(js.filter Jb.runs).length
 | [],_=>rfl
 | x :: r,k=>by
  unfold runsF;rw [List.filter_cons];cases x.runs <;> simp [runs_len r (k+1)]
theorem runs_le(js:List Jb)(k:Nat):(runsF k js).length<=js.length:=by
 rw [runs_len];exact List.length_filter_le _ _
def idOf(js:List Jb)(t:Td):Option Value:=(js.findIdx? fun j=>decide (j.asker=t)).map fun i=>.int .i64 ((i:Int)+1)
theorem idOf_add(js:List Jb)(j:Jb)(h:js.findIdx? (fun x=>decide (x.asker=j.asker))=none)(t:Td):idOf (js ++ [j]) t=if t=j.asker then some (.int .i64 ((js.length:Int)+1)) else idOf js t:=by
 unfold idOf;rw [List.findIdx?_append];by_cases e:t=j.asker
 ·subst e;rw [h,if_pos rfl];simp [List.findIdx?_cons]
 ·rw [if_neg e];have:(fun x:Jb=>decide (x.asker=t)) j=false:=by simpa using fun q=>e q.symm
  cases js.findIdx? (fun x=>decide (x.asker=t))with
  | some i=>rfl
  | none =>
   simp [List.findIdx?_cons];exact fun q=>e q.symm
theorem idOf_set(js:List Jb)(i:Nat)(j j':Jb)(hj:js[i]?=some j)(ha:j'.asker=j.asker)(t:Td):idOf (js.set i j') t=idOf js t:=by
 unfold idOf;have hm:(js.set i j').map Jb.asker=js.map Jb.asker:=by
  rw [List.map_set,ha];refine List.ext_getElem? fun k=>?_;by_cases e:i=k
  ·subst e;obtain⟨hlt,hg⟩:=List.getElem?_eq_some_iff.1 hj;rw [List.getElem?_set_self (by simpa using hlt),List.getElem?_map,hj];rfl
  ·rw [List.getElem?_set_ne e]
 have h1:∀ l:List Jb,(l.findIdx? fun j=>decide (j.asker=t))=(l.map Jb.asker).findIdx? fun a=>decide (a=t):=fun l=>by
  rw [List.findIdx?_map];rfl
 rw [h1,h1,hm]
structure Fit0 (n:Nat) (b:Bd):Prop where
 sch:SInv b.sch
 til:LeOk b.leases
 nl:b.leases.length<=n
 nj:b.jobs.length<=n
 co:∀ j ∈ b.jobs,j.ddl.cols.length<=1000000
 pa:∀ j ∈ b.jobs,pathP j.ddl.kind false≠[]
structure Fit (n:Nat) (b:Bd):Prop extends Fit0 n b where
 ok:b.Ok
theorem fit_none:Fit 0 Bd.none:=⟨⟨sinv_none,fun _ h=>(by cases h),Nat.le_refl _,Nat.le_refl _,fun _ h=>(by cases h),fun _ h=>(by cases h)⟩,none_ok⟩
theorem Fit0.mono{n m:Nat}{b:Bd}(h:Fit0 n b)(hm:n<=m):Fit0 m b:=⟨h.sch,h.til,Nat.le_trans h.nl hm,Nat.le_trans h.nj hm,h.co,h.pa⟩
theorem fit_set{n:Nat}{b:Bd}(h:Fit0 n b)(s:Sc)(hs:SInv s){i:Nat}{j j':Jb}(hj:b.jobs[i]?=some j)(hd:j'.ddl=j.ddl):Fit0 n (Bd.mk s b.leases (b.jobs.set i j')):=by
 have hm:=List.mem_of_getElem? hj;refine⟨hs,h.til,h.nl,by show(b.jobs.set i j').length<=n;rw [List.length_set];exact h.nj,fun x hx=>?_,fun x hx=>?_⟩
 ·rcases List.mem_or_eq_of_mem_set hx with q | q
  ·exact h.co x q
  ·subst q;rw [hd];exact h.co j hm
 ·rcases List.mem_or_eq_of_mem_set hx with q | q
  ·exact h.pa x q
  ·subst q;rw [hd];exact h.pa j hm
theorem act_fit0{n:Nat}{b:Bd}{t:Int}{c:Cm}(h:Fit0 n b)(hc:c.ddl.cols.length<=1000000):Fit0 (n+1) (b.act t c).1:=by
 have hmono:=h.mono (Nat.le_succ n);unfold Bd.act
 split
 ·exact hmono
 rename_i hbad
 split
 ·unfold Bd.grant
  split
  ·exact hmono
  ·refine⟨h.sch,fun l hl=>?_,?_,hmono.nj,h.co,h.pa⟩
   ·rcases List.mem_append.1 hl with q | q
    ·exact h.til l (List.mem_filter.1 q).1
    ·have q:=List.mem_singleton.1 q;subst q;simp only;omega
   ·show(_ ++ [_]).length<=n+1
    rw [List.length_append,List.length_singleton];exact Nat.succ_le_succ (Nat.le_trans (List.length_filter_le _ _) h.nl)
 split
 ·unfold Bd.submit
  split
  ·exact hmono
  rename_i hp
  cases hf:b.jobs.findIdx? (fun j=>decide (j.asker=c.asker))with
  | some i=>exact hmono
  | none =>
   refine⟨h.sch,h.til,hmono.nl,?_,fun x hx=>?_,fun x hx=>?_⟩
   ·show(_ ++ [_]).length<=n+1
    rw [List.length_append,List.length_singleton];exact Nat.succ_le_succ h.nj
   ·rcases List.mem_append.1 hx with q | q
    ·exact h.co x q
    ·have q:=List.mem_singleton.1 q;subst q;exact hc
   ·rcases List.mem_append.1 hx with q | q
    ·exact h.pa x q
    ·have q:=List.mem_singleton.1 q;subst q;exact hp
 split
 ·unfold Bd.drainC;cases ht:b.turn c [2]with
  | none=>exact hmono
  | some x =>
   obtain⟨i,j⟩:=x;obtain⟨_,hj,_⟩:=turn_some ht;exact fit_set hmono b.sch h.sch hj rfl
 split
 ·unfold Bd.goC;cases ht:b.turn c [1,2,3]with
  | none=>exact hmono
  | some x =>
   obtain⟨i,j⟩:=x;obtain⟨_,hj,_⟩:=turn_some ht;simp only;generalize (if j.move.1=2 then b.sch.ver+1 else b.sch.ver)=bl
   split
   ·exact hmono
   split
   ·exact hmono
   split
   ·exact fit_set hmono b.sch h.sch hj rfl
   cases hs:turnS b.sch j.ddl j.move.2 with
   | error e=>exact fit_set hmono b.sch h.sch hj rfl
   | ok s=>exact fit_set hmono s (turn_inv hs) hj rfl
 split
 ·unfold Bd.markC;cases ht:b.turn c [4,5]with
  | none=>exact hmono
  | some x =>
   obtain⟨i,j⟩:=x;obtain⟨_,hj,_⟩:=turn_some ht;simp only;refine fit_set hmono b.sch h.sch hj ?_
   split <;> rfl
 unfold Bd.failC;cases ht:b.turn c [4]with
 | none=>exact hmono
 | some x =>
  obtain⟨i,j⟩:=x;obtain⟨_,hj,_⟩:=turn_some ht;simp only
  split
  ·exact hmono
  ·exact fit_set hmono b.sch h.sch hj rfl
theorem act_fit{n:Nat}{b:Bd}{t:Int}{c:Cm}(h:Fit n b)(hc:c.ddl.cols.length<=1000000):Fit (n+1) (b.act t c).1:=⟨act_fit0 h.toFit0 hc,act_ok h.ok⟩
end Go.Proofs.YtkhehikaemdnnaaGreat
namespace Go.Proofs.YtkhehikaemdnnaaGreat
open Go.RowKit Go.Maps
theorem laidOut:laidOutB Tryz.prog=true:=by kernel_rfl
theorem cells3:Tryz.prog.cellsOf 3=1:=by kernel_rfl
abbrev tdL(t:Td):List Value:=[.int .i64 t.1,.int .i64 t.2.1,.int .i64 t.2.2]
abbrev tdV(t:Td):Value:=.agg #[.int .i64 t.1,.int .i64 t.2.1,.int .i64 t.2.2]
def TdOk(t:Td):Prop:=I64 t.1/\I64 t.2.1/\I64 t.2.2
theorem key38:Keyed Tryz.prog 38:=Keyed.of_law (deep_law_laid laidOut (m:=3) (by decide) (of_decide_eq_true (by kernel_rfl)) (by kernel_rfl) (by kernel_rfl))
def klit(t:Td):Lit:=.string (keyBytes [.int .i64 t.1,.int .i64 t.2.1,.int .i64 t.2.2])
theorem lits3{n:Int}(h:I64 n)(d:Nat):Tryz.prog.keyLits (d+1) 3 [.int .i64 n]=some [.int .i64 n]:=by
 unfold Program.keyLits;rw [Tryz.underlying3];simp only;rw [if_pos ⟨trivial,WalkArith.wf_i64 (by unfold I64 at h;omega)⟩]
theorem fields38 : ∃ fs : Array Field, Tryz.prog.underlying 38 = some (.struct fs) ∧ fs.all (fun f => f.name != "_") = true ∧ fs.toList.map (fun f => (f.type, f.offset)) = [(3, 0), (3, 1), (3, 2)] := ⟨_, Tryz.underlying38, by kernel_rfl, by kernel_rfl⟩
theorem lits38(t:Td)(h:TdOk t)(k:Nat):Tryz.prog.keyLits (k+2) 38 (tdL t)=some [.int .i64 t.1,.int .i64 t.2.1,.int .i64 t.2.2]:=by
 obtain⟨⟨l⟩,hu,hn,hf⟩:=fields38;have l0:=lits3 h.1 k;have l1:=lits3 h.2.1 k;have l2:=lits3 h.2.2 k;have hc:(tdL t).length=Tryz.prog.cellsOf 38:=(by kernel_rfl:(3:Nat)=Tryz.prog.cellsOf 38)
 unfold Program.keyLits;rw [hu];simp only;rw [if_pos ⟨hc,hn⟩];clear hc hu hn;rcases l with _ | ⟨f0,_ | ⟨f1,_ | ⟨f2,_ | ⟨f3,l⟩⟩⟩⟩
 ·simp at hf
 ·simp at hf
 ·simp at hf
 ·simp only [List.map_cons,List.map_nil,List.cons.injEq,Prod.mk.injEq,and_true]at hf;obtain⟨⟨a0,b0⟩,⟨a1,b1⟩,a2,b2⟩:=hf;simp [a0,a1,a2,b0,b1,b2,cells3,l0,l1,l2]
 ·simp at hf
theorem key_of(t:Td)(h:TdOk t):keyOf Tryz.prog 38 (tdV t)=some (klit t):=by
 have hl:Tryz.prog.keyLits (Tryz.prog.types.size+1) 38 (tdL t)=some [.int .i64 t.1,.int .i64 t.2.1,.int .i64 t.2.2] :=
  (congrArg (fun n=>Tryz.prog.keyLits n 38 (tdL t)) (by kernel_rfl:Tryz.prog.types.size+1=259)).trans (lits38 t h 257)
 obtain⟨fs,hu,_,_⟩:=fields38;unfold keyOf klit;rw [hu];simp only;have h1:Tryz.prog.keyType 38=true:=by kernel_rfl
 have h2:(tdV t).formed Tryz.prog 38=true:=by
  unfold Value.formed;rw [hu];exact beq_iff_eq.2 (by kernel_rfl:(3:Nat)=Tryz.prog.cellsOf 38)
 rw [h1,h2];simp only [Bool.and_self,if_true];have:(tdV t).cells.toList=tdL t:=rfl;rw [this,hl];rfl
theorem klit_key{t:Td}(h:TdOk t):WideAt.IsKeyLit (klit t):=key38.key (key_of t h)
theorem klit_inj{a b:Td}(ha:TdOk a)(hb:TdOk b)(e:klit a=klit b):a=b:=by
 have h1:=key_of a ha;have h2:=key_of b hb;rw [e]at h1;have h3:=key38.inj h1 h2;have h4:tdL a=tdL b:=by
  have:=congrArg (fun v=>v.cells.toList) h3;exact this
 simp only [tdL,List.cons.injEq,Value.int.injEq,true_and,and_true]at h4;obtain⟨x,y,z⟩:=a;obtain⟨x',y',z'⟩:=b;simp only at h4;obtain⟨rfl,rfl,rfl⟩:=h4;rfl
def Mt(w:World)(B n:Nat)(f:Td->Option Value):Prop:=∃ D:DataW Value,w.ownsMap Tryz.prog 38 itself B n D/\∀ t,TdOk t->has D (klit t)=(f t).isSome/\∀ v,f t=some v->∀ z,D.atKey (klit t) z=.held v
section
variable {w w' : World} {B n : Nat} {f : Td -> Option Value} {T e : TypeId} {z : Value}
theorem Mt.made(w:World):Mt (w.alloc (.map #[] 0)) w.heap.size 0 (fun _=>none) :=
 ⟨_,World.ownsMap_made w _ _ _,fun t _=>⟨rfl,fun e h=>by cases h⟩⟩
theorem Mt.lt(h:Mt w B n f):B<w.heap.size:=by
 obtain⟨D,h1,_⟩:=h;exact h1.lt
theorem Mt.isMap(h:Mt w B n f):∃ es clock,w.heap[B]?=some (.map es clock):=by
 obtain⟨D,⟨es,clock,h1,_⟩,_⟩:=h;exact⟨es,clock,h1⟩
theorem Mt.like(h:Mt w B n f)(hb:w'.heap[B]?=w.heap[B]?):Mt w' B n f:=by
 obtain⟨D,⟨es,clock,h1,h2⟩,h3⟩:=h;exact⟨D,⟨es,clock,hb.trans h1,h2⟩,h3⟩
theorem Mt.on(h:Mt w B n f)(hb:Below w.heap.size w w'):Mt w' B n f:=h.like (hb.block _ h.lt)
theorem Mt.mono(h:Mt w B n f){m:Nat}(hm:n<=m):Mt w B m f:=by
 obtain⟨D,h1,h2⟩:=h;exact⟨D,h1.mono hm,h2⟩
theorem Mt.look(h:Mt w B n f)(ht:Tryz.prog.underlying T=some (.map 38 e))(hz:(zeroValue e).run Tryz.prog w=.ok z w){t:Td}(hi:TdOk t):(Instr.lookup T (.map (some B)) (tdV t) true).run Tryz.prog w=.ok (.tuple #[(f t).getD z,.bool (f t).isSome]) w:=by
 obtain⟨D,h1,h2⟩:=h;obtain⟨v,ps,hr,hv⟩:=h1.look_ok key38 ht hz (zd:=.held z) (zp:=[]) rfl (key_of t hi);rw [hr,(h2 t hi).1];have hv:DataW.held v=D.atKey (klit t) (.held z):=by
  have:=congrArg (Option.map Prod.fst) hv;simpa [itself]using this
 cases hf:f t with
 | none =>
  have h3:=(h2 t hi).1;rw [hf]at h3;rw [atKey_of_not_has h3]at hv;cases hv;rfl
 | some x =>
  rw [(h2 t hi).2 x hf]at hv;cases hv;rfl
theorem Mt.put(h:Mt w B n f)(ht:Tryz.prog.underlying T=some (.map 38 e))(hn:n<maxLen){t:Td}(hi:TdOk t)(x:Value):∃ w',(Instr.mapUpdate T (.map (some B)) (tdV t) x).run Tryz.prog w=.ok () w'/\Mt w' B (n+1) (fun j=>if j=t then some x else f j)/\w.grownBy w' (some B):=by
 obtain⟨D,h1,h2⟩:=h;obtain⟨w',hr,h3,h4⟩:=h1.update key38 ht hn (val:=x) (d:=.held x) (ps:=[]) (key_of t hi) rfl;refine⟨w',hr,⟨_,h3,fun j hj=>?_⟩,h4⟩;dsimp only;by_cases e:j=t
 ·subst e;rw [if_pos rfl];refine⟨has_put_same h1.isMap (klit_key hj) _,fun v he z=>?_⟩;cases he;exact atKey_put_same h1.isMap (klit_key hj) _ _
 ·have hne:klit j≠klit t:=fun q=>e (klit_inj hj hi q);rw [if_neg e];refine⟨by rw [has_put_other hne];exact(h2 j hj).1,fun v he z=>?_⟩;rw [atKey_put_other hne];exact(h2 j hj).2 v he z
end
end Go.Proofs.YtkhehikaemdnnaaGreat
