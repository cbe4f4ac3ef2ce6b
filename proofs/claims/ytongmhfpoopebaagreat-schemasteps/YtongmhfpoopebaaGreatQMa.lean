import Derived.Test.YtongmhfpoopebaaGreatQTo
import Derived.Test.YtongmhfpoopebaaGreatQTd
import Derived.Test.YtongmhfpoopebaaGreatQNb
import Derived.Test.YtongmhfpoopebaaGreatQHc
namespace Go.Proofs.YtongmhfpoopebaaGreat
open Go.RowKit
theorem fm_sum {α:Type} (f:α→List UInt8) (g:α→Nat) (k:Nat) (h:∀ x,(f x).length≤k * g x):∀ L:List α,(L.flatMap f).length≤k * (L.map g).sum
 | []=>by simp
 | x :: L=>by
  have h1:=fm_sum f g k h L
  have h2:=h x
  rw [List.flatMap_cons,List.length_append,List.map_cons,List.sum_cons,Nat.mul_add]
  omega
theorem valL_len (v:Vl):(valL v).length≤30+vlB v:=by
 have h1:=num_len v.k
 have h2:=num_len v.n
 have h3:=textL_len v.s
 unfold valL vlB
 simp only [List.length_append]
 omega
theorem col1L_len (c:Col):(col1L c).length≤80 * colB c:=by
 have h1:=num_len c.id
 have h2:=textL_len c.nm
 have h3:(numsL [c.kd,c.st]).length≤20:=numsL_len [c.kd,c.st]
 have h4:=valL_len c.df
 unfold col1L colB
 simp only [List.length_append]
 omega
theorem ix1L_len (c:Ix):(ix1L c).length≤80 * ixB c:=by
 have h1:=num_len c.id
 have h2:=textL_len c.nm
 have h3:=num_len c.col
 have h4:=flagL_len c.uq
 have h5:=num_len c.st
 unfold ix1L ixB
 simp only [List.length_append]
 omega
theorem fk1L_len (c:Fk):(fk1L c).length≤80 * fkBk c:=by
 have h1:=num_len c.id
 have h2:=textL_len c.nm
 have h3:(numsL [c.col,c.par,c.st]).length≤30:=numsL_len [c.col,c.par,c.st]
 unfold fk1L fkBk
 simp only [List.length_append]
 omega
theorem colsL_len (L:List Col):(colsL L).length≤10+80 * (L.map colB).sum:=by
 have h1:=num_len (L.length:Int)
 have h2:=fm_sum col1L colB 80 col1L_len L
 unfold colsL
 rw [List.length_append]
 omega
theorem tab1L_len (t:Tb):(tab1L t).length≤80 * tbB t:=by
 have h1:=num_len t.id
 have h2:=textL_len t.nm
 have h3:=colsL_len t.cols
 have h4:=num_len (t.ixs.length:Int)
 have h5:=fm_sum ix1L ixB 80 ix1L_len t.ixs
 have h6:=num_len (t.fks.length:Int)
 have h7:=fm_sum fk1L fkBk 80 fk1L_len t.fks
 unfold tab1L tabIL tbB
 simp only [List.length_append]
 omega
theorem schL_len (s:Sc):(schL s).length≤30+80 * scB s:=by
 have h1:(numsL [s.ver,s.last]).length≤20:=numsL_len [s.ver,s.last]
 have h2:=num_len (s.tabs.length:Int)
 have h3:=fm_sum tab1L tbB 80 tab1L_len s.tabs
 unfold schL scB
 simp only [List.length_append]
 omega
theorem cntT_B (t:Tb):cntT t≤tbB t:=by
 have h1:=sum_ge (f:=colB) (fun x=>by unfold colB;omega) t.cols
 have h2:=sum_ge (f:=ixB) (fun x=>by unfold ixB;omega) t.ixs
 have h3:=sum_ge (f:=fkBk) (fun x=>by unfold fkBk;omega) t.fks
 unfold cntT tbB
 omega
theorem tabs_B (s:Sc):s.tabs.length≤scB s:=by
 have h1:=sum_ge (f:=tbB) (fun x=>by unfold tbB;omega) s.tabs
 unfold scB
 omega
theorem tab_B {s:Sc} {t:Tb} (h:t ∈ s.tabs):tbB t≤scB s:=by
 have:=sum_mem (f:=tbB) h
 unfold scB
 omega
end Go.Proofs.YtongmhfpoopebaaGreat
namespace Go.Proofs.YtongmhfpoopebaaGreat
theorem right_ids {s:Sc} (h:rightS s=true):∀ t ∈ s.tabs,∀ i ∈ idsT t,I64 i:=fun t ht i hi=>by
 obtain ⟨_,h2,_,_,h5,_⟩:=right_iff.1 h
 have h6:=h5 i (List.mem_flatMap.2 ⟨t,ht,hi⟩)
 have h7:=far_in h2
 unfold I64
 omega
theorem wkI_any {s:Sc} {d:Dd} {m:Mv} {r:List Mv} (hb:m.1=1 ∨ m.1=2) (hr:rightS s=true) (h:∀ s',turnS s d m.2=.ok s'→wkI s' d r):wkI s d (m :: r):=by
 unfold wkI
 rw [if_pos hb]
 exact ⟨right_ids hr,h⟩
theorem wkI_skip {s:Sc} {d:Dd} {m:Mv} {r:List Mv} (hb:¬ (m.1=1 ∨ m.1=2)) (h:wkI s d r):wkI s d (m :: r):=by
 unfold wkI
 rw [if_neg hb]
 exact h
theorem wkI_to {s s2:Sc} {d:Dd} {m:Mv} {r:List Mv} (hb:m.1=1 ∨ m.1=2) (hr:rightS s=true) (e:turnS s d m.2=.ok s2) (h:wkI s2 d r):wkI s d (m :: r):=wkI_any hb hr fun s' q=>by
 rw [e] at q
 cases q
 exact h
theorem name_size {s:ByteArray} (h:nameB s=true):s.size≤16:=by
 by_cases q:s.size≤16
 ·exact q
 ·rw [nameB_no (.inr (by omega))] at h
  cases h
theorem fit_size {v:Vl} {k:Int} (h:fitB v k=true):v.s.size≤64:=by
 unfold fitB rightB at h
 rw [empty_iff] at h
 simp only [Bool.and_eq_true] at h
 have h:=h.1
 split at h
 ·simp only [Bool.and_eq_true,decide_eq_true_eq] at h;omega
 ·split at h
  ·simp only [decide_eq_true_eq] at h;omega
  ·simp only [Bool.and_eq_true,decide_eq_true_eq] at h;omega
theorem sum_few {α:Type} {f:α→Nat} {n k:Nat}:∀ {l:List α},(∀ x ∈ l,f x≤k)→l.length≤n→(l.map f).sum≤n * k
 | [],_,_=>Nat.zero_le _
 | x :: l,h,hl=>by
  cases n with
  | zero=>simp at hl
  | succ n =>
   have h1:=sum_few (n:=n) (fun y hy=>h y (List.mem_cons_of_mem _ hy)) (by simpa using hl)
   have h2:=h x List.mem_cons_self
   rw [List.map_cons,List.sum_cons,Nat.succ_mul]
   omega
theorem right_B {s:Sc} (h:rightS s=true):scB s≤10000:=by
 obtain ⟨_,_,h3,h4,_⟩:=right_iff.1 h
 have ht:∀ t ∈ s.tabs,tbB t≤1000:=fun t ht=>by
  obtain ⟨⟨_,c1,c2,c3⟩,hn,hc,_,p1,p2,p3⟩:=tab_iff.1 (h4 t ht)
  have q1:=(parts_iff.1 p1).1
  have q2:=(parts_iff.1 p2).1
  have q3:=(parts_iff.1 p3).1
  have s1:=sum_few (f:=colB) (k:=83) (fun x hx=>by
   have:=name_size (q1 x hx).1
   have:=fit_size (hc x hx).2
   unfold colB vlB
   omega) c1
  have s2:=sum_few (f:=ixB) (k:=17) (fun x hx=>by
   have:=name_size (q2 x hx).1
   unfold ixB
   omega) c2
  have s3:=sum_few (f:=fkBk) (k:=17) (fun x hx=>by
   have:=name_size (q3 x hx).1
   unfold fkBk
   omega) c3
  have:=name_size hn
  unfold tbB
  omega
 have:=sum_few (f:=tbB) ht h3
 unfold scB
 omega
end Go.Proofs.YtongmhfpoopebaaGreat
namespace Go.Proofs.YtongmhfpoopebaaGreat
structure Nx (s:Sc) (d:Dd) (a b:Sc):Prop where
 st:2≤d.kind→d.kind≤5→stateP b d - stateP a d≤1∧stateP a d - stateP b d≤1
 sa:0≤stateP a d∧stateP a d≤3
 sb:0≤stateP b d∧stateP b d≤3
 r:rightS b=true
 v:a.ver≤b.ver∧b.ver≤a.ver+1
 va:0≤a.ver∧a.ver≤562949953421322
 wo:withoutP b d=withoutP s d
def NxAll (s:Sc) (d:Dd):Sc→List Sc→Prop
 | _,[]=>True
 | a,b :: l=>Nx s d a b∧NxAll s d b l
theorem nx_at {s:Sc} {d:Dd}:∀ {a:Sc} {l:List Sc},NxAll s d a l→∀ i (h:i < l.length),Nx s d ((a :: l)[i]'(by simp only [List.length_cons];omega)) l[i]
 | a,b :: l,⟨h,_⟩,0,_=>h
 | a,b :: l,⟨_,h⟩,i+1,hi=>nx_at h i (by simpa using hi)
structure Steps (s:Sc) (d:Dd):Prop where
 ids:wkI s d (onP d.kind)
 all:wk s d (onP d.kind)=([],false) ∨ ∃ l z,wk s d (onP d.kind)=(l,true)∧l.length=(onP d.kind).length∧NxAll s d s l∧(s :: l).getLast?=some z∧(1≤d.kind→d.kind≤7→stateP z d=if addK d.kind then 3 else 0)
theorem steps_plain {s:Sc} {d:Dd} (hr:rightS s=true) (hs:(addK d.kind=true∧stateP s d=0) ∨ (addK d.kind=false∧stateP s d=3)) (hv:s.ver≤562949953421312) (hl:s.last≤562949953421312):Steps s d:=by
 have hb1:∀ x:Int,((1:Int),x).1=1 ∨ ((1:Int),x).1=2:=fun _=>.inl rfl
 have hb2:∀ x:Int,((2:Int),x).1=1 ∨ ((2:Int),x).1=2:=fun _=>.inr rfl
 have hb3:∀ x:Int,¬ (((3:Int),x).1=1 ∨ ((3:Int),x).1=2):=fun _=>by simp
 have hb4:∀ x:Int,¬ (((4:Int),x).1=1 ∨ ((4:Int),x).1=2):=fun _=>by simp
 have hb5:∀ x:Int,¬ (((5:Int),x).1=1 ∨ ((5:Int),x).1=2):=fun _=>by simp
 have hv0:0≤s.ver:=(far_in (right_iff.1 hr).1).1
 by_cases hk:1≤d.kind∧d.kind≤7
 ·have hfirst:∀ st s1,turnS s d st=.ok s1→∃ F,Along s d F∧s1=F (s.ver+1) st:=fun st s1 h=>first_any hk hs h
  have first:∀ st s1,¬ (d.kind=4∧st=0)→turnS s d st=.ok s1→rightS s1=true:=fun st s1 h1 e=>turn_right e (by omega) (by omega) h1
  have step:∀ (F:Int→Int→Sc),Along s d F→∀ v st st',d.kind ≠ 1→v≤s.ver+5→rightS (F v st)=true→st ≠ 0→(addK d.kind=true→st ≠ 3)→0≤st'→st'≤3→¬ (d.kind=4∧st'=0)→turnS (F v st) d st'=.ok (F (v+1) st')∧rightS (F (v+1) st')=true:=fun F hF v st st' hk1 hv' hrF h1 h2 h3 h4 h5=>by
   have e:=hF.go hk1 v st st' h1 h2 hrF h3 h4
   have e1:=hF.ver v st
   have e2:=hF.last v st
   exact ⟨e,turn_right e (by omega) (by omega) h5⟩
  have nx:∀ (a b:Sc) (x y va vb:Int),stateP a d=x→stateP b d=y→0≤x→x≤3→0≤y→y≤3→(2≤d.kind→d.kind≤5→y - x≤1∧x - y≤1)→rightS b=true→a.ver=va→b.ver=vb→va≤vb→vb≤va+1→0≤va→va≤562949953421322→withoutP b d=withoutP s d→Nx s d a b:=fun a b x y va vb e1 e2 h1 h2 h3 h4 h5 h6 e3 e4 h7 h8 h9 h10 h11=>by
   subst e1 e2 e3 e4
   exact ⟨h5,⟨h1,h2⟩,⟨h3,h4⟩,h6,⟨h7,h8⟩,⟨h9,h10⟩,h11⟩
  have hc:d.kind=1 ∨ d.kind=2 ∨ d.kind=3 ∨ d.kind=4 ∨ d.kind=5 ∨ d.kind=6 ∨ d.kind=7:=by omega
  rcases hc with q | q | q | q | q | q | q
  ·have ep:onP d.kind=[(1,3)]:=by rw [q];rfl
   have ea:addK d.kind=true:=by rw [q];rfl
   have h0:stateP s d=0:=by
    rcases hs with ⟨_,h⟩ | ⟨h,_⟩
    ·exact h
    ·rw [ea] at h;cases h
   refine ⟨?_,?_⟩
   ·rw [ep]
    exact wkI_any (hb1 _) hr fun s' _=>trivial
   ·rw [ep,ea]
    cases e:turnS s d 3 with
    | error er=>exact .inl (wk_err (hb1 _) e)
    | ok s1 =>
     obtain ⟨F,hF,rfl⟩:=hfirst 3 s1 e
     have r1:=first 3 _ (by omega) e
     have z1:=hF.st (s.ver+1) 3 (.inr rfl)
     refine .inr ⟨[F (s.ver+1) 3],F (s.ver+1) 3,?_,rfl,⟨nx _ _ 0 3 _ _ h0 z1 (by omega) (by omega) (by omega) (by omega) (by omega) r1 rfl (hF.ver _ _) (by omega) (by omega) (by omega) (by omega) (hF.wo _ _),trivial⟩,rfl,fun _ _=>z1⟩
     rw [wk_ok (hb1 _) e]
     rfl
  ·have ep:onP d.kind=[(1,1),(1,2),(3,0),(4,0),(1,3)]:=by rw [q];rfl
   have ea:addK d.kind=true:=by rw [q];rfl
   have h0:stateP s d=0:=by
    rcases hs with ⟨_,h⟩ | ⟨h,_⟩
    ·exact h
    ·rw [ea] at h;cases h
   cases e:turnS s d 1 with
   | error er =>
    refine ⟨?_,?_⟩
    ·rw [ep]
     exact wkI_any (hb1 _) hr fun s' q=>by rw [e] at q;cases q
    ·rw [ep]
     exact .inl (wk_err (hb1 _) e)
   | ok s1 =>
    obtain ⟨F,hF,rfl⟩:=hfirst 1 s1 e
    have r1:=first 1 _ (by omega) e
    obtain ⟨e2,r2⟩:=step F hF (s.ver+1) 1 2 (by omega) (by omega) r1 (by omega) (by omega) (by omega) (by omega) (by omega)
    obtain ⟨e3,r3⟩:=step F hF (s.ver+1+1) 2 3 (by omega) (by omega) r2 (by omega) (by omega) (by omega) (by omega) (by omega)
    have z:=fun v st=>hF.st v st (.inl (by omega))
    refine ⟨?_,?_⟩
    ·rw [ep]
     exact wkI_to (hb1 _) hr e (wkI_to (hb1 _) r1 e2 (wkI_skip (hb3 _) (wkI_skip (hb4 _) (wkI_to (hb1 _) r2 e3 trivial))))
    ·rw [ep,ea]
     refine .inr ⟨[F (s.ver+1) 1,F (s.ver+1+1) 2,F (s.ver+1+1) 2,F (s.ver+1+1) 2,F (s.ver+1+1+1) 3],F (s.ver+1+1+1) 3,?_,rfl,⟨?_,?_,?_,?_,?_,trivial⟩,rfl,fun _ _=>z _ _⟩
     ·rw [wk_ok (hb1 _) e,wk_ok (hb1 _) e2,wk_skip (hb3 _),wk_skip (hb4 _),wk_ok (hb1 _) e3]
      rfl
     ·exact nx _ _ 0 1 _ _ h0 (z _ _) (by omega) (by omega) (by omega) (by omega) (by omega) r1 rfl (hF.ver _ _) (by omega) (by omega) (by omega) (by omega) (hF.wo _ _)
     ·exact nx _ _ 1 2 _ _ (z _ _) (z _ _) (by omega) (by omega) (by omega) (by omega) (by omega) r2 (hF.ver _ _) (hF.ver _ _) (by omega) (by omega) (by omega) (by omega) (hF.wo _ _)
     ·exact nx _ _ 2 2 _ _ (z _ _) (z _ _) (by omega) (by omega) (by omega) (by omega) (by omega) r2 (hF.ver _ _) (hF.ver _ _) (by omega) (by omega) (by omega) (by omega) (hF.wo _ _)
     ·exact nx _ _ 2 2 _ _ (z _ _) (z _ _) (by omega) (by omega) (by omega) (by omega) (by omega) r2 (hF.ver _ _) (hF.ver _ _) (by omega) (by omega) (by omega) (by omega) (hF.wo _ _)
     ·exact nx _ _ 2 3 _ _ (z _ _) (z _ _) (by omega) (by omega) (by omega) (by omega) (by omega) r3 (hF.ver _ _) (hF.ver _ _) (by omega) (by omega) (by omega) (by omega) (hF.wo _ _)
  ·have ep:onP d.kind=[(1,2),(1,1),(3,0),(5,0),(1,0)]:=by rw [q];rfl
   have ea:addK d.kind=false:=by rw [q];rfl
   have h0:stateP s d=3:=by
    rcases hs with ⟨h,_⟩ | ⟨_,h⟩
    ·rw [ea] at h;cases h
    ·exact h
   cases e:turnS s d 2 with
   | error er =>
    refine ⟨?_,?_⟩
    ·rw [ep]
     exact wkI_any (hb1 _) hr fun s' q=>by rw [e] at q;cases q
    ·rw [ep]
     exact .inl (wk_err (hb1 _) e)
   | ok s1 =>
    obtain ⟨F,hF,rfl⟩:=hfirst 2 s1 e
    have r1:=first 2 _ (by omega) e
    obtain ⟨e2,r2⟩:=step F hF (s.ver+1) 2 1 (by omega) (by omega) r1 (by omega) (by omega) (by omega) (by omega) (by omega)
    obtain ⟨e3,r3⟩:=step F hF (s.ver+1+1) 1 0 (by omega) (by omega) r2 (by omega) (by omega) (by omega) (by omega) (by omega)
    have z:=fun v st=>hF.st v st (.inl (by omega))
    refine ⟨?_,?_⟩
    ·rw [ep]
     exact wkI_to (hb1 _) hr e (wkI_to (hb1 _) r1 e2 (wkI_skip (hb3 _) (wkI_skip (hb5 _) (wkI_to (hb1 _) r2 e3 trivial))))
    ·rw [ep,ea]
     refine .inr ⟨[F (s.ver+1) 2,F (s.ver+1+1) 1,F (s.ver+1+1) 1,F (s.ver+1+1) 1,F (s.ver+1+1+1) 0],F (s.ver+1+1+1) 0,?_,rfl,⟨?_,?_,?_,?_,?_,trivial⟩,rfl,fun _ _=>z _ _⟩
     ·rw [wk_ok (hb1 _) e,wk_ok (hb1 _) e2,wk_skip (hb3 _),wk_skip (hb5 _),wk_ok (hb1 _) e3]
      rfl
     ·exact nx _ _ 3 2 _ _ h0 (z _ _) (by omega) (by omega) (by omega) (by omega) (by omega) r1 rfl (hF.ver _ _) (by omega) (by omega) (by omega) (by omega) (hF.wo _ _)
     ·exact nx _ _ 2 1 _ _ (z _ _) (z _ _) (by omega) (by omega) (by omega) (by omega) (by omega) r2 (hF.ver _ _) (hF.ver _ _) (by omega) (by omega) (by omega) (by omega) (hF.wo _ _)
     ·exact nx _ _ 1 1 _ _ (z _ _) (z _ _) (by omega) (by omega) (by omega) (by omega) (by omega) r2 (hF.ver _ _) (hF.ver _ _) (by omega) (by omega) (by omega) (by omega) (hF.wo _ _)
     ·exact nx _ _ 1 1 _ _ (z _ _) (z _ _) (by omega) (by omega) (by omega) (by omega) (by omega) r2 (hF.ver _ _) (hF.ver _ _) (by omega) (by omega) (by omega) (by omega) (hF.wo _ _)
     ·exact nx _ _ 1 0 _ _ (z _ _) (z _ _) (by omega) (by omega) (by omega) (by omega) (by omega) r3 (hF.ver _ _) (hF.ver _ _) (by omega) (by omega) (by omega) (by omega) (hF.wo _ _)
  ·have ep:onP d.kind=[(1,1),(1,2),(3,0),(4,0),(2,3)]:=by rw [q];rfl
   have ea:addK d.kind=true:=by rw [q];rfl
   have h0:stateP s d=0:=by
    rcases hs with ⟨_,h⟩ | ⟨h,_⟩
    ·exact h
    ·rw [ea] at h;cases h
   cases e:turnS s d 1 with
   | error er =>
    refine ⟨?_,?_⟩
    ·rw [ep]
     exact wkI_any (hb1 _) hr fun s' q=>by rw [e] at q;cases q
    ·rw [ep]
     exact .inl (wk_err (hb1 _) e)
   | ok s1 =>
    obtain ⟨F,hF,rfl⟩:=hfirst 1 s1 e
    have r1:=first 1 _ (by omega) e
    obtain ⟨e2,r2⟩:=step F hF (s.ver+1) 1 2 (by omega) (by omega) r1 (by omega) (by omega) (by omega) (by omega) (by omega)
    obtain ⟨e3,r3⟩:=step F hF (s.ver+1+1) 2 3 (by omega) (by omega) r2 (by omega) (by omega) (by omega) (by omega) (by omega)
    have z:=fun v st=>hF.st v st (.inl (by omega))
    refine ⟨?_,?_⟩
    ·rw [ep]
     exact wkI_to (hb1 _) hr e (wkI_to (hb1 _) r1 e2 (wkI_skip (hb3 _) (wkI_skip (hb4 _) (wkI_to (hb2 _) r2 e3 trivial))))
    ·rw [ep,ea]
     refine .inr ⟨[F (s.ver+1) 1,F (s.ver+1+1) 2,F (s.ver+1+1) 2,F (s.ver+1+1) 2,F (s.ver+1+1+1) 3],F (s.ver+1+1+1) 3,?_,rfl,⟨?_,?_,?_,?_,?_,trivial⟩,rfl,fun _ _=>z _ _⟩
     ·rw [wk_ok (hb1 _) e,wk_ok (hb1 _) e2,wk_skip (hb3 _),wk_skip (hb4 _),wk_ok (hb2 _) e3]
      rfl
     ·exact nx _ _ 0 1 _ _ h0 (z _ _) (by omega) (by omega) (by omega) (by omega) (by omega) r1 rfl (hF.ver _ _) (by omega) (by omega) (by omega) (by omega) (hF.wo _ _)
     ·exact nx _ _ 1 2 _ _ (z _ _) (z _ _) (by omega) (by omega) (by omega) (by omega) (by omega) r2 (hF.ver _ _) (hF.ver _ _) (by omega) (by omega) (by omega) (by omega) (hF.wo _ _)
     ·exact nx _ _ 2 2 _ _ (z _ _) (z _ _) (by omega) (by omega) (by omega) (by omega) (by omega) r2 (hF.ver _ _) (hF.ver _ _) (by omega) (by omega) (by omega) (by omega) (hF.wo _ _)
     ·exact nx _ _ 2 2 _ _ (z _ _) (z _ _) (by omega) (by omega) (by omega) (by omega) (by omega) r2 (hF.ver _ _) (hF.ver _ _) (by omega) (by omega) (by omega) (by omega) (hF.wo _ _)
     ·exact nx _ _ 2 3 _ _ (z _ _) (z _ _) (by omega) (by omega) (by omega) (by omega) (by omega) r3 (hF.ver _ _) (hF.ver _ _) (by omega) (by omega) (by omega) (by omega) (hF.wo _ _)
  ·have ep:onP d.kind=[(2,2),(1,1),(1,0)]:=by rw [q];rfl
   have ea:addK d.kind=false:=by rw [q];rfl
   have h0:stateP s d=3:=by
    rcases hs with ⟨h,_⟩ | ⟨_,h⟩
    ·rw [ea] at h;cases h
    ·exact h
   cases e:turnS s d 2 with
   | error er =>
    refine ⟨?_,?_⟩
    ·rw [ep]
     exact wkI_any (hb2 _) hr fun s' q=>by rw [e] at q;cases q
    ·rw [ep]
     exact .inl (wk_err (hb2 _) e)
   | ok s1 =>
    obtain ⟨F,hF,rfl⟩:=hfirst 2 s1 e
    have r1:=first 2 _ (by omega) e
    obtain ⟨e2,r2⟩:=step F hF (s.ver+1) 2 1 (by omega) (by omega) r1 (by omega) (by omega) (by omega) (by omega) (by omega)
    obtain ⟨e3,r3⟩:=step F hF (s.ver+1+1) 1 0 (by omega) (by omega) r2 (by omega) (by omega) (by omega) (by omega) (by omega)
    have z:=fun v st=>hF.st v st (.inl (by omega))
    refine ⟨?_,?_⟩
    ·rw [ep]
     exact wkI_to (hb2 _) hr e (wkI_to (hb1 _) r1 e2 (wkI_to (hb1 _) r2 e3 trivial))
    ·rw [ep,ea]
     refine .inr ⟨[F (s.ver+1) 2,F (s.ver+1+1) 1,F (s.ver+1+1+1) 0],F (s.ver+1+1+1) 0,?_,rfl,⟨?_,?_,?_,trivial⟩,rfl,fun _ _=>z _ _⟩
     ·rw [wk_ok (hb2 _) e,wk_ok (hb1 _) e2,wk_ok (hb1 _) e3]
      rfl
     ·exact nx _ _ 3 2 _ _ h0 (z _ _) (by omega) (by omega) (by omega) (by omega) (by omega) r1 rfl (hF.ver _ _) (by omega) (by omega) (by omega) (by omega) (hF.wo _ _)
     ·exact nx _ _ 2 1 _ _ (z _ _) (z _ _) (by omega) (by omega) (by omega) (by omega) (by omega) r2 (hF.ver _ _) (hF.ver _ _) (by omega) (by omega) (by omega) (by omega) (hF.wo _ _)
     ·exact nx _ _ 1 0 _ _ (z _ _) (z _ _) (by omega) (by omega) (by omega) (by omega) (by omega) r3 (hF.ver _ _) (hF.ver _ _) (by omega) (by omega) (by omega) (by omega) (hF.wo _ _)
  ·have ep:onP d.kind=[(1,2),(3,0),(4,0),(1,3)]:=by rw [q];rfl
   have ea:addK d.kind=true:=by rw [q];rfl
   have h0:stateP s d=0:=by
    rcases hs with ⟨_,h⟩ | ⟨h,_⟩
    ·exact h
    ·rw [ea] at h;cases h
   cases e:turnS s d 2 with
   | error er =>
    refine ⟨?_,?_⟩
    ·rw [ep]
     exact wkI_any (hb1 _) hr fun s' q=>by rw [e] at q;cases q
    ·rw [ep]
     exact .inl (wk_err (hb1 _) e)
   | ok s1 =>
    obtain ⟨F,hF,rfl⟩:=hfirst 2 s1 e
    have r1:=first 2 _ (by omega) e
    obtain ⟨e2,r2⟩:=step F hF (s.ver+1) 2 3 (by omega) (by omega) r1 (by omega) (by omega) (by omega) (by omega) (by omega)
    have z:=fun v st=>hF.st v st (.inl (by omega))
    refine ⟨?_,?_⟩
    ·rw [ep]
     exact wkI_to (hb1 _) hr e (wkI_skip (hb3 _) (wkI_skip (hb4 _) (wkI_to (hb1 _) r1 e2 trivial)))
    ·rw [ep,ea]
     refine .inr ⟨[F (s.ver+1) 2,F (s.ver+1) 2,F (s.ver+1) 2,F (s.ver+1+1) 3],F (s.ver+1+1) 3,?_,rfl,⟨?_,?_,?_,?_,trivial⟩,rfl,fun _ _=>z _ _⟩
     ·rw [wk_ok (hb1 _) e,wk_skip (hb3 _),wk_skip (hb4 _),wk_ok (hb1 _) e2]
      rfl
     ·exact nx _ _ 0 2 _ _ h0 (z _ _) (by omega) (by omega) (by omega) (by omega) (by omega) r1 rfl (hF.ver _ _) (by omega) (by omega) (by omega) (by omega) (hF.wo _ _)
     ·exact nx _ _ 2 2 _ _ (z _ _) (z _ _) (by omega) (by omega) (by omega) (by omega) (by omega) r1 (hF.ver _ _) (hF.ver _ _) (by omega) (by omega) (by omega) (by omega) (hF.wo _ _)
     ·exact nx _ _ 2 2 _ _ (z _ _) (z _ _) (by omega) (by omega) (by omega) (by omega) (by omega) r1 (hF.ver _ _) (hF.ver _ _) (by omega) (by omega) (by omega) (by omega) (hF.wo _ _)
     ·exact nx _ _ 2 3 _ _ (z _ _) (z _ _) (by omega) (by omega) (by omega) (by omega) (by omega) r2 (hF.ver _ _) (hF.ver _ _) (by omega) (by omega) (by omega) (by omega) (hF.wo _ _)
  ·have ep:onP d.kind=[(1,0)]:=by rw [q];rfl
   have ea:addK d.kind=false:=by rw [q];rfl
   have h0:stateP s d=3:=by
    rcases hs with ⟨h,_⟩ | ⟨_,h⟩
    ·rw [ea] at h;cases h
    ·exact h
   refine ⟨?_,?_⟩
   ·rw [ep]
    exact wkI_any (hb1 _) hr fun s' _=>trivial
   ·rw [ep,ea]
    cases e:turnS s d 0 with
    | error er=>exact .inl (wk_err (hb1 _) e)
    | ok s1 =>
     obtain ⟨F,hF,rfl⟩:=hfirst 0 s1 e
     have r1:=first 0 _ (by omega) e
     have z1:=hF.st (s.ver+1) 0 (.inl (by omega))
     refine .inr ⟨[F (s.ver+1) 0],F (s.ver+1) 0,?_,rfl,⟨nx _ _ 3 0 _ _ h0 z1 (by omega) (by omega) (by omega) (by omega) (by omega) r1 rfl (hF.ver _ _) (by omega) (by omega) (by omega) (by omega) (hF.wo _ _),trivial⟩,rfl,fun _ _=>z1⟩
     rw [wk_ok (hb1 _) e]
     rfl
 ·have ep:onP d.kind=[]:=by
   unfold onP
   repeat' split
   all_goals first | omega | rfl
  refine ⟨?_,?_⟩
  ·rw [ep]
   trivial
  ·rw [ep]
   exact .inr ⟨[],s,rfl,rfl,trivial,rfl,fun h1 h2=>absurd ⟨h1,h2⟩ hk⟩
end Go.Proofs.YtongmhfpoopebaaGreat
