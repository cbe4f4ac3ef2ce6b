import Derived.Test.YtongmhfpoopebaaGreatPTo
import Derived.Test.YtongmhfpoopebaaGreatPTd
import Derived.Test.YtongmhfpoopebaaGreatPNb
import Derived.Test.YtongmhfpoopebaaGreatPHc
namespace Go.Proofs.YtongmhfpoopebaaGreat
open Go.RowKit
theorem fm_sum {α:Type} (f:α→List UInt8) (g:α→Nat) (k:Nat) (h:∀ x,(f x).length≤k*g x):∀ L:List α,(L.flatMap f).length≤k*(L.map g).sum
 | []=>by simp
 | x :: L=>by
  have h1:=fm_sum f g k h L
  have h2:=h x
  rw [List.flatMap_cons,List.length_append,List.map_cons,List.sum_cons,Nat.mul_add]
  omega
theorem valL_len (v:Vl):(valL v).length≤30+vlB v:=by
 have h1:=num_len v.k
 have h2:=num_len v.n
 have h3:=textL_len v.s
 unfold valL vlB
 simp only [List.length_append]
 omega
theorem col1L_len (c:Col):(col1L c).length≤80*colB c:=by
 have h1:=num_len c.id
 have h2:=textL_len c.nm
 have h3:(numsL [c.kd,c.st]).length≤20:=numsL_len [c.kd,c.st]
 have h4:=valL_len c.df
 unfold col1L colB
 simp only [List.length_append]
 omega
theorem ix1L_len (c:Ix):(ix1L c).length≤80*ixB c:=by
 have h1:=num_len c.id
 have h2:=textL_len c.nm
 have h3:=num_len c.col
 have h4:=flagL_len c.uq
 have h5:=num_len c.st
 unfold ix1L ixB
 simp only [List.length_append]
 omega
theorem fk1L_len (c:Fk):(fk1L c).length≤80*fkBk c:=by
 have h1:=num_len c.id
 have h2:=textL_len c.nm
 have h3:(numsL [c.col,c.par,c.st]).length≤30:=numsL_len [c.col,c.par,c.st]
 unfold fk1L fkBk
 simp only [List.length_append]
 omega
theorem colsL_len (L:List Col):(colsL L).length≤10+80*(L.map colB).sum:=by
 have h1:=num_len (L.length:Int)
 have h2:=fm_sum col1L colB 80 col1L_len L
 unfold colsL
 rw [List.length_append]
 omega
theorem tab1L_len (t:Tb):(tab1L t).length≤80*tbB t:=by
 have h1:=num_len t.id
 have h2:=textL_len t.nm
 have h3:=colsL_len t.cols
 have h4:=num_len (t.ixs.length:Int)
 have h5:=fm_sum ix1L ixB 80 ix1L_len t.ixs
 have h6:=num_len (t.fks.length:Int)
 have h7:=fm_sum fk1L fkBk 80 fk1L_len t.fks
 unfold tab1L tabIL tbB
 simp only [List.length_append]
 omega
theorem schL_len (s:Sc):(schL s).length≤30+80*scB s:=by
 have h1:(numsL [s.ver,s.last]).length≤20:=numsL_len [s.ver,s.last]
 have h2:=num_len (s.tabs.length:Int)
 have h3:=fm_sum tab1L tbB 80 tab1L_len s.tabs
 unfold schL scB
 simp only [List.length_append]
 omega
theorem cntT_B (t:Tb):cntT t≤tbB t:=by
 have h1:=sum_ge (f:=colB) (fun x=>by unfold colB;omega) t.cols
 have h2:=sum_ge (f:=ixB) (fun x=>by unfold ixB;omega) t.ixs
 have h3:=sum_ge (f:=fkBk) (fun x=>by unfold fkBk;omega) t.fks
 unfold cntT tbB
 omega
theorem tabs_B (s:Sc):s.tabs.length≤scB s:=by
 have h1:=sum_ge (f:=tbB) (fun x=>by unfold tbB;omega) s.tabs
 unfold scB
 omega
theorem tab_B {s:Sc} {t:Tb} (h:t ∈ s.tabs):tbB t≤scB s:=by
 have:=sum_mem (f:=tbB) h
 unfold scB
 omega
theorem few_of {s:Sc} {m:Nat} (h:s.tabs.length+m+cntN s.tabs≤300):s.tabs.length≤300∧∀ t ∈ s.tabs,cntT t≤300:=by
 refine ⟨by omega,fun t ht=>?_⟩
 have:cntT t≤cntN s.tabs:=sum_mem (f:=cntT) ht
 omega
end Go.Proofs.YtongmhfpoopebaaGreat
namespace Go.Proofs.YtongmhfpoopebaaGreat
theorem name_size {s:ByteArray} (h:nameB s=true):s.size≤16:=by
 by_cases q:s.size≤16
 ·exact q
 ·rw [nameB_no (.inr (by omega))] at h
  cases h
theorem fit_size {v:Vl} {k:Int} (h:fitB v k=true):v.s.size≤64:=by
 unfold fitB rightB at h
 rw [empty_iff] at h
 simp only [Bool.and_eq_true] at h
 have h:=h.1
 split at h
 ·simp only [Bool.and_eq_true,decide_eq_true_eq] at h;omega
 ·split at h
  ·simp only [decide_eq_true_eq] at h;omega
  ·simp only [Bool.and_eq_true,decide_eq_true_eq] at h;omega
theorem sum_few {α:Type} {f:α→Nat} {n k:Nat}:∀ {l:List α},(∀ x ∈ l,f x≤k)→l.length≤n→(l.map f).sum≤n*k
 | [],_,_=>Nat.zero_le _
 | x :: l,h,hl=>by
  cases n with
  | zero=>simp at hl
  | succ n =>
   have h1:=sum_few (n:=n) (fun y hy=>h y (List.mem_cons_of_mem _ hy)) (by simpa using hl)
   have h2:=h x List.mem_cons_self
   rw [List.map_cons,List.sum_cons,Nat.succ_mul]
   omega
theorem right_B {s:Sc} (h:rightS s=true):scB s≤10000:=by
 obtain ⟨_,_,h3,h4,_⟩:=right_iff.1 h
 have ht:∀ t ∈ s.tabs,tbB t≤1000:=fun t ht=>by
  obtain ⟨⟨_,c1,c2,c3⟩,hn,hc,_,p1,p2,p3⟩:=tab_iff.1 (h4 t ht)
  have q1:=(parts_iff.1 p1).1
  have q2:=(parts_iff.1 p2).1
  have q3:=(parts_iff.1 p3).1
  have s1:=sum_few (f:=colB) (k:=83) (fun x hx=>by
   have:=name_size (q1 x hx).1
   have:=fit_size (hc x hx).2
   unfold colB vlB
   omega) c1
  have s2:=sum_few (f:=ixB) (k:=17) (fun x hx=>by
   have:=name_size (q2 x hx).1
   unfold ixB
   omega) c2
  have s3:=sum_few (f:=fkBk) (k:=17) (fun x hx=>by
   have:=name_size (q3 x hx).1
   unfold fkBk
   omega) c3
  have:=name_size hn
  unfold tbB
  omega
 have:=sum_few (f:=tbB) ht h3
 unfold scB
 omega
end Go.Proofs.YtongmhfpoopebaaGreat
