import Derived.Test.YtongmhfpoopebaaGreatPRg
import Derived.Test.YtongmhfpoopebaaGreatPJa
import Derived.Test.YtongmhfpoopebaaGreatPTd
import Derived.Test.YtongmhfpoopebaaGreatPPw
namespace Go.Proofs.YtongmhfpoopebaaGreat
section
variable {α : Type}
theorem set_sum (g:α→Nat):∀ (L:List α) (i:Nat) (y:α),((L.set i y).map g).sum≤(L.map g).sum+g y
 | [],_,_=>by simp
 | x :: L,0,y=>by
  simp only [List.set_cons_zero,List.map_cons,List.sum_cons]
  omega
 | x :: L,i+1,y=>by
  have:=set_sum g L i y
  simp only [List.set_cons_succ,List.map_cons,List.sum_cons]
  omega
theorem setAt_mem {st:Int} {i:Nat} {f:α→α} {l:List α} {x:α} (h:x ∈ setAt st i f l):x ∈ l∨∃ y ∈ l,x=f y:=by
 unfold setAt at h
 rcases List.mem_append.1 h with h | h
 ·rcases List.mem_append.1 h with h | h
  ·exact .inl (List.mem_of_mem_take h)
  ·split at h
   ·cases h
   ·obtain ⟨y,hy,e⟩:=List.mem_map.1 h
    exact .inr ⟨y,List.mem_of_mem_drop (List.mem_of_mem_take hy),e.symm⟩
 ·exact .inl (List.mem_of_mem_drop h)
theorem setAt_sum {st:Int} {i:Nat} {f:α→α} {l:List α} (g:α→Nat) (hf:∀ y,g (f y)=g y):((setAt st i f l).map g).sum≤(l.map g).sum:=by
 have e:(l.map g).sum=((l.take i).map g).sum+((((l.drop i).take 1).map g).sum+((l.drop (i+1)).map g).sum):=by
  have h1:l.drop i=(l.drop i).take 1 ++ l.drop (i+1):=by
   have:=(List.take_append_drop 1 (l.drop i)).symm
   rwa [List.drop_drop] at this
  have h2:(l.map g).sum=((l.take i ++ l.drop i).map g).sum:=by rw [List.take_append_drop]
  rw [h2,List.map_append,List.sum_append]
  congr 1
  have h3:=congrArg (fun z=>(z.map g).sum) h1
  simp only [List.map_append,List.sum_append] at h3
  exact h3
 unfold setAt
 rw [List.map_append,List.map_append,List.sum_append,List.sum_append,e]
 split
 ·simp only [List.map_nil,List.sum_nil]
  omega
 ·rw [List.map_map]
  have:(g ∘ f)=g:=funext hf
  rw [this]
  omega
theorem addL_is {nm:α→ByteArray} {stt:α→Int} {put:Int→α→α} {l l':List α} {name:ByteArray} {st:Int} {new:Except Int α} {b:Bool} (h:addL nm stt put l name st new=.ok (l',b)):(∃ i,l'=setAt st i (put st) l)∨∃ x,new=.ok x∧nameB name=true∧l'=l ++ [put st x]:=by
 unfold addL at h
 split at h
 ·split at h
  ·cases h
  ·cases h
   exact .inl ⟨_,rfl⟩
 ·split at h
  ·cases h
  ·rename_i hn
   split at h
   ·cases h
   ·split at h
    ·cases h
    ·split at h
     ·cases h
     ·cases h
      exact .inr ⟨_,rfl,by simpa using hn,rfl⟩
theorem dropL_is {nm:α→ByteArray} {put:Int→α→α} {l l':List α} {name:ByteArray} {st no:Int} {used:Nat→α→Bool} (h:dropL nm put l name st no used=.ok l'):∃ i,l'=setAt st i (put st) l:=by
 unfold dropL at h
 split at h
 ·cases h
 ·split at h
  ·cases h
  ·cases h
   exact ⟨_,rfl⟩
end
def InB (s:Sc):Prop:=ScIn s∧scB s≤30000
theorem in_set {s:Sc} {i:Nat} {t t':Tb} {v l:Int} (ht:t ∈ s.tabs) (hI:ScIn s) (hs:scB s≤10000) (h':TbIn t') (hb:tbB t'≤tbB t+1000) (hv:I64 v) (hl:I64 l):InB ⟨v,l,s.tabs.set i t'⟩:=by
 have h1:=tab_B ht
 have h2:=set_sum tbB s.tabs i t'
 unfold scB at hs h1
 refine ⟨⟨hv,hl,fun x hx=>?_⟩,by unfold scB;simp only;omega⟩
 rcases List.mem_or_eq_of_mem_set hx with q | q
 ·exact hI.t x q
 ·rw [q]
  exact h'
theorem in_cols {t:Tb} {l:List Col} (h:TbIn t) (hc:∀ x ∈ l,ColIn x) (hb:(l.map colB).sum≤(t.cols.map colB).sum+1000):TbIn { t with cols:=l }∧tbB { t with cols:=l }≤tbB t+1000:=⟨⟨h.id,hc,h.i,h.k⟩,by unfold tbB;simp only;omega⟩
theorem in_ixs {t:Tb} {l:List Ix} (h:TbIn t) (hc:∀ x ∈ l,IxIn x) (hb:(l.map ixB).sum≤(t.ixs.map ixB).sum+1000):TbIn { t with ixs:=l }∧tbB { t with ixs:=l }≤tbB t+1000:=⟨⟨h.id,h.c,hc,h.k⟩,by unfold tbB;simp only;omega⟩
theorem in_fks {t:Tb} {l:List Fk} (h:TbIn t) (hc:∀ x ∈ l,FkIn x) (hb:(l.map fkBk).sum≤(t.fks.map fkBk).sum+1000):TbIn { t with fks:=l }∧tbB { t with fks:=l }≤tbB t+1000:=⟨⟨h.id,h.c,h.i,hc⟩,by unfold tbB;simp only;omega⟩
theorem fresh_in:∀ (l:List Col) (k:Int),(∀ c ∈ l,ColIn c)→0≤k→k+l.length≤4611686018427387904→∀ x ∈ freshC k l,ColIn x
 | [],_,_,_,_,x,hx=>by cases hx
 | c :: r,k,h,h0,h1,x,hx=>by
  rw [List.length_cons] at h1
  rcases List.mem_cons.1 hx with q | q
  ·rw [q]
   exact ⟨by unfold I64;simp only;omega,(h c List.mem_cons_self).kd,by unfold I64;simp only;omega,⟨by unfold I64;simp only;omega,by unfold I64;simp only;omega⟩⟩
  ·exact fresh_in r (k+1) (fun c' hc'=>h c' (List.mem_cons_of_mem _ hc')) (by omega) (by omega) x q
theorem fresh_B:∀ (l:List Col) (k:Int),(∀ c ∈ l,nameB c.nm=true)→((freshC k l).map colB).sum≤18*l.length
 | [],_,_=>by simp [freshC]
 | c :: r,k,h=>by
  have h1:=fresh_B r (k+1) (fun c' hc'=>h c' (List.mem_cons_of_mem _ hc'))
  have h2:=name_size (h c List.mem_cons_self)
  simp only [freshC,List.map_cons,List.sum_cons,List.length_cons,colB,vlB]
  have h3:(ByteArray.mk #[]).size=0:=rfl
  omega
theorem turn_in {s s':Sc} {d:Dd} {st:Int} (hI:ScIn s) (hdI:DdIn d) (h:turnS s d st=.ok s'):InB s':=by
 obtain ⟨hr,h0,h3,hc⟩:=turn_parts h
 have hB:=right_B hr
 obtain ⟨q1,q2,q3,q4,_⟩:=right_iff.1 hr
 have v0:=far_in q1
 have l0:=far_in q2
 have hv:I64 (s.ver+1):=by unfold I64;omega
 have hl1:I64 (s.last+1):=by unfold I64;omega
 have hst:I64 st:=by unfold I64;omega
 unfold changeS at hc
 split at hc
 ·cases hc
 split at hc
 ·unfold createS at hc
  split at hc
  ·cases hc
  rename_i e1
  split at hc
  ·cases hc
  split at hc
  ·cases hc
  rename_i e3
  split at hc
  ·cases hc
  split at hc
  ·cases hc
  cases hc
  have e1':nameB d.table=true∧∀ c ∈ d.cols,nameB c.nm=true:=by
   refine ⟨by cases hq:nameB d.table with | true=>rfl | false=>exact absurd (.inl hq) e1,fun c hc=>?_⟩
   cases hq:d.cols.all (fun c=>nameB c.nm) with
   | true=>exact List.all_eq_true.1 hq c hc
   | false=>exact absurd (.inr hq) e1
  have hn:=name_size e1'.1
  have hf:=fresh_B d.cols (s.last+2) e1'.2
  refine ⟨⟨hv,by unfold I64;simp only;omega,fun x hx=>?_⟩,?_⟩
  ·rcases List.mem_append.1 hx with q | q
   ·exact hI.t x q
   ·rw [List.mem_singleton.1 q]
    exact ⟨hl1,fresh_in _ _ hdI.c (by omega) (by omega),by simp,by simp⟩
  ·unfold scB at hB ⊢
   simp only [List.map_append,List.sum_append,List.map_cons,List.map_nil,List.sum_cons,List.sum_nil,tbB]
   omega
 split at hc
 ·cases hc
 split at hc
 ·cases hc
 rename_i i _ t ht
 have hm:t ∈ s.tabs:=List.mem_of_getElem? ht
 have hT:=hI.t t hm
 have hput:∀ c:Col,ColIn c→ColIn (putC st c):=fun c hc=>⟨hc.id,hc.kd,hst,hc.df⟩
 have hputI:∀ c:Ix,IxIn c→IxIn (putI st c):=fun c hc=>⟨hc.id,hc.col,hst⟩
 have hputK:∀ c:Fk,FkIn c→FkIn (putK st c):=fun c hc=>⟨hc.id,hc.col,hc.par,hst⟩
 have setC:∀ j,(∀ x ∈ setAt st j (putC st) t.cols,ColIn x)∧((setAt st j (putC st) t.cols).map colB).sum≤(t.cols.map colB).sum+1000:=fun j=>⟨fun x hx=>by
  rcases setAt_mem hx with q | ⟨y,hy,rfl⟩
  ·exact hT.c x q
  ·exact hput y (hT.c y hy),Nat.le_trans (setAt_sum colB (fun _=>rfl)) (Nat.le_add_right _ _)⟩
 have setI:∀ j,(∀ x ∈ setAt st j (putI st) t.ixs,IxIn x)∧((setAt st j (putI st) t.ixs).map ixB).sum≤(t.ixs.map ixB).sum+1000:=fun j=>⟨fun x hx=>by
  rcases setAt_mem hx with q | ⟨y,hy,rfl⟩
  ·exact hT.i x q
  ·exact hputI y (hT.i y hy),Nat.le_trans (setAt_sum ixB (fun _=>rfl)) (Nat.le_add_right _ _)⟩
 have setK:∀ j,(∀ x ∈ setAt st j (putK st) t.fks,FkIn x)∧((setAt st j (putK st) t.fks).map fkBk).sum≤(t.fks.map fkBk).sum+1000:=fun j=>⟨fun x hx=>by
  rcases setAt_mem hx with q | ⟨y,hy,rfl⟩
  ·exact hT.k x q
  ·exact hputK y (hT.k y hy),Nat.le_trans (setAt_sum fkBk (fun _=>rfl)) (Nat.le_add_right _ _)⟩
 have hlast:∀ b:Bool,I64 (if b=true then s.last+1 else s.last):=fun b=>by
  cases b
  ·exact hI.last
  ·exact hl1
 have pubI':∀ {z:ByteArray} {c:Col},pubC t z=some c→c ∈ t.cols:=fun h=>List.mem_of_find?_eq_some h
 unfold changeT at hc
 split at hc
 ·split at hc
  ·cases hc
  rename_i l b e
  cases hc
  have:(∀ x ∈ l,ColIn x)∧(l.map colB).sum≤(t.cols.map colB).sum+1000:=by
   rcases addL_is e with ⟨j,rfl⟩ | ⟨x,hx,hn,rfl⟩
   ·exact setC j
   ·unfold newC at hx
    split at hx
    ·rename_i hk
     cases hx
     simp only [Bool.and_eq_true] at hk
     have h1:=name_size hn
     have h2:=fit_size hk.2
     refine ⟨fun y hy=>?_,?_⟩
     ·rcases List.mem_append.1 hy with q | q
      ·exact hT.c y q
      ·rw [List.mem_singleton.1 q]
       exact ⟨hl1,hdI.ty,hst,hdI.df⟩
     ·simp only [List.map_append,List.sum_append,List.map_cons,List.map_nil,List.sum_cons,List.sum_nil,colB,vlB,putC]
      omega
    ·cases hx
  exact in_set hm hI hB (in_cols hT this.1 this.2).1 (in_cols hT this.1 this.2).2 hv (hlast b)
 split at hc
 ·split at hc
  ·cases hc
  rename_i l b e
  cases hc
  have:(∀ x ∈ l,IxIn x)∧(l.map ixB).sum≤(t.ixs.map ixB).sum+1000:=by
   rcases addL_is e with ⟨j,rfl⟩ | ⟨x,hx,hn,rfl⟩
   ·exact setI j
   ·unfold newI at hx
    split at hx
    ·cases hx
    ·rename_i c hp
     cases hx
     have h1:=name_size hn
     refine ⟨fun y hy=>?_,?_⟩
     ·rcases List.mem_append.1 hy with q | q
      ·exact hT.i y q
      ·rw [List.mem_singleton.1 q]
       exact ⟨hl1,(hT.c c (pubI' hp)).id,hst⟩
     ·simp only [List.map_append,List.sum_append,List.map_cons,List.map_nil,List.sum_cons,List.sum_nil,ixB,putI]
      omega
  exact in_set hm hI hB (in_ixs hT this.1 this.2).1 (in_ixs hT this.1 this.2).2 hv (hlast b)
 split at hc
 ·split at hc
  ·cases hc
  rename_i l b e
  cases hc
  have:(∀ x ∈ l,FkIn x)∧(l.map fkBk).sum≤(t.fks.map fkBk).sum+1000:=by
   rcases addL_is e with ⟨j,rfl⟩ | ⟨x,hx,hn,rfl⟩
   ·exact setK j
   ·unfold newK at hx
    split at hx
    ·cases hx
    ·rename_i c hp
     split at hx
     ·cases hx
     ·rename_i p hpp
      split at hx
      ·cases hx
       have h1:=name_size hn
       refine ⟨fun y hy=>?_,?_⟩
       ·rcases List.mem_append.1 hy with q | q
        ·exact hT.k y q
        ·rw [List.mem_singleton.1 q]
         exact ⟨hl1,(hT.c c (pubI' hp)).id,(hI.t p (List.mem_of_find?_eq_some hpp)).id,hst⟩
       ·simp only [List.map_append,List.sum_append,List.map_cons,List.map_nil,List.sum_cons,List.sum_nil,fkBk,putK]
        omega
      ·cases hx
  exact in_set hm hI hB (in_fks hT this.1 this.2).1 (in_fks hT this.1 this.2).2 hv (hlast b)
 split at hc
 ·split at hc
  ·cases hc
  rename_i l e
  cases hc
  obtain ⟨j,rfl⟩:=dropL_is e
  exact in_set hm hI hB (in_cols hT (setC j).1 (setC j).2).1 (in_cols hT (setC j).1 (setC j).2).2 hv (hlast false)
 split at hc
 ·split at hc
  ·cases hc
  rename_i l e
  cases hc
  obtain ⟨j,rfl⟩:=dropL_is e
  exact in_set hm hI hB (in_ixs hT (setI j).1 (setI j).2).1 (in_ixs hT (setI j).1 (setI j).2).2 hv (hlast false)
 ·split at hc
  ·cases hc
  rename_i l e
  cases hc
  obtain ⟨j,rfl⟩:=dropL_is e
  exact in_set hm hI hB (in_fks hT (setK j).1 (setK j).2).1 (in_fks hT (setK j).1 (setK j).2).2 hv (hlast false)
end Go.Proofs.YtongmhfpoopebaaGreat
