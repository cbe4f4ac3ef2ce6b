import Derived.Test.YtongmhfpoopebaaGreatQBa
namespace Go.Proofs.YtongmhfpoopebaaGreat
theorem right_iff {s:Sc}:rightS s=true ↔ farB s.ver=true∧farB s.last=true∧s.tabs.length≤6∧(∀ t ∈ s.tabs,tabB t=true)∧(∀ i ∈ idsS s.tabs,1≤i∧i≤s.last)∧(idsS s.tabs).Nodup∧(s.tabs.map Tb.nm).Nodup∧∀ t ∈ s.tabs,linkB s.tabs t=true:=by
 unfold rightS
 simp only [Bool.and_eq_true,decide_eq_true_eq,List.all_eq_true,and_assoc]
def colKd (l:List Col) (j:Int):Option Int:=(l.find? (fun c=>decide (c.id=j))).map Col.kd
def tabKd (l:List Tb) (j:Int):Option (Option Int):=(l.find? (fun t=>decide (t.id=j))).map keyKd
def fkAns (a:Option Int) (b:Option (Option Int)):Bool:=match a,b with
 | some a,some b=>decide (b=some a)
 | _,_=>false
theorem fkB_alt (l:List Tb) (t:Tb) (k:Fk):fkB l t k=fkAns (colKd t.cols k.col) (tabKd l k.par):=by
 unfold fkB colKd tabKd
 cases t.cols.find? (fun c=>decide (c.id=k.col)) with
 | none=>rfl
 | some c =>
  cases l.find? (fun t=>decide (t.id=k.par)) with
  | none=>rfl
  | some p=>rfl
theorem any_colKd (l:List Col) (j:Int):l.any (fun c=>decide (c.id=j))=(colKd l j).isSome:=by
 unfold colKd
 induction l with
 | nil=>rfl
 | cons c l ih =>
  rw [List.any_cons,List.find?_cons]
  cases h:decide (c.id=j) with
  | true=>rfl
  | false=>simpa using ih
theorem linkB_alt (l:List Tb) (t:Tb):linkB l t=(t.ixs.all (fun x=>(colKd t.cols x.col).isSome) && t.fks.all (fun k=>fkAns (colKd t.cols k.col) (tabKd l k.par))):=by
 unfold linkB
 congr 1
 ·congr 1
  funext x
  exact any_colKd _ _
 ·congr 1
  funext k
  exact fkB_alt _ _ _
theorem link_iff {l:List Tb} {t:Tb}:linkB l t=true ↔ (∀ x ∈ t.ixs,(colKd t.cols x.col).isSome=true)∧∀ k ∈ t.fks,fkAns (colKd t.cols k.col) (tabKd l k.par)=true:=by
 rw [linkB_alt]
 simp only [Bool.and_eq_true,List.all_eq_true]
theorem tabKd_set {t':Tb}:∀ {l:List Tb} {i:Nat} (hi:i < l.length),t'.id=l[i].id→keyKd t'=keyKd l[i]→∀ j,tabKd (l.set i t') j=tabKd l j
 | x :: l,0,_,hid,hk,j=>by
  unfold tabKd
  rw [List.set_cons_zero,List.find?_cons,List.find?_cons]
  have e1:t'.id=x.id:=hid
  have e2:keyKd t'=keyKd x:=hk
  rw [e1]
  cases h:decide (x.id=j) with
  | true=>simp [e2]
  | false=>rfl
 | x :: l,i+1,hi,hid,hk,j=>by
  have ih:=tabKd_set (l:=l) (i:=i) (by simpa using hi) hid hk j
  unfold tabKd at ih ⊢
  rw [List.set_cons_succ,List.find?_cons,List.find?_cons]
  cases h:decide (x.id=j) with
  | true=>rfl
  | false=>simpa using ih
theorem tabKd_some {l:List Tb} {j:Int} {b:Option Int} {x:Tb} (h:tabKd l j=some b):tabKd (l ++ [x]) j=some b:=by
 unfold tabKd at h ⊢
 rw [List.find?_append]
 cases e:l.find? (fun t=>decide (t.id=j)) with
 | none=>rw [e] at h;cases h
 | some p=>rw [e] at h;simpa using h
theorem fkAns_some {a:Option Int} {b:Option (Option Int)} (h:fkAns a b=true):∃ k,a=some k∧b=some (some k):=by
 unfold fkAns at h
 cases a with
 | none=>simp at h
 | some a =>
  cases b with
  | none=>simp at h
  | some b =>
   simp only [decide_eq_true_eq] at h
   exact ⟨a,rfl,by rw [h]⟩
theorem ids_set {l:List Tb} {i:Nat} {t':Tb} (hi:i < l.length):idsS (l.set i t')=idsS (l.take i) ++ (idsT t' ++ idsS (l.drop (i+1))):=by
 unfold idsS
 rw [List.set_eq_take_append_cons_drop,if_pos hi,List.flatMap_append,List.flatMap_cons]
theorem ids_self {l:List Tb} {i:Nat} (hi:i < l.length):idsS l=idsS (l.take i) ++ (idsT l[i] ++ idsS (l.drop (i+1))):=by
 have h:=ids_set (t':=l[i]) hi
 rw [List.set_getElem_self] at h
 exact h
theorem ids_sub {l:List Tb} {i:Nat} {t':Tb} (hi:i < l.length) (h:(idsT t').Sublist (idsT l[i])):(idsS (l.set i t')).Sublist (idsS l):=by
 rw [ids_set hi,ids_self hi]
 exact (List.Sublist.refl _).append (h.append (List.Sublist.refl _))
theorem ids_add {l:List Tb} {i:Nat} {t':Tb} {n:Int} (hi:i < l.length) (h:(idsT t').Perm (n :: idsT l[i])):(idsS (l.set i t')).Perm (n :: idsS l):=by
 rw [ids_set hi,ids_self hi]
 have h1:(idsT t' ++ idsS (l.drop (i+1))).Perm (n :: (idsT l[i] ++ idsS (l.drop (i+1)))):=h.append_right _
 exact (h1.append_left _).trans List.perm_middle
theorem names_set {l:List Tb} {i:Nat} {t':Tb} (hi:i < l.length) (h:t'.nm=l[i].nm):(l.set i t').map Tb.nm=l.map Tb.nm:=by
 rw [List.map_set,h]
 have:(l.map Tb.nm)[i]'(by rw [List.length_map];exact hi)=l[i].nm:=List.getElem_map ..
 rw [← this,List.set_getElem_self]
theorem right_sub {s:Sc} (h:rightS s=true) {i:Nat} {t':Tb} (hi:i < s.tabs.length) (hid:t'.id=s.tabs[i].id) (hnm:t'.nm=s.tabs[i].nm) (hk:keyKd t'=keyKd s.tabs[i]) (htab:tabB t'=true) (hl:linkB s.tabs t'=true) (hids:(idsT t').Sublist (idsT s.tabs[i])) {v:Int} (hv:farB v=true):rightS ⟨v,s.last,s.tabs.set i t'⟩=true:=by
 obtain ⟨h1,h2,h3,h4,h5,h6,h7,h8⟩:=right_iff.1 h
 have hsub:=ids_sub hi hids
 have hl':∀ x,linkB s.tabs x=true→linkB (s.tabs.set i t') x=true:=fun x hx=>by
  rw [link_iff] at hx ⊢
  exact ⟨hx.1,fun k hk'=>by rw [tabKd_set hi hid hk];exact hx.2 k hk'⟩
 refine right_iff.2 ⟨hv,h2,by rw [List.length_set];exact h3,fun x hx=>?_,fun j hj=>h5 j (hsub.subset hj),hsub.nodup h6,by rw [names_set hi hnm];exact h7,fun x hx=>?_⟩
 ·rcases List.mem_or_eq_of_mem_set hx with q | q
  ·exact h4 x q
  ·rw [q];exact htab
 ·rcases List.mem_or_eq_of_mem_set hx with q | q
  ·exact hl' x (h8 x q)
  ·rw [q];exact hl' _ hl
theorem right_more {s:Sc} (h:rightS s=true) {i:Nat} {t':Tb} (hi:i < s.tabs.length) (hid:t'.id=s.tabs[i].id) (hnm:t'.nm=s.tabs[i].nm) (hk:keyKd t'=keyKd s.tabs[i]) (htab:tabB t'=true) (hl:linkB s.tabs t'=true) (hids:(idsT t').Perm ((s.last+1) :: idsT s.tabs[i])) {v:Int} (hv:farB v=true) (hfl:farB (s.last+1)=true):rightS ⟨v,s.last+1,s.tabs.set i t'⟩=true:=by
 obtain ⟨h1,h2,h3,h4,h5,h6,h7,h8⟩:=right_iff.1 h
 have hp:=ids_add hi hids
 have hn:s.last+1 ∉ idsS s.tabs:=fun q=>by have:=(h5 _ q).2;omega
 have hl':∀ x,linkB s.tabs x=true→linkB (s.tabs.set i t') x=true:=fun x hx=>by
  rw [link_iff] at hx ⊢
  exact ⟨hx.1,fun k hk'=>by rw [tabKd_set hi hid hk];exact hx.2 k hk'⟩
 have h0:0≤s.last:=by
  unfold farB at h2
  simp only [Bool.and_eq_true,decide_eq_true_eq] at h2
  exact h2.1
 refine right_iff.2 ⟨hv,hfl,by rw [List.length_set];exact h3,fun x hx=>?_,fun j hj=>?_,hp.nodup_iff.2 (List.nodup_cons.2 ⟨hn,h6⟩),by rw [names_set hi hnm];exact h7,fun x hx=>?_⟩
 ·rcases List.mem_or_eq_of_mem_set hx with q | q
  ·exact h4 x q
  ·rw [q];exact htab
 ·rcases List.mem_cons.1 (hp.mem_iff.1 hj) with rfl | q
  ·show 1≤s.last+1∧s.last+1≤s.last+1
   omega
  ·have:=h5 j q
   show 1≤j∧j≤s.last+1
   omega
 ·rcases List.mem_or_eq_of_mem_set hx with q | q
  ·exact hl' x (h8 x q)
  ·rw [q];exact hl' _ hl
theorem setAt_one {α:Type} {st:Int} (h:st ≠ 0) {i:Nat} {f:α→α} {l:List α} (hi:i < l.length):setAt st i f l=l.set i (f l[i]):=by
 have e:(l.drop i).take 1=[l[i]]:=by rw [List.drop_eq_getElem_cons hi];rfl
 unfold setAt
 rw [if_neg h,e,List.set_eq_take_append_cons_drop,if_pos hi]
 simp
theorem setAt_none {α:Type} {i:Nat} {f:α→α} {l:List α}:setAt 0 i f l=l.take i ++ l.drop (i+1):=by
 unfold setAt
 rw [if_pos rfl]
 simp
theorem cut_sub {α:Type} (l:List α) (i:Nat):(l.take i ++ l.drop (i+1)).Sublist l:=by
 have h:(l.take i ++ l.drop (i+1)).Sublist (l.take i ++ l.drop i):=(List.Sublist.refl _).append (List.drop_sublist_drop_left l (Nat.le_succ i))
 rwa [List.take_append_drop] at h
section
variable {α : Type} {nm : α → ByteArray} {stt : α → Int} {l : List α}
theorem parts_iff:partsB nm stt l=true ↔ (∀ x ∈ l,nameB (nm x)=true∧stB (stt x)=true)∧(l.map nm).Nodup:=by
 unfold partsB
 simp only [Bool.and_eq_true,decide_eq_true_eq,List.all_eq_true]
theorem parts_sub {l':List α} (h:partsB nm stt l=true) (hs:l'.Sublist l):partsB nm stt l'=true:=by
 rw [parts_iff] at h ⊢
 exact ⟨fun x hx=>h.1 x (hs.subset hx),(hs.map nm).nodup h.2⟩
theorem parts_set {i:Nat} {y:α} (h:partsB nm stt l=true) (hi:i < l.length) (hn:nm y=nm l[i]) (hs:stB (stt y)=true):partsB nm stt (l.set i y)=true:=by
 rw [parts_iff] at h ⊢
 refine ⟨fun x hx=>?_,?_⟩
 ·rcases List.mem_or_eq_of_mem_set hx with q | q
  ·exact h.1 x q
  ·rw [q,hn]
   exact ⟨(h.1 _ (List.getElem_mem hi)).1,hs⟩
 ·rw [List.map_set,hn]
  have:(l.map nm)[i]'(by rw [List.length_map];exact hi)=nm l[i]:=List.getElem_map ..
  rw [← this,List.set_getElem_self]
  exact h.2
theorem parts_add {y:α} (h:partsB nm stt l=true) (hn:nameB (nm y)=true) (hs:stB (stt y)=true) (hne:∀ x ∈ l,nm x ≠ nm y):partsB nm stt (l ++ [y])=true:=by
 rw [parts_iff] at h ⊢
 refine ⟨fun x hx=>?_,?_⟩
 ·rcases List.mem_append.1 hx with q | q
  ·exact h.1 x q
  ·rw [List.mem_singleton.1 q]
   exact ⟨hn,hs⟩
 ·rw [List.map_append,List.nodup_append]
  refine ⟨h.2,by simp,fun a ha b hb=>?_⟩
  obtain ⟨x,hx,rfl⟩:=List.mem_map.1 ha
  have:b=nm y:=by simpa using hb
  rw [this]
  exact hne x hx
end
theorem map_set_same {α β:Type} {f:α→β} {l:List α} {i:Nat} {y:α} (hi:i < l.length) (h:f y=f l[i]):(l.set i y).map f=l.map f:=by
 rw [List.map_set,h]
 have:(l.map f)[i]'(by rw [List.length_map];exact hi)=f l[i]:=List.getElem_map ..
 rw [← this,List.set_getElem_self]
theorem idx_some {α:Type} {p:α→Bool} {l:List α} {i:Nat} (h:l.findIdx? p=some i):∃ hi:i < l.length,p l[i]=true:=by
 obtain ⟨hi,hp,_⟩:=List.findIdx?_eq_some_iff_getElem.1 h
 exact ⟨hi,hp⟩
theorem idx_none {α:Type} {p:α→Bool} {l:List α} (h:l.findIdx? p=none):∀ x ∈ l,p x=false:=List.findIdx?_eq_none_iff.1 h
theorem colKd_set:∀ {l:List Col} {i:Nat} {y:Col} (hi:i < l.length),y.id=l[i].id→y.kd=l[i].kd→∀ j,colKd (l.set i y) j=colKd l j
 | x :: l,0,y,_,hid,hk,j=>by
  unfold colKd
  rw [List.set_cons_zero,List.find?_cons,List.find?_cons]
  have e1:y.id=x.id:=hid
  have e2:y.kd=x.kd:=hk
  rw [e1]
  cases h:decide (x.id=j) with
  | true=>simp [e2]
  | false=>rfl
 | x :: l,i+1,y,hi,hid,hk,j=>by
  have ih:=colKd_set (l:=l) (i:=i) (y:=y) (by simpa using hi) hid hk j
  unfold colKd at ih ⊢
  rw [List.set_cons_succ,List.find?_cons,List.find?_cons]
  cases h:decide (x.id=j) with
  | true=>rfl
  | false=>simpa using ih
theorem colKd_add {l:List Col} {y:Col} {j:Int} (h:(colKd l j).isSome=true):colKd (l ++ [y]) j=colKd l j:=by
 unfold colKd at h ⊢
 rw [List.find?_append]
 cases e:l.find? (fun c=>decide (c.id=j)) with
 | none=>rw [e] at h;cases h
 | some p=>rfl
theorem find_cut {α:Type} {p:α→Bool}:∀ {l:List α} {i:Nat} (hi:i < l.length),p l[i]=false→(l.take i ++ l.drop (i+1)).find? p=l.find? p
 | x :: l,0,_,h=>by
  have h':p x=false:=h
  simp [h']
 | x :: l,i+1,hi,h=>by
  have ih:=find_cut (p:=p) (l:=l) (i:=i) (by simpa using hi) h
  rw [List.take_succ_cons,List.drop_succ_cons,List.cons_append,List.find?_cons,List.find?_cons,ih]
theorem colKd_cut {l:List Col} {i:Nat} (hi:i < l.length) {j:Int} (h:l[i].id ≠ j):colKd (l.take i ++ l.drop (i+1)) j=colKd l j:=by
 unfold colKd
 rw [find_cut hi (by simpa using h)]
theorem find_own {α:Type} {f:α→Int}:∀ {l:List α},(l.map f).Nodup→∀ {x:α},x ∈ l→l.find? (fun c=>decide (f c=f x))=some x
 | y :: l,hn,x,hx=>by
  rw [List.map_cons,List.nodup_cons] at hn
  rw [List.find?_cons]
  rcases List.mem_cons.1 hx with rfl | hx
  ·simp
  ·have hne:f y ≠ f x:=fun q=>hn.1 (by rw [q];exact List.mem_map.2 ⟨x,hx,rfl⟩)
   simp only [hne,decide_false]
   exact find_own hn.2 hx
end Go.Proofs.YtongmhfpoopebaaGreat
namespace Go.Proofs.YtongmhfpoopebaaGreat
abbrev wC (t:Tb) (l:List Col):Tb:=⟨t.id,t.nm,l,t.ixs,t.fks⟩
abbrev wI (t:Tb) (l:List Ix):Tb:=⟨t.id,t.nm,t.cols,l,t.fks⟩
abbrev wK (t:Tb) (l:List Fk):Tb:=⟨t.id,t.nm,t.cols,t.ixs,l⟩
theorem ids_sub3 {t t':Tb} (hid:t'.id=t.id) (hc:(t'.cols.map Col.id).Sublist (t.cols.map Col.id)) (hi:(t'.ixs.map Ix.id).Sublist (t.ixs.map Ix.id)) (hk:(t'.fks.map Fk.id).Sublist (t.fks.map Fk.id)):(idsT t').Sublist (idsT t):=by
 unfold idsT
 rw [hid]
 exact ((hc.append hi).append hk).cons_cons _
theorem perm_in {n a:Int} {x y z:List Int} (h:x=y ++ n :: z):(a :: x).Perm (n :: a :: (y ++ z)):=by
 rw [h]
 exact (List.perm_middle.cons a).trans (List.Perm.swap n a _)
theorem tab_iff {t:Tb}:tabB t=true ↔ (1≤t.cols.length∧t.cols.length≤8∧t.ixs.length≤8∧t.fks.length≤8)∧nameB t.nm=true∧(∀ c ∈ t.cols,kindB c.kd=true∧fitB c.df c.kd=true)∧keyB t=true∧partsB Col.nm Col.st t.cols=true∧partsB Ix.nm Ix.st t.ixs=true∧partsB Fk.nm Fk.st t.fks=true:=by
 unfold tabB cntB elB
 simp only [Bool.and_eq_true,decide_eq_true_eq,List.all_eq_true,and_assoc]
theorem key_cons {t:Tb} (h:keyB t=true):∃ c r,t.cols=c :: r∧c.st=3:=by
 unfold keyB at h
 cases e:t.cols with
 | nil=>rw [e] at h;cases h
 | cons c r =>
  rw [e] at h
  exact ⟨c,r,rfl,by simpa using h⟩
theorem key_of {t:Tb} {c:Col} {r:List Col} (h:t.cols=c :: r) (hs:c.st=3):keyB t=true:=by
 unfold keyB
 rw [h]
 simpa using hs
section
variable {s : Sc} {i : Nat} (hr : rightS s = true) (hi : i < s.tabs.length) (hv : farB (s.ver + 1) = true)
include hr hi hv
theorem rc_set {k:Nat} {y:Col} (hk:k < s.tabs[i].cols.length) (h1:y.id=s.tabs[i].cols[k].id) (h2:y.nm=s.tabs[i].cols[k].nm) (h3:y.kd=s.tabs[i].cols[k].kd) (h4:y.df=s.tabs[i].cols[k].df) (h5:stB y.st=true) (h0:k ≠ 0):rightS ⟨s.ver+1,s.last,s.tabs.set i (wC s.tabs[i] (s.tabs[i].cols.set k y))⟩=true:=by
 obtain ⟨_,_,_,q4,_,_,_,q8⟩:=right_iff.1 hr
 obtain ⟨⟨a1,a2,a3,a4⟩,b,c,d,e1,e2,e3⟩:=tab_iff.1 (q4 _ (List.getElem_mem hi))
 have hl:=link_iff.1 (q8 _ (List.getElem_mem hi))
 obtain ⟨c0,r,ec,es⟩:=key_cons d
 obtain ⟨k,rfl⟩:∃ m,k=m+1:=⟨k - 1,by omega⟩
 refine right_sub (t':=wC s.tabs[i] (s.tabs[i].cols.set (k+1) y)) hr hi rfl rfl ?_ ?_ ?_ (ids_sub3 rfl (by rw [map_set_same hk h1];exact List.Sublist.refl _) (List.Sublist.refl _) (List.Sublist.refl _)) hv
 ·unfold keyKd
  simp only [ec,List.set_cons_succ,List.head?_cons]
 ·refine tab_iff.2 ⟨⟨by simpa using a1,by simpa using a2,a3,a4⟩,b,fun x hx=>?_,key_of (c:=c0) (r:=r.set k y) (by simp only [ec,List.set_cons_succ]) es,parts_set e1 hk h2 h5,e2,e3⟩
  rcases List.mem_or_eq_of_mem_set hx with q | q
  ·exact c x q
  ·rw [q,h3,h4]
   exact c _ (List.getElem_mem hk)
 ·rw [link_iff]
  simp only [colKd_set hk h1 h3]
  exact hl
theorem rc_add {y:Col} (hfl:farB (s.last+1)=true) (h1:y.id=s.last+1) (h2:nameB y.nm=true) (h3:kindB y.kd=true) (h4:fitB y.df y.kd=true) (h5:stB y.st=true) (hne:∀ x ∈ s.tabs[i].cols,x.nm ≠ y.nm) (hlen:s.tabs[i].cols.length ≠ 8):rightS ⟨s.ver+1,s.last+1,s.tabs.set i (wC s.tabs[i] (s.tabs[i].cols ++ [y]))⟩=true:=by
 obtain ⟨_,_,_,q4,_,_,_,q8⟩:=right_iff.1 hr
 obtain ⟨⟨a1,a2,a3,a4⟩,b,c,d,e1,e2,e3⟩:=tab_iff.1 (q4 _ (List.getElem_mem hi))
 have hl:=link_iff.1 (q8 _ (List.getElem_mem hi))
 obtain ⟨c0,r,ec,es⟩:=key_cons d
 refine right_more (t':=wC s.tabs[i] (s.tabs[i].cols ++ [y])) hr hi rfl rfl ?_ ?_ ?_ ?_ hv hfl
 ·unfold keyKd
  simp only [ec,List.cons_append,List.head?_cons]
 ·refine tab_iff.2 ⟨⟨by simp,by simp;omega,a3,a4⟩,b,fun x hx=>?_,key_of (c:=c0) (r:=r ++ [y]) (by simp only [ec,List.cons_append]) es,parts_add e1 h2 h5 hne,e2,e3⟩
  rcases List.mem_append.1 hx with q | q
  ·exact c x q
  ·rw [List.mem_singleton.1 q]
   exact ⟨h3,h4⟩
 ·rw [link_iff]
  refine ⟨fun x hx=>?_,fun x hx=>?_⟩
  ·show (colKd (s.tabs[i].cols ++ [y]) x.col).isSome=true
   rw [colKd_add (hl.1 x hx)]
   exact hl.1 x hx
  ·show fkAns (colKd (s.tabs[i].cols ++ [y]) x.col) _=true
   obtain ⟨kk,z1,_⟩:=fkAns_some (hl.2 x hx)
   rw [colKd_add (by rw [z1];rfl)]
   exact hl.2 x hx
 ·unfold idsT
  rw [List.map_append,List.map_singleton,h1]
  have:=perm_in (n:=s.last+1) (a:=s.tabs[i].id) (x:=s.tabs[i].cols.map Col.id ++ [s.last+1] ++ s.tabs[i].ixs.map Ix.id ++ s.tabs[i].fks.map Fk.id) (y:=s.tabs[i].cols.map Col.id) (z:=s.tabs[i].ixs.map Ix.id ++ s.tabs[i].fks.map Fk.id) (by simp)
  simpa using this
theorem rc_cut {k:Nat} (hk:k < s.tabs[i].cols.length) (h0:k ≠ 0) (hx:∀ x ∈ s.tabs[i].ixs,x.col ≠ s.tabs[i].cols[k].id) (hf:∀ x ∈ s.tabs[i].fks,x.col ≠ s.tabs[i].cols[k].id):rightS ⟨s.ver+1,s.last,s.tabs.set i (wC s.tabs[i] (s.tabs[i].cols.take k ++ s.tabs[i].cols.drop (k+1)))⟩=true:=by
 obtain ⟨_,_,_,q4,_,_,_,q8⟩:=right_iff.1 hr
 obtain ⟨⟨a1,a2,a3,a4⟩,b,c,d,e1,e2,e3⟩:=tab_iff.1 (q4 _ (List.getElem_mem hi))
 have hl:=link_iff.1 (q8 _ (List.getElem_mem hi))
 obtain ⟨c0,r,ec,es⟩:=key_cons d
 have hs:=cut_sub s.tabs[i].cols k
 obtain ⟨k,rfl⟩:∃ m,k=m+1:=⟨k - 1,by omega⟩
 have eh:s.tabs[i].cols.take (k+1) ++ s.tabs[i].cols.drop (k+1+1)=c0 :: (r.take k ++ r.drop (k+1)):=by rw [ec];rfl
 refine right_sub (t':=wC s.tabs[i] (s.tabs[i].cols.take (k+1) ++ s.tabs[i].cols.drop (k+1+1))) hr hi rfl rfl ?_ ?_ ?_ (ids_sub3 rfl (hs.map _) (List.Sublist.refl _) (List.Sublist.refl _)) hv
 ·unfold keyKd
  show (s.tabs[i].cols.take (k+1) ++ s.tabs[i].cols.drop (k+1+1)).head?.map Col.kd=_
  rw [eh,ec]
  rfl
 ·refine tab_iff.2 ⟨⟨?_,Nat.le_trans hs.length_le a2,a3,a4⟩,b,fun x hx=>c x (hs.subset hx),key_of (c:=c0) (r:=r.take k ++ r.drop (k+1)) eh es,parts_sub e1 hs,e2,e3⟩
  show 1≤(s.tabs[i].cols.take (k+1) ++ s.tabs[i].cols.drop (k+1+1)).length
  rw [eh]
  simp
 ·rw [link_iff]
  refine ⟨fun x hx'=>?_,fun x hx'=>?_⟩
  ·show (colKd (s.tabs[i].cols.take (k+1) ++ s.tabs[i].cols.drop (k+1+1)) x.col).isSome=true
   rw [colKd_cut hk (fun q=>hx x hx' q.symm)]
   exact hl.1 x hx'
  ·show fkAns (colKd (s.tabs[i].cols.take (k+1) ++ s.tabs[i].cols.drop (k+1+1)) x.col) _=true
   rw [colKd_cut hk (fun q=>hf x hx' q.symm)]
   exact hl.2 x hx'
theorem rx_set {k:Nat} {y:Ix} (hk:k < s.tabs[i].ixs.length) (h1:y.id=s.tabs[i].ixs[k].id) (h2:y.nm=s.tabs[i].ixs[k].nm) (h3:y.col=s.tabs[i].ixs[k].col) (h5:stB y.st=true):rightS ⟨s.ver+1,s.last,s.tabs.set i (wI s.tabs[i] (s.tabs[i].ixs.set k y))⟩=true:=by
 obtain ⟨_,_,_,q4,_,_,_,q8⟩:=right_iff.1 hr
 obtain ⟨⟨a1,a2,a3,a4⟩,b,c,d,e1,e2,e3⟩:=tab_iff.1 (q4 _ (List.getElem_mem hi))
 have hl:=link_iff.1 (q8 _ (List.getElem_mem hi))
 refine right_sub (t':=wI s.tabs[i] (s.tabs[i].ixs.set k y)) hr hi rfl rfl rfl ?_ ?_ (ids_sub3 rfl (List.Sublist.refl _) (by rw [map_set_same hk h1];exact List.Sublist.refl _) (List.Sublist.refl _)) hv
 ·exact tab_iff.2 ⟨⟨a1,a2,by simpa using a3,a4⟩,b,c,d,e1,parts_set e2 hk h2 h5,e3⟩
 ·rw [link_iff]
  refine ⟨fun x hx=>?_,hl.2⟩
  rcases List.mem_or_eq_of_mem_set hx with q | q
  ·exact hl.1 x q
  ·rw [q]
   show (colKd s.tabs[i].cols y.col).isSome=true
   rw [h3]
   exact hl.1 _ (List.getElem_mem hk)
theorem rx_add {y:Ix} (hfl:farB (s.last+1)=true) (h1:y.id=s.last+1) (h2:nameB y.nm=true) (h3:(colKd s.tabs[i].cols y.col).isSome=true) (h5:stB y.st=true) (hne:∀ x ∈ s.tabs[i].ixs,x.nm ≠ y.nm) (hlen:s.tabs[i].ixs.length ≠ 8):rightS ⟨s.ver+1,s.last+1,s.tabs.set i (wI s.tabs[i] (s.tabs[i].ixs ++ [y]))⟩=true:=by
 obtain ⟨_,_,_,q4,_,_,_,q8⟩:=right_iff.1 hr
 obtain ⟨⟨a1,a2,a3,a4⟩,b,c,d,e1,e2,e3⟩:=tab_iff.1 (q4 _ (List.getElem_mem hi))
 have hl:=link_iff.1 (q8 _ (List.getElem_mem hi))
 refine right_more (t':=wI s.tabs[i] (s.tabs[i].ixs ++ [y])) hr hi rfl rfl rfl ?_ ?_ ?_ hv hfl
 ·exact tab_iff.2 ⟨⟨a1,a2,by simp;omega,a4⟩,b,c,d,e1,parts_add e2 h2 h5 hne,e3⟩
 ·rw [link_iff]
  refine ⟨fun x hx=>?_,hl.2⟩
  rcases List.mem_append.1 hx with q | q
  ·exact hl.1 x q
  ·rw [List.mem_singleton.1 q]
   exact h3
 ·unfold idsT
  rw [List.map_append,List.map_singleton,h1]
  have:=perm_in (n:=s.last+1) (a:=s.tabs[i].id) (x:=s.tabs[i].cols.map Col.id ++ (s.tabs[i].ixs.map Ix.id ++ [s.last+1]) ++ s.tabs[i].fks.map Fk.id) (y:=s.tabs[i].cols.map Col.id ++ s.tabs[i].ixs.map Ix.id) (z:=s.tabs[i].fks.map Fk.id) (by simp)
  simpa using this
theorem rx_cut {k:Nat}:rightS ⟨s.ver+1,s.last,s.tabs.set i (wI s.tabs[i] (s.tabs[i].ixs.take k ++ s.tabs[i].ixs.drop (k+1)))⟩=true:=by
 obtain ⟨_,_,_,q4,_,_,_,q8⟩:=right_iff.1 hr
 obtain ⟨⟨a1,a2,a3,a4⟩,b,c,d,e1,e2,e3⟩:=tab_iff.1 (q4 _ (List.getElem_mem hi))
 have hl:=link_iff.1 (q8 _ (List.getElem_mem hi))
 have hs:=cut_sub s.tabs[i].ixs k
 refine right_sub (t':=wI s.tabs[i] (s.tabs[i].ixs.take k ++ s.tabs[i].ixs.drop (k+1))) hr hi rfl rfl rfl ?_ ?_ (ids_sub3 rfl (List.Sublist.refl _) (hs.map _) (List.Sublist.refl _)) hv
 ·exact tab_iff.2 ⟨⟨a1,a2,Nat.le_trans hs.length_le a3,a4⟩,b,c,d,e1,parts_sub e2 hs,e3⟩
 ·rw [link_iff]
  exact ⟨fun x hx=>hl.1 x (hs.subset hx),hl.2⟩
theorem rf_set {k:Nat} {y:Fk} (hk:k < s.tabs[i].fks.length) (h1:y.id=s.tabs[i].fks[k].id) (h2:y.nm=s.tabs[i].fks[k].nm) (h3:y.col=s.tabs[i].fks[k].col∧y.par=s.tabs[i].fks[k].par) (h5:stB y.st=true):rightS ⟨s.ver+1,s.last,s.tabs.set i (wK s.tabs[i] (s.tabs[i].fks.set k y))⟩=true:=by
 obtain ⟨_,_,_,q4,_,_,_,q8⟩:=right_iff.1 hr
 obtain ⟨⟨a1,a2,a3,a4⟩,b,c,d,e1,e2,e3⟩:=tab_iff.1 (q4 _ (List.getElem_mem hi))
 have hl:=link_iff.1 (q8 _ (List.getElem_mem hi))
 refine right_sub (t':=wK s.tabs[i] (s.tabs[i].fks.set k y)) hr hi rfl rfl rfl ?_ ?_ (ids_sub3 rfl (List.Sublist.refl _) (List.Sublist.refl _) (by rw [map_set_same hk h1];exact List.Sublist.refl _)) hv
 ·exact tab_iff.2 ⟨⟨a1,a2,a3,by simpa using a4⟩,b,c,d,e1,e2,parts_set e3 hk h2 h5⟩
 ·rw [link_iff]
  refine ⟨hl.1,fun x hx=>?_⟩
  rcases List.mem_or_eq_of_mem_set hx with q | q
  ·exact hl.2 x q
  ·rw [q]
   show fkAns (colKd s.tabs[i].cols y.col) (tabKd s.tabs y.par)=true
   rw [h3.1,h3.2]
   exact hl.2 _ (List.getElem_mem hk)
theorem rf_add {y:Fk} (hfl:farB (s.last+1)=true) (h1:y.id=s.last+1) (h2:nameB y.nm=true) (h3:fkAns (colKd s.tabs[i].cols y.col) (tabKd s.tabs y.par)=true) (h5:stB y.st=true) (hne:∀ x ∈ s.tabs[i].fks,x.nm ≠ y.nm) (hlen:s.tabs[i].fks.length ≠ 8):rightS ⟨s.ver+1,s.last+1,s.tabs.set i (wK s.tabs[i] (s.tabs[i].fks ++ [y]))⟩=true:=by
 obtain ⟨_,_,_,q4,_,_,_,q8⟩:=right_iff.1 hr
 obtain ⟨⟨a1,a2,a3,a4⟩,b,c,d,e1,e2,e3⟩:=tab_iff.1 (q4 _ (List.getElem_mem hi))
 have hl:=link_iff.1 (q8 _ (List.getElem_mem hi))
 refine right_more (t':=wK s.tabs[i] (s.tabs[i].fks ++ [y])) hr hi rfl rfl rfl ?_ ?_ ?_ hv hfl
 ·exact tab_iff.2 ⟨⟨a1,a2,a3,by simp;omega⟩,b,c,d,e1,e2,parts_add e3 h2 h5 hne⟩
 ·rw [link_iff]
  refine ⟨hl.1,fun x hx=>?_⟩
  rcases List.mem_append.1 hx with q | q
  ·exact hl.2 x q
  ·rw [List.mem_singleton.1 q]
   exact h3
 ·unfold idsT
  rw [List.map_append,List.map_singleton,h1]
  have:=perm_in (n:=s.last+1) (a:=s.tabs[i].id) (x:=s.tabs[i].cols.map Col.id ++ s.tabs[i].ixs.map Ix.id ++ (s.tabs[i].fks.map Fk.id ++ [s.last+1])) (y:=s.tabs[i].cols.map Col.id ++ s.tabs[i].ixs.map Ix.id ++ s.tabs[i].fks.map Fk.id) (z:=[]) (by simp)
  simpa using this
theorem rf_cut {k:Nat}:rightS ⟨s.ver+1,s.last,s.tabs.set i (wK s.tabs[i] (s.tabs[i].fks.take k ++ s.tabs[i].fks.drop (k+1)))⟩=true:=by
 obtain ⟨_,_,_,q4,_,_,_,q8⟩:=right_iff.1 hr
 obtain ⟨⟨a1,a2,a3,a4⟩,b,c,d,e1,e2,e3⟩:=tab_iff.1 (q4 _ (List.getElem_mem hi))
 have hl:=link_iff.1 (q8 _ (List.getElem_mem hi))
 have hs:=cut_sub s.tabs[i].fks k
 refine right_sub (t':=wK s.tabs[i] (s.tabs[i].fks.take k ++ s.tabs[i].fks.drop (k+1))) hr hi rfl rfl rfl ?_ ?_ (ids_sub3 rfl (List.Sublist.refl _) (List.Sublist.refl _) (hs.map _)) hv
 ·exact tab_iff.2 ⟨⟨a1,a2,a3,Nat.le_trans hs.length_le a4⟩,b,c,d,e1,e2,parts_sub e3 hs⟩
 ·rw [link_iff]
  exact ⟨hl.1,fun x hx=>hl.2 x (hs.subset hx)⟩
end
theorem fresh_len:∀ (k:Int) (l:List Col),(freshC k l).length=l.length
 | _,[]=>rfl
 | k,c :: r=>by unfold freshC;rw [List.length_cons,fresh_len (k+1) r,List.length_cons]
theorem fresh_nm:∀ (k:Int) (l:List Col),(freshC k l).map Col.nm=l.map Col.nm
 | _,[]=>rfl
 | k,c :: r=>by unfold freshC;rw [List.map_cons,fresh_nm (k+1) r,List.map_cons]
theorem fresh_mem:∀ (k:Int) (l:List Col),∀ x ∈ freshC k l,x.st=3∧x.df=⟨0,0,⟨#[]⟩⟩∧(k≤x.id∧x.id < k+l.length)∧∃ c ∈ l,x.nm=c.nm∧x.kd=c.kd
 | _,[],x,hx=>by cases hx
 | k,c :: r,x,hx=>by
  unfold freshC at hx
  rcases List.mem_cons.1 hx with rfl | hx
  ·exact ⟨rfl,rfl,⟨by simp,by simp only [List.length_cons];omega⟩,c,by simp,rfl,rfl⟩
  ·obtain ⟨h1,h2,h3,c',hc,h4⟩:=fresh_mem (k+1) r x hx
   exact ⟨h1,h2,⟨by omega,by simp only [List.length_cons];omega⟩,c',by simp [hc],h4⟩
theorem fresh_nodup:∀ (k:Int) (l:List Col),((freshC k l).map Col.id).Nodup
 | _,[]=>by simp [freshC]
 | k,c :: r=>by
  unfold freshC
  rw [List.map_cons,List.nodup_cons]
  refine ⟨fun q=>?_,fresh_nodup (k+1) r⟩
  obtain ⟨x,hx,e⟩:=List.mem_map.1 q
  have:=(fresh_mem (k+1) r x hx).2.2.1.1
  have e':x.id=k:=e
  omega
theorem null_right:rightB 0 0 ⟨#[]⟩=true:=by kernel_rfl
theorem create_right {s s':Sc} {d:Dd} {st:Int} (hr:rightS s=true) (h:createS s d st=.ok s') (hv:farB (s.ver+1)=true) (hfl:farB (s.last+9)=true):rightS s'=true:=by
 unfold createS at h
 split at h
 ·cases h
 rename_i g1
 split at h
 ·cases h
 rename_i g2
 split at h
 ·cases h
 rename_i g3
 split at h
 ·cases h
 rename_i g4
 split at h
 ·cases h
 cases h
 obtain ⟨q1,q2,q3,q4,q5,q6,q7,q8⟩:=right_iff.1 hr
 have hn:nameB d.table=true:=by
  cases e:nameB d.table with
  | true=>rfl
  | false=>exact absurd (Or.inl e) g1
 have hcn:∀ c ∈ d.cols,nameB c.nm=true:=by
  have:d.cols.all (fun c=>nameB c.nm)=true:=by
   cases e:d.cols.all (fun c=>nameB c.nm) with
   | true=>rfl
   | false=>exact absurd (Or.inr e) g1
  simpa using this
 have hck:∀ c ∈ d.cols,kindB c.kd=true:=by
  have:d.cols.all (fun c=>kindB c.kd)=true:=by
   cases e:d.cols.all (fun c=>kindB c.kd) with
   | true=>rfl
   | false=>exact absurd e g4
  simpa using this
 have hany:s.tabs.any (fun t=>decide (t.nm=d.table))=false:=by
  cases e:s.tabs.any (fun t=>decide (t.nm=d.table)) with
  | false=>rfl
  | true=>exact absurd (Or.inl e) g2
 have hnd:(d.cols.map Col.nm).Nodup:=Classical.byContradiction fun q=>g2 (Or.inr q)
 have hne:∀ t ∈ s.tabs,t.nm ≠ d.table:=fun t ht q=>by
  rw [List.any_eq_false] at hany
  exact hany t ht (by simpa using q)
 have b0:0≤s.last:=by
  unfold farB at q2
  simp only [Bool.and_eq_true,decide_eq_true_eq] at q2
  exact q2.1
 have b9:s.last+9≤1125899906842624:=by
  unfold farB at hfl
  simp only [Bool.and_eq_true,decide_eq_true_eq] at hfl
  exact hfl.2
 have hlen:1≤d.cols.length∧d.cols.length≤8∧s.tabs.length ≠ 6:=by omega
 have hids:idsT ⟨s.last+1,d.table,freshC (s.last+2) d.cols,[],[]⟩=(s.last+1) :: (freshC (s.last+2) d.cols).map Col.id:=by
  unfold idsT
  simp
 have hidm:∀ j ∈ idsT ⟨s.last+1,d.table,freshC (s.last+2) d.cols,[],[]⟩,s.last+1≤j∧j≤s.last+1+d.cols.length:=by
  rw [hids]
  intro j hj
  rcases List.mem_cons.1 hj with rfl | hj
  ·omega
  ·obtain ⟨x,hx,rfl⟩:=List.mem_map.1 hj
   have:=(fresh_mem _ _ x hx).2.2.1
   omega
 have hidS:idsS (s.tabs ++ [⟨s.last+1,d.table,freshC (s.last+2) d.cols,[],[]⟩])=idsS s.tabs ++ idsT ⟨s.last+1,d.table,freshC (s.last+2) d.cols,[],[]⟩:=by
  unfold idsS
  rw [List.flatMap_append,List.flatMap_singleton]
 refine right_iff.2 ⟨hv,?_,?_,fun t ht=>?_,fun j hj=>?_,?_,?_,fun t ht=>?_⟩
 ·unfold farB
  simp only [Bool.and_eq_true,decide_eq_true_eq]
  show 0≤s.last+1+(d.cols.length:Int)∧s.last+1+(d.cols.length:Int)≤1125899906842624
  omega
 ·show (s.tabs ++ [_]).length≤6
  rw [List.length_append,List.length_singleton]
  omega
 ·rcases List.mem_append.1 ht with q | q
  ·exact q4 t q
  ·rw [List.mem_singleton.1 q]
   have hfl2:=fresh_len (s.last+2) d.cols
   refine tab_iff.2 ⟨⟨by show 1≤(freshC _ _).length;omega,by show (freshC _ _).length≤8;omega,by simp,by simp⟩,hn,fun c hc=>?_,?_,?_,?_,?_⟩
   ·obtain ⟨_,h2,_,c',hc',_,h4⟩:=fresh_mem _ _ c hc
    rw [h2,h4]
    refine ⟨hck c' hc',?_⟩
    unfold fitB
    simp [null_right]
   ·cases e:freshC (s.last+2) d.cols with
    | nil=>rw [e] at hfl2;simp at hfl2;omega
    | cons c r=>exact key_of rfl (fresh_mem (s.last+2) d.cols c (by rw [e];simp)).1
   ·refine parts_iff.2 ⟨fun c hc=>?_,by rw [fresh_nm];exact hnd⟩
    obtain ⟨h1,_,_,c',hc',h3,_⟩:=fresh_mem _ _ c hc
    rw [h1,h3]
    exact ⟨hcn c' hc',rfl⟩
   ·exact parts_iff.2 ⟨fun c hc=>(by cases hc),by simp⟩
   ·exact parts_iff.2 ⟨fun c hc=>(by cases hc),by simp⟩
 ·have hj':j ∈ idsS s.tabs ++ idsT ⟨s.last+1,d.table,freshC (s.last+2) d.cols,[],[]⟩:=by rw [← hidS];exact hj
  show 1≤j∧j≤s.last+1+(d.cols.length:Int)
  rcases List.mem_append.1 hj' with q | q
  ·have:=q5 j q
   omega
  ·have:=hidm j q
   omega
 ·show (idsS (s.tabs ++ [_])).Nodup
  rw [hidS,List.nodup_append]
  refine ⟨q6,?_,fun a ha b hb e=>?_⟩
  ·rw [hids,List.nodup_cons]
   refine ⟨fun q=>?_,fresh_nodup _ _⟩
   obtain ⟨x,hx,e⟩:=List.mem_map.1 q
   have:=(fresh_mem _ _ x hx).2.2.1.1
   have e':x.id=s.last+1:=e
   omega
  ·have z1:=(q5 a ha).2
   have z2:=(hidm b hb).1
   omega
 ·show ((s.tabs ++ [_]).map Tb.nm).Nodup
  rw [List.map_append,List.nodup_append]
  refine ⟨q7,by simp,fun a ha b hb e=>?_⟩
  obtain ⟨x,hx,rfl⟩:=List.mem_map.1 ha
  have hb':b=d.table:=by simpa using hb
  exact hne x hx (e.trans hb')
 ·show linkB (s.tabs ++ [_]) t=true
  rcases List.mem_append.1 ht with q | q
  ·have:=link_iff.1 (q8 t q)
   refine link_iff.2 ⟨this.1,fun k hk=>?_⟩
   obtain ⟨kk,z1,z2⟩:=fkAns_some (this.2 k hk)
   rw [z1,tabKd_some z2]
   unfold fkAns
   simp
  ·rw [List.mem_singleton.1 q]
   exact link_iff.2 ⟨fun x hx=>(by cases hx),fun x hx=>(by cases hx)⟩
end Go.Proofs.YtongmhfpoopebaaGreat
namespace Go.Proofs.YtongmhfpoopebaaGreat
section
variable {α : Type} {nm : α → ByteArray} {stt : α → Int} {put : Int → α → α} {l l' : List α} {name : ByteArray} {st : Int} {new : Except Int α} {b : Bool}
theorem addL_ok (h:addL nm stt put l name st new=.ok (l',b)):(∃ (k:Nat) (hk:k < l.length),l.findIdx? (fun x=>decide (nm x=name))=some k∧nm l[k]=name∧stt l[k] ≠ 3∧l'=setAt st k (put st) l∧b=false) ∨ (l.findIdx? (fun x=>decide (nm x=name))=none∧nameB name=true∧l.length ≠ 8∧∃ x,new=.ok x∧st ≠ 0∧l'=l ++ [put st x]∧b=true):=by
 unfold addL at h
 cases e:l.findIdx? (fun x=>decide (nm x=name)) with
 | some k =>
  rw [e] at h
  obtain ⟨hk,hp⟩:=idx_some e
  simp only at h
  split at h
  ·cases h
  ·rename_i g
   cases h
   refine .inl ⟨k,hk,rfl,by simpa using hp,fun q=>g ?_,rfl,rfl⟩
   rw [List.getElem?_eq_getElem hk]
   simp [q]
 | none =>
  rw [e] at h
  simp only at h
  split at h
  ·cases h
  rename_i g1
  split at h
  ·cases h
  rename_i g2
  cases en:new with
  | error er=>rw [en] at h;cases h
  | ok x =>
   rw [en] at h
   simp only at h
   split at h
   ·cases h
   rename_i g3
   cases h
   refine .inr ⟨rfl,by simpa using g1,g2,x,rfl,g3,rfl,rfl⟩
variable {no : Int} {used : Nat → α → Bool}
theorem dropL_ok (h:dropL nm put l name st no used=.ok l'):∃ (k:Nat) (hk:k < l.length),l.findIdx? (fun x=>decide (nm x=name))=some k∧nm l[k]=name∧used k l[k]=false∧l'=setAt st k (put st) l:=by
 unfold dropL at h
 cases e:l.findIdx? (fun x=>decide (nm x=name)) with
 | none=>rw [e] at h;cases h
 | some k =>
  rw [e] at h
  obtain ⟨hk,hp⟩:=idx_some e
  simp only at h
  split at h
  ·cases h
  ·rename_i g
   cases h
   refine ⟨k,hk,rfl,by simpa using hp,?_,rfl⟩
   cases q:used k l[k] with
   | false=>rfl
   | true=>exact absurd (by rw [List.getElem?_eq_getElem hk];simp [q]) g
end
theorem ids_tabs:∀ l:List Tb,(l.map Tb.id).Sublist (idsS l)
 | []=>List.Sublist.refl _
 | t :: l=>by
  have h:=ids_tabs l
  unfold idsS at h ⊢
  rw [List.map_cons,List.flatMap_cons]
  unfold idsT
  rw [List.cons_append]
  exact (h.trans (List.sublist_append_right _ _)).cons_cons _
theorem ids_cols {l:List Tb} {i:Nat} (hi:i < l.length):(l[i].cols.map Col.id).Sublist (idsS l):=by
 rw [ids_self hi]
 refine List.Sublist.trans ?_ (List.sublist_append_right _ _)
 refine List.Sublist.trans ?_ (List.sublist_append_left _ _)
 unfold idsT
 refine List.Sublist.trans ?_ (List.sublist_cons_self _ _)
 rw [List.append_assoc]
 exact List.sublist_append_left _ _
theorem stB_of {st:Int} (h0:0≤st) (h3:st≤3) (hn:st ≠ 0):stB st=true:=by
 unfold stB
 simp only [Bool.and_eq_true,decide_eq_true_eq]
 omega
theorem idx_not {α:Type} {nm:α→ByteArray} {l:List α} {name:ByteArray} (h:l.findIdx? (fun x=>decide (nm x=name))=none):∀ x ∈ l,nm x ≠ name:=fun x hx=>by
 simpa using idx_none h x hx
theorem turn_parts {s s':Sc} {d:Dd} {st:Int} (h:turnS s d st=.ok s'):rightS s=true∧0≤st∧st≤3∧changeS s d st=.ok s':=by
 unfold turnS at h
 split at h
 ·cases h
 ·rename_i g
  refine ⟨?_,by omega,by omega,h⟩
  cases e:rightS s with
  | true=>rfl
  | false=>exact absurd (Or.inl e) g
theorem change_parts {s s':Sc} {d:Dd} {st:Int} (h:changeS s d st=.ok s'):(d.kind=1∧createS s d st=.ok s') ∨ ((2≤d.kind∧d.kind≤7)∧∃ (i:Nat) (hi:i < s.tabs.length),s.tabs.findIdx? (fun t=>decide (t.nm=d.table))=some i∧s.tabs[i].nm=d.table∧changeT s d st i s.tabs[i]=.ok s'):=by
 unfold changeS at h
 split at h
 ·cases h
 rename_i g1
 split at h
 ·rename_i g2
  exact .inl ⟨g2,h⟩
 rename_i g2
 cases e:s.tabs.findIdx? (fun t=>decide (t.nm=d.table)) with
 | none=>rw [e] at h;cases h
 | some i =>
  rw [e] at h
  obtain ⟨hi,hp⟩:=idx_some e
  simp only [List.getElem?_eq_getElem hi] at h
  exact .inr ⟨by omega,i,hi,rfl,by simpa using hp,h⟩
theorem far_in {n:Int} (h:farB n=true):0≤n∧n≤1125899906842624:=by
 unfold farB at h
 simpa only [Bool.and_eq_true,decide_eq_true_eq] using h
theorem far_of {n:Int} (h0:0≤n) (h1:n≤1125899906842624):farB n=true:=by
 unfold farB
 simp only [Bool.and_eq_true,decide_eq_true_eq]
 exact ⟨h0,h1⟩
theorem turn_right {s s':Sc} {d:Dd} {st:Int} (h:turnS s d st=.ok s') (hv:s.ver+1≤1125899906842624) (hl:s.last+9≤1125899906842624) (hn:¬ (d.kind=4∧st=0)):rightS s'=true:=by
 obtain ⟨hr,h0,h3,hc⟩:=turn_parts h
 obtain ⟨q1,q2,q3,q4,q5,q6,q7,q8⟩:=right_iff.1 hr
 have v0:=far_in q1
 have l0:=far_in q2
 have hv':farB (s.ver+1)=true:=far_of (by omega) (by omega)
 have hf1:farB (s.last+1)=true:=far_of (by omega) (by omega)
 rcases change_parts hc with ⟨_,h1⟩ | ⟨hk,i,hi,_,_,ht⟩
 ·exact create_right hr h1 hv' (far_of (by omega) (by omega))
 have hkey:=(tab_iff.1 (q4 _ (List.getElem_mem hi))).2.2.2.1
 obtain ⟨c0,cr,ec,es⟩:=key_cons hkey
 unfold changeT at ht
 split at ht
 ·rename_i k4
  cases e:addL Col.nm Col.st putC s.tabs[i].cols d.column st (newC s d) with
  | error er=>rw [e] at ht;cases ht
  | ok r =>
   obtain ⟨l,b⟩:=r
   rw [e] at ht
   cases ht
   rcases addL_ok e with ⟨k,hk',_,e1,e2,rfl,rfl⟩ | ⟨en,e1,e2,x,ex,e3,rfl,rfl⟩
   ·have hs:st ≠ 0:=fun q=>hn ⟨k4,q⟩
    have hk0:k ≠ 0:=fun q=>by
     subst q
     apply e2
     simp only [ec,List.getElem_cons_zero]
     exact es
    rw [setAt_one hs hk']
    exact rc_set hr hi hv' hk' rfl rfl rfl rfl (stB_of h0 h3 hs) hk0
   ·unfold newC at ex
    split at ex
    ·rename_i g
     cases ex
     simp only [Bool.and_eq_true] at g
     exact rc_add hr hi hv' hf1 rfl e1 g.1 g.2 (stB_of h0 h3 e3) (idx_not en) e2
    ·cases ex
 split at ht
 ·cases e:addL Ix.nm Ix.st putI s.tabs[i].ixs d.name st (newI s s.tabs[i] d) with
  | error er=>rw [e] at ht;cases ht
  | ok r =>
   obtain ⟨l,b⟩:=r
   rw [e] at ht
   cases ht
   rcases addL_ok e with ⟨k,hk',_,e1,e2,rfl,rfl⟩ | ⟨en,e1,e2,x,ex,e3,rfl,rfl⟩
   ·by_cases hs:st=0
    ·subst hs
     rw [setAt_none]
     exact rx_cut hr hi hv'
    ·rw [setAt_one hs hk']
     exact rx_set hr hi hv' hk' rfl rfl rfl (stB_of h0 h3 hs)
   ·unfold newI at ex
    cases ep:pubC s.tabs[i] d.column with
    | none=>rw [ep] at ex;cases ex
    | some c =>
     rw [ep] at ex
     cases ex
     have hm:c ∈ s.tabs[i].cols:=List.mem_of_find?_eq_some ep
     refine rx_add hr hi hv' hf1 rfl e1 ?_ (stB_of h0 h3 e3) (idx_not en) e2
     rw [← any_colKd]
     exact List.any_eq_true.2 ⟨c,hm,by simp [putI]⟩
 split at ht
 ·cases e:addL Fk.nm Fk.st putK s.tabs[i].fks d.name st (newK s s.tabs[i] d) with
  | error er=>rw [e] at ht;cases ht
  | ok r =>
   obtain ⟨l,b⟩:=r
   rw [e] at ht
   cases ht
   rcases addL_ok e with ⟨k,hk',_,e1,e2,rfl,rfl⟩ | ⟨en,e1,e2,x,ex,e3,rfl,rfl⟩
   ·by_cases hs:st=0
    ·subst hs
     rw [setAt_none]
     exact rf_cut hr hi hv'
    ·rw [setAt_one hs hk']
     exact rf_set hr hi hv' hk' rfl rfl ⟨rfl,rfl⟩ (stB_of h0 h3 hs)
   ·unfold newK at ex
    cases ep:pubC s.tabs[i] d.column with
    | none=>rw [ep] at ex;cases ex
    | some c =>
     rw [ep] at ex
     simp only at ex
     cases et:s.tabs.find? (fun t=>decide (t.nm=d.parent)) with
     | none=>rw [et] at ex;cases ex
     | some p =>
      rw [et] at ex
      simp only at ex
      split at ex
      ·rename_i gk
       cases ex
       have hm:c ∈ s.tabs[i].cols:=List.mem_of_find?_eq_some ep
       have hp:p ∈ s.tabs:=List.mem_of_find?_eq_some et
       refine rf_add hr hi hv' hf1 rfl e1 ?_ (stB_of h0 h3 e3) (idx_not en) e2
       have c1:colKd s.tabs[i].cols c.id=some c.kd:=by
        unfold colKd
        rw [find_own ((ids_cols hi).nodup q6) hm]
        rfl
       have c2:tabKd s.tabs p.id=some (keyKd p):=by
        unfold tabKd
        rw [find_own ((ids_tabs s.tabs).nodup q6) hp]
        rfl
       show fkAns (colKd s.tabs[i].cols c.id) (tabKd s.tabs p.id)=true
       rw [c1,c2,gk]
       unfold fkAns
       simp
      ·cases ex
 split at ht
 ·cases e:dropL Col.nm putC s.tabs[i].cols d.column st 151 (usedB s.tabs[i]) with
  | error er=>rw [e] at ht;cases ht
  | ok l =>
   rw [e] at ht
   cases ht
   obtain ⟨k,hk',_,_,hu,rfl⟩:=dropL_ok e
   unfold usedB at hu
   simp only [Bool.or_eq_false_iff,decide_eq_false_iff_not,List.any_eq_false,decide_eq_true_eq] at hu
   obtain ⟨⟨hu0,hu1⟩,hu2⟩:=hu
   by_cases hs:st=0
   ·subst hs
    rw [setAt_none]
    exact rc_cut hr hi hv' hk' hu0 hu1 hu2
   ·rw [setAt_one hs hk']
    exact rc_set hr hi hv' hk' rfl rfl rfl rfl (stB_of h0 h3 hs) hu0
 split at ht
 ·cases e:dropL Ix.nm putI s.tabs[i].ixs d.name st 153 (fun _ _=>false) with
  | error er=>rw [e] at ht;cases ht
  | ok l =>
   rw [e] at ht
   cases ht
   obtain ⟨k,hk',_,_,_,rfl⟩:=dropL_ok e
   by_cases hs:st=0
   ·subst hs
    rw [setAt_none]
    exact rx_cut hr hi hv'
   ·rw [setAt_one hs hk']
    exact rx_set hr hi hv' hk' rfl rfl rfl (stB_of h0 h3 hs)
 ·cases e:dropL Fk.nm putK s.tabs[i].fks d.name st 153 (fun _ _=>false) with
  | error er=>rw [e] at ht;cases ht
  | ok l =>
   rw [e] at ht
   cases ht
   obtain ⟨k,hk',_,_,_,rfl⟩:=dropL_ok e
   by_cases hs:st=0
   ·subst hs
    rw [setAt_none]
    exact rf_cut hr hi hv'
   ·rw [setAt_one hs hk']
    exact rf_set hr hi hv' hk' rfl rfl ⟨rfl,rfl⟩ (stB_of h0 h3 hs)
end Go.Proofs.YtongmhfpoopebaaGreat
namespace Go.Proofs.YtongmhfpoopebaaGreat
theorem idx_map {l:List Tb} {n:ByteArray}:l.findIdx? (fun t=>decide (t.nm=n))=(l.map Tb.nm).findIdx? (fun m=>decide (m=n)):=by
 rw [List.findIdx?_map]
 rfl
theorem idx_set {l:List Tb} {i j:Nat} {t:Tb} {n:ByteArray} (hi:i < l.length) (ht:t.nm=l[i].nm) (h:l.findIdx? (fun t=>decide (t.nm=n))=some j):(l.set i t).findIdx? (fun t=>decide (t.nm=n))=some j:=by
 rw [idx_map] at h ⊢
 rw [names_set hi ht]
 exact h
def lx {α:Type} (put:Int→α→α) (A B:List α) (x:α) (st:Int):List α:=A ++ (if st=0 then [] else [put st x]) ++ B
section
variable {α : Type} {put : Int → α → α} {nm : α → ByteArray} {stt : α → Int} {A B : List α} {x : α} {st st' : Int} {name : ByteArray}
theorem lx_no:lx put A B x 0=A ++ B:=by
 unfold lx
 rw [if_pos rfl]
 simp
theorem lx_yes (h:st ≠ 0):lx put A B x st=A ++ put st x :: B:=by
 unfold lx
 rw [if_neg h]
 simp
theorem lx_get (h:st ≠ 0):(lx put A B x st)[A.length]?=some (put st x):=by
 rw [lx_yes h,List.getElem?_append_right (Nat.le_refl _),Nat.sub_self]
 rfl
theorem lx_idx (hA:∀ a ∈ A,nm a ≠ name) (hx:nm (put st x)=name) (h:st ≠ 0):(lx put A B x st).findIdx? (fun y=>decide (nm y=name))=some A.length:=by
 rw [lx_yes h,List.findIdx?_append]
 have:A.findIdx? (fun y=>decide (nm y=name))=none:=List.findIdx?_eq_none_iff.2 fun a ha=>by simpa using hA a ha
 rw [this,List.findIdx?_cons]
 simp [hx]
theorem lx_set (hp:∀ y,put st' (put st y)=put st' y) (h:st ≠ 0):setAt st' A.length (put st') (lx put A B x st)=lx put A B x st':=by
 have hl:A.length < (lx put A B x st).length:=by rw [lx_yes h];simp
 by_cases h':st'=0
 ·subst h'
  rw [setAt_none,lx_no,lx_yes h,List.take_left,List.drop_append]
  simp
 ·rw [setAt_one h' hl,lx_yes h']
  have e:(lx put A B x st)[A.length]=put st x:=by
   have:=lx_get (put:=put) (A:=A) (B:=B) (x:=x) h
   rw [List.getElem?_eq_getElem hl] at this
   exact Option.some.inj this
  rw [e,hp]
  have:lx put A B x st=A ++ put st x :: B:=lx_yes h
  rw [List.set_eq_take_append_cons_drop,if_pos hl,this,List.take_left,List.drop_append]
  simp
theorem lx_find (hA:∀ a ∈ A,nm a ≠ name) (hx:nm (put st x)=name) (h:st ≠ 0):(lx put A B x st).find? (fun y=>decide (nm y=name))=some (put st x):=by
 rw [lx_yes h,List.find?_append]
 have:A.find? (fun y=>decide (nm y=name))=none:=List.find?_eq_none.2 fun a ha=>by simpa using hA a ha
 rw [this,List.find?_cons]
 simp [hx]
theorem lx_split {l:List α} {k:Nat} (hk:k < l.length) (h:l.findIdx? (fun y=>decide (nm y=name))=some k):∃ A B,A.length=k∧l=A ++ l[k] :: B∧(∀ a ∈ A,nm a ≠ name):=by
 refine ⟨l.take k,l.drop (k+1),by rw [List.length_take];omega,by rw [← List.drop_eq_getElem_cons hk,List.take_append_drop],fun a ha=>?_⟩
 obtain ⟨j,hj,rfl⟩:=List.getElem_of_mem ha
 rw [List.length_take] at hj
 obtain ⟨_,_,hb⟩:=List.findIdx?_eq_some_iff_getElem.1 h
 rw [List.getElem_take]
 have:=hb j (by omega)
 simpa using this
end
section
variable {T : List Tb} {i : Nat} {t : Tb} {A B : List Col} {x : Col} {d : Dd} {v la st st' : Int}
theorem turnC (hi:i < T.length) (hT:T.findIdx? (fun t=>decide (t.nm=d.table))=some i) (ht:t.nm=T[i].nm) (hA:∀ a ∈ A,a.nm ≠ d.column) (hx:x.nm=d.column) (hr:rightS ⟨v,la,T.set i (wC t (lx putC A B x st))⟩=true) (hst:st ≠ 0) (hk:(d.kind=4∧st ≠ 3) ∨ d.kind=5) (h0:0≤st') (h3:st'≤3) (hu:d.kind=5→usedB (wC t (lx putC A B x st)) A.length (putC st x)=false):turnS ⟨v,la,T.set i (wC t (lx putC A B x st))⟩ d st'=.ok ⟨v+1,la,T.set i (wC t (lx putC A B x st'))⟩:=by
 have hidx:=idx_set (t:=wC t (lx putC A B x st)) hi ht hT
 have hxx:=lx_idx (put:=putC) (nm:=Col.nm) (A:=A) (B:=B) (x:=x) (st:=st) hA hx hst
 have hget:(T.set i (wC t (lx putC A B x st)))[i]?=some (wC t (lx putC A B x st)):=by
  rw [List.getElem?_set_self hi]
 have hset:=lx_set (put:=putC) (A:=A) (B:=B) (x:=x) (st:=st) (st':=st') (fun y=>rfl) hst
 have hss:∀ y,(T.set i (wC t (lx putC A B x st))).set i y=T.set i y:=fun y=>List.set_set ..
 unfold turnS
 rw [if_neg (by rw [hr];simp;omega)]
 unfold changeS
 rw [if_neg (by omega),if_neg (by omega)]
 simp only [hidx,hget]
 unfold changeT
 rcases hk with ⟨hk,hs3⟩ | hk
 ·rw [if_pos hk]
  have e:addL Col.nm Col.st putC (lx putC A B x st) d.column st' (newC ⟨v,la,T.set i (wC t (lx putC A B x st))⟩ d)=.ok (lx putC A B x st',false):=by
   unfold addL
   simp only [hxx,lx_get hst,Option.map_some,hset]
   rw [if_neg (show ¬ (some (putC st x).st=some 3) from fun q=>hs3 (Option.some.inj q))]
  show (match addL Col.nm Col.st putC (lx putC A B x st) d.column st' (newC ⟨v,la,T.set i (wC t (lx putC A B x st))⟩ d) with
   | Except.error e=>(Except.error e:Except Int Sc)
   | Except.ok (l,b)=>Except.ok (withC ⟨v,la,T.set i (wC t (lx putC A B x st))⟩ i (wC t (lx putC A B x st)) l b))=_
  rw [e]
  show Except.ok (Sc.mk (v+1) la ((T.set i (wC t (lx putC A B x st))).set i (wC t (lx putC A B x st'))))=_
  rw [hss]
 ·rw [if_neg (by omega),if_neg (by omega),if_neg (by omega),if_pos hk]
  have e:dropL Col.nm putC (lx putC A B x st) d.column st' 151 (usedB (wC t (lx putC A B x st)))=.ok (lx putC A B x st'):=by
   unfold dropL
   simp only [hxx,lx_get hst,Option.map_some,hset]
   rw [if_neg (fun q=>by
    have q':=Option.some.inj q
    rw [hu hk] at q'
    cases q')]
  show (match dropL Col.nm putC (lx putC A B x st) d.column st' 151 (usedB (wC t (lx putC A B x st))) with
   | Except.error e=>(Except.error e:Except Int Sc)
   | Except.ok l=>Except.ok (withC ⟨v,la,T.set i (wC t (lx putC A B x st))⟩ i (wC t (lx putC A B x st)) l false))=_
  rw [e]
  show Except.ok (Sc.mk (v+1) la ((T.set i (wC t (lx putC A B x st))).set i (wC t (lx putC A B x st'))))=_
  rw [hss]
end
section
variable {T : List Tb} {i : Nat} {t : Tb} {A B : List Ix} {x : Ix} {d : Dd} {v la st st' : Int}
theorem turnI (hi:i < T.length) (hT:T.findIdx? (fun t=>decide (t.nm=d.table))=some i) (ht:t.nm=T[i].nm) (hA:∀ a ∈ A,a.nm ≠ d.name) (hx:x.nm=d.name) (hr:rightS ⟨v,la,T.set i (wI t (lx putI A B x st))⟩=true) (hst:st ≠ 0) (hk:(d.kind=2∧st ≠ 3) ∨ d.kind=3) (h0:0≤st') (h3:st'≤3):turnS ⟨v,la,T.set i (wI t (lx putI A B x st))⟩ d st'=.ok ⟨v+1,la,T.set i (wI t (lx putI A B x st'))⟩:=by
 have hidx:=idx_set (t:=wI t (lx putI A B x st)) hi ht hT
 have hxx:=lx_idx (put:=putI) (nm:=Ix.nm) (A:=A) (B:=B) (x:=x) (st:=st) hA hx hst
 have hget:(T.set i (wI t (lx putI A B x st)))[i]?=some (wI t (lx putI A B x st)):=by
  rw [List.getElem?_set_self hi]
 have hset:=lx_set (put:=putI) (A:=A) (B:=B) (x:=x) (st:=st) (st':=st') (fun y=>rfl) hst
 have hss:∀ y,(T.set i (wI t (lx putI A B x st))).set i y=T.set i y:=fun y=>List.set_set ..
 unfold turnS
 rw [if_neg (by rw [hr];simp;omega)]
 unfold changeS
 rw [if_neg (by omega),if_neg (by omega)]
 simp only [hidx,hget]
 unfold changeT
 rcases hk with ⟨hk,hs3⟩ | hk
 ·rw [if_neg (by omega),if_pos hk]
  have e:addL Ix.nm Ix.st putI (lx putI A B x st) d.name st' (newI ⟨v,la,T.set i (wI t (lx putI A B x st))⟩ (wI t (lx putI A B x st)) d)=.ok (lx putI A B x st',false):=by
   unfold addL
   simp only [hxx,lx_get hst,Option.map_some,hset]
   rw [if_neg (show ¬ (some (putI st x).st=some 3) from fun q=>hs3 (Option.some.inj q))]
  show (match addL Ix.nm Ix.st putI (lx putI A B x st) d.name st' (newI ⟨v,la,T.set i (wI t (lx putI A B x st))⟩ (wI t (lx putI A B x st)) d) with
   | Except.error e=>(Except.error e:Except Int Sc)
   | Except.ok (l,b)=>Except.ok (withI ⟨v,la,T.set i (wI t (lx putI A B x st))⟩ i (wI t (lx putI A B x st)) l b))=_
  rw [e]
  show Except.ok (Sc.mk (v+1) la ((T.set i (wI t (lx putI A B x st))).set i (wI t (lx putI A B x st'))))=_
  rw [hss]
 ·rw [if_neg (by omega),if_neg (by omega),if_neg (by omega),if_neg (by omega),if_pos hk]
  have e:dropL Ix.nm putI (lx putI A B x st) d.name st' 153 (fun _ _=>false)=.ok (lx putI A B x st'):=by
   unfold dropL
   simp only [hxx,lx_get hst,Option.map_some,hset]
   rw [if_neg (fun q=>by
    have q':=Option.some.inj q
    skip
    cases q')]
  show (match dropL Ix.nm putI (lx putI A B x st) d.name st' 153 (fun _ _=>false) with
   | Except.error e=>(Except.error e:Except Int Sc)
   | Except.ok l=>Except.ok (withI ⟨v,la,T.set i (wI t (lx putI A B x st))⟩ i (wI t (lx putI A B x st)) l false))=_
  rw [e]
  show Except.ok (Sc.mk (v+1) la ((T.set i (wI t (lx putI A B x st))).set i (wI t (lx putI A B x st'))))=_
  rw [hss]
end
section
variable {T : List Tb} {i : Nat} {t : Tb} {A B : List Fk} {x : Fk} {d : Dd} {v la st st' : Int}
theorem turnK (hi:i < T.length) (hT:T.findIdx? (fun t=>decide (t.nm=d.table))=some i) (ht:t.nm=T[i].nm) (hA:∀ a ∈ A,a.nm ≠ d.name) (hx:x.nm=d.name) (hr:rightS ⟨v,la,T.set i (wK t (lx putK A B x st))⟩=true) (hst:st ≠ 0) (hk:(d.kind=6∧st ≠ 3) ∨ d.kind=7) (h0:0≤st') (h3:st'≤3):turnS ⟨v,la,T.set i (wK t (lx putK A B x st))⟩ d st'=.ok ⟨v+1,la,T.set i (wK t (lx putK A B x st'))⟩:=by
 have hidx:=idx_set (t:=wK t (lx putK A B x st)) hi ht hT
 have hxx:=lx_idx (put:=putK) (nm:=Fk.nm) (A:=A) (B:=B) (x:=x) (st:=st) hA hx hst
 have hget:(T.set i (wK t (lx putK A B x st)))[i]?=some (wK t (lx putK A B x st)):=by
  rw [List.getElem?_set_self hi]
 have hset:=lx_set (put:=putK) (A:=A) (B:=B) (x:=x) (st:=st) (st':=st') (fun y=>rfl) hst
 have hss:∀ y,(T.set i (wK t (lx putK A B x st))).set i y=T.set i y:=fun y=>List.set_set ..
 unfold turnS
 rw [if_neg (by rw [hr];simp;omega)]
 unfold changeS
 rw [if_neg (by omega),if_neg (by omega)]
 simp only [hidx,hget]
 unfold changeT
 rcases hk with ⟨hk,hs3⟩ | hk
 ·rw [if_neg (by omega),if_neg (by omega),if_pos hk]
  have e:addL Fk.nm Fk.st putK (lx putK A B x st) d.name st' (newK ⟨v,la,T.set i (wK t (lx putK A B x st))⟩ (wK t (lx putK A B x st)) d)=.ok (lx putK A B x st',false):=by
   unfold addL
   simp only [hxx,lx_get hst,Option.map_some,hset]
   rw [if_neg (show ¬ (some (putK st x).st=some 3) from fun q=>hs3 (Option.some.inj q))]
  show (match addL Fk.nm Fk.st putK (lx putK A B x st) d.name st' (newK ⟨v,la,T.set i (wK t (lx putK A B x st))⟩ (wK t (lx putK A B x st)) d) with
   | Except.error e=>(Except.error e:Except Int Sc)
   | Except.ok (l,b)=>Except.ok (withK ⟨v,la,T.set i (wK t (lx putK A B x st))⟩ i (wK t (lx putK A B x st)) l b))=_
  rw [e]
  show Except.ok (Sc.mk (v+1) la ((T.set i (wK t (lx putK A B x st))).set i (wK t (lx putK A B x st'))))=_
  rw [hss]
 ·rw [if_neg (by omega),if_neg (by omega),if_neg (by omega),if_neg (by omega),if_neg (by omega)]
  have e:dropL Fk.nm putK (lx putK A B x st) d.name st' 153 (fun _ _=>false)=.ok (lx putK A B x st'):=by
   unfold dropL
   simp only [hxx,lx_get hst,Option.map_some,hset]
   rw [if_neg (fun q=>by
    have q':=Option.some.inj q
    skip
    cases q')]
  show (match dropL Fk.nm putK (lx putK A B x st) d.name st' 153 (fun _ _=>false) with
   | Except.error e=>(Except.error e:Except Int Sc)
   | Except.ok l=>Except.ok (withK ⟨v,la,T.set i (wK t (lx putK A B x st))⟩ i (wK t (lx putK A B x st)) l false))=_
  rw [e]
  show Except.ok (Sc.mk (v+1) la ((T.set i (wK t (lx putK A B x st))).set i (wK t (lx putK A B x st'))))=_
  rw [hss]
end
end Go.Proofs.YtongmhfpoopebaaGreat
namespace Go.Proofs.YtongmhfpoopebaaGreat
def stOf {α:Type} (nm:α→ByteArray) (stt:α→Int) (l:List α) (name:ByteArray):Int:=match l.find? (fun y=>decide (nm y=name)) with
 | some x=>stt x
 | none=>0
def stateT (t:Tb) (d:Dd):Int:=if d.kind=1 then 3 else if d.kind=4 ∨ d.kind=5 then stOf Col.nm Col.st t.cols d.column else if d.kind=2 ∨ d.kind=3 then stOf Ix.nm Ix.st t.ixs d.name else stOf Fk.nm Fk.st t.fks d.name
def stateP (s:Sc) (d:Dd):Int:=match s.tabs.find? (fun t=>decide (t.nm=d.table)) with
 | some t=>stateT t d
 | none=>0
def cutN {α:Type} (nm:α→ByteArray) (l:List α) (name:ByteArray):List α:=match l.findIdx? (fun y=>decide (nm y=name)) with
 | some k=>l.take k ++ l.drop (k+1)
 | none=>l
def withoutT (d:Dd) (t:Tb):List Tb:=if t.nm ≠ d.table then [t] else if d.kind=1 then [] else if d.kind=4 ∨ d.kind=5 then [wC t (cutN Col.nm t.cols d.column)] else if d.kind=2 ∨ d.kind=3 then [wI t (cutN Ix.nm t.ixs d.name)] else if 6≤d.kind then [wK t (cutN Fk.nm t.fks d.name)] else [t]
def withoutP (s:Sc) (d:Dd):Sc:=⟨0,0,s.tabs.flatMap (withoutT d)⟩
def addK (k:Int):Bool:=decide (k=1) || decide (k=2) || decide (k=4) || decide (k=6)
theorem find_idx {α:Type} {p:α→Bool}:∀ {l:List α} {i:Nat} (hi:i < l.length),l.findIdx? p=some i→l.find? p=some l[i]
 | x :: l,i,hi,h=>by
  rw [List.findIdx?_cons] at h
  rw [List.find?_cons]
  cases e:p x with
  | true =>
   rw [e] at h
   simp only [if_true,Option.some.injEq] at h
   subst h
   rfl
  | false =>
   rw [e] at h
   simp only [Bool.false_eq_true,if_false,Option.map_eq_some_iff] at h
   obtain ⟨j,hj,rfl⟩:=h
   have:=find_idx (by simpa using hi) hj
   simpa using this
theorem state_at {s:Sc} {d:Dd} {i:Nat} (hi:i < s.tabs.length) (h:s.tabs.findIdx? (fun t=>decide (t.nm=d.table))=some i):stateP s d=stateT s.tabs[i] d:=by
 unfold stateP
 rw [find_idx hi h]
theorem state_set {T:List Tb} {v la:Int} {d:Dd} {i:Nat} {t:Tb} (hi:i < T.length) (ht:t.nm=T[i].nm) (h:T.findIdx? (fun t=>decide (t.nm=d.table))=some i):stateP ⟨v,la,T.set i t⟩ d=stateT t d:=by
 have hi':i < (T.set i t).length:=by rw [List.length_set];exact hi
 rw [state_at (s:=⟨v,la,T.set i t⟩) hi' (idx_set hi ht h)]
 show stateT ((T.set i t)[i]) d=_
 rw [List.getElem_set_self]
theorem without_set {T:List Tb} {v la v' la':Int} {d:Dd} {i:Nat} {t:Tb} (hi:i < T.length) (h:withoutT d t=withoutT d T[i]):withoutP ⟨v,la,T.set i t⟩ d=withoutP ⟨v',la',T⟩ d:=by
 have e:(T.set i t).flatMap (withoutT d)=T.flatMap (withoutT d):=by
  have e1:T.flatMap (withoutT d)=(T.set i T[i]).flatMap (withoutT d):=by rw [List.set_getElem_self]
  rw [e1,List.set_eq_take_append_cons_drop,if_pos hi,List.set_eq_take_append_cons_drop,if_pos hi,List.flatMap_append,List.flatMap_cons,List.flatMap_append,List.flatMap_cons,h]
 unfold withoutP
 simp only [e]
section
variable {α : Type} {put : Int → α → α} {nm : α → ByteArray} {stt : α → Int} {A B : List α} {x : α} {st : Int} {name : ByteArray}
theorem st_lx (hA:∀ a ∈ A,nm a ≠ name) (hB:∀ a ∈ B,nm a ≠ name) (hx:nm (put st x)=name) (hs:stt (put st x)=st):stOf nm stt (lx put A B x st) name=st:=by
 unfold stOf
 by_cases h:st=0
 ·subst h
  rw [lx_no]
  have:(A ++ B).find? (fun y=>decide (nm y=name))=none:=List.find?_eq_none.2 fun a ha=>by
   rcases List.mem_append.1 ha with q | q
   ·simpa using hA a q
   ·simpa using hB a q
  rw [this]
 ·rw [lx_find hA hx h]
  exact hs
theorem cut_lx (hA:∀ a ∈ A,nm a ≠ name) (hB:∀ a ∈ B,nm a ≠ name) (hx:nm (put st x)=name):cutN nm (lx put A B x st) name=A ++ B:=by
 unfold cutN
 by_cases h:st=0
 ·subst h
  rw [lx_no]
  have:(A ++ B).findIdx? (fun y=>decide (nm y=name))=none:=List.findIdx?_eq_none_iff.2 fun a ha=>by
   rcases List.mem_append.1 ha with q | q
   ·simpa using hA a q
   ·simpa using hB a q
  rw [this]
 ·rw [lx_idx hA hx h]
  simp only
  rw [lx_yes h,List.take_left,List.drop_append]
  simp
end
structure Along (s:Sc) (d:Dd) (F:Int→Int→Sc):Prop where
 go:d.kind ≠ 1→∀ v st st',st ≠ 0→(addK d.kind=true→st ≠ 3)→rightS (F v st)=true→0≤st'→st'≤3→turnS (F v st) d st'=.ok (F (v+1) st')
 st:∀ v st,d.kind ≠ 1 ∨ st=3→stateP (F v st) d=st
 wo:∀ v st,withoutP (F v st) d=withoutP s d
 ver:∀ v st,(F v st).ver=v
 last:∀ v st,(F v st).last≤s.last+9
 none:d.kind ≠ 1→addK d.kind=true→∀ v,(F v 0).tabs=s.tabs
theorem nodup_behind {α:Type} {nm:α→ByteArray} {A B:List α} {x:α} {name:ByteArray} (h:((A ++ x :: B).map nm).Nodup) (hx:nm x=name):∀ b ∈ B,nm b ≠ name:=fun b hb q=>by
 rw [List.map_append,List.map_cons,List.nodup_append] at h
 have:=(List.nodup_cons.1 h.2.1).1
 exact this (List.mem_map.2 ⟨b,hb,q.trans hx.symm⟩)
theorem stateC {t:Tb} {d:Dd} (hk:d.kind=4 ∨ d.kind=5):stateT t d=stOf Col.nm Col.st t.cols d.column:=by unfold stateT;rw [if_neg (by omega),if_pos (by omega)]
theorem withoutC {t:Tb} {d:Dd} (hk:d.kind=4 ∨ d.kind=5) (ht:t.nm=d.table):withoutT d t=[wC t (cutN Col.nm t.cols d.column)]:=by
 unfold withoutT
 rw [if_neg (by simpa using ht),if_neg (by omega),if_pos (by omega)]
theorem alongC {s:Sc} {d:Dd} {i:Nat} {A B:List Col} {x:Col} {la:Int} (hi:i < s.tabs.length) (hT:s.tabs.findIdx? (fun t=>decide (t.nm=d.table))=some i) (hnm:s.tabs[i].nm=d.table) (hk:d.kind=4 ∨ d.kind=5) (hA:∀ a ∈ A,a.nm ≠ d.column) (hB:∀ a ∈ B,a.nm ≠ d.column) (hx:x.nm=d.column) (hl:s.tabs[i].cols=A ++ B∧d.kind=4 ∨ s.tabs[i].cols=A ++ x :: B) (hla:la≤s.last+9) (hu:d.kind=5→usedB s.tabs[i] A.length x=false) (hadd:d.kind=4→s.tabs[i].cols=A ++ B):Along s d (fun v st=>⟨v,la,s.tabs.set i (wC s.tabs[i] (lx putC A B x st))⟩) where
 go:=fun _ v st st' h0 h3 hr h1 h2=>turnC (t:=s.tabs[i]) hi hT rfl hA hx hr h0 (by
  rcases hk with q | q
  ·exact .inl ⟨q,h3 (by rw [q];rfl)⟩
  ·exact .inr q) h1 h2 (fun q=>by have:=hu q;unfold usedB at this ⊢;exact this)
 st:=fun v st _=>by
  rw [state_set (t:=wC s.tabs[i] (lx putC A B x st)) hi rfl hT,stateC hk]
  exact st_lx (put:=putC) hA hB hx rfl
 wo:=fun v st=>by
  refine without_set (v':=s.ver) (la':=s.last) hi ?_
  rw [withoutC (t:=wC s.tabs[i] (lx putC A B x st)) hk hnm,withoutC (t:=s.tabs[i]) hk hnm]
  show [wC s.tabs[i] (cutN Col.nm (lx putC A B x st) d.column)]=[wC s.tabs[i] (cutN Col.nm s.tabs[i].cols d.column)]
  rw [cut_lx (put:=putC) (nm:=Col.nm) (st:=st) hA hB hx]
  rcases hl with ⟨q,_⟩ | q
  ·rw [q]
   have:=cut_lx (put:=putC) (nm:=Col.nm) (st:=0) (x:=x) hA hB hx
   rw [lx_no] at this
   rw [this]
  ·rw [q]
   have:=cut_lx (put:=fun _ y=>y) (nm:=Col.nm) (st:=1) (x:=x) hA hB hx
   rw [lx_yes (by decide)] at this
   rw [this]
 ver:=fun _ _=>rfl
 last:=fun _ _=>hla
 none:=fun _ ha v=>by
  have h4:d.kind=4:=by
   rcases hk with q | q
   ·exact q
   ·rw [q] at ha;cases ha
  show s.tabs.set i (wC s.tabs[i] (lx putC A B x 0))=s.tabs
  rw [lx_no,← hadd h4]
  exact List.set_getElem_self hi
theorem first_addC {s s1:Sc} {d:Dd} {st:Int} (hk:d.kind=4) (h0:stateP s d=0) (h:turnS s d st=.ok s1):∃ F,Along s d F∧s1=F (s.ver+1) st:=by
 obtain ⟨hr,hs0,hs3,hc⟩:=turn_parts h
 obtain ⟨_,_,_,q4,_⟩:=right_iff.1 hr
 rcases change_parts hc with ⟨q,_⟩ | ⟨_,i,hi,hT,hnm,ht⟩
 ·omega
 obtain ⟨_,_,_,_,e1,e2,e3⟩:=tab_iff.1 (q4 _ (List.getElem_mem hi))
 have hparts:=parts_iff.1 e1
 unfold changeT at ht
 rw [if_pos hk] at ht
 cases e:addL Col.nm Col.st putC s.tabs[i].cols d.column st (newC s d) with
 | error er=>rw [e] at ht;cases ht
 | ok r =>
  obtain ⟨l,b⟩:=r
  rw [e] at ht
  cases ht
  rcases addL_ok e with ⟨k,hk',ek,e1,e2,rfl,rfl⟩ | ⟨en,e1,e2,x,ex,e3,rfl,rfl⟩
  ·exfalso
   rw [state_at hi hT,stateC (.inl hk)] at h0
   unfold stOf at h0
   rw [find_idx hk' ek] at h0
   have:=(hparts.1 _ (List.getElem_mem hk')).2
   unfold stB at this
   simp only [Bool.and_eq_true,decide_eq_true_eq] at this
   simp only at h0
   omega
  ·have hx:x.nm=d.column:=by
    unfold newC at ex
    split at ex
    ·cases ex;rfl
    ·cases ex
   refine ⟨_,alongC (A:=s.tabs[i].cols) (B:=[]) (x:=x) (la:=s.last+1) hi hT hnm (.inl hk) (idx_not en) (fun a ha=>by cases ha) hx (.inl ⟨by simp,hk⟩) (by omega) (fun q=>by omega) (fun _=>by simp),?_⟩
   show Sc.mk (s.ver+1) (s.last+1) (s.tabs.set i (wC s.tabs[i] (s.tabs[i].cols ++ [putC st x])))=Sc.mk (s.ver+1) (s.last+1) (s.tabs.set i (wC s.tabs[i] (lx putC s.tabs[i].cols [] x st)))
   rw [lx_yes e3]
theorem first_dropC {s s1:Sc} {d:Dd} {st:Int} (hk:d.kind=5) (h0:stateP s d=3) (h:turnS s d st=.ok s1):∃ F,Along s d F∧s1=F (s.ver+1) st:=by
 obtain ⟨hr,hs0,hs3,hc⟩:=turn_parts h
 obtain ⟨_,_,_,q4,_⟩:=right_iff.1 hr
 rcases change_parts hc with ⟨q,_⟩ | ⟨_,i,hi,hT,hnm,ht⟩
 ·omega
 obtain ⟨_,_,_,_,e1,e2,e3⟩:=tab_iff.1 (q4 _ (List.getElem_mem hi))
 have hparts:=parts_iff.1 e1
 unfold changeT at ht
 rw [if_neg (by omega),if_neg (by omega),if_neg (by omega),if_pos hk] at ht
 cases e:dropL Col.nm putC s.tabs[i].cols d.column st 151 (usedB s.tabs[i]) with
 | error er=>rw [e] at ht;cases ht
 | ok l =>
  rw [e] at ht
  cases ht
  obtain ⟨k,hk',ek,en,hu,rfl⟩:=dropL_ok e
  obtain ⟨A,B,hAk,hl,hA⟩:=lx_split hk' ek
  obtain ⟨x,hx⟩:∃ x,s.tabs[i].cols[k]=x:=⟨_,rfl⟩
  rw [hx] at hl en hu
  have hst:x.st=3:=by
   rw [state_at hi hT,stateC (.inr hk)] at h0
   unfold stOf at h0
   rw [find_idx hk' ek,hx] at h0
   exact h0
  have hnd:=hparts.2
  rw [hl] at hnd
  have hB:=nodup_behind hnd en
  refine ⟨_,alongC (A:=A) (B:=B) (x:=x) (la:=s.last) hi hT hnm (.inr hk) hA hB en (.inr hl) (by omega) (fun _=>by rw [hAk];exact hu) (fun q=>by omega),?_⟩
  have e3':s.tabs[i].cols=lx putC A B x 3:=by
   rw [lx_yes (by decide),hl]
   congr 2
   cases x
   simp only at hst
   subst hst
   rfl
  show Sc.mk (s.ver+1) s.last (s.tabs.set i (wC s.tabs[i] (setAt st k (putC st) s.tabs[i].cols)))=Sc.mk (s.ver+1) s.last (s.tabs.set i (wC s.tabs[i] (lx putC A B x st)))
  have e4:setAt st k (putC st) s.tabs[i].cols=lx putC A B x st:=by
   rw [e3',← hAk]
   exact lx_set (put:=putC) (fun y=>rfl) (by decide)
  rw [e4]
theorem stateI {t:Tb} {d:Dd} (hk:d.kind=2 ∨ d.kind=3):stateT t d=stOf Ix.nm Ix.st t.ixs d.name:=by unfold stateT;rw [if_neg (by omega),if_neg (by omega),if_pos (by omega)]
theorem withoutI {t:Tb} {d:Dd} (hk:d.kind=2 ∨ d.kind=3) (ht:t.nm=d.table):withoutT d t=[wI t (cutN Ix.nm t.ixs d.name)]:=by
 unfold withoutT
 rw [if_neg (by simpa using ht),if_neg (by omega),if_neg (by omega),if_pos (by omega)]
theorem alongI {s:Sc} {d:Dd} {i:Nat} {A B:List Ix} {x:Ix} {la:Int} (hi:i < s.tabs.length) (hT:s.tabs.findIdx? (fun t=>decide (t.nm=d.table))=some i) (hnm:s.tabs[i].nm=d.table) (hk:d.kind=2 ∨ d.kind=3) (hA:∀ a ∈ A,a.nm ≠ d.name) (hB:∀ a ∈ B,a.nm ≠ d.name) (hx:x.nm=d.name) (hl:s.tabs[i].ixs=A ++ B∧d.kind=2 ∨ s.tabs[i].ixs=A ++ x :: B) (hla:la≤s.last+9) (hadd:d.kind=2→s.tabs[i].ixs=A ++ B):Along s d (fun v st=>⟨v,la,s.tabs.set i (wI s.tabs[i] (lx putI A B x st))⟩) where
 go:=fun _ v st st' h0 h3 hr h1 h2=>turnI (t:=s.tabs[i]) hi hT rfl hA hx hr h0 (by
  rcases hk with q | q
  ·exact .inl ⟨q,h3 (by rw [q];rfl)⟩
  ·exact .inr q) h1 h2
 st:=fun v st _=>by
  rw [state_set (t:=wI s.tabs[i] (lx putI A B x st)) hi rfl hT,stateI hk]
  exact st_lx (put:=putI) hA hB hx rfl
 wo:=fun v st=>by
  refine without_set (v':=s.ver) (la':=s.last) hi ?_
  rw [withoutI (t:=wI s.tabs[i] (lx putI A B x st)) hk hnm,withoutI (t:=s.tabs[i]) hk hnm]
  show [wI s.tabs[i] (cutN Ix.nm (lx putI A B x st) d.name)]=[wI s.tabs[i] (cutN Ix.nm s.tabs[i].ixs d.name)]
  rw [cut_lx (put:=putI) (nm:=Ix.nm) (st:=st) hA hB hx]
  rcases hl with ⟨q,_⟩ | q
  ·rw [q]
   have:=cut_lx (put:=putI) (nm:=Ix.nm) (st:=0) (x:=x) hA hB hx
   rw [lx_no] at this
   rw [this]
  ·rw [q]
   have:=cut_lx (put:=fun _ y=>y) (nm:=Ix.nm) (st:=1) (x:=x) hA hB hx
   rw [lx_yes (by decide)] at this
   rw [this]
 ver:=fun _ _=>rfl
 last:=fun _ _=>hla
 none:=fun _ ha v=>by
  have h4:d.kind=2:=by
   rcases hk with q | q
   ·exact q
   ·rw [q] at ha;cases ha
  show s.tabs.set i (wI s.tabs[i] (lx putI A B x 0))=s.tabs
  rw [lx_no,← hadd h4]
  exact List.set_getElem_self hi
theorem first_addI {s s1:Sc} {d:Dd} {st:Int} (hk:d.kind=2) (h0:stateP s d=0) (h:turnS s d st=.ok s1):∃ F,Along s d F∧s1=F (s.ver+1) st:=by
 obtain ⟨hr,hs0,hs3,hc⟩:=turn_parts h
 obtain ⟨_,_,_,q4,_⟩:=right_iff.1 hr
 rcases change_parts hc with ⟨q,_⟩ | ⟨_,i,hi,hT,hnm,ht⟩
 ·omega
 obtain ⟨_,_,_,_,e1,e2,e3⟩:=tab_iff.1 (q4 _ (List.getElem_mem hi))
 have hparts:=parts_iff.1 e2
 unfold changeT at ht
 rw [if_neg (by omega),if_pos hk] at ht
 cases e:addL Ix.nm Ix.st putI s.tabs[i].ixs d.name st (newI s s.tabs[i] d) with
 | error er=>rw [e] at ht;cases ht
 | ok r =>
  obtain ⟨l,b⟩:=r
  rw [e] at ht
  cases ht
  rcases addL_ok e with ⟨k,hk',ek,e1,e2,rfl,rfl⟩ | ⟨en,e1,e2,x,ex,e3,rfl,rfl⟩
  ·exfalso
   rw [state_at hi hT,stateI (.inl hk)] at h0
   unfold stOf at h0
   rw [find_idx hk' ek] at h0
   have:=(hparts.1 _ (List.getElem_mem hk')).2
   unfold stB at this
   simp only [Bool.and_eq_true,decide_eq_true_eq] at this
   simp only at h0
   omega
  ·have hx:x.nm=d.name:=by
    unfold newI at ex
    split at ex
    ·cases ex
    ·cases ex;rfl
   refine ⟨_,alongI (A:=s.tabs[i].ixs) (B:=[]) (x:=x) (la:=s.last+1) hi hT hnm (.inl hk) (idx_not en) (fun a ha=>by cases ha) hx (.inl ⟨by simp,hk⟩) (by omega) (fun _=>by simp),?_⟩
   show Sc.mk (s.ver+1) (s.last+1) (s.tabs.set i (wI s.tabs[i] (s.tabs[i].ixs ++ [putI st x])))=Sc.mk (s.ver+1) (s.last+1) (s.tabs.set i (wI s.tabs[i] (lx putI s.tabs[i].ixs [] x st)))
   rw [lx_yes e3]
theorem first_dropI {s s1:Sc} {d:Dd} {st:Int} (hk:d.kind=3) (h0:stateP s d=3) (h:turnS s d st=.ok s1):∃ F,Along s d F∧s1=F (s.ver+1) st:=by
 obtain ⟨hr,hs0,hs3,hc⟩:=turn_parts h
 obtain ⟨_,_,_,q4,_⟩:=right_iff.1 hr
 rcases change_parts hc with ⟨q,_⟩ | ⟨_,i,hi,hT,hnm,ht⟩
 ·omega
 obtain ⟨_,_,_,_,e1,e2,e3⟩:=tab_iff.1 (q4 _ (List.getElem_mem hi))
 have hparts:=parts_iff.1 e2
 unfold changeT at ht
 rw [if_neg (by omega),if_neg (by omega),if_neg (by omega),if_neg (by omega),if_pos hk] at ht
 cases e:dropL Ix.nm putI s.tabs[i].ixs d.name st 153 (fun _ _=>false) with
 | error er=>rw [e] at ht;cases ht
 | ok l =>
  rw [e] at ht
  cases ht
  obtain ⟨k,hk',ek,en,hu,rfl⟩:=dropL_ok e
  obtain ⟨A,B,hAk,hl,hA⟩:=lx_split hk' ek
  obtain ⟨x,hx⟩:∃ x,s.tabs[i].ixs[k]=x:=⟨_,rfl⟩
  rw [hx] at hl en
  have hst:x.st=3:=by
   rw [state_at hi hT,stateI (.inr hk)] at h0
   unfold stOf at h0
   rw [find_idx hk' ek,hx] at h0
   exact h0
  have hnd:=hparts.2
  rw [hl] at hnd
  have hB:=nodup_behind hnd en
  refine ⟨_,alongI (A:=A) (B:=B) (x:=x) (la:=s.last) hi hT hnm (.inr hk) hA hB en (.inr hl) (by omega) (fun q=>by omega),?_⟩
  have e3':s.tabs[i].ixs=lx putI A B x 3:=by
   rw [lx_yes (by decide),hl]
   congr 2
   cases x
   simp only at hst
   subst hst
   rfl
  show Sc.mk (s.ver+1) s.last (s.tabs.set i (wI s.tabs[i] (setAt st k (putI st) s.tabs[i].ixs)))=Sc.mk (s.ver+1) s.last (s.tabs.set i (wI s.tabs[i] (lx putI A B x st)))
  have e4:setAt st k (putI st) s.tabs[i].ixs=lx putI A B x st:=by
   rw [e3',← hAk]
   exact lx_set (put:=putI) (fun y=>rfl) (by decide)
  rw [e4]
theorem stateK {t:Tb} {d:Dd} (hk:d.kind=6 ∨ d.kind=7):stateT t d=stOf Fk.nm Fk.st t.fks d.name:=by unfold stateT;rw [if_neg (by omega),if_neg (by omega),if_neg (by omega)]
theorem withoutK {t:Tb} {d:Dd} (hk:d.kind=6 ∨ d.kind=7) (ht:t.nm=d.table):withoutT d t=[wK t (cutN Fk.nm t.fks d.name)]:=by
 unfold withoutT
 rw [if_neg (by simpa using ht),if_neg (by omega),if_neg (by omega),if_neg (by omega),if_pos (by omega)]
theorem alongK {s:Sc} {d:Dd} {i:Nat} {A B:List Fk} {x:Fk} {la:Int} (hi:i < s.tabs.length) (hT:s.tabs.findIdx? (fun t=>decide (t.nm=d.table))=some i) (hnm:s.tabs[i].nm=d.table) (hk:d.kind=6 ∨ d.kind=7) (hA:∀ a ∈ A,a.nm ≠ d.name) (hB:∀ a ∈ B,a.nm ≠ d.name) (hx:x.nm=d.name) (hl:s.tabs[i].fks=A ++ B∧d.kind=6 ∨ s.tabs[i].fks=A ++ x :: B) (hla:la≤s.last+9) (hadd:d.kind=6→s.tabs[i].fks=A ++ B):Along s d (fun v st=>⟨v,la,s.tabs.set i (wK s.tabs[i] (lx putK A B x st))⟩) where
 go:=fun _ v st st' h0 h3 hr h1 h2=>turnK (t:=s.tabs[i]) hi hT rfl hA hx hr h0 (by
  rcases hk with q | q
  ·exact .inl ⟨q,h3 (by rw [q];rfl)⟩
  ·exact .inr q) h1 h2
 st:=fun v st _=>by
  rw [state_set (t:=wK s.tabs[i] (lx putK A B x st)) hi rfl hT,stateK hk]
  exact st_lx (put:=putK) hA hB hx rfl
 wo:=fun v st=>by
  refine without_set (v':=s.ver) (la':=s.last) hi ?_
  rw [withoutK (t:=wK s.tabs[i] (lx putK A B x st)) hk hnm,withoutK (t:=s.tabs[i]) hk hnm]
  show [wK s.tabs[i] (cutN Fk.nm (lx putK A B x st) d.name)]=[wK s.tabs[i] (cutN Fk.nm s.tabs[i].fks d.name)]
  rw [cut_lx (put:=putK) (nm:=Fk.nm) (st:=st) hA hB hx]
  rcases hl with ⟨q,_⟩ | q
  ·rw [q]
   have:=cut_lx (put:=putK) (nm:=Fk.nm) (st:=0) (x:=x) hA hB hx
   rw [lx_no] at this
   rw [this]
  ·rw [q]
   have:=cut_lx (put:=fun _ y=>y) (nm:=Fk.nm) (st:=1) (x:=x) hA hB hx
   rw [lx_yes (by decide)] at this
   rw [this]
 ver:=fun _ _=>rfl
 last:=fun _ _=>hla
 none:=fun _ ha v=>by
  have h4:d.kind=6:=by
   rcases hk with q | q
   ·exact q
   ·rw [q] at ha;cases ha
  show s.tabs.set i (wK s.tabs[i] (lx putK A B x 0))=s.tabs
  rw [lx_no,← hadd h4]
  exact List.set_getElem_self hi
theorem first_addK {s s1:Sc} {d:Dd} {st:Int} (hk:d.kind=6) (h0:stateP s d=0) (h:turnS s d st=.ok s1):∃ F,Along s d F∧s1=F (s.ver+1) st:=by
 obtain ⟨hr,hs0,hs3,hc⟩:=turn_parts h
 obtain ⟨_,_,_,q4,_⟩:=right_iff.1 hr
 rcases change_parts hc with ⟨q,_⟩ | ⟨_,i,hi,hT,hnm,ht⟩
 ·omega
 obtain ⟨_,_,_,_,e1,e2,e3⟩:=tab_iff.1 (q4 _ (List.getElem_mem hi))
 have hparts:=parts_iff.1 e3
 unfold changeT at ht
 rw [if_neg (by omega),if_neg (by omega),if_pos hk] at ht
 cases e:addL Fk.nm Fk.st putK s.tabs[i].fks d.name st (newK s s.tabs[i] d) with
 | error er=>rw [e] at ht;cases ht
 | ok r =>
  obtain ⟨l,b⟩:=r
  rw [e] at ht
  cases ht
  rcases addL_ok e with ⟨k,hk',ek,e1,e2,rfl,rfl⟩ | ⟨en,e1,e2,x,ex,e3,rfl,rfl⟩
  ·exfalso
   rw [state_at hi hT,stateK (.inl hk)] at h0
   unfold stOf at h0
   rw [find_idx hk' ek] at h0
   have:=(hparts.1 _ (List.getElem_mem hk')).2
   unfold stB at this
   simp only [Bool.and_eq_true,decide_eq_true_eq] at this
   simp only at h0
   omega
  ·have hx:x.nm=d.name:=by
    unfold newK at ex
    split at ex
    ·cases ex
    ·split at ex
     ·cases ex
     ·split at ex
      ·cases ex;rfl
      ·cases ex
   refine ⟨_,alongK (A:=s.tabs[i].fks) (B:=[]) (x:=x) (la:=s.last+1) hi hT hnm (.inl hk) (idx_not en) (fun a ha=>by cases ha) hx (.inl ⟨by simp,hk⟩) (by omega) (fun _=>by simp),?_⟩
   show Sc.mk (s.ver+1) (s.last+1) (s.tabs.set i (wK s.tabs[i] (s.tabs[i].fks ++ [putK st x])))=Sc.mk (s.ver+1) (s.last+1) (s.tabs.set i (wK s.tabs[i] (lx putK s.tabs[i].fks [] x st)))
   rw [lx_yes e3]
theorem first_dropK {s s1:Sc} {d:Dd} {st:Int} (hk:d.kind=7) (h0:stateP s d=3) (h:turnS s d st=.ok s1):∃ F,Along s d F∧s1=F (s.ver+1) st:=by
 obtain ⟨hr,hs0,hs3,hc⟩:=turn_parts h
 obtain ⟨_,_,_,q4,_⟩:=right_iff.1 hr
 rcases change_parts hc with ⟨q,_⟩ | ⟨_,i,hi,hT,hnm,ht⟩
 ·omega
 obtain ⟨_,_,_,_,e1,e2,e3⟩:=tab_iff.1 (q4 _ (List.getElem_mem hi))
 have hparts:=parts_iff.1 e3
 unfold changeT at ht
 rw [if_neg (by omega),if_neg (by omega),if_neg (by omega),if_neg (by omega),if_neg (by omega)] at ht
 cases e:dropL Fk.nm putK s.tabs[i].fks d.name st 153 (fun _ _=>false) with
 | error er=>rw [e] at ht;cases ht
 | ok l =>
  rw [e] at ht
  cases ht
  obtain ⟨k,hk',ek,en,hu,rfl⟩:=dropL_ok e
  obtain ⟨A,B,hAk,hl,hA⟩:=lx_split hk' ek
  obtain ⟨x,hx⟩:∃ x,s.tabs[i].fks[k]=x:=⟨_,rfl⟩
  rw [hx] at hl en
  have hst:x.st=3:=by
   rw [state_at hi hT,stateK (.inr hk)] at h0
   unfold stOf at h0
   rw [find_idx hk' ek,hx] at h0
   exact h0
  have hnd:=hparts.2
  rw [hl] at hnd
  have hB:=nodup_behind hnd en
  refine ⟨_,alongK (A:=A) (B:=B) (x:=x) (la:=s.last) hi hT hnm (.inr hk) hA hB en (.inr hl) (by omega) (fun q=>by omega),?_⟩
  have e3':s.tabs[i].fks=lx putK A B x 3:=by
   rw [lx_yes (by decide),hl]
   congr 2
   cases x
   simp only at hst
   subst hst
   rfl
  show Sc.mk (s.ver+1) s.last (s.tabs.set i (wK s.tabs[i] (setAt st k (putK st) s.tabs[i].fks)))=Sc.mk (s.ver+1) s.last (s.tabs.set i (wK s.tabs[i] (lx putK A B x st)))
  have e4:setAt st k (putK st) s.tabs[i].fks=lx putK A B x st:=by
   rw [e3',← hAk]
   exact lx_set (put:=putK) (fun y=>rfl) (by decide)
  rw [e4]
theorem first_table {s s1:Sc} {d:Dd} {st:Int} (hk:d.kind=1) (h:turnS s d st=.ok s1):∃ F,Along s d F∧s1=F (s.ver+1) st:=by
 obtain ⟨hr,hs0,hs3,hc⟩:=turn_parts h
 rcases change_parts hc with ⟨_,h1⟩ | ⟨q,_⟩
 ·unfold createS at h1
  split at h1
  ·cases h1
  split at h1
  ·cases h1
  rename_i g2
  split at h1
  ·cases h1
  rename_i g3
  split at h1
  ·cases h1
  split at h1
  ·cases h1
  cases h1
  have hne:∀ t ∈ s.tabs,t.nm ≠ d.table:=fun t ht q=>g2 (.inl (List.any_eq_true.2 ⟨t,ht,by simpa using q⟩))
  obtain ⟨N,hN⟩:∃ N:Tb,N=⟨s.last+1,d.table,freshC (s.last+2) d.cols,[],[]⟩:=⟨_,rfl⟩
  rw [← hN]
  refine ⟨fun v _=>⟨v,s.last+1+d.cols.length,s.tabs ++ [N]⟩,⟨fun q=>absurd hk q,fun v st hs=>?_,fun v st=>?_,fun _ _=>rfl,fun _ _=>?_,fun q=>absurd hk q⟩,rfl⟩
  ·obtain rfl:st=3:=by rcases hs with q | q;exact absurd hk q;exact q
   unfold stateP
   have:(s.tabs ++ [N]).find? (fun t=>decide (t.nm=d.table))=some N:=by
    rw [List.find?_append]
    have e1:s.tabs.find? (fun t=>decide (t.nm=d.table))=none:=List.find?_eq_none.2 fun a ha=>by simpa using hne a ha
    rw [e1,hN]
    simp
   show (match (s.tabs ++ [N]).find? (fun t=>decide (t.nm=d.table)) with
    | some t=>stateT t d
    | none=>0)=3
   rw [this]
   show stateT N d=3
   unfold stateT
   rw [if_pos hk]
  ·unfold withoutP
   show Sc.mk 0 0 ((s.tabs ++ [N]).flatMap (withoutT d))=_
   rw [List.flatMap_append]
   have:[N].flatMap (withoutT d)=[]:=by
    rw [List.flatMap_singleton]
    unfold withoutT
    rw [if_neg (by rw [hN];simp),if_pos hk]
   rw [this,List.append_nil]
  ·show s.last+1+(d.cols.length:Int)≤s.last+9
   omega
 ·omega
theorem first_any {s s1:Sc} {d:Dd} {st:Int} (hk:1≤d.kind∧d.kind≤7) (hs:(addK d.kind=true∧stateP s d=0) ∨ (addK d.kind=false∧stateP s d=3)) (h:turnS s d st=.ok s1):∃ F,Along s d F∧s1=F (s.ver+1) st:=by
 have hc:d.kind=1 ∨ d.kind=2 ∨ d.kind=3 ∨ d.kind=4 ∨ d.kind=5 ∨ d.kind=6 ∨ d.kind=7:=by omega
 rcases hc with q | q | q | q | q | q | q
 ·exact first_table q h
 ·rcases hs with ⟨_,hs⟩ | ⟨hs,_⟩
  ·exact first_addI q hs h
  ·rw [q] at hs;cases hs
 ·rcases hs with ⟨hs,_⟩ | ⟨_,hs⟩
  ·rw [q] at hs;cases hs
  ·exact first_dropI q hs h
 ·rcases hs with ⟨_,hs⟩ | ⟨hs,_⟩
  ·exact first_addC q hs h
  ·rw [q] at hs;cases hs
 ·rcases hs with ⟨hs,_⟩ | ⟨_,hs⟩
  ·rw [q] at hs;cases hs
  ·exact first_dropC q hs h
 ·rcases hs with ⟨_,hs⟩ | ⟨hs,_⟩
  ·exact first_addK q hs h
  ·rw [q] at hs;cases hs
 ·rcases hs with ⟨hs,_⟩ | ⟨_,hs⟩
  ·rw [q] at hs;cases hs
  ·exact first_dropK q hs h
end Go.Proofs.YtongmhfpoopebaaGreat
namespace Go.Proofs.YtongmhfpoopebaaGreat
theorem first_nodup {α:Type} {nm:α→ByteArray}:∀ {l:List α},(∀ k (h:k < l.length),fidx (fun y=>decide (nm y=nm l[k])) l=(k:Int)) ↔ (l.map nm).Nodup:=by
 intro l
 constructor
 ·intro h
  rw [List.nodup_iff_pairwise_ne,List.pairwise_map,List.pairwise_iff_getElem]
  intro i j hi hj hij e
  have hj':=h j hj
  rcases fidx_cases (fun y=>decide (nm y=nm l[j])) l with ⟨q,_⟩ | ⟨p,hp,q,_,hb⟩
  ·rw [q] at hj';omega
  ·rw [q] at hj'
   have:p=j:=by omega
   subst this
   have:=hb i hi hij
   simp only [decide_eq_false_iff_not] at this
   exact this e
 ·intro h k hk
  rw [List.nodup_iff_pairwise_ne,List.pairwise_map,List.pairwise_iff_getElem] at h
  rcases fidx_cases (fun y=>decide (nm y=nm l[k])) l with ⟨_,q⟩ | ⟨p,hp,q,hpe,hb⟩
  ·have:=q l[k] (List.getElem_mem hk)
   simp at this
  ·rw [q]
   simp only [decide_eq_true_eq] at hpe
   rcases Nat.lt_trichotomy p k with z | z | z
   ·exact absurd hpe (h p k hp hk z)
   ·rw [z]
   ·have:=hb k hk z
    simp at this
theorem fidx_some {α:Type} {p:α→Bool} {l:List α}:0≤fidx p l ↔ l.any p=true:=by
 rcases fidx_cases p l with ⟨q,h⟩ | ⟨i,hi,q,hp,_⟩
 ·rw [q]
  constructor
  ·intro z;omega
  ·intro z
   obtain ⟨x,hx,hpx⟩:=List.any_eq_true.1 z
   rw [h x hx] at hpx
   cases hpx
 ·rw [q]
  constructor
  ·intro _
   exact List.any_eq_true.2 ⟨l[i],List.getElem_mem hi,hp⟩
  ·intro _;omega
def ColR (t:Tb) (k:Nat) (c:Col):Prop:=nameB c.nm=true∧fidx (fun y=>decide (y.nm=c.nm)) t.cols=(k:Int)∧1≤c.st∧c.st≤3∧(k=0→c.st=3)∧kindB c.kd=true∧fitB c.df c.kd=true
def IxR (t:Tb) (k:Nat) (x:Ix):Prop:=nameB x.nm=true∧fidx (fun y=>decide (y.nm=x.nm)) t.ixs=(k:Int)∧1≤x.st∧x.st≤3∧0≤colOf t x.col
def FkR (l:List Tb) (t:Tb) (k:Nat) (x:Fk):Prop:=nameB x.nm=true∧fidx (fun y=>decide (y.nm=x.nm)) t.fks=(k:Int)∧1≤x.st∧x.st≤3∧fkB l t x=true
structure TabR (l:List Tb) (i:Nat) (t:Tb):Prop where
 nm:nameB t.nm=true
 at_:fidx (fun y=>decide (y.nm=t.nm)) l=(i:Int)
 c1:1≤t.cols.length
 c8:t.cols.length≤8
 i8:t.ixs.length≤8
 k8:t.fks.length≤8
 cs:∀ k (h:k < t.cols.length),ColR t k t.cols[k]
 is:∀ k (h:k < t.ixs.length),IxR t k t.ixs[k]
 ks:∀ k (h:k < t.fks.length),FkR l t k t.fks[k]
theorem tabR_iff {l:List Tb} {i:Nat} {t:Tb}:TabR l i t ↔ (tabB t=true∧linkB l t=true)∧fidx (fun y=>decide (y.nm=t.nm)) l=(i:Int):=by
 constructor
 ·intro h
  refine ⟨⟨tab_iff.2 ⟨⟨h.c1,h.c8,h.i8,h.k8⟩,h.nm,?_,?_,?_,?_,?_⟩,?_⟩,h.at_⟩
  ·intro c hc
   obtain ⟨k,hk,rfl⟩:=List.getElem_of_mem hc
   exact ⟨(h.cs k hk).2.2.2.2.2.1,(h.cs k hk).2.2.2.2.2.2⟩
  ·have h0:=(h.cs 0 (by have:=h.c1;omega)).2.2.2.2.1 rfl
   unfold keyB
   have hc1:=h.c1
   cases e:t.cols with
   | nil=>rw [e] at hc1;simp at hc1
   | cons c r =>
    have:t.cols[0]'(by omega)=c:=by simp [e]
    rw [this] at h0
    simp [h0]
  ·refine parts_iff.2 ⟨fun x hx=>?_,first_nodup.1 fun k hk=>(h.cs k hk).2.1⟩
   obtain ⟨k,hk,rfl⟩:=List.getElem_of_mem hx
   obtain ⟨q1,_,q2,q3,_⟩:=h.cs k hk
   exact ⟨q1,by unfold stB;simp [q2,q3]⟩
  ·refine parts_iff.2 ⟨fun x hx=>?_,first_nodup.1 fun k hk=>(h.is k hk).2.1⟩
   obtain ⟨k,hk,rfl⟩:=List.getElem_of_mem hx
   obtain ⟨q1,_,q2,q3,_⟩:=h.is k hk
   exact ⟨q1,by unfold stB;simp [q2,q3]⟩
  ·refine parts_iff.2 ⟨fun x hx=>?_,first_nodup.1 fun k hk=>(h.ks k hk).2.1⟩
   obtain ⟨k,hk,rfl⟩:=List.getElem_of_mem hx
   obtain ⟨q1,_,q2,q3,_⟩:=h.ks k hk
   exact ⟨q1,by unfold stB;simp [q2,q3]⟩
  ·unfold linkB
   rw [Bool.and_eq_true,List.all_eq_true,List.all_eq_true]
   refine ⟨fun x hx=>?_,fun x hx=>?_⟩
   ·obtain ⟨k,hk,rfl⟩:=List.getElem_of_mem hx
    exact fidx_some.1 (h.is k hk).2.2.2.2
   ·obtain ⟨k,hk,rfl⟩:=List.getElem_of_mem hx
    exact (h.ks k hk).2.2.2.2
 ·rintro ⟨⟨ht,hl⟩,hat⟩
  obtain ⟨⟨c1,c8,i8,k8⟩,hn,hc,hkey,p1,p2,p3⟩:=tab_iff.1 ht
  obtain ⟨a1,b1⟩:=parts_iff.1 p1
  obtain ⟨a2,b2⟩:=parts_iff.1 p2
  obtain ⟨a3,b3⟩:=parts_iff.1 p3
  have f1:=first_nodup.2 b1
  have f2:=first_nodup.2 b2
  have f3:=first_nodup.2 b3
  unfold linkB at hl
  rw [Bool.and_eq_true,List.all_eq_true,List.all_eq_true] at hl
  have st:∀ n:Int,stB n=true→1≤n∧n≤3:=fun n h=>by
   unfold stB at h
   simpa using h
  refine ⟨hn,hat,c1,c8,i8,k8,fun k hk=>?_,fun k hk=>?_,fun k hk=>?_⟩
  ·have q:=a1 _ (List.getElem_mem hk)
   have q2:=hc _ (List.getElem_mem hk)
   refine ⟨q.1,f1 k hk,(st _ q.2).1,(st _ q.2).2,fun e=>?_,q2.1,q2.2⟩
   subst e
   obtain ⟨c,r,e,h3⟩:=key_cons hkey
   have e2:t.cols[0]=c:=by simp [e]
   rw [e2]
   exact h3
  ·have q:=a2 _ (List.getElem_mem hk)
   exact ⟨q.1,f2 k hk,(st _ q.2).1,(st _ q.2).2,fidx_some.2 (hl.1 _ (List.getElem_mem hk))⟩
  ·have q:=a3 _ (List.getElem_mem hk)
   exact ⟨q.1,f3 k hk,(st _ q.2).1,(st _ q.2).2,hl.2 _ (List.getElem_mem hk)⟩
theorem right_doc {s:Sc}:rightS s=true ↔ (0≤s.ver∧s.ver≤1125899906842624)∧(0≤s.last∧s.last≤1125899906842624)∧s.tabs.length≤6∧(∀ i (h:i < s.tabs.length),TabR s.tabs i s.tabs[i])∧(∀ i ∈ idsS s.tabs,1≤i∧i≤s.last)∧(idsS s.tabs).Nodup:=by
 have far:∀ n:Int,farB n=true ↔ 0≤n∧n≤1125899906842624:=fun n=>by
  unfold farB
  simp
 rw [right_iff,far,far]
 constructor
 ·rintro ⟨h1,h2,h3,h4,h5,h6,h7,h8⟩
  exact ⟨h1,h2,h3,fun i hi=>tabR_iff.2 ⟨⟨h4 _ (List.getElem_mem hi),h8 _ (List.getElem_mem hi)⟩,first_nodup.2 h7 i hi⟩,h5,h6⟩
 ·rintro ⟨h1,h2,h3,h4,h5,h6⟩
  refine ⟨h1,h2,h3,fun t ht=>?_,h5,h6,first_nodup.1 fun i hi=>(h4 i hi).at_,fun t ht=>?_⟩
  ·obtain ⟨i,hi,rfl⟩:=List.getElem_of_mem ht
   exact (tabR_iff.1 (h4 i hi)).1.1
  ·obtain ⟨i,hi,rfl⟩:=List.getElem_of_mem ht
   exact (tabR_iff.1 (h4 i hi)).1.2
end Go.Proofs.YtongmhfpoopebaaGreat
