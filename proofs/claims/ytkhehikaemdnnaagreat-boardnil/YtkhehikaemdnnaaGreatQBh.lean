import Derived.Test.YtkhehikaemdnnaaGreatQBg
namespace Go.Proofs.YtkhehikaemdnnaaGreat
set_option maxRecDepth 100000
set_option maxHeartbeats 2000000
open Go.RowKit
theorem wpl_run{P:Program}{w w':World}{ops:Array Oper}{rest:List Oper}{o:Oper}{a:Act}{Q:Exit->Act->World->Prop}{t u ty:TypeId}{v':Value}{ds:Option Tmp}{ps:String}{af:Array Edge}(s x:Operand)
  (ho:o=⟨ds,.call { callee:=.builtin .append,args:=#[s,x],argTypes:=#[t,u] },ty,ps,af,none⟩) (hrun:(Builtin.append_ #[t,u] ty #[a.eval s,a.eval x]).run P w=.ok v' w')
  (h:wpList P ops Q rest (a.put ds v') w'):wpList P ops Q (o :: rest) a w:=by
 subst ho;refine wpList_plain rfl fun K hK=>?_;unfold Oper.wp execOp;simp only [resolve,invoke,builtin,Sem.run_bind,Sem.run_pure,Result.andThen_ok,List.map_toArray,List.map_cons,List.map_nil,hrun];exact hK _ _ h
theorem wpl_run2{P:Program}{w w':World}{ops:Array Oper}{rest:List Oper}{o:Oper}{a:Act}{Q:Exit->Act->World->Prop}{t u ty:TypeId}{v1 v2 v':Value}{ds:Option Tmp}{ps:String}{af:Array Edge}(s x:Operand)
  (ho:o=⟨ds,.call { callee:=.builtin .append,args:=#[s,x],argTypes:=#[t,u] },ty,ps,af,none⟩) (hs:a.eval s=v1) (hx:a.eval x=v2) (hrun:(Builtin.append_ #[t,u] ty #[v1,v2]).run P w=.ok v' w')
  (h:wpList P ops Q rest (a.put ds v') w'):wpList P ops Q (o :: rest) a w:=by
 subst hs;subst hx;exact wpl_run s x ho hrun h
theorem setAt_zero{α:Type}(f:α->α)(i:Nat)(l:List α):setAt 0 i f l=l.eraseIdx i:=by
 unfold setAt;rw [if_pos rfl,List.append_nil,List.eraseIdx_eq_take_drop_succ]
theorem setAt_ne{α:Type}{st:Int}(hs:st≠0)(f:α->α){i:Nat}{l:List α}(h:i<l.length):setAt st i f l=l.take i ++ [f l[i]] ++ l.drop (i+1):=by
 unfold setAt;rw [if_neg hs,List.drop_eq_getElem_cons h,List.take_succ_cons,List.take_zero,List.map_cons,List.map_nil]
theorem setAt_len{α:Type}(st:Int)(f:α->α){i:Nat}{l:List α}(h:i<l.length):(setAt st i f l).length=if st=0 then l.length - 1 else l.length:=by
 by_cases hs:st=0
 ·subst hs;rw [setAt_zero,List.length_eraseIdx,if_pos h];simp
 ·rw [setAt_ne hs f h,if_neg hs];simp only [List.length_append,List.length_take,List.length_drop,List.length_cons,List.length_nil];omega
theorem fl_set{α:Type}{f:α->List Value}{c:Nat}(hc:∀ x,(f x).length=c){L:List α}{i:Nat}(hi:i<L.length){y:α}{j:Nat}{u:Value}(hj:j<c)(hy:f y=(f L[i]).set j u):(L.flatMap f).set (i*c+j) u=(L.take i ++ [y] ++ L.drop (i+1)).flatMap f:=by
 have e:L.flatMap f=(L.take i).flatMap f ++ (f L[i] ++ (L.drop (i+1)).flatMap f):=by
  have h0:L=L.take i ++ (L[i] :: L.drop (i+1)):=by
   rw [<-List.drop_eq_getElem_cons hi,List.take_append_drop]
  have h1:=congrArg (fun q=>q.flatMap f) h0;simp only [List.flatMap_append,List.flatMap_cons]at h1;exact h1
 have hl:((L.take i).flatMap f).length=i*c:=by rw [fl_len hc,List.length_take,Nat.min_eq_left (Nat.le_of_lt hi)]
 rw [e,List.set_append_right _ _ (by rw [hl];omega),hl,Nat.add_sub_cancel_left,List.set_append_left _ _ (by rw [hc];exact hj),<-hy,List.append_assoc,List.flatMap_append,List.singleton_append,List.flatMap_cons]
section
variable {w : World}
theorem pushC{X:World}{l:List Col}{v:Value}(ho:X.ownsRow 0 56 7 v l.length (l.flatMap colL))(x:Col)(hz:l.length<=1000000):
  ∃ ad cap w',(Builtin.append_ #[43,43] 43 #[v,.slice (some ⟨X.heap.size,0,none⟩) 1 1]).run Tryz.prog (X.alloc (.cells (colA x) 56))=.ok (.slice ad (l.length+1) cap) w'/\w'.ownsRow 0 56 7 (.slice ad (l.length+1) cap) (l ++ [x]).length ((l ++ [x]).flatMap colL)/\Fr X w' (fun k=>v.ownBlock=some k)/\(∀ k,(Value.slice ad (l.length+1) cap).ownBlock=some k->v.ownBlock=some k\/X.heap.size<=k):=by
 have hal:=bnew X (.cells (colA x) 56);have hj:=heap_alloc_new X (.cells (colA x) 56);obtain⟨ad,cap,w',h1,h2,h3,h4⟩:=run_col (m:=1) (c:=1) (news:=colL x) (own_below ho hal) (Nat.zero_le _) (.inr ⟨_,rfl,rfl,fun j u hu=>by
  rw [add_at,Nat.zero_add,cell_blk hj];simpa using hu⟩) (fun u hu=>oneC [x] u (by simpa using hu)) (by omega)
 refine⟨ad,cap,w',h1,by simpa using h2,?_,?_⟩
 ·refine((Fr.refl X _).alloc _).grown h3 (fun k hk=>.inl hk)
 ·intro k hk;rcases h4 with q | q
  ·exact .inl (q.symm.trans hk)
  ·rw [hk]at q;cases q;exact .inr hal.size
theorem pushI{X:World}{l:List Ix}{v:Value}(ho:X.ownsRow 0 138 5 v l.length (l.flatMap ixL))(x:Ix)(hz:l.length<=1000000):
  ∃ ad cap w',(Builtin.append_ #[61,61] 61 #[v,.slice (some ⟨X.heap.size,0,none⟩) 1 1]).run Tryz.prog (X.alloc (.cells (ixA x) 138))=.ok (.slice ad (l.length+1) cap) w'/\w'.ownsRow 0 138 5 (.slice ad (l.length+1) cap) (l ++ [x]).length ((l ++ [x]).flatMap ixL)/\Fr X w' (fun k=>v.ownBlock=some k)/\(∀ k,(Value.slice ad (l.length+1) cap).ownBlock=some k->v.ownBlock=some k\/X.heap.size<=k):=by
 have hal:=bnew X (.cells (ixA x) 138);have hj:=heap_alloc_new X (.cells (ixA x) 138);obtain⟨ad,cap,w',h1,h2,h3,h4⟩:=run_ix (m:=1) (c:=1) (news:=ixL x) (own_below ho hal) (Nat.zero_le _) (.inr ⟨_,rfl,rfl,fun j u hu=>by
  rw [add_at,Nat.zero_add,cell_blk hj];simpa using hu⟩) (fun u hu=>oneI [x] u (by simpa using hu)) (by omega)
 refine⟨ad,cap,w',h1,by simpa using h2,?_,?_⟩
 ·refine((Fr.refl X _).alloc _).grown h3 (fun k hk=>.inl hk)
 ·intro k hk;rcases h4 with q | q
  ·exact .inl (q.symm.trans hk)
  ·rw [hk]at q;cases q;exact .inr hal.size
theorem pushK{X:World}{l:List Fk}{v:Value}(ho:X.ownsRow 0 141 5 v l.length (l.flatMap fkL))(x:Fk)(hz:l.length<=1000000):
  ∃ ad cap w',(Builtin.append_ #[62,62] 62 #[v,.slice (some ⟨X.heap.size,0,none⟩) 1 1]).run Tryz.prog (X.alloc (.cells (fkA x) 141))=.ok (.slice ad (l.length+1) cap) w'/\w'.ownsRow 0 141 5 (.slice ad (l.length+1) cap) (l ++ [x]).length ((l ++ [x]).flatMap fkL)/\Fr X w' (fun k=>v.ownBlock=some k)/\(∀ k,(Value.slice ad (l.length+1) cap).ownBlock=some k->v.ownBlock=some k\/X.heap.size<=k):=by
 have hal:=bnew X (.cells (fkA x) 141);have hj:=heap_alloc_new X (.cells (fkA x) 141);obtain⟨ad,cap,w',h1,h2,h3,h4⟩:=run_fk (m:=1) (c:=1) (news:=fkL x) (own_below ho hal) (Nat.zero_le _) (.inr ⟨_,rfl,rfl,fun j u hu=>by
  rw [add_at,Nat.zero_add,cell_blk hj];simpa using hu⟩) (fun u hu=>oneK [x] u (by simpa using hu)) (by omega)
 refine⟨ad,cap,w',h1,by simpa using h2,?_,?_⟩
 ·refine((Fr.refl X _).alloc _).grown h3 (fun k hk=>.inl hk)
 ·intro k hk;rcases h4 with q | q
  ·exact .inl (q.symm.trans hk)
  ·rw [hk]at q;cases q;exact .inr hal.size
theorem ownC_any{l:List Col}{v:Value}(hl:Lr colE 7 w l v)(hz:l.length<=1000000):Calls Tryz.prog 138 #[v] w fun e w'=>∃ ad cap,e=.returned (.slice ad l.length cap)/\w'.ownsRow w.heap.size 56 7 (.slice ad l.length cap) l.length (l.flatMap colL)/\Below w.heap.size w w':=by
 obtain⟨ad,cap,rfl,hr⟩:=hl;have hs:=Lr.src colL_len (L:=l) (ad:=ad) (cap:=cap) (w:=w) ⟨ad,cap,rfl,hr⟩;obtain⟨ad',cap',w',h1,h2,h3,_⟩:=run_col (w:=w) (v:=.slice none 0 0) (base:=w.heap.size) (n:=0) (xs:=[]) (m:=l.length) (c:=cap) (news:=l.flatMap colL) (World.ownsRow_nil _ _ 56 7) (Nat.le_refl _) hs (oneC l) (by omega);rw [Nat.zero_add]at h1 h2;rw [List.nil_append]at h2;have HO:=lh h2;have HB:Hid (Below w.heap.size w w'):=⟨h3.os,h3.tape,h3.output,h3.size,fun k hk=>h3.block k hk (by simp [Value.ownBlock])⟩
 clear h2 h3 hs hr;go_enter Tryz.func138,Tryz.ntmps138;go_wp2_with (at_builtin;refine wpl_run2 _ _ rfl (by simp [Act.eval]) (by simp [Act.eval]) h1 ?_)
 go_ret;exact⟨_,_,rfl,HO.out,HB.out⟩
theorem ownI_any{l:List Ix}{v:Value}(hl:Lr ixE 5 w l v)(hz:l.length<=1000000):Calls Tryz.prog 139 #[v] w fun e w'=>∃ ad cap,e=.returned (.slice ad l.length cap)/\w'.ownsRow w.heap.size 138 5 (.slice ad l.length cap) l.length (l.flatMap ixL)/\Below w.heap.size w w':=by
 obtain⟨ad,cap,rfl,hr⟩:=hl;have hs:=Lr.src ixL_len (L:=l) (ad:=ad) (cap:=cap) (w:=w) ⟨ad,cap,rfl,hr⟩;obtain⟨ad',cap',w',h1,h2,h3,_⟩:=run_ix (w:=w) (v:=.slice none 0 0) (base:=w.heap.size) (n:=0) (xs:=[]) (m:=l.length) (c:=cap) (news:=l.flatMap ixL) (World.ownsRow_nil _ _ 138 5) (Nat.le_refl _) hs (oneI l) (by omega);rw [Nat.zero_add]at h1 h2;rw [List.nil_append]at h2;have HO:=lh h2;have HB:Hid (Below w.heap.size w w'):=⟨h3.os,h3.tape,h3.output,h3.size,fun k hk=>h3.block k hk (by simp [Value.ownBlock])⟩
 clear h2 h3 hs hr;go_enter Tryz.func139,Tryz.ntmps139;go_wp2_with (at_builtin;refine wpl_run2 _ _ rfl (by simp [Act.eval]) (by simp [Act.eval]) h1 ?_)
 go_ret;exact⟨_,_,rfl,HO.out,HB.out⟩
theorem ownK_any{l:List Fk}{v:Value}(hl:Lr fkE 5 w l v)(hz:l.length<=1000000):Calls Tryz.prog 140 #[v] w fun e w'=>∃ ad cap,e=.returned (.slice ad l.length cap)/\w'.ownsRow w.heap.size 141 5 (.slice ad l.length cap) l.length (l.flatMap fkL)/\Below w.heap.size w w':=by
 obtain⟨ad,cap,rfl,hr⟩:=hl;have hs:=Lr.src fkL_len (L:=l) (ad:=ad) (cap:=cap) (w:=w) ⟨ad,cap,rfl,hr⟩;obtain⟨ad',cap',w',h1,h2,h3,_⟩:=run_fk (w:=w) (v:=.slice none 0 0) (base:=w.heap.size) (n:=0) (xs:=[]) (m:=l.length) (c:=cap) (news:=l.flatMap fkL) (World.ownsRow_nil _ _ 141 5) (Nat.le_refl _) hs (oneK l) (by omega);rw [Nat.zero_add]at h1 h2;rw [List.nil_append]at h2;have HO:=lh h2;have HB:Hid (Below w.heap.size w w'):=⟨h3.os,h3.tape,h3.output,h3.size,fun k hk=>h3.block k hk (by simp [Value.ownBlock])⟩
 clear h2 h3 hs hr;go_enter Tryz.func140,Tryz.ntmps140;go_wp2_with (at_builtin;refine wpl_run2 _ _ rfl (by simp [Act.eval]) (by simp [Act.eval]) h1 ?_)
 go_ret;exact⟨_,_,rfl,HO.out,HB.out⟩
theorem setC_any{l:List Col}{g cap i:Nat}(h:w.ownsRow 0 56 7 (.slice (some ⟨g,0,none⟩) l.length cap) l.length (l.flatMap colL))(hi:i<l.length)(st:Int):
  Calls Tryz.prog 164 #[.slice (some ⟨g,0,none⟩) l.length cap,.int .i64 (i:Int),.int .i64 st,.func (.func 118) #[] #[]] w fun e w'=>∃ m,e=.returned (.slice (some ⟨g,0,none⟩) m cap)/\w'.ownsRow 0 56 7 (.slice (some ⟨g,0,none⟩) m cap) (setAt st i (putC st) l).length ((setAt st i (putC st) l).flatMap colL)/\m=(setAt st i (putC st) l).length/\Fr w w' (fun k=>k=g):=by
 obtain⟨cur,hg,hlc,hcm,_,_⟩:=row_blk h;have hmx:(l.length:Int)<=9223372036854775807:=by unfold maxLen at hcm;omega
 have q0:(0:Int)<=(i:Int):=by omega
 have q1:(i:Int)<(l.length:Int):=by omega
 by_cases hs:st=0
 ·subst hs;have hcall:=deleteC_any h hi (oneC l);have hl:(setAt 0 i (putC 0) l).length=l.length - 1:=by rw [setAt_zero,List.length_eraseIdx,if_pos hi]
  rw [<-setAt_zero (putC 0),<-hl]at hcall;obtain⟨m,hm⟩:∃ m,(setAt 0 i (putC 0) l).length=m:=⟨_,rfl⟩
  rw [hm]at hcall ⊢;clear hg hlc hcm hl hm h;go_enter Tryz.func164,Tryz.ntmps164;go_wp2_with fail
  refine hcall.mono ?_;rintro e w1 ⟨rfl,o1,f1⟩;have HO:=lh o1;have HF:=lh f1;clear o1 f1 hcall;go_wp2;go_ret;exact⟨m,rfl,HO.out,rfl,HF.out⟩
 ·have hL:=Lr.own (f:=colL) colL_len h;obtain⟨ad,cap',e',_,_,_,hX⟩:=hL;cases e';obtain⟨b,o,cs,e2,hbl,hE,_,hcell⟩:=hX i hi;cases e2;cases hE;have hcall:=ofC_any (w:=w) (B:=g) (q:=i*7) (x:=l[i]) ⟨_,rfl,fun j u hu=>by
   have:=hcell j u hu;rw [Nat.zero_add]at this;exact this⟩
  have HG:=lh hg;have hcc:w.cell? ⟨g,i*7+3,none⟩=some (.int .i64 l[i].st):=by
   have:=hcell 3 _ rfl;rw [Nat.zero_add]at this;exact this
  have HC:=lh hcc;have HH:=lh h;have hfd:=field156_2;have HL:Hid ((setAt st i (putC st) l).length=l.length):=by
   have:=setAt_len st (putC st) hi;rw [if_neg hs]at this;exact lh this
  have HV:Hid ((l.flatMap colL).set (i*7+3) (.int .i64 st)=(setAt st i (putC st) l).flatMap colL):=by
   rw [setAt_ne hs _ hi];exact lh (fl_set colL_len hi (by decide) rfl)
  clear hg hlc hcm h hX hcell hcc;go_enter Tryz.func164,Tryz.ntmps164;go_wp2_with fail
  refine hcall.mono ?_;rintro e w1 ⟨rfl,b1⟩;have j1:=(b1.block g (blk_lt HG.out)).trans HG.out;have c1:=cell_on b1 HC.out;have z1:w1.frozen? ⟨g,i*7+3,none⟩=false:=frozen_blk j1 _;have HB:=lh b1;clear b1 hcall j1;go_wp2;go_ret;refine⟨l.length,rfl,?_,HL.out.symm,?_⟩
  ·rw [HL.out,<-HV.out];exact row_setc (own_below HH.out HB.out) _ _
  ·exact Fr.set (S:=fun k=>k=g) (a:=⟨g,i*7+3,none⟩) (Fr.ofBelow (fun k=>k=g) HB.out) (.inl rfl) (.int .i64 st)
theorem setI_any{l:List Ix}{g cap i:Nat}(h:w.ownsRow 0 138 5 (.slice (some ⟨g,0,none⟩) l.length cap) l.length (l.flatMap ixL))(hi:i<l.length)(st:Int):
  Calls Tryz.prog 166 #[.slice (some ⟨g,0,none⟩) l.length cap,.int .i64 (i:Int),.int .i64 st,.func (.func 122) #[] #[]] w fun e w'=>∃ m,e=.returned (.slice (some ⟨g,0,none⟩) m cap)/\w'.ownsRow 0 138 5 (.slice (some ⟨g,0,none⟩) m cap) (setAt st i (putI st) l).length ((setAt st i (putI st) l).flatMap ixL)/\m=(setAt st i (putI st) l).length/\Fr w w' (fun k=>k=g):=by
 obtain⟨cur,hg,hlc,hcm,_,_⟩:=row_blk h;have hmx:(l.length:Int)<=9223372036854775807:=by unfold maxLen at hcm;omega
 have q0:(0:Int)<=(i:Int):=by omega
 have q1:(i:Int)<(l.length:Int):=by omega
 by_cases hs:st=0
 ·subst hs;have hcall:=deleteI_any h hi (oneI l);have hl:(setAt 0 i (putI 0) l).length=l.length - 1:=by rw [setAt_zero,List.length_eraseIdx,if_pos hi]
  rw [<-setAt_zero (putI 0),<-hl]at hcall;obtain⟨m,hm⟩:∃ m,(setAt 0 i (putI 0) l).length=m:=⟨_,rfl⟩
  rw [hm]at hcall ⊢;clear hg hlc hcm hl hm h;go_enter Tryz.func166,Tryz.ntmps166;go_wp2_with fail
  refine hcall.mono ?_;rintro e w1 ⟨rfl,o1,f1⟩;have HO:=lh o1;have HF:=lh f1;clear o1 f1 hcall;go_wp2;go_ret;exact⟨m,rfl,HO.out,rfl,HF.out⟩
 ·have hL:=Lr.own (f:=ixL) ixL_len h;obtain⟨ad,cap',e',_,_,_,hX⟩:=hL;cases e';obtain⟨b,o,cs,e2,hbl,hE,_,hcell⟩:=hX i hi;cases e2;cases hE;have hcall:=ofI_any (w:=w) (B:=g) (q:=i*5) (x:=l[i]) ⟨_,rfl,fun j u hu=>by
   have:=hcell j u hu;rw [Nat.zero_add]at this;exact this⟩
  have HG:=lh hg;have hcc:w.cell? ⟨g,i*5+4,none⟩=some (.int .i64 l[i].st):=by
   have:=hcell 4 _ rfl;rw [Nat.zero_add]at this;exact this
  have HC:=lh hcc;have HH:=lh h;have hfd:=field156_2;have HL:Hid ((setAt st i (putI st) l).length=l.length):=by
   have:=setAt_len st (putI st) hi;rw [if_neg hs]at this;exact lh this
  have HV:Hid ((l.flatMap ixL).set (i*5+4) (.int .i64 st)=(setAt st i (putI st) l).flatMap ixL):=by
   rw [setAt_ne hs _ hi];exact lh (fl_set ixL_len hi (by decide) rfl)
  clear hg hlc hcm h hX hcell hcc;go_enter Tryz.func166,Tryz.ntmps166;go_wp2_with fail
  refine hcall.mono ?_;rintro e w1 ⟨rfl,b1⟩;have j1:=(b1.block g (blk_lt HG.out)).trans HG.out;have c1:=cell_on b1 HC.out;have z1:w1.frozen? ⟨g,i*5+4,none⟩=false:=frozen_blk j1 _;have HB:=lh b1;clear b1 hcall j1;go_wp2;go_ret;refine⟨l.length,rfl,?_,HL.out.symm,?_⟩
  ·rw [HL.out,<-HV.out];exact row_setc (own_below HH.out HB.out) _ _
  ·exact Fr.set (S:=fun k=>k=g) (a:=⟨g,i*5+4,none⟩) (Fr.ofBelow (fun k=>k=g) HB.out) (.inl rfl) (.int .i64 st)
theorem setK_any{l:List Fk}{g cap i:Nat}(h:w.ownsRow 0 141 5 (.slice (some ⟨g,0,none⟩) l.length cap) l.length (l.flatMap fkL))(hi:i<l.length)(st:Int):
  Calls Tryz.prog 169 #[.slice (some ⟨g,0,none⟩) l.length cap,.int .i64 (i:Int),.int .i64 st,.func (.func 126) #[] #[]] w fun e w'=>∃ m,e=.returned (.slice (some ⟨g,0,none⟩) m cap)/\w'.ownsRow 0 141 5 (.slice (some ⟨g,0,none⟩) m cap) (setAt st i (putK st) l).length ((setAt st i (putK st) l).flatMap fkL)/\m=(setAt st i (putK st) l).length/\Fr w w' (fun k=>k=g):=by
 obtain⟨cur,hg,hlc,hcm,_,_⟩:=row_blk h;have hmx:(l.length:Int)<=9223372036854775807:=by unfold maxLen at hcm;omega
 have q0:(0:Int)<=(i:Int):=by omega
 have q1:(i:Int)<(l.length:Int):=by omega
 by_cases hs:st=0
 ·subst hs;have hcall:=deleteK_any h hi (oneK l);have hl:(setAt 0 i (putK 0) l).length=l.length - 1:=by rw [setAt_zero,List.length_eraseIdx,if_pos hi]
  rw [<-setAt_zero (putK 0),<-hl]at hcall;obtain⟨m,hm⟩:∃ m,(setAt 0 i (putK 0) l).length=m:=⟨_,rfl⟩
  rw [hm]at hcall ⊢;clear hg hlc hcm hl hm h;go_enter Tryz.func169,Tryz.ntmps169;go_wp2_with fail
  refine hcall.mono ?_;rintro e w1 ⟨rfl,o1,f1⟩;have HO:=lh o1;have HF:=lh f1;clear o1 f1 hcall;go_wp2;go_ret;exact⟨m,rfl,HO.out,rfl,HF.out⟩
 ·have hL:=Lr.own (f:=fkL) fkL_len h;obtain⟨ad,cap',e',_,_,_,hX⟩:=hL;cases e';obtain⟨b,o,cs,e2,hbl,hE,_,hcell⟩:=hX i hi;cases e2;cases hE;have hcall:=ofK_any (w:=w) (B:=g) (q:=i*5) (x:=l[i]) ⟨_,rfl,fun j u hu=>by
   have:=hcell j u hu;rw [Nat.zero_add]at this;exact this⟩
  have HG:=lh hg;have hcc:w.cell? ⟨g,i*5+4,none⟩=some (.int .i64 l[i].st):=by
   have:=hcell 4 _ rfl;rw [Nat.zero_add]at this;exact this
  have HC:=lh hcc;have HH:=lh h;have hfd:=field156_2;have HL:Hid ((setAt st i (putK st) l).length=l.length):=by
   have:=setAt_len st (putK st) hi;rw [if_neg hs]at this;exact lh this
  have HV:Hid ((l.flatMap fkL).set (i*5+4) (.int .i64 st)=(setAt st i (putK st) l).flatMap fkL):=by
   rw [setAt_ne hs _ hi];exact lh (fl_set fkL_len hi (by decide) rfl)
  clear hg hlc hcm h hX hcell hcc;go_enter Tryz.func169,Tryz.ntmps169;go_wp2_with fail
  refine hcall.mono ?_;rintro e w1 ⟨rfl,b1⟩;have j1:=(b1.block g (blk_lt HG.out)).trans HG.out;have c1:=cell_on b1 HC.out;have z1:w1.frozen? ⟨g,i*5+4,none⟩=false:=frozen_blk j1 _;have HB:=lh b1;clear b1 hcall j1;go_wp2;go_ret;refine⟨l.length,rfl,?_,HL.out.symm,?_⟩
  ·rw [HL.out,<-HV.out];exact row_setc (own_below HH.out HB.out) _ _
  ·exact Fr.set (S:=fun k=>k=g) (a:=⟨g,i*5+4,none⟩) (Fr.ofBelow (fun k=>k=g) HB.out) (.inl rfl) (.int .i64 st)
end
end Go.Proofs.YtkhehikaemdnnaaGreat
