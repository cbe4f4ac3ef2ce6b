import Derived.Test.YtongmhfpoopebaaGreatPNa
import Derived.Test.YtongmhfpoopebaaGreatPHa
import Derived.Test.YtongmhfpoopebaaGreatPMb
namespace Go.Proofs.YtongmhfpoopebaaGreat
open Go.RowKit
section
variable {α : Type}
def stX (st:α→Int) (put:α→α) (k j:Nat) (x:α):List α:=if j=k then (if st (put x)=0 then [] else [put x]) else (if st x=0 then [] else [x])
def lpX (st:α→Int) (put:α→α) (k:Nat):Nat→List α→List α
 | _,[]=>[]
 | j,x :: r=>stX st put k j x ++ lpX st put k (j+1) r
theorem stX_len (st:α→Int) (put:α→α) (k j:Nat) (x:α):(stX st put k j x).length≤1:=by
 unfold stX
 repeat' split
 all_goals simp
theorem lpX_len (st:α→Int) (put:α→α) (k:Nat):∀ (j:Nat) (l:List α),(lpX st put k j l).length≤l.length
 | _,[]=>Nat.le_refl _
 | j,x :: r=>by
  have h1:=stX_len st put k j x
  have h2:=lpX_len st put k (j+1) r
  simp only [lpX,List.length_append,List.length_cons]
  omega
theorem lpX_append (st:α→Int) (put:α→α) (k:Nat):∀ (j:Nat) (a b:List α),lpX st put k j (a ++ b)=lpX st put k j a ++ lpX st put k (j+a.length) b
 | j,[],b=>by simp [lpX]
 | j,x :: r,b=>by
  simp only [lpX,List.cons_append,List.length_cons]
  rw [lpX_append st put k (j+1) r b,List.append_assoc,show j+1+r.length=j+(r.length+1) by omega]
theorem lpX_take {st:α→Int} {put:α→α} {k:Nat} {l:List α} {i:Nat} (h:i<l.length):lpX st put k 0 (l.take (i+1))=lpX st put k 0 (l.take i) ++ stX st put k i l[i]:=by
 rw [List.take_succ_eq_append_getElem h,lpX_append,List.length_take,Nat.min_eq_left (Nat.le_of_lt h),Nat.zero_add]
 simp [lpX]
theorem lpX_same {st:α→Int} {put:α→α} {k:Nat}:∀ {j:Nat} {l:List α},(∀ x ∈ l,st x≠0)→(k<j∨j+l.length≤k)→lpX st put k j l=l
 | _,[],_,_=>rfl
 | j,x :: r,h,hk=>by
  rw [List.length_cons] at hk
  have hne:¬ j=k:=by omega
  have h0:=h x (List.mem_cons_self)
  simp only [lpX,stX,if_neg hne,if_neg h0]
  rw [lpX_same (fun y hy=>h y (List.mem_cons_of_mem _ hy)) (by omega)]
  rfl
theorem lpX_all {st:α→Int} {put:α→α} {k:Nat} {l:List α} {s0:Int} (hk:k<l.length) (h:∀ x ∈ l,st x≠0) (hp:∀ x,st (put x)=s0):lpX st put k 0 l=setAt s0 k put l:=by
 have e:l=l.take k ++ ([l[k]] ++ l.drop (k+1)):=by simp
 have hl:(l.take k).length=k:=by rw [List.length_take];omega
 have e2:lpX st put k 0 l=lpX st put k 0 (l.take k) ++ (lpX st put k k [l[k]] ++ lpX st put k (k+1) (l.drop (k+1))):=by
  have e4:=congrArg (lpX st put k 0) e
  rw [lpX_append,lpX_append,hl,Nat.zero_add] at e4
  exact e4
 rw [e2,lpX_same (fun x hx=>h x (List.mem_of_mem_take hx)) (.inr (by omega)),lpX_same (fun x hx=>h x (List.mem_of_mem_drop hx)) (.inl (by omega))]
 unfold setAt
 have e3:(l.drop k).take 1=[l[k]]:=by
  rw [List.drop_eq_getElem_cons hk]
  rfl
 rw [e3]
 simp only [lpX,stX,hp,if_true,List.append_nil,List.map_cons,List.map_nil,List.append_assoc]
end
section
variable {w : World}
set_option maxHeartbeats 2000000 in
set_option maxRecDepth 100000 in
theorem fresh_ref (s:ByteArray) (n:Int):Calls Tryz.prog 83 #[.string s,.int .i64 n] w fun e w'=>e=.returned (.int .i64 (if nameB s=false then 100 else if 8≤n then 156 else 0))∧w'=w:=by
 have hnm:=named_ref (w:=w) s
 cases hb:nameB s with
 | false =>
  rw [hb] at hnm
  clear hb
  go_enter Tryz.func83,Tryz.ntmps83
  go_wp2_with (go_at_call 25;refine hnm.mono ?_;rintro e w1 ⟨rfl,rfl⟩;refine Hid.out ?_)
  refine lh ?_
  go_wp2
  go_ret
  exact ⟨rfl,rfl⟩
 | true =>
  rw [hb] at hnm
  clear hb
  by_cases h8:8≤n
  ·have g8:decide (8≤n)=true:=decide_eq_true h8
   go_enter Tryz.func83,Tryz.ntmps83
   go_wp2_with (go_at_call 25;refine hnm.mono ?_;rintro e w1 ⟨rfl,rfl⟩;refine Hid.out ?_)
   refine lh ?_
   go_wp2
   go_ret
   exact ⟨rfl,rfl⟩
  ·have g8:decide (8≤n)=false:=decide_eq_false h8
   go_enter Tryz.func83,Tryz.ntmps83
   go_wp2_with (go_at_call 25;refine hnm.mono ?_;rintro e w1 ⟨rfl,rfl⟩;refine Hid.out ?_)
   refine lh ?_
   go_wp2
   go_ret
   exact ⟨rfl,rfl⟩
def pubI (t:Tb) (z:ByteArray):Int:=match t.cols.findIdx? (fun c=>decide (c.nm=z)) with
 | none=>-1
 | some k=>if (t.cols[k]?.map Col.st)=some 3 then (k:Int) else -1
theorem pub_cases {t:Tb} (hn:(t.cols.map Col.nm).Nodup) (z:ByteArray):(pubI t z=-1∧pubC t z=none)∨∃ (k:Nat) (h:k<t.cols.length),pubI t z=(k:Int)∧pubC t z=some t.cols[k]:=by
 unfold pubI pubC
 cases h:t.cols.findIdx? (fun c=>decide (c.nm=z)) with
 | none =>
  refine .inl ⟨rfl,?_⟩
  rw [List.find?_eq_none]
  intro c hc
  have:=List.findIdx?_eq_none_iff.1 h c hc
  simp only [this,Bool.false_and]
  simp
 | some k =>
  obtain ⟨hk,hp,hb⟩:=List.findIdx?_eq_some_iff_getElem.1 h
  have hz:t.cols[k].nm=z:=by simpa using hp
  have huniq:∀ j (hj:j<t.cols.length),t.cols[j].nm=z→j=k:=fun j hj e=>by
   have h1:(t.cols.map Col.nm)[j]'(by rw [List.length_map];exact hj)=(t.cols.map Col.nm)[k]'(by rw [List.length_map];exact hk):=by
    rw [List.getElem_map,List.getElem_map,e,hz]
   rcases Nat.lt_trichotomy j k with r | r | r
   ·exact absurd h1 (List.pairwise_iff_getElem.1 hn j k _ _ r)
   ·exact r
   ·exact absurd h1.symm (List.pairwise_iff_getElem.1 hn k j _ _ r)
  simp only [List.getElem?_eq_getElem hk,Option.map_some]
  by_cases h3:t.cols[k].st=3
  ·refine .inr ⟨k,hk,by rw [if_pos (by rw [h3])],?_⟩
   rw [List.find?_eq_some_iff_getElem]
   refine ⟨by simp [hz,h3],k,hk,rfl,fun j hj=>?_⟩
   have:¬ t.cols[j].nm=z:=fun e=>by
    have:=huniq j (by omega) e
    omega
   simp [this]
  ·refine .inl ⟨by rw [if_neg (fun e=>h3 (Option.some.inj e))],?_⟩
   rw [List.find?_eq_none]
   intro c hc
   obtain ⟨j,hj,rfl⟩:=List.getElem_of_mem hc
   by_cases e:t.cols[j].nm=z
   ·have:=huniq j hj e
    subst this
    simp [h3]
   ·simp [e]
set_option maxHeartbeats 4000000 in
set_option maxRecDepth 100000 in
theorem public_ref {t:Tb} {cv iv kv:Value} (h:Three w t cv iv kv) (z:ByteArray):Calls Tryz.prog 84 #[tbV t cv iv kv,.string z] w fun e w'=>e=.returned (.int .i64 (pubI t z))∧Below w.heap.size w w':=by
 obtain ⟨W,hW⟩:∃ W,W=w.alloc (.cells (tbA t cv iv kv) 35):=⟨_,rfl⟩
 have hbW:Below w.heap.size w W:=by rw [hW];exact bnew _ _
 obtain ⟨Y,hY⟩:∃ Y,w.heap.size=Y:=⟨_,rfl⟩
 have jY:W.heap[Y]?=some (.cells (tbA t cv iv kv) 35 (0,0)):=by rw [hW,←hY];exact heap_alloc_new w _
 have hcl:=colAt_any (h.on hbW) z
 obtain ⟨ca,cc,rfl,rc⟩:=h.c
 obtain ⟨ia,ic,rfl,ri⟩:=h.i
 obtain ⟨ka,kc,rfl,rk⟩:=h.k
 obtain ⟨q0,q1,q2,hX⟩:=rc
 have hmx:(t.cols.length:Int)≤9223372036854775807:=by unfold maxLen at q2;omega
 have c0:W.cell? ⟨Y,0,none⟩=some (.int .i64 t.id):=cell_blk jY 0
 have c1:W.cell? ⟨Y,1,none⟩=some (.string t.nm):=cell_blk jY 1
 have c2:W.cell? ⟨Y,2,none⟩=some (.slice ca t.cols.length cc):=cell_blk jY 2
 have c3:W.cell? ⟨Y,3,none⟩=some (.slice ia t.ixs.length ic):=cell_blk jY 3
 have c4:W.cell? ⟨Y,4,none⟩=some (.slice ka t.fks.length kc):=cell_blk jY 4
 have HX:=lh hX
 have HW:=lh hW
 have HB:=lh hbW
 have HY:=lh hY
 have JY:=lh jY
 clear hW hbW hY jY hX q0 q1 q2 ri rk h
 rcases findIdx_fidx (fun x=>decide (x.nm=z)) t.cols with ⟨q,q8⟩ | ⟨k,hk,q,q8,q9⟩
 ·rw [q] at hcl
  have HE:Hid (pubI t z=-1):=lh (by unfold pubI;rw [q8])
  clear q q8
  go_enter Tryz.func84,Tryz.ntmps84
  go_upto_region 1 with fail
  rw [←HW.out,HY.out]
  go_wp2_with (go_at_call 26;refine hcl.mono ?_;rintro e w1 ⟨rfl,b1⟩;refine Hid.out ?_)
  refine lh ?_
  have HB1:=lh (bgo HB.out b1)
  clear hcl b1
  go_wp2
  go_ret
  exact ⟨by rw [HE.out];rfl,HB1.out⟩
 ·rw [q] at hcl
  have k0:(0:Int)≤(k:Int):=by omega
  have k1:(k:Int)<t.cols.length:=by omega
  have kn:¬ (k:Int)<0:=by omega
  obtain ⟨b,p,cs,rfl,hbl,hE,h7,hcell⟩:=HX.out k hk
  cases hE
  obtain ⟨sx,hsx⟩:∃ sx,t.cols[k].st=sx:=⟨_,rfl⟩
  have HE:Hid (pubI t z=if sx=3 then (k:Int) else -1):=lh (by
   unfold pubI
   rw [q8]
   simp only [List.getElem?_eq_getElem hk,Option.map_some,hsx,Option.some.injEq])
  have HC3:=lh (hcell 3 _ rfl)
  rw [hsx] at HC3
  clear q q8 q9 hcell hbl h7 hsx hk
  go_enter Tryz.func84,Tryz.ntmps84
  go_upto_region 1 with fail
  rw [←HW.out,HY.out]
  go_wp2_with (go_at_call 26;refine hcl.mono ?_;rintro e w1 ⟨rfl,b1⟩;refine Hid.out ?_)
  refine lh ?_
  have d2:w1.cell? ⟨Y,2,none⟩=some (.slice (some ⟨b,p,none⟩) t.cols.length cc):=cell_blk ((b1.block Y (blk_lt JY.out)).trans JY.out) 2
  have d3:w1.cell? ⟨b,p+k*7+3,none⟩=some (.int .i64 sx):=cell_on (bgo HB.out b1) HC3.out
  have HB1:=lh (bgo HB.out b1)
  clear hcl b1 c0 c1 c2 c3 c4
  by_cases e3:sx=3
  ·subst e3
   go_wp2
   go_ret
   exact ⟨by rw [HE.out];rfl,HB1.out⟩
  ·have g3:(sx == 3)=false:=by simpa using e3
   have g4:(sx != 3)=true:=bne_iff_ne.2 e3
   go_wp2
   go_ret
   exact ⟨by rw [HE.out,if_neg e3];rfl,HB1.out⟩
end
end Go.Proofs.YtongmhfpoopebaaGreat
