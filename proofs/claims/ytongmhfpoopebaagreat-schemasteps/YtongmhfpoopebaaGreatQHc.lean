import Derived.Test.YtongmhfpoopebaaGreatQCk
import Derived.Test.YtongmhfpoopebaaGreatQTo
import Derived.Test.YtongmhfpoopebaaGreatQPp
namespace Go.Proofs.YtongmhfpoopebaaGreat
open Go.RowKit Go.Maps
def wk (s:Sc) (d:Dd):List Mv→List Sc × Bool
 | []=>([],true)
 | m :: r=>if m.1=1 ∨ m.1=2 then match turnS s d m.2 with
   | .error _=>([],false)
   | .ok s'=>(s' :: (wk s' d r).1,(wk s' d r).2)
  else (s :: (wk s d r).1,(wk s d r).2)
def wkI (s:Sc) (d:Dd):List Mv→Prop
 | []=>True
 | m :: r=>if m.1=1 ∨ m.1=2 then (∀ t ∈ s.tabs,∀ i ∈ idsT t,I64 i)∧∀ s',turnS s d m.2=.ok s'→wkI s' d r
  else wkI s d r
theorem wk_err {s:Sc} {d:Dd} {m:Mv} {r:List Mv} {er:Int} (hb:m.1=1 ∨ m.1=2) (e:turnS s d m.2=.error er):wk s d (m :: r)=([],false):=by
 rw [wk,if_pos hb,e]
theorem wk_ok {s s':Sc} {d:Dd} {m:Mv} {r:List Mv} (hb:m.1=1 ∨ m.1=2) (e:turnS s d m.2=.ok s'):wk s d (m :: r)=(s' :: (wk s' d r).1,(wk s' d r).2):=by
 rw [wk,if_pos hb,e]
theorem wk_skip {s:Sc} {d:Dd} {m:Mv} {r:List Mv} (hb:¬ (m.1=1 ∨ m.1=2)):wk s d (m :: r)=(s :: (wk s d r).1,(wk s d r).2):=by
 rw [wk,if_neg hb]
abbrev rsL (p:Sc × Value):List Value:=[.int .i64 p.1.ver,.int .i64 p.1.last,p.2]
theorem rsL_len (p:Sc × Value):(rsL p).length=3:=rfl
theorem pushSc {X:World} {B:Nat} {R:List (Sc × Value)} {v:Value} (ho:X.ownsRow B 24 3 v R.length (R.flatMap rsL)) (hB:B≤X.heap.size) (s:Sc) {ca:Option Addr} {cn cc:Nat} (hz:R.length≤1000000) :
  ∃ ad cap w',(Builtin.append_ #[55,55] 55 #[v,.slice (some ⟨X.heap.size,0,none⟩) 1 1]).run Tryz.prog (X.alloc (.cells #[.int .i64 s.ver,.int .i64 s.last,.slice ca cn cc] 24))=.ok (.slice ad (R.length+1) cap) w'∧w'.ownsRow B 24 3 (.slice ad (R.length+1) cap) (R ++ [(s,Value.slice ca cn cc)]).length ((R ++ [(s,Value.slice ca cn cc)]).flatMap rsL)∧Fr X w' (fun k=>v.ownBlock=some k):=by
 have hal:=bnew X (.cells #[.int .i64 s.ver,.int .i64 s.last,.slice ca cn cc] 24)
 have hj:=heap_alloc_new X (.cells #[.int .i64 s.ver,.int .i64 s.last,.slice ca cn cc] 24)
 obtain ⟨ad,cap,w',h1,h2,h3,h4⟩:=run_sc (m:=1) (c:=1) (news:=rsL (s,.slice ca cn cc)) (own_below ho hal) (Nat.le_trans hB hal.size) (.inr ⟨_,rfl,rfl,fun j u hu=>by
  rw [add_at,Nat.zero_add,cell_blk hj]
  simpa using hu⟩) (fun u hu=>by
   simp at hu
   rcases hu with rfl | rfl | rfl <;> rfl) (by omega)
 exact ⟨ad,cap,w',h1,by simpa using h2,((Fr.refl X _).alloc _).grown h3 (fun k hk=>.inl hk)⟩
def Rd (w wr:World) (B:Nat) (s:Sc) (tv:Value):Prop:=Lr tbE 5 w s.tabs tv ∨ ∃ G,G.map Prod.fst=s.tabs∧Dr wr B G tv
theorem Rd.reads {w wr:World} {B:Nat} {s:Sc} {tv:Value} (h:Rd w wr B s tv) (hb:Below w.heap.size w wr):Lr tbE 5 wr s.tabs tv:=by
 rcases h with h | ⟨G,hG,hD⟩
 ·exact h.on tbE_held hb
 ·have:=hD.reads
  rwa [hG] at this
theorem Rd.keep {w wr wr':World} {B:Nat} {s:Sc} {tv:Value} {T:Nat→Prop} (h:Rd w wr B s tv) (hf:Fr wr wr' T) (ht:∀ k,T k→k < B ∨ ∀ cs e,wr.heap[k]?=some (.cells cs e (0,0))→e ≠ 35∧e ≠ 50∧e ≠ 71∧e ≠ 74):Rd w wr' B s tv:=by
 rcases h with h | ⟨G,hG,hD⟩
 ·exact .inl h
 ·exact .inr ⟨G,hG,hD.keep hf ht⟩
theorem Rd.below {w wr wr':World} {B:Nat} {s:Sc} {tv:Value} (h:Rd w wr B s tv) (hb:Below wr.heap.size wr wr'):Rd w wr' B s tv:=h.keep (T:=fun _=>False) (Fr.ofBelow _ hb) (fun _ q=>q.elim)
theorem Rd.shape {w wr:World} {B:Nat} {s:Sc} {tv:Value} (h:Rd w wr B s tv):∃ a c,tv=.slice a s.tabs.length c:=by
 rcases h with h | ⟨G,hG,hD⟩
 ·obtain ⟨a,c,e,_⟩:=h
  exact ⟨a,c,e⟩
 ·obtain ⟨a,c,e⟩:=own_shape hD.row
  exact ⟨a,c,by rw [e,← hG,List.length_map]⟩
def WkAns (w:World) (l:List Sc) (b:Bool) (e:Ending) (w':World):Prop:=∃ ad cap,e=.returned (.tuple #[.slice ad l.length cap,.bool b])∧Lr scE 3 w' l (.slice ad l.length cap)∧Below w.heap.size w w'
theorem wk_ans {w W wr:World} {R:List (Sc × Value)} {l:List Sc} {b:Bool} {ad:Option Addr} {n cap:Nat} (hl:R.map Prod.fst=l) (hn:R.length=n) (ho:wr.ownsRow W.heap.size 24 3 (.slice ad n cap) R.length (R.flatMap rsL)) (hR:∀ p ∈ R,Rd w wr W.heap.size p.1 p.2) (hb:Below w.heap.size w wr):WkAns w l b (.returned (.tuple #[.slice ad n cap,.bool b])) wr:=by
 subst hl hn
 refine ⟨ad,cap,by rw [List.length_map],?_,hb⟩
 obtain ⟨a1,c1,e,h0,h1,h2,h3⟩:=Lr.own rsL_len ho
 cases e
 rw [List.length_map]
 refine ⟨ad,cap,by rw [List.length_map],h0,by rw [List.length_map];exact h1,h2,fun i hi=>?_⟩
 rw [List.length_map] at hi
 obtain ⟨g,q,cs,ha,hl,hE,hc,hh⟩:=h3 i hi
 refine ⟨g,q,cs,ha,hl,?_,hc,hh⟩
 rw [List.getElem_map]
 exact ⟨R[i].2,hE,(hR _ (List.getElem_mem hi)).reads hb⟩
structure WJ (w W:World) (s:Sc) (d:Dd) (L:List Mv) (Y0 Y1:Nat) (dd:Array Value) (wr:World) (lv:Value) (i:Nat) (R:List (Sc × Value)) (c:Sc) (tv:Value):Prop where
 pl:s :: (wk s d L).1=R.map Prod.fst ++ (wk c d (L.drop i)).1
 fl:(wk s d L).2=(wk c d (L.drop i)).2
 ids:wkI c d (L.drop i)
 y0:wr.heap[Y0]?=some (.cells (scA c tv) 24 (0,0))
 y1:wr.heap[Y1]?=some (.cells dd 31 (0,0))
 cur:Rd w wr W.heap.size c tv
 row:wr.ownsRow W.heap.size 24 3 lv R.length (R.flatMap rsL)
 all:∀ p ∈ R,Rd w wr W.heap.size p.1 p.2
 len:R.length=i+1
 b:Below w.heap.size w wr
 sz:W.heap.size≤wr.heap.size
set_option maxHeartbeats 16000000 in
set_option maxRecDepth 100000 in
theorem walked_any {w:World} {s:Sc} {d:Dd} {L:List Mv} {tv:Value} {da pa:Option Addr} {dc pc:Nat} (hL:Lr tbE 5 w s.tabs tv) (hd:Lr colE 7 w d.cols (.slice da d.cols.length dc)) (hz:d.cols.length≤1000000) (hp:Lr mvE 2 w L (.slice pa L.length pc)) (hpl:L.length≤100) (hids:wkI s d L):Calls Tryz.prog 19 #[scV s tv,.agg #[.int .i64 d.kind,.string d.table,.string d.name,.string d.column,.string d.parent,.bool d.uq,.int .i64 d.ty,.int .i64 d.df.k,.int .i64 d.df.n,.string d.df.s,.slice da d.cols.length dc],.slice pa L.length pc] w (WkAns w (s :: (wk s d L).1) (wk s d L).2):=by
 obtain ⟨ta,tc,rfl,hr0⟩:=hL
 have hL:Lr tbE 5 w s.tabs (.slice ta s.tabs.length tc):=⟨ta,tc,rfl,hr0⟩
 obtain ⟨_,_,ep,_,_,_,hX⟩:=hp
 cases ep
 obtain ⟨n,hn⟩:∃ n,L.length=n:=⟨_,rfl⟩
 have hnm:(n:Int)≤9223372036854775807:=by omega
 obtain ⟨dd,hdd⟩:∃ dd:Array Value,dd=#[.int .i64 d.kind,.string d.table,.string d.name,.string d.column,.string d.parent,.bool d.uq,.int .i64 d.ty,.int .i64 d.df.k,.int .i64 d.df.n,.string d.df.s,.slice da d.cols.length dc]:=⟨_,rfl⟩
 obtain ⟨W,hW⟩:∃ W,W=(w.alloc (.cells #[.int .i64 s.ver,.int .i64 s.last,.slice ta s.tabs.length tc] 24)).alloc (.cells dd 31):=⟨_,rfl⟩
 have hbW:Below w.heap.size w W:=by rw [hW];exact ((Below.refl _ w).alloc (Nat.le_refl _) _).alloc (by simp) _
 obtain ⟨Y0,hY0⟩:∃ Y0,w.heap.size=Y0:=⟨_,rfl⟩
 obtain ⟨Y1,hY1⟩:∃ Y1,Y0+1=Y1:=⟨_,rfl⟩
 have j0:W.heap[Y0]?=some (.cells #[.int .i64 s.ver,.int .i64 s.last,.slice ta s.tabs.length tc] 24 (0,0)):=by
  have:=heap_alloc_new w (.cells #[.int .i64 s.ver,.int .i64 s.last,.slice ta s.tabs.length tc] 24)
  rw [hW,← hY0,Below.heap_alloc _ _ _ (by simp only [World.size_alloc];omega)]
  exact this
 have j1:W.heap[Y1]?=some (.cells dd 31 (0,0)):=by
  have:=heap_alloc_new (w.alloc (.cells #[.int .i64 s.ver,.int .i64 s.last,.slice ta s.tabs.length tc] 24)) (.cells dd 31)
  simp only [World.size_alloc] at this
  rw [hW,← hY1,← hY0]
  exact this
 obtain ⟨V0,hV0⟩:∃ V0,V0=W.alloc (.cells #[.int .i64 s.ver,.int .i64 s.last,.slice ta s.tabs.length tc] 24):=⟨_,rfl⟩
 have bV0:Below W.heap.size W V0:=by rw [hV0];exact bnew _ _
 obtain ⟨P,hP⟩:∃ P,W.heap.size=P:=⟨_,rfl⟩
 have jP:V0.heap[P]?=some (.cells #[.int .i64 s.ver,.int .i64 s.last,.slice ta s.tabs.length tc] 24 (0,0)):=by rw [hV0,← hP];exact heap_alloc_new W _
 have c0:W.cell? ⟨Y0,0,none⟩=some (.int .i64 s.ver):=cell_blk j0 0
 have c1:W.cell? ⟨Y0,1,none⟩=some (.int .i64 s.last):=cell_blk j0 1
 have c2:W.cell? ⟨Y0,2,none⟩=some (.slice ta s.tabs.length tc):=cell_blk j0 2
 have H0:Hid (WJ w W s d L Y0 Y1 dd V0 (.slice (some ⟨P,0,none⟩) 1 1) 0 [(s,.slice ta s.tabs.length tc)] s (.slice ta s.tabs.length tc)):=lh {
  pl:=by simp
  fl:=by simp
  ids:=by simpa using hids
  y0:=(bV0.block Y0 (blk_lt j0)).trans j0
  y1:=(bV0.block Y1 (blk_lt j1)).trans j1
  cur:=.inl hL
  row:=⟨rfl,.inr ⟨P,1,_,rfl,by omega,jP,Nat.le_refl _,by unfold maxLen;omega,rfl,rfl⟩⟩
  all:=fun p hp=>by
   rw [List.mem_singleton.1 hp]
   exact .inl hL
  len:=rfl
  b:=bgo hbW bV0
  sz:=bV0.size }
 have HW:=lh hW
 have HV0:=lh hV0
 have HP:=lh hP
 have HY0:=lh hY0
 have HY1:=lh hY1
 have HX:=lh hX
 have HN:=lh hn
 have HD:=lh hd
 have HZ:=lh hz
 have HDD:=lh hdd
 have HNL:Hid (n≤100):=lh (by omega)
 have HYW:Hid (Y0 < W.heap.size∧w.heap.size≤Y0):=lh ⟨blk_lt j0,by omega⟩
 rw [hn]
 clear hW hbW hY0 hY1 j0 j1 hV0 bV0 hP jP hL hr0 hX hd hz hpl hids hn
 go_enter Tryz.func19,Tryz.ntmps19
 rw [← hdd]
 clear hdd
 go_upto_region 1 with fail
 rw [← HW.out,HY0.out,HY1.out]
 go_upto_region 2 with fail
 rw [← HV0.out,HP.out]
 clear c0 c1 c2
 go_wp2
 go_loopw [8,17] (fun lv iv wr=>∃ (i:Nat) (R:List (Sc × Value)) (c:Sc) (tv:Value),i≤n∧iv=.int .i64 (i:Int)∧WJ w W s d L Y0 Y1 dd wr lv i R c tv) (fun _ iv _=>n - (intOf iv).toNat)
 case atStart=>exact ⟨0,_,_,_,Nat.zero_le _,rfl,H0.out⟩
 case round =>
  clear H0
  obtain ⟨i,R,c,tv,hi,rfl,hJ⟩:=hrel
  obtain ⟨V,rfl⟩:∃ V,V=wr:=⟨_,rfl⟩
  obtain ⟨la,lc,hls⟩:=own_shape hJ.row
  have hlen:=hJ.len
  rw [hlen] at hls
  subst hls
  obtain ⟨va,vc,hvs⟩:=hJ.cur.shape
  subst hvs
  have HJ:=lh hJ
  by_cases hlt:i < n
  ·have hiL:i < L.length:=by rw [HN.out];exact hlt
   have k0:(0:Int)≤i:=by omega
   have k1:(i:Int) < n:=by omega
   obtain ⟨b,p,cs,rfl,hbl,hE,_,hcell⟩:=HX.out i hiL
   cases hE
   obtain ⟨m,hm⟩:∃ m,L[i]=m:=⟨_,rfl⟩
   rw [hm] at hcell
   have c0:V.cell? ⟨b,p+i * 2,none⟩=some (.int .i64 m.1):=cell_on hJ.b (hcell 0 _ rfl)
   have c1:V.cell? ⟨b,p+i * 2+1,none⟩=some (.int .i64 m.2):=cell_on hJ.b (hcell 1 _ rfl)
   have hdr:L.drop i=m :: L.drop (i+1):=by rw [List.drop_eq_getElem_cons hiL,hm]
   have HDR:=lh hdr
   obtain ⟨V1,hV1⟩:∃ V1,V1=V.alloc (.cells #[.int .i64 m.1,.int .i64 m.2] 60):=⟨_,rfl⟩
   obtain ⟨Q,hQ⟩:∃ Q,V.heap.size=Q:=⟨_,rfl⟩
   have bV1:Below V.heap.size V V1:=by rw [hV1];exact bnew _ _
   have jQ:V1.heap[Q]?=some (.cells #[.int .i64 m.1,.int .i64 m.2] 60 (0,0)):=by rw [hV1,← hQ];exact heap_alloc_new V _
   have q0:V1.cell? ⟨Q,0,none⟩=some (.int .i64 m.1):=cell_blk jQ 0
   have q1:V1.cell? ⟨Q,1,none⟩=some (.int .i64 m.2):=cell_blk jQ 1
   have y0:=(bV1.block Y0 (blk_lt hJ.y0)).trans hJ.y0
   have y1:=(bV1.block Y1 (blk_lt hJ.y1)).trans hJ.y1
   have s0:V1.cell? ⟨Y0,0,none⟩=some (.int .i64 c.ver):=cell_blk y0 0
   have s1:V1.cell? ⟨Y0,1,none⟩=some (.int .i64 c.last):=cell_blk y0 1
   have s2:V1.cell? ⟨Y0,2,none⟩=some (.slice va c.tabs.length vc):=cell_blk y0 2
   have HV1:=lh hV1
   have HQ:=lh hQ
   have BV1:=lh bV1
   obtain ⟨mk,hmk⟩:∃ k,m.1=k:=⟨_,rfl⟩
   obtain ⟨ms,hms⟩:∃ k,m.2=k:=⟨_,rfl⟩
   rw [hmk] at c0 q0
   rw [hms] at c1 q1
   have HMK:=lh hmk
   have HMS:=lh hms
   have hV1':V1=V.alloc (.cells #[.int .i64 mk,.int .i64 ms] 60):=by rw [hV1,hmk,hms]
   have HV1':=lh hV1'
   clear hcell hm hdr hV1 hV1' hQ bV1 jQ hbl hmk hms
   go_upto_region 5 with fail
   rw [← HV1'.out,HQ.out]
   clear c0 c1
   by_cases hbp:mk=1 ∨ mk=2
   ·have hwI:=hJ.ids
    rw [HDR.out] at hwI
    unfold wkI at hwI
    rw [if_pos (by rw [HMK.out];exact hbp)] at hwI
    have hcl:=hJ.cur.below BV1.out
    have ht:=turn_any (w:=V1) (s:=c) (d:=d) (st:=ms) (da:=da) (dc:=dc) (hcl.reads (bgo hJ.b BV1.out)) hwI.1 (HD.out.on colE_held (bgo hJ.b BV1.out)) HZ.out
    have hld:(Instr.loadAt 31 (.pointer (some ⟨Y1,0,none⟩))).run Tryz.prog V1=.ok (.agg dd) V1:=load_row y1 Tryz.underlying31 rfl (by rw [HDD.out];exact size31)
    have ht2:Calls Tryz.prog 15 #[.agg #[.int .i64 c.ver,.int .i64 c.last,.slice va c.tabs.length vc],.agg dd,.int .i64 ms] V1 (TuAns V1 (turnS c d ms)):=by rw [HDD.out];exact ht
    have JY0:=lh y0
    have JY1:=lh y1
    have HWI:=lh hwI.2
    clear y0 y1 hwI hcl ht hJ
    cases et:turnS c d ms with
    | error er =>
     rw [et] at ht2
     have HFL:Hid (s :: (wk s d L).1=R.map Prod.fst∧(wk s d L).2=false):=lh (by
      have h1:=HJ.out.pl
      have h2:=HJ.out.fl
      rw [HDR.out] at h1 h2
      rw [wk_err (by rw [HMK.out];exact hbp) (by rw [HMS.out];exact et)] at h1 h2
      exact ⟨by simpa using h1,h2⟩)
     clear et
     have hg:(mk == 1)=true ∨ ((mk == 1)=false∧(mk == 2)=true):=by
      rcases hbp with q | q
      ·exact .inl (by simp [q])
      ·exact .inr ⟨by simp [q],by simp [q]⟩
     rcases hg with g1 | ⟨g1,g2⟩
     ·go_wp2_with (first | (refine wpl_load _ rfl (by simp [Act.eval,Act.put]) hld ?_) | (go_at_call 15;refine ht2.mono ?_;rintro e w3 ⟨rfl,hne,b3⟩;refine Hid.out ?_))
      refine lh ?_
      have hne':¬ er=0:=hne
      have HA:Hid (WkAns w (s :: (wk s d L).1) (wk s d L).2 (.returned (.tuple #[.slice la (i+1) lc,.bool false])) (w3.alloc (.cells #[.int .i64 0,.int .i64 0,.slice none 0 0] 24))):=lh (by
       rw [HFL.out.1,HFL.out.2]
       have bb:=bgo BV1.out (bgo b3 (bnew w3 (.cells #[.int .i64 0,.int .i64 0,.slice none 0 0] 24)))
       exact wk_ans rfl hlen (own_below HJ.out.row bb) (fun p hp=>(HJ.out.all p hp).below bb) (bgo HJ.out.b bb))
      clear hne b3 hlen ht2 hld s0 s1 s2
      go_wp2
      go_ret2
      exact HA.out
     ·go_wp2_with (first | (refine wpl_load _ rfl (by simp [Act.eval,Act.put]) hld ?_) | (go_at_call 15;refine ht2.mono ?_;rintro e w3 ⟨rfl,hne,b3⟩;refine Hid.out ?_))
      refine lh ?_
      have hne':¬ er=0:=hne
      have HA:Hid (WkAns w (s :: (wk s d L).1) (wk s d L).2 (.returned (.tuple #[.slice la (i+1) lc,.bool false])) (w3.alloc (.cells #[.int .i64 0,.int .i64 0,.slice none 0 0] 24))):=lh (by
       rw [HFL.out.1,HFL.out.2]
       have bb:=bgo BV1.out (bgo b3 (bnew w3 (.cells #[.int .i64 0,.int .i64 0,.slice none 0 0] 24)))
       exact wk_ans rfl hlen (own_below HJ.out.row bb) (fun p hp=>(HJ.out.all p hp).below bb) (bgo HJ.out.b bb))
      clear hne b3 hlen ht2 hld s0 s1 s2
      go_wp2
      go_ret2
      exact HA.out
    | ok c' =>
     rw [et] at ht2
     have HET:=lh et
     clear et
     have hg:(mk == 1)=true ∨ ((mk == 1)=false∧(mk == 2)=true):=by
      rcases hbp with q | q
      ·exact .inl (by simp [q])
      ·exact .inr ⟨by simp [q],by simp [q]⟩
     rcases hg with g1 | ⟨g1,g2⟩
     ·go_wp2_with (first | (refine wpl_load _ rfl (by simp [Act.eval,Act.put]) hld ?_) | (go_at_call 15;refine ht2.mono ?_;rintro e w3 ⟨G,tv3,rfl,hG3,hD3,b3⟩;refine Hid.out ?_))
      refine lh ?_
      obtain ⟨va3,vc3,hsh3⟩:=own_shape hD3.row
      have hGl:G.length=c'.tabs.length:=by rw [← hG3,List.length_map]
      rw [hGl] at hsh3
      subst hsh3
      obtain ⟨U1,hU1⟩:∃ U1,U1=w3.alloc (.cells #[.int .i64 c'.ver,.int .i64 c'.last,.slice va3 c'.tabs.length vc3] 24):=⟨_,rfl⟩
      obtain ⟨Z,hZZ⟩:∃ Z,w3.heap.size=Z:=⟨_,rfl⟩
      have bU1:Below w3.heap.size w3 U1:=by rw [hU1];exact bnew _ _
      have jZ:U1.heap[Z]?=some (.cells #[.int .i64 c'.ver,.int .i64 c'.last,.slice va3 c'.tabs.length vc3] 24 (0,0)):=by rw [hU1,← hZZ];exact heap_alloc_new w3 _
      have bb:Below V.heap.size V U1:=bgo BV1.out (bgo b3 bU1)
      have bb1:Below V1.heap.size V1 U1:=bgo b3 bU1
      have z0:=(bb1.block Y0 (blk_lt JY0.out)).trans JY0.out
      have z1:=(bb1.block Y1 (blk_lt JY1.out)).trans JY1.out
      have hne:Z ≠ Y0:=by have:=blk_lt JY0.out;have:=b3.size;omega
      obtain ⟨X4,e4,j4,f4⟩:=sets_row z0 #[.int .i64 c'.ver,.int .i64 c'.last,.slice va3 c'.tabs.length vc3] rfl
      have hst:(Instr.storeAt 24 (.pointer (some ⟨Y0,0,none⟩)) (.agg #[.int .i64 c'.ver,.int .i64 c'.last,.slice va3 c'.tabs.length vc3])).run Tryz.prog U1=.ok () X4:=by
       rw [e4]
       exact store_row z0 rfl size24 (by simp [Value.oneCell'])
      have u0:U1.cell? ⟨Z,0,none⟩=some (.int .i64 c'.ver):=cell_blk jZ 0
      have u1:U1.cell? ⟨Z,1,none⟩=some (.int .i64 c'.last):=cell_blk jZ 1
      have u2:U1.cell? ⟨Z,2,none⟩=some (.slice va3 c'.tabs.length vc3):=cell_blk jZ 2
      have x0:X4.cell? ⟨Y0,0,none⟩=some (.int .i64 c'.ver):=cell_blk j4 0
      have x1:X4.cell? ⟨Y0,1,none⟩=some (.int .i64 c'.last):=cell_blk j4 1
      have x2:X4.cell? ⟨Y0,2,none⟩=some (.slice va3 c'.tabs.length vc3):=cell_blk j4 2
      have rowX:X4.ownsRow W.heap.size 24 3 (.slice la (i+1) lc) R.length (R.flatMap rsL):=row_keep (own_below HJ.out.row bb) f4 (fun j hj q=>by
       have h1:=(own_ge HJ.out.row j hj).1
       have h2:=HYW.out.1
       omega)
      obtain ⟨ad2,cap2,w4,hrun,r1,r2⟩:=pushSc rowX (Nat.le_trans HJ.out.sz (Nat.le_trans bb.size f4.size)) c' (ca:=va3) (cn:=c'.tabs.length) (cc:=vc3) (by rw [hlen];have:=HNL.out;omega)
      rw [hlen] at hrun r1
      have tgX:∀ k,(Value.slice la (i+1) lc).ownBlock=some k→W.heap.size≤k∧∀ cs e,X4.heap[k]?=some (.cells cs e (0,0))→e ≠ 35∧e ≠ 50∧e ≠ 71∧e ≠ 74:=fun k hk=>⟨(own_ge rowX k hk).1,fun cs e z=>by
       obtain ⟨cs9,t9⟩:=own_tag rowX k hk
       rw [t9] at z
       simp only [Option.some.injEq,Obj.cells.injEq] at z
       rw [← z.2.1]
       decide⟩
      have kp:∀ {x:Sc} {v:Value},Rd w U1 W.heap.size x v→Rd w w4 W.heap.size x v:=fun h=>(h.keep f4 (fun k hk=>.inl (by rw [hk];exact HYW.out.1))).keep r2 (fun k hk=>.inr (tgX k hk).2)
      have hJ2:WJ w W s d L Y0 Y1 dd w4 (.slice ad2 (i+1+1) cap2) (i+1) (R ++ [(c',.slice va3 c'.tabs.length vc3)]) c' (.slice va3 c'.tabs.length vc3):={
       pl:=by
        rw [HJ.out.pl,HDR.out,wk_ok (by rw [HMK.out];exact hbp) (by rw [HMS.out];exact HET.out),List.map_append]
        simp
       fl:=by
        rw [HJ.out.fl,HDR.out,wk_ok (by rw [HMK.out];exact hbp) (by rw [HMS.out];exact HET.out)]
       ids:=HWI.out c' (by rw [HMS.out];exact HET.out)
       y0:=(r2.block Y0 (blk_lt j4) (fun q=>by have:=(tgX Y0 q).1;have:=HYW.out.1;omega)).trans j4
       y1:=(r2.block Y1 (by rw [← f4.block Y1 (blk_lt z1) (fun q=>by rw [q,z0] at z1;simp at z1)] at z1;exact blk_lt z1) (fun q=>by
        obtain ⟨cs9,t9⟩:=own_tag rowX Y1 q
        rw [f4.block Y1 (blk_lt z1) (fun q=>by rw [q,z0] at z1;simp at z1),z1] at t9
        simp only [Option.some.injEq,Obj.cells.injEq] at t9
        exact absurd t9.2.1 (by decide))).trans ((f4.block Y1 (blk_lt z1) (fun q=>by rw [q,z0] at z1;simp at z1)).trans z1)
       cur:=kp (.inr ⟨G,hG3,(hD3.below bU1).mono (Nat.le_trans HJ.out.sz BV1.out.size)⟩)
       row:=r1
       all:=fun q hq=>by
        rcases List.mem_append.1 hq with z | z
        ·exact kp ((HJ.out.all q z).below bb)
        ·rw [List.mem_singleton.1 z]
         exact kp (.inr ⟨G,hG3,(hD3.below bU1).mono (Nat.le_trans HJ.out.sz BV1.out.size)⟩)
       len:=by rw [List.length_append,hlen];rfl
       b:=((bgo HJ.out.b bb).trans (f4.toBelow (fun k hk q=>by have:=HYW.out.2;omega) (bgo HJ.out.b bb).size)).trans (r2.toBelow (fun k hk q=>by
        have h1:=(tgX k q).1
        have h2:=HYW.out
        omega) (Nat.le_trans (bgo HJ.out.b bb).size f4.size))
       sz:=Nat.le_trans HJ.out.sz (Nat.le_trans bb.size (Nat.le_trans f4.size r2.size)) }
      have HJ2:=lh hJ2
      have HU1:=lh hU1
      have HZZ:=lh hZZ
      clear hJ2 r1 r2 tgX kp rowX hG3 hD3 b3 bU1 jZ bb bb1 z0 z1 hne e4 j4 f4 hU1 hZZ hGl hlen ht2 hld s0 s1 s2 q1
      go_upto_region 9 with fail
      rw [← HU1.out,HZZ.out]
      go_upto_region 10 with (first | (refine wpl_store _ _ rfl (by simp [Act.eval]) (by simp [Act.eval]) hst ?_))
      clear u0 u1 u2 hst
      go_wp2_with (at_builtin;refine wpl_run2 _ _ rfl (by simp [Act.eval]) (by simp [Act.eval]) hrun ?_)
      go_roundw
      case rel=>exact ⟨i+1,_,_,_,hlt,by go_num,HJ2.out⟩
      case measure=>simp [intOf];omega
     ·go_wp2_with (first | (refine wpl_load _ rfl (by simp [Act.eval,Act.put]) hld ?_) | (go_at_call 15;refine ht2.mono ?_;rintro e w3 ⟨G,tv3,rfl,hG3,hD3,b3⟩;refine Hid.out ?_))
      refine lh ?_
      obtain ⟨va3,vc3,hsh3⟩:=own_shape hD3.row
      have hGl:G.length=c'.tabs.length:=by rw [← hG3,List.length_map]
      rw [hGl] at hsh3
      subst hsh3
      obtain ⟨U1,hU1⟩:∃ U1,U1=w3.alloc (.cells #[.int .i64 c'.ver,.int .i64 c'.last,.slice va3 c'.tabs.length vc3] 24):=⟨_,rfl⟩
      obtain ⟨Z,hZZ⟩:∃ Z,w3.heap.size=Z:=⟨_,rfl⟩
      have bU1:Below w3.heap.size w3 U1:=by rw [hU1];exact bnew _ _
      have jZ:U1.heap[Z]?=some (.cells #[.int .i64 c'.ver,.int .i64 c'.last,.slice va3 c'.tabs.length vc3] 24 (0,0)):=by rw [hU1,← hZZ];exact heap_alloc_new w3 _
      have bb:Below V.heap.size V U1:=bgo BV1.out (bgo b3 bU1)
      have bb1:Below V1.heap.size V1 U1:=bgo b3 bU1
      have z0:=(bb1.block Y0 (blk_lt JY0.out)).trans JY0.out
      have z1:=(bb1.block Y1 (blk_lt JY1.out)).trans JY1.out
      have hne:Z ≠ Y0:=by have:=blk_lt JY0.out;have:=b3.size;omega
      obtain ⟨X4,e4,j4,f4⟩:=sets_row z0 #[.int .i64 c'.ver,.int .i64 c'.last,.slice va3 c'.tabs.length vc3] rfl
      have hst:(Instr.storeAt 24 (.pointer (some ⟨Y0,0,none⟩)) (.agg #[.int .i64 c'.ver,.int .i64 c'.last,.slice va3 c'.tabs.length vc3])).run Tryz.prog U1=.ok () X4:=by
       rw [e4]
       exact store_row z0 rfl size24 (by simp [Value.oneCell'])
      have u0:U1.cell? ⟨Z,0,none⟩=some (.int .i64 c'.ver):=cell_blk jZ 0
      have u1:U1.cell? ⟨Z,1,none⟩=some (.int .i64 c'.last):=cell_blk jZ 1
      have u2:U1.cell? ⟨Z,2,none⟩=some (.slice va3 c'.tabs.length vc3):=cell_blk jZ 2
      have x0:X4.cell? ⟨Y0,0,none⟩=some (.int .i64 c'.ver):=cell_blk j4 0
      have x1:X4.cell? ⟨Y0,1,none⟩=some (.int .i64 c'.last):=cell_blk j4 1
      have x2:X4.cell? ⟨Y0,2,none⟩=some (.slice va3 c'.tabs.length vc3):=cell_blk j4 2
      have rowX:X4.ownsRow W.heap.size 24 3 (.slice la (i+1) lc) R.length (R.flatMap rsL):=row_keep (own_below HJ.out.row bb) f4 (fun j hj q=>by
       have h1:=(own_ge HJ.out.row j hj).1
       have h2:=HYW.out.1
       omega)
      obtain ⟨ad2,cap2,w4,hrun,r1,r2⟩:=pushSc rowX (Nat.le_trans HJ.out.sz (Nat.le_trans bb.size f4.size)) c' (ca:=va3) (cn:=c'.tabs.length) (cc:=vc3) (by rw [hlen];have:=HNL.out;omega)
      rw [hlen] at hrun r1
      have tgX:∀ k,(Value.slice la (i+1) lc).ownBlock=some k→W.heap.size≤k∧∀ cs e,X4.heap[k]?=some (.cells cs e (0,0))→e ≠ 35∧e ≠ 50∧e ≠ 71∧e ≠ 74:=fun k hk=>⟨(own_ge rowX k hk).1,fun cs e z=>by
       obtain ⟨cs9,t9⟩:=own_tag rowX k hk
       rw [t9] at z
       simp only [Option.some.injEq,Obj.cells.injEq] at z
       rw [← z.2.1]
       decide⟩
      have kp:∀ {x:Sc} {v:Value},Rd w U1 W.heap.size x v→Rd w w4 W.heap.size x v:=fun h=>(h.keep f4 (fun k hk=>.inl (by rw [hk];exact HYW.out.1))).keep r2 (fun k hk=>.inr (tgX k hk).2)
      have hJ2:WJ w W s d L Y0 Y1 dd w4 (.slice ad2 (i+1+1) cap2) (i+1) (R ++ [(c',.slice va3 c'.tabs.length vc3)]) c' (.slice va3 c'.tabs.length vc3):={
       pl:=by
        rw [HJ.out.pl,HDR.out,wk_ok (by rw [HMK.out];exact hbp) (by rw [HMS.out];exact HET.out),List.map_append]
        simp
       fl:=by
        rw [HJ.out.fl,HDR.out,wk_ok (by rw [HMK.out];exact hbp) (by rw [HMS.out];exact HET.out)]
       ids:=HWI.out c' (by rw [HMS.out];exact HET.out)
       y0:=(r2.block Y0 (blk_lt j4) (fun q=>by have:=(tgX Y0 q).1;have:=HYW.out.1;omega)).trans j4
       y1:=(r2.block Y1 (by rw [← f4.block Y1 (blk_lt z1) (fun q=>by rw [q,z0] at z1;simp at z1)] at z1;exact blk_lt z1) (fun q=>by
        obtain ⟨cs9,t9⟩:=own_tag rowX Y1 q
        rw [f4.block Y1 (blk_lt z1) (fun q=>by rw [q,z0] at z1;simp at z1),z1] at t9
        simp only [Option.some.injEq,Obj.cells.injEq] at t9
        exact absurd t9.2.1 (by decide))).trans ((f4.block Y1 (blk_lt z1) (fun q=>by rw [q,z0] at z1;simp at z1)).trans z1)
       cur:=kp (.inr ⟨G,hG3,(hD3.below bU1).mono (Nat.le_trans HJ.out.sz BV1.out.size)⟩)
       row:=r1
       all:=fun q hq=>by
        rcases List.mem_append.1 hq with z | z
        ·exact kp ((HJ.out.all q z).below bb)
        ·rw [List.mem_singleton.1 z]
         exact kp (.inr ⟨G,hG3,(hD3.below bU1).mono (Nat.le_trans HJ.out.sz BV1.out.size)⟩)
       len:=by rw [List.length_append,hlen];rfl
       b:=((bgo HJ.out.b bb).trans (f4.toBelow (fun k hk q=>by have:=HYW.out.2;omega) (bgo HJ.out.b bb).size)).trans (r2.toBelow (fun k hk q=>by
        have h1:=(tgX k q).1
        have h2:=HYW.out
        omega) (Nat.le_trans (bgo HJ.out.b bb).size f4.size))
       sz:=Nat.le_trans HJ.out.sz (Nat.le_trans bb.size (Nat.le_trans f4.size r2.size)) }
      have HJ2:=lh hJ2
      have HU1:=lh hU1
      have HZZ:=lh hZZ
      clear hJ2 r1 r2 tgX kp rowX hG3 hD3 b3 bU1 jZ bb bb1 z0 z1 hne e4 j4 f4 hU1 hZZ hGl hlen ht2 hld s0 s1 s2 q1
      go_upto_region 9 with fail
      rw [← HU1.out,HZZ.out]
      go_upto_region 10 with (first | (refine wpl_store _ _ rfl (by simp [Act.eval]) (by simp [Act.eval]) hst ?_))
      clear u0 u1 u2 hst
      go_wp2_with (at_builtin;refine wpl_run2 _ _ rfl (by simp [Act.eval]) (by simp [Act.eval]) hrun ?_)
      go_roundw
      case rel=>exact ⟨i+1,_,_,_,hlt,by go_num,HJ2.out⟩
      case measure=>simp [intOf];omega
   ·have g1:(mk == 1)=false:=by simp;omega
    have g2:(mk == 2)=false:=by simp;omega
    obtain ⟨ad2,cap2,w4,hrun,r1,r2⟩:=pushSc (own_below HJ.out.row BV1.out) (Nat.le_trans HJ.out.sz BV1.out.size) c (ca:=va) (cn:=c.tabs.length) (cc:=vc) (by rw [hlen];have:=HNL.out;omega)
    rw [hlen] at hrun r1
    have hpl2:R.map Prod.fst ++ (wk c d (L.drop i)).1=(R ++ [(c,Value.slice va c.tabs.length vc)]).map Prod.fst ++ (wk c d (L.drop (i+1))).1∧(wk c d (L.drop i)).2=(wk c d (L.drop (i+1))).2∧wkI c d (L.drop (i+1)):=by
     have hwI:=HJ.out.ids
     rw [HDR.out] at hwI ⊢
     unfold wkI at hwI
     rw [if_neg (by rw [HMK.out];exact hbp)] at hwI
     refine ⟨?_,?_,hwI⟩
     ·have e1:(wk c d (m :: L.drop (i+1))).1=c :: (wk c d (L.drop (i+1))).1:=by
       rw [wk_skip (by rw [HMK.out];exact hbp)]
      rw [e1,List.map_append]
      simp
     ·have e1:(wk c d (m :: L.drop (i+1))).2=(wk c d (L.drop (i+1))).2:=by
       rw [wk_skip (by rw [HMK.out];exact hbp)]
      exact e1
    have hJ2:WJ w W s d L Y0 Y1 dd w4 (.slice ad2 (i+1+1) cap2) (i+1) (R ++ [(c,.slice va c.tabs.length vc)]) c (.slice va c.tabs.length vc):={
     pl:=HJ.out.pl.trans hpl2.1
     fl:=HJ.out.fl.trans hpl2.2.1
     ids:=hpl2.2.2
     y0:=(r2.block Y0 (blk_lt y0) (fun q=>by have:=(own_ge HJ.out.row Y0 q).1;have:=HYW.out.1;omega)).trans y0
     y1:=(r2.block Y1 (blk_lt y1) (fun q=>by
      obtain ⟨cs9,t9⟩:=own_tag (own_below HJ.out.row BV1.out) Y1 q
      rw [y1] at t9
      simp only [Option.some.injEq,Obj.cells.injEq] at t9
      exact absurd t9.2.1 (by decide))).trans y1
     cur:=(HJ.out.cur.below BV1.out).keep r2 (fun k hk=>.inr (fun cs e z=>by
      obtain ⟨cs9,t9⟩:=own_tag (own_below HJ.out.row BV1.out) k hk
      rw [t9] at z
      simp only [Option.some.injEq,Obj.cells.injEq] at z
      rw [← z.2.1]
      decide))
     row:=r1
     all:=fun q hq=>by
      have kp:∀ {x:Sc} {v:Value},Rd w V W.heap.size x v→Rd w w4 W.heap.size x v:=fun h=>(h.below BV1.out).keep r2 (fun k hk=>.inr (fun cs e z=>by
       obtain ⟨cs9,t9⟩:=own_tag (own_below HJ.out.row BV1.out) k hk
       rw [t9] at z
       simp only [Option.some.injEq,Obj.cells.injEq] at z
       rw [← z.2.1]
       decide))
      rcases List.mem_append.1 hq with z | z
      ·exact kp (HJ.out.all q z)
      ·rw [List.mem_singleton.1 z]
       exact kp HJ.out.cur
     len:=by rw [List.length_append,hlen];rfl
     b:=(bgo HJ.out.b BV1.out).trans (r2.toBelow (fun k hk q=>by
      have h1:=(own_ge HJ.out.row k q).1
      have h2:=HYW.out
      omega) (bgo HJ.out.b BV1.out).size)
     sz:=Nat.le_trans HJ.out.sz (Nat.le_trans BV1.out.size r2.size) }
    have HJ2:=lh hJ2
    clear hJ2 r1 r2 hpl2 y0 y1 hJ q1 hlen
    go_wp2_with (at_builtin;refine wpl_run2 _ _ rfl (by simp [Act.eval]) (by simp [Act.eval]) hrun ?_)
    go_roundw
    case rel=>exact ⟨i+1,_,_,_,hlt,by go_num,HJ2.out⟩
    case measure=>simp [intOf];omega
  ·have k1:¬ (i:Int) < n:=by omega
   obtain rfl:i=n:=by omega
   have hdr:L.drop i=[]:=List.drop_of_length_le (by rw [HN.out];omega)
   have HA:Hid (WkAns w (s :: (wk s d L).1) (wk s d L).2 (.returned (.tuple #[.slice la (i+1) lc,.bool true])) V):=lh (by
    have h1:=hJ.pl
    have h2:=hJ.fl
    rw [hdr] at h1 h2
    rw [wk] at h1 h2
    rw [h1,h2]
    exact wk_ans (by simp) hlen hJ.row hJ.all hJ.b)
   clear hJ hdr hlen
   go_wp2
   go_ret2
   exact HA.out
end Go.Proofs.YtongmhfpoopebaaGreat
