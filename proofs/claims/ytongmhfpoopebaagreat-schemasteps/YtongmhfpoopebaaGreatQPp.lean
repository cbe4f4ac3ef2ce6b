import Derived.Test.YtongmhfpoopebaaGreatQBo
namespace Go.Proofs.YtongmhfpoopebaaGreat
open Go.RowKit
abbrev Mv:=Int × Int
abbrev mvL (m:Mv):List Value:=[.int .i64 m.1,.int .i64 m.2]
theorem mvL_len (x:Mv):(mvL x).length=2:=rfl
def mvE (_:World) (x:Mv) (cs:List Value):Prop:=cs=mvL x
theorem mvE_held:Held mvE:=fun _ _ _ _ _ h=>h
def onP (k:Int):List Mv :=
 if k=1 then [(1,3)]
 else if k=2 then [(1,1),(1,2),(3,0),(4,0),(1,3)]
 else if k=3 then [(1,2),(1,1),(3,0),(5,0),(1,0)]
 else if k=4 then [(1,1),(1,2),(3,0),(4,0),(2,3)]
 else if k=5 then [(2,2),(1,1),(1,0)]
 else if k=6 then [(1,2),(3,0),(4,0),(1,3)]
 else if k=7 then [(1,0)] else []
def backP (k:Int):List Mv :=
 if k=2 then [(1,1),(3,0),(5,0),(1,0)]
 else if k=4 then [(1,1),(1,0)]
 else if k=6 then [(1,0)] else []
def pathP (k:Int) (b:Bool):List Mv:=if b then backP k else onP k
def MvAns (w:World) (L:List Mv) (e:Ending) (w':World):Prop:=∃ ad cap,e=.returned (.slice ad L.length cap)∧w'.ownsRow w.heap.size 60 2 (.slice ad L.length cap) L.length (L.flatMap mvL)∧Below w.heap.size w w'
theorem mv_ans {w X:World} {L:List Mv} {n:Nat} {cs:Array Value} (hb:Below w.heap.size w X) (hn:L.length=n) (hm:n≤10) (hc:cs.toList=L.flatMap mvL):MvAns w L (.returned (.slice (some ⟨X.heap.size,0,none⟩) n n)) (X.alloc (.cells cs 60)):=by
 subst hn
 have hl:=fl_len mvL_len L
 have hs:cs.size=L.length * 2:=by rw [← Array.length_toList,hc,hl]
 refine ⟨some ⟨X.heap.size,0,none⟩,L.length,rfl,⟨hl,.inr ⟨X.heap.size,L.length,cs,rfl,hb.size,heap_alloc_new X _,Nat.le_refl _,?_,hs,?_⟩⟩,hb.trans ((bnew X _).mono hb.size)⟩
 ·unfold maxLen;omega
 ·rw [hc,List.take_of_length_le (by omega)]
theorem mv_none {w X:World} (hb:Below w.heap.size w X):MvAns w [] (.returned (.slice none 0 0)) X:=⟨none,0,rfl,World.ownsRow_nil _ _ 60 2,hb⟩
section
variable {w0 w : World}
set_option maxRecDepth 100000 in
theorem bump_any (hb:Below w0.heap.size w0 w) (s:Int):Calls Tryz.prog 85 #[.int .i64 s] w fun e w'=>e=.returned (.agg #[.int .i64 1,.int .i64 s])∧Below w0.heap.size w0 w':=by
 have HB:=lh hb
 clear hb
 go_enter Tryz.func85,Tryz.ntmps85
 go_wp2
 have hj:=heap_alloc_new w (.cells #[.int .i64 1,.int .i64 s] 60)
 refine bodyPost_ret (results_one rfl rfl (load_var (w:=w.alloc _) hj Tryz.underlying60 rfl size60)) rfl ?_
 exact ⟨rfl,bgo HB.out (bnew _ _)⟩
set_option maxRecDepth 100000 in
theorem plain_any (hb:Below w0.heap.size w0 w) (s:Int):Calls Tryz.prog 86 #[.int .i64 s] w fun e w'=>e=.returned (.agg #[.int .i64 s,.int .i64 0])∧Below w0.heap.size w0 w':=by
 have HB:=lh hb
 clear hb
 go_enter Tryz.func86,Tryz.ntmps86
 go_wp2
 have hj:=heap_alloc_new w (.cells #[.int .i64 s,.int .i64 0] 60)
 refine bodyPost_ret (results_one rfl rfl (load_var (w:=w.alloc _) hj Tryz.underlying60 rfl size60)) rfl ?_
 exact ⟨rfl,bgo HB.out (bnew _ _)⟩
set_option maxRecDepth 100000 in
theorem still_any (hb:Below w0.heap.size w0 w) (s:Int):Calls Tryz.prog 87 #[.int .i64 s] w fun e w'=>e=.returned (.agg #[.int .i64 2,.int .i64 s])∧Below w0.heap.size w0 w':=by
 have HB:=lh hb
 clear hb
 go_enter Tryz.func87,Tryz.ntmps87
 go_wp2
 have hj:=heap_alloc_new w (.cells #[.int .i64 2,.int .i64 s] 60)
 refine bodyPost_ret (results_one rfl rfl (load_var (w:=w.alloc _) hj Tryz.underlying60 rfl size60)) rfl ?_
 exact ⟨rfl,bgo HB.out (bnew _ _)⟩
set_option maxHeartbeats 4000000 in
set_option maxRecDepth 100000 in
theorem wayOn_any (w:World) (k:Int):Calls Tryz.prog 41 #[.int .i64 k] w (MvAns w (onP k)):=by
 have hb:Hid (Below w.heap.size w w):=lh (Below.refl _ w)
 unfold onP
 go_enter Tryz.func41,Tryz.ntmps41
 by_cases h1:k=1
 ·subst h1
  go_wp2_with (go_at_call 85;refine (bump_any hb.out _).mono ?_;rintro e w1 ⟨rfl,b1⟩;replace hb:=lh b1;clear b1)
  go_ret
  exact mv_ans hb.out rfl (by decide) rfl
 by_cases h2:k=2
 ·subst h2
  clear h1
  go_wp2_with (first | (go_at_call 85;refine (bump_any hb.out _).mono ?_;rintro e w1 ⟨rfl,b1⟩;replace hb:=lh b1;clear b1) | (go_at_call 86;refine (plain_any hb.out _).mono ?_;rintro e w1 ⟨rfl,b1⟩;replace hb:=lh b1;clear b1))
  go_ret
  exact mv_ans hb.out rfl (by decide) rfl
 by_cases h3:k=3
 ·subst h3
  clear h1 h2
  go_wp2_with (first | (go_at_call 85;refine (bump_any hb.out _).mono ?_;rintro e w1 ⟨rfl,b1⟩;replace hb:=lh b1;clear b1) | (go_at_call 86;refine (plain_any hb.out _).mono ?_;rintro e w1 ⟨rfl,b1⟩;replace hb:=lh b1;clear b1))
  go_ret
  exact mv_ans hb.out rfl (by decide) rfl
 by_cases h4:k=4
 ·subst h4
  clear h1 h2 h3
  go_wp2_with (first | (go_at_call 85;refine (bump_any hb.out _).mono ?_;rintro e w1 ⟨rfl,b1⟩;replace hb:=lh b1;clear b1) | (go_at_call 86;refine (plain_any hb.out _).mono ?_;rintro e w1 ⟨rfl,b1⟩;replace hb:=lh b1;clear b1) | (go_at_call 87;refine (still_any hb.out _).mono ?_;rintro e w1 ⟨rfl,b1⟩;replace hb:=lh b1;clear b1))
  go_ret
  exact mv_ans hb.out rfl (by decide) rfl
 by_cases h5:k=5
 ·subst h5
  clear h1 h2 h3 h4
  go_wp2_with (first | (go_at_call 85;refine (bump_any hb.out _).mono ?_;rintro e w1 ⟨rfl,b1⟩;replace hb:=lh b1;clear b1) | (go_at_call 87;refine (still_any hb.out _).mono ?_;rintro e w1 ⟨rfl,b1⟩;replace hb:=lh b1;clear b1))
  go_ret
  exact mv_ans hb.out rfl (by decide) rfl
 by_cases h6:k=6
 ·subst h6
  clear h1 h2 h3 h4 h5
  go_wp2_with (first | (go_at_call 85;refine (bump_any hb.out _).mono ?_;rintro e w1 ⟨rfl,b1⟩;replace hb:=lh b1;clear b1) | (go_at_call 86;refine (plain_any hb.out _).mono ?_;rintro e w1 ⟨rfl,b1⟩;replace hb:=lh b1;clear b1))
  go_ret
  exact mv_ans hb.out rfl (by decide) rfl
 by_cases h7:k=7
 ·subst h7
  clear h1 h2 h3 h4 h5 h6
  go_wp2_with (go_at_call 85;refine (bump_any hb.out _).mono ?_;rintro e w1 ⟨rfl,b1⟩;replace hb:=lh b1;clear b1)
  go_ret
  exact mv_ans hb.out rfl (by decide) rfl
 have HE:Hid ((if k=1 then [(1,3)] else if k=2 then [(1,1),(1,2),(3,0),(4,0),(1,3)] else if k=3 then [(1,2),(1,1),(3,0),(5,0),(1,0)] else if k=4 then [(1,1),(1,2),(3,0),(4,0),(2,3)] else if k=5 then [(2,2),(1,1),(1,0)] else if k=6 then [(1,2),(3,0),(4,0),(1,3)] else if k=7 then [(1,0)] else []:List Mv)=[]):=by
  rw [if_neg h1,if_neg h2,if_neg h3,if_neg h4,if_neg h5,if_neg h6,if_neg h7]
  exact lh rfl
 rw [HE.out]
 go_wp2
 go_ret
 exact mv_none hb.out
set_option maxHeartbeats 4000000 in
set_option maxRecDepth 100000 in
theorem wayBack_any (w:World) (k:Int):Calls Tryz.prog 40 #[.int .i64 k] w (MvAns w (backP k)):=by
 have hb:Hid (Below w.heap.size w w):=lh (Below.refl _ w)
 unfold backP
 go_enter Tryz.func40,Tryz.ntmps40
 by_cases h2:k=2
 ·subst h2
  go_wp2_with (first | (go_at_call 85;refine (bump_any hb.out _).mono ?_;rintro e w1 ⟨rfl,b1⟩;replace hb:=lh b1;clear b1) | (go_at_call 86;refine (plain_any hb.out _).mono ?_;rintro e w1 ⟨rfl,b1⟩;replace hb:=lh b1;clear b1))
  go_ret
  exact mv_ans hb.out rfl (by decide) rfl
 by_cases h4:k=4
 ·subst h4
  clear h2
  go_wp2_with (go_at_call 85;refine (bump_any hb.out _).mono ?_;rintro e w1 ⟨rfl,b1⟩;replace hb:=lh b1;clear b1)
  go_ret
  exact mv_ans hb.out rfl (by decide) rfl
 by_cases h6:k=6
 ·subst h6
  clear h2 h4
  go_wp2_with (go_at_call 85;refine (bump_any hb.out _).mono ?_;rintro e w1 ⟨rfl,b1⟩;replace hb:=lh b1;clear b1)
  go_ret
  exact mv_ans hb.out rfl (by decide) rfl
 have HE:Hid ((if k=2 then [(1,1),(3,0),(5,0),(1,0)] else if k=4 then [(1,1),(1,0)] else if k=6 then [(1,0)] else []:List Mv)=[]):=by
  rw [if_neg h2,if_neg h4,if_neg h6]
  exact lh rfl
 rw [HE.out]
 go_wp2
 go_ret
 exact mv_none hb.out
theorem MvAns.from {w W:World} {L:List Mv} {e:Ending} {w':World} (hb:Below w.heap.size w W) (h:MvAns W L e w'):MvAns w L e w':=by
 obtain ⟨ad,cap,e1,h1,h2⟩:=h
 exact ⟨ad,cap,e1,own_mono h1 hb.size,bgo hb h2⟩
set_option maxHeartbeats 4000000 in
set_option maxRecDepth 100000 in
theorem path_any (w:World) (cs:Array Value) (k:Int) (b:Bool) (h0:cs[0]?=some (.int .i64 k)):Calls Tryz.prog 18 #[.agg cs,.bool b] w (MvAns w (pathP k b)):=by
 obtain ⟨W,hW⟩:∃ W,W=w.alloc (.cells cs 31):=⟨_,rfl⟩
 have hbW:Below w.heap.size w W:=by rw [hW];exact bnew _ _
 obtain ⟨Y,hY⟩:∃ Y,w.heap.size=Y:=⟨_,rfl⟩
 have jY:W.heap[Y]?=some (.cells cs 31 (0,0)):=by rw [hW,← hY];exact heap_alloc_new w _
 have c0:W.cell? ⟨Y,0,none⟩=some (.int .i64 k):=(cell_blk jY 0).trans h0
 have HW:=lh hW
 have HY:=lh hY
 have HB:=lh hbW
 clear hW hY hbW jY h0
 go_enter Tryz.func18,Tryz.ntmps18
 go_upto_region 1 with fail
 rw [← HW.out,HY.out]
 cases b with
 | true =>
  have hw:=wayBack_any W k
  go_wp2_with fail
  refine hw.mono ?_
  rintro e w1 ⟨ad,cap,rfl,h1,h2⟩
  go_wp2
  go_ret
  exact MvAns.from HB.out ⟨ad,cap,rfl,h1,h2⟩
 | false =>
  have hw:=wayOn_any W k
  go_wp2_with fail
  refine hw.mono ?_
  rintro e w1 ⟨ad,cap,rfl,h1,h2⟩
  go_wp2
  go_ret
  exact MvAns.from HB.out ⟨ad,cap,rfl,h1,h2⟩
end
end Go.Proofs.YtongmhfpoopebaaGreat
