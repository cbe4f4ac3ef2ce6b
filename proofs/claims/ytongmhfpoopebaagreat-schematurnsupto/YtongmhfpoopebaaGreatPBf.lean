import Derived.Test.YtongmhfpoopebaaGreatPBe
namespace Go.Proofs.YtongmhfpoopebaaGreat
open Go.RowKit
section
variable {w : World}
theorem Pt.on {α:Type} {E:World→α→List Value→Prop} {X:World} {B o:Nat} {x:α} (hE:Held E) (h:Pt E w B o x) (hb:Below w.heap.size w X):Pt E X B o x:=by
 obtain ⟨cs,h1,h2⟩:=h
 exact ⟨cs,hE _ _ _ _ hb h1,fun j u hu=>cell_on hb (h2 j u hu)⟩
set_option maxHeartbeats 2000000 in
set_option maxRecDepth 100000 in
theorem namedC_any {L:List Col} {v:Value} (nm:ByteArray) (hL:Lr colE 7 w L v):Calls Tryz.prog 111 #[v,.string nm,.func (.func 66) #[] #[]] w fun e w'=>e=.returned (.int .i64 (fidx (fun x=>decide (x.nm=nm)) L))∧Below w.heap.size w w':=by
 obtain ⟨W,hW⟩:∃ W,W=(w.alloc (.cells #[.string nm] 9)).alloc (.cells #[.func (.func 66) #[] #[]] 104):=⟨_,rfl⟩
 have hbW:Below w.heap.size w W:=by rw [hW];exact ((Below.refl _ w).alloc (Nat.le_refl _) _).alloc (by simp) _
 obtain ⟨Y0,hY0⟩:∃ Y0,w.heap.size=Y0:=⟨_,rfl⟩
 obtain ⟨Y1,hY1⟩:∃ Y1,Y0+1=Y1:=⟨_,rfl⟩
 have jY0:W.heap[Y0]?=some (.cells #[.string nm] 9 (0,0)):=by
  have:=heap_alloc_new w (.cells #[.string nm] 9)
  rw [hW,←hY0]
  rw [Below.heap_alloc _ _ _ (by simp only [World.size_alloc];omega)]
  exact this
 have jY1:W.heap[Y1]?=some (.cells #[.func (.func 66) #[] #[]] 104 (0,0)):=by
  have:=heap_alloc_new (w.alloc (.cells #[.string nm] 9)) (.cells #[.func (.func 66) #[] #[]] 104)
  simp only [World.size_alloc] at this
  rw [hW,←hY1,←hY0]
  exact this
 have hcall:=findC_any (w:=W) (f:=123) (cs:=#[.pointer (some ⟨Y1,0,none⟩),.pointer (some ⟨Y0,0,none⟩)]) (p:=fun x=>decide (x.nm=nm)) (hL.on colE_held hbW) goes123 (fun X hX B q x _ _ hp=>namedC_f hp (cell_on hX (cell_blk jY1 0)) (cell_on hX (cell_blk jY0 0)))
 obtain ⟨ad,cap,rfl,_⟩:=hL
 have HW:=lh hW
 have HBW:=lh hbW
 have HY0:=lh hY0
 have HY1:=lh hY1
 clear hW hbW hY0 hY1
 clear jY0 jY1
 go_enter Tryz.func111,Tryz.ntmps111
 go_upto_region 1 with fail
 rw [←HW.out,HY0.out,HY1.out]
 go_wp2_with fail
 refine hcall.mono ?_
 rintro e w1 ⟨rfl,b1⟩
 go_wp2
 go_ret
 exact ⟨rfl,bgo HBW.out b1⟩
set_option maxHeartbeats 2000000 in
set_option maxRecDepth 100000 in
theorem namedI_any {L:List Ix} {v:Value} (nm:ByteArray) (hL:Lr ixE 5 w L v):Calls Tryz.prog 113 #[v,.string nm,.func (.func 70) #[] #[]] w fun e w'=>e=.returned (.int .i64 (fidx (fun x=>decide (x.nm=nm)) L))∧Below w.heap.size w w':=by
 obtain ⟨W,hW⟩:∃ W,W=(w.alloc (.cells #[.string nm] 9)).alloc (.cells #[.func (.func 70) #[] #[]] 110):=⟨_,rfl⟩
 have hbW:Below w.heap.size w W:=by rw [hW];exact ((Below.refl _ w).alloc (Nat.le_refl _) _).alloc (by simp) _
 obtain ⟨Y0,hY0⟩:∃ Y0,w.heap.size=Y0:=⟨_,rfl⟩
 obtain ⟨Y1,hY1⟩:∃ Y1,Y0+1=Y1:=⟨_,rfl⟩
 have jY0:W.heap[Y0]?=some (.cells #[.string nm] 9 (0,0)):=by
  have:=heap_alloc_new w (.cells #[.string nm] 9)
  rw [hW,←hY0]
  rw [Below.heap_alloc _ _ _ (by simp only [World.size_alloc];omega)]
  exact this
 have jY1:W.heap[Y1]?=some (.cells #[.func (.func 70) #[] #[]] 110 (0,0)):=by
  have:=heap_alloc_new (w.alloc (.cells #[.string nm] 9)) (.cells #[.func (.func 70) #[] #[]] 110)
  simp only [World.size_alloc] at this
  rw [hW,←hY1,←hY0]
  exact this
 have hcall:=findI_any (w:=W) (f:=125) (cs:=#[.pointer (some ⟨Y1,0,none⟩),.pointer (some ⟨Y0,0,none⟩)]) (p:=fun x=>decide (x.nm=nm)) (hL.on ixE_held hbW) goes125 (fun X hX B q x _ _ hp=>namedI_f hp (cell_on hX (cell_blk jY1 0)) (cell_on hX (cell_blk jY0 0)))
 obtain ⟨ad,cap,rfl,_⟩:=hL
 have HW:=lh hW
 have HBW:=lh hbW
 have HY0:=lh hY0
 have HY1:=lh hY1
 clear hW hbW hY0 hY1
 clear jY0 jY1
 go_enter Tryz.func113,Tryz.ntmps113
 go_upto_region 1 with fail
 rw [←HW.out,HY0.out,HY1.out]
 go_wp2_with fail
 refine hcall.mono ?_
 rintro e w1 ⟨rfl,b1⟩
 go_wp2
 go_ret
 exact ⟨rfl,bgo HBW.out b1⟩
set_option maxHeartbeats 2000000 in
set_option maxRecDepth 100000 in
theorem namedK_any {L:List Fk} {v:Value} (nm:ByteArray) (hL:Lr fkE 5 w L v):Calls Tryz.prog 116 #[v,.string nm,.func (.func 74) #[] #[]] w fun e w'=>e=.returned (.int .i64 (fidx (fun x=>decide (x.nm=nm)) L))∧Below w.heap.size w w':=by
 obtain ⟨W,hW⟩:∃ W,W=(w.alloc (.cells #[.string nm] 9)).alloc (.cells #[.func (.func 74) #[] #[]] 116):=⟨_,rfl⟩
 have hbW:Below w.heap.size w W:=by rw [hW];exact ((Below.refl _ w).alloc (Nat.le_refl _) _).alloc (by simp) _
 obtain ⟨Y0,hY0⟩:∃ Y0,w.heap.size=Y0:=⟨_,rfl⟩
 obtain ⟨Y1,hY1⟩:∃ Y1,Y0+1=Y1:=⟨_,rfl⟩
 have jY0:W.heap[Y0]?=some (.cells #[.string nm] 9 (0,0)):=by
  have:=heap_alloc_new w (.cells #[.string nm] 9)
  rw [hW,←hY0]
  rw [Below.heap_alloc _ _ _ (by simp only [World.size_alloc];omega)]
  exact this
 have jY1:W.heap[Y1]?=some (.cells #[.func (.func 74) #[] #[]] 116 (0,0)):=by
  have:=heap_alloc_new (w.alloc (.cells #[.string nm] 9)) (.cells #[.func (.func 74) #[] #[]] 116)
  simp only [World.size_alloc] at this
  rw [hW,←hY1,←hY0]
  exact this
 have hcall:=findK_any (w:=W) (f:=128) (cs:=#[.pointer (some ⟨Y1,0,none⟩),.pointer (some ⟨Y0,0,none⟩)]) (p:=fun x=>decide (x.nm=nm)) (hL.on fkE_held hbW) goes128 (fun X hX B q x _ _ hp=>namedK_f hp (cell_on hX (cell_blk jY1 0)) (cell_on hX (cell_blk jY0 0)))
 obtain ⟨ad,cap,rfl,_⟩:=hL
 have HW:=lh hW
 have HBW:=lh hbW
 have HY0:=lh hY0
 have HY1:=lh hY1
 clear hW hbW hY0 hY1
 clear jY0 jY1
 go_enter Tryz.func116,Tryz.ntmps116
 go_upto_region 1 with fail
 rw [←HW.out,HY0.out,HY1.out]
 go_wp2_with fail
 refine hcall.mono ?_
 rintro e w1 ⟨rfl,b1⟩
 go_wp2
 go_ret
 exact ⟨rfl,bgo HBW.out b1⟩
set_option maxHeartbeats 1000000 in
set_option maxRecDepth 100000 in
theorem tn_f {x:Tb} {B q Z:Nat} {z:ByteArray} (h:Pt tbE w B q x) (cz:w.cell? ⟨Z,0,none⟩=some (.string z)):Calls Tryz.prog 43 #[.pointer (some ⟨B,q,none⟩),.pointer (some ⟨Z,0,none⟩)] w fun e w'=>e=.returned (.bool (decide (x.nm=z)))∧Below w.heap.size w w':=by
 obtain ⟨cs,hE,hc⟩:=h
 obtain ⟨cv,iv,kv,rfl,_⟩:=hE
 have c0:w.cell? ⟨B,q+1,none⟩=some (.string x.nm):=hc 1 _ rfl
 clear hc
 obtain ⟨y,hy⟩:∃ y,x.nm=y:=⟨_,rfl⟩
 rw [hy] at c0 ⊢
 have hs:=same_eq y z
 obtain ⟨r,hr⟩:∃ r,decide (y=z)=r:=⟨_,rfl⟩
 rw [hr] at hs ⊢
 clear hr hy
 
 go_enter Tryz.func43,Tryz.ntmps43
 go_wp2
 go_quiet (fail)
 go_wp2
 go_ret
 exact ⟨rfl,bdrewN (Below.refl _ _) _⟩
set_option maxHeartbeats 1000000 in
set_option maxRecDepth 100000 in
theorem co_f {x:Col} {B q Z:Nat} {z:Int} (h:Pt colE w B q x) (cz:w.cell? ⟨Z,0,none⟩=some (.int .i64 z)):Calls Tryz.prog 121 #[.pointer (some ⟨B,q,none⟩),.pointer (some ⟨Z,0,none⟩)] w fun e w'=>e=.returned (.bool (decide (x.id=z)))∧Below w.heap.size w w':=by
 obtain ⟨cs,hE,hc⟩:=h
 cases hE
 have c0:w.cell? ⟨B,q,none⟩=some (.int .i64 x.id):=hc 0 _ rfl
 clear hc
 obtain ⟨y,hy⟩:∃ y,x.id=y:=⟨_,rfl⟩
 rw [hy] at c0 ⊢
 obtain ⟨r,hr⟩:∃ r,decide (y=z)=r:=⟨_,rfl⟩
 rw [hr]
 clear hy
 by_cases hq:y=z
 ·have hr2:r=true:=by rw [←hr];exact decide_eq_true hq
  subst hr2
  clear hr
  subst hq
  go_enter Tryz.func121,Tryz.ntmps121
  go_wp2
  go_quiet (fail)
  go_wp2
  go_ret
  exact ⟨by simp,bdrewN (Below.refl _ _) _⟩
 ·have hr2:r=false:=by rw [←hr];exact decide_eq_false hq
  subst hr2
  clear hr
  go_enter Tryz.func121,Tryz.ntmps121
  go_wp2
  go_quiet (fail)
  go_wp2
  go_ret
  exact ⟨by simp [hq],bdrewN (Below.refl _ _) _⟩
set_option maxHeartbeats 1000000 in
set_option maxRecDepth 100000 in
theorem to_f {x:Tb} {B q Z:Nat} {z:Int} (h:Pt tbE w B q x) (cz:w.cell? ⟨Z,0,none⟩=some (.int .i64 z)):Calls Tryz.prog 122 #[.pointer (some ⟨B,q,none⟩),.pointer (some ⟨Z,0,none⟩)] w fun e w'=>e=.returned (.bool (decide (x.id=z)))∧Below w.heap.size w w':=by
 obtain ⟨cs,hE,hc⟩:=h
 obtain ⟨cv,iv,kv,rfl,_⟩:=hE
 have c0:w.cell? ⟨B,q,none⟩=some (.int .i64 x.id):=hc 0 _ rfl
 clear hc
 obtain ⟨y,hy⟩:∃ y,x.id=y:=⟨_,rfl⟩
 rw [hy] at c0 ⊢
 obtain ⟨r,hr⟩:∃ r,decide (y=z)=r:=⟨_,rfl⟩
 rw [hr]
 clear hy
 by_cases hq:y=z
 ·have hr2:r=true:=by rw [←hr];exact decide_eq_true hq
  subst hr2
  clear hr
  subst hq
  go_enter Tryz.func122,Tryz.ntmps122
  go_wp2
  go_quiet (fail)
  go_wp2
  go_ret
  exact ⟨by simp,bdrewN (Below.refl _ _) _⟩
 ·have hr2:r=false:=by rw [←hr];exact decide_eq_false hq
  subst hr2
  clear hr
  go_enter Tryz.func122,Tryz.ntmps122
  go_wp2
  go_quiet (fail)
  go_wp2
  go_ret
  exact ⟨by simp [hq],bdrewN (Below.refl _ _) _⟩
set_option maxHeartbeats 1000000 in
set_option maxRecDepth 100000 in
theorem rx_f {x:Ix} {B q Z:Nat} {z:Int} (h:Pt ixE w B q x) (cz:w.cell? ⟨Z,0,none⟩=some (.int .i64 z)):Calls Tryz.prog 118 #[.pointer (some ⟨B,q,none⟩),.pointer (some ⟨Z,0,none⟩)] w fun e w'=>e=.returned (.bool (decide (x.col=z)))∧Below w.heap.size w w':=by
 obtain ⟨cs,hE,hc⟩:=h
 cases hE
 have c0:w.cell? ⟨B,q+2,none⟩=some (.int .i64 x.col):=hc 2 _ rfl
 clear hc
 obtain ⟨y,hy⟩:∃ y,x.col=y:=⟨_,rfl⟩
 rw [hy] at c0 ⊢
 obtain ⟨r,hr⟩:∃ r,decide (y=z)=r:=⟨_,rfl⟩
 rw [hr]
 clear hy
 by_cases hq:y=z
 ·have hr2:r=true:=by rw [←hr];exact decide_eq_true hq
  subst hr2
  clear hr
  subst hq
  go_enter Tryz.func118,Tryz.ntmps118
  go_wp2
  go_quiet (fail)
  go_wp2
  go_ret
  exact ⟨by simp,bdrewN (Below.refl _ _) _⟩
 ·have hr2:r=false:=by rw [←hr];exact decide_eq_false hq
  subst hr2
  clear hr
  go_enter Tryz.func118,Tryz.ntmps118
  go_wp2
  go_quiet (fail)
  go_wp2
  go_ret
  exact ⟨by simp [hq],bdrewN (Below.refl _ _) _⟩
set_option maxHeartbeats 1000000 in
set_option maxRecDepth 100000 in
theorem rk_f {x:Fk} {B q Z:Nat} {z:Int} (h:Pt fkE w B q x) (cz:w.cell? ⟨Z,0,none⟩=some (.int .i64 z)):Calls Tryz.prog 119 #[.pointer (some ⟨B,q,none⟩),.pointer (some ⟨Z,0,none⟩)] w fun e w'=>e=.returned (.bool (decide (x.col=z)))∧Below w.heap.size w w':=by
 obtain ⟨cs,hE,hc⟩:=h
 cases hE
 have c0:w.cell? ⟨B,q+2,none⟩=some (.int .i64 x.col):=hc 2 _ rfl
 clear hc
 obtain ⟨y,hy⟩:∃ y,x.col=y:=⟨_,rfl⟩
 rw [hy] at c0 ⊢
 obtain ⟨r,hr⟩:∃ r,decide (y=z)=r:=⟨_,rfl⟩
 rw [hr]
 clear hy
 by_cases hq:y=z
 ·have hr2:r=true:=by rw [←hr];exact decide_eq_true hq
  subst hr2
  clear hr
  subst hq
  go_enter Tryz.func119,Tryz.ntmps119
  go_wp2
  go_quiet (fail)
  go_wp2
  go_ret
  exact ⟨by simp,bdrewN (Below.refl _ _) _⟩
 ·have hr2:r=false:=by rw [←hr];exact decide_eq_false hq
  subst hr2
  clear hr
  go_enter Tryz.func119,Tryz.ntmps119
  go_wp2
  go_quiet (fail)
  go_wp2
  go_ret
  exact ⟨by simp [hq],bdrewN (Below.refl _ _) _⟩
set_option maxHeartbeats 2000000 in
set_option maxRecDepth 100000 in
theorem tabN_any {L:List Tb} {v:Value} (z:ByteArray) (hL:Lr tbE 5 w L v):Calls Tryz.prog 22 #[v,.string z] w fun e w'=>e=.returned (.int .i64 (fidx (fun x=>decide (x.nm=z)) L))∧Below w.heap.size w w':=by
 obtain ⟨W,hW⟩:∃ W,W=w.alloc (.cells #[.string z] 9):=⟨_,rfl⟩
 have hbW:Below w.heap.size w W:=by rw [hW];exact (Below.refl _ w).alloc (Nat.le_refl _) _
 obtain ⟨Y0,hY0⟩:∃ Y0,w.heap.size=Y0:=⟨_,rfl⟩
 have jY0:W.heap[Y0]?=some (.cells #[.string z] 9 (0,0)):=by
  have:=heap_alloc_new w (.cells #[.string z] 9)
  rw [hW,←hY0]
  exact this
 have hcall:=findT_any (w:=W) (f:=43) (cs:=#[.pointer (some ⟨Y0,0,none⟩)]) (p:=fun x=>decide (x.nm=z)) (hL.on tbE_held hbW) goes43 (fun X hX B q x _ _ hp=>tn_f hp (cell_on hX (cell_blk jY0 0)))
 obtain ⟨ad,cap,rfl,_⟩:=hL
 have HW:=lh hW
 have HBW:=lh hbW
 have HY0:=lh hY0
 clear hW hbW hY0
 clear jY0
 go_enter Tryz.func22,Tryz.ntmps22
 go_upto_region 1 with fail
 rw [←HW.out,HY0.out]
 go_wp2_with fail
 refine hcall.mono ?_
 rintro e w1 ⟨rfl,b1⟩
 go_wp2
 go_ret
 exact ⟨rfl,bgo HBW.out b1⟩
set_option maxHeartbeats 2000000 in
set_option maxRecDepth 100000 in
theorem tabO_any {L:List Tb} {v:Value} (z:Int) (hL:Lr tbE 5 w L v):Calls Tryz.prog 106 #[v,.int .i64 z] w fun e w'=>e=.returned (.int .i64 (fidx (fun x=>decide (x.id=z)) L))∧Below w.heap.size w w':=by
 obtain ⟨W,hW⟩:∃ W,W=w.alloc (.cells #[.int .i64 z] 3):=⟨_,rfl⟩
 have hbW:Below w.heap.size w W:=by rw [hW];exact (Below.refl _ w).alloc (Nat.le_refl _) _
 obtain ⟨Y0,hY0⟩:∃ Y0,w.heap.size=Y0:=⟨_,rfl⟩
 have jY0:W.heap[Y0]?=some (.cells #[.int .i64 z] 3 (0,0)):=by
  have:=heap_alloc_new w (.cells #[.int .i64 z] 3)
  rw [hW,←hY0]
  exact this
 have hcall:=findT_any (w:=W) (f:=122) (cs:=#[.pointer (some ⟨Y0,0,none⟩)]) (p:=fun x=>decide (x.id=z)) (hL.on tbE_held hbW) goes122 (fun X hX B q x _ _ hp=>to_f hp (cell_on hX (cell_blk jY0 0)))
 obtain ⟨ad,cap,rfl,_⟩:=hL
 have HW:=lh hW
 have HBW:=lh hbW
 have HY0:=lh hY0
 clear hW hbW hY0
 clear jY0
 go_enter Tryz.func106,Tryz.ntmps106
 go_upto_region 1 with fail
 rw [←HW.out,HY0.out]
 go_wp2_with fail
 refine hcall.mono ?_
 rintro e w1 ⟨rfl,b1⟩
 go_wp2
 go_ret
 exact ⟨rfl,bgo HBW.out b1⟩
set_option maxHeartbeats 2000000 in
set_option maxRecDepth 100000 in
theorem colOf_any {t:Tb} {cv iv kv:Value} (z:Int) (hL:Lr colE 7 w t.cols cv) (hi:∃ a n m,iv=.slice a n m) (hk:∃ a n m,kv=.slice a n m):Calls Tryz.prog 103 #[tbV t cv iv kv,.int .i64 z] w fun e w'=>e=.returned (.int .i64 (colOf t z))∧Below w.heap.size w w':=by
 obtain ⟨ia,inn,im,rfl⟩:=hi
 obtain ⟨ka,kn,km,rfl⟩:=hk
 obtain ⟨ad,cap,rfl,hr⟩:=hL
 have hL:Lr colE 7 w t.cols (.slice ad t.cols.length cap):=⟨ad,cap,rfl,hr⟩
 obtain ⟨W,hW⟩:∃ W,W=(w.alloc (.cells #[.int .i64 t.id,.string t.nm,.slice ad t.cols.length cap,.slice ia inn im,.slice ka kn km] 35)).alloc (.cells #[.int .i64 z] 3):=⟨_,rfl⟩
 have hbW:Below w.heap.size w W:=by rw [hW];exact ((Below.refl _ w).alloc (Nat.le_refl _) _).alloc (by simp) _
 obtain ⟨Y0,hY0⟩:∃ Y0,w.heap.size=Y0:=⟨_,rfl⟩
 obtain ⟨Y1,hY1⟩:∃ Y1,Y0+1=Y1:=⟨_,rfl⟩
 have jY0:W.heap[Y0]?=some (.cells #[.int .i64 t.id,.string t.nm,.slice ad t.cols.length cap,.slice ia inn im,.slice ka kn km] 35 (0,0)):=by
  have:=heap_alloc_new w (.cells #[.int .i64 t.id,.string t.nm,.slice ad t.cols.length cap,.slice ia inn im,.slice ka kn km] 35)
  rw [hW,←hY0]
  rw [Below.heap_alloc _ _ _ (by simp only [World.size_alloc];omega)]
  exact this
 have jY1:W.heap[Y1]?=some (.cells #[.int .i64 z] 3 (0,0)):=by
  have:=heap_alloc_new (w.alloc (.cells #[.int .i64 t.id,.string t.nm,.slice ad t.cols.length cap,.slice ia inn im,.slice ka kn km] 35)) (.cells #[.int .i64 z] 3)
  simp only [World.size_alloc] at this
  rw [hW,←hY1,←hY0]
  exact this
 have hcall:=findC_any (w:=W) (f:=121) (cs:=#[.pointer (some ⟨Y1,0,none⟩)]) (p:=fun x=>decide (x.id=z)) (hL.on colE_held hbW) goes121 (fun X hX B q x _ _ hp=>co_f hp (cell_on hX (cell_blk jY1 0)))
 have c2:W.cell? ⟨Y0,2,none⟩=some (.slice ad t.cols.length cap):=cell_blk jY0 2
 have HW:=lh hW
 have HBW:=lh hbW
 have HY0:=lh hY0
 have HY1:=lh hY1
 clear hW hbW hY0 hY1
 clear jY0 jY1 hL hr
 go_enter Tryz.func103,Tryz.ntmps103
 go_upto_region 1 with fail
 rw [←HW.out,HY0.out,HY1.out]
 go_wp2_with fail
 refine hcall.mono ?_
 rintro e w1 ⟨rfl,b1⟩
 go_wp2
 go_ret
 exact ⟨rfl,bgo HBW.out b1⟩
set_option maxHeartbeats 1000000 in
set_option maxRecDepth 100000 in
theorem pub_f {x:Col} {B q Z:Nat} {z:ByteArray} (h:Pt colE w B q x) (cz:w.cell? ⟨Z,0,none⟩=some (.string z)):Calls Tryz.prog 127 #[.pointer (some ⟨B,q,none⟩),.pointer (some ⟨Z,0,none⟩)] w fun e w'=>e=.returned (.bool (decide (x.nm=z) && decide (x.st=3)))∧Below w.heap.size w w':=by
 obtain ⟨cs,hE,hc⟩:=h
 cases hE
 have c0:w.cell? ⟨B,q+1,none⟩=some (.string x.nm):=hc 1 _ rfl
 have c3:w.cell? ⟨B,q+3,none⟩=some (.int .i64 x.st):=hc 3 _ rfl
 clear hc
 have hs:=same_eq x.nm z
 obtain ⟨r,hr⟩:∃ r,decide (x.nm=z)=r:=⟨_,rfl⟩
 rw [hr] at hs ⊢
 clear hr
 cases r with
 | false =>
  go_enter Tryz.func127,Tryz.ntmps127
  go_wp2
  go_quiet (fail)
  go_wp2
  go_ret
  exact ⟨rfl,bdrewN (Below.refl _ _) _⟩
 | true =>
  obtain ⟨y,hy⟩:∃ y,x.st=y:=⟨_,rfl⟩
  rw [hy] at c3 ⊢
  clear hy
  by_cases hq:y=3
  ·subst hq
   go_enter Tryz.func127,Tryz.ntmps127
   go_wp2
   go_quiet (fail)
   go_wp2
   go_ret
   exact ⟨rfl,bdrewN (Below.refl _ _) _⟩
  ·go_enter Tryz.func127,Tryz.ntmps127
   go_wp2
   go_quiet (fail)
   go_wp2
   go_ret
   exact ⟨by simp [hq],bdrewN (Below.refl _ _) _⟩
end
end Go.Proofs.YtongmhfpoopebaaGreat
