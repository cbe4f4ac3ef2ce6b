import Derived.Test.YtongmhfpoopebaaGreatQMa
import Derived.Test.YtongmhfpoopebaaGreatQMk
import Derived.Test.YtongmhfpoopebaaGreatQNe
import Derived.Test.YtongmhfpoopebaaGreatQHb
import Derived.Test.YtongmhfpoopebaaGreatQPw
import Derived.Test.YtongmhfpoopebaaGreatQTd
namespace Go.Proofs.YtongmhfpoopebaaGreat
open Go.RowKit Go.Maps
theorem cutN_sub {α:Type} (nm:α→ByteArray) (l:List α) (z:ByteArray):(cutN nm l z).Sublist l:=by
 unfold cutN
 split
 ·exact cut_sub _ _
 ·exact List.Sublist.refl _
theorem sum_sub {α:Type} {f:α→Nat} {l l':List α} (h:l'.Sublist l):(l'.map f).sum≤(l.map f).sum:=by
 induction h with
 | slnil=>exact Nat.le_refl _
 | cons a _ ih=>rw [List.map_cons,List.sum_cons];omega
 | cons_cons a _ ih=>rw [List.map_cons,List.map_cons,List.sum_cons,List.sum_cons];omega
theorem withoutT_in {d:Dd} {t:Tb} (h:TbIn t):∀ x ∈ withoutT d t,TbIn x:=by
 unfold withoutT
 repeat' split
 all_goals intro x hx
 all_goals first
  | (simp only [List.not_mem_nil] at hx)
  | (rw [List.mem_singleton] at hx;subst hx;first
    | exact h
    | exact ⟨h.id,fun y hy=>h.c y ((cutN_sub _ _ _).subset hy),h.i,h.k⟩
    | exact ⟨h.id,h.c,fun y hy=>h.i y ((cutN_sub _ _ _).subset hy),h.k⟩
    | exact ⟨h.id,h.c,h.i,fun y hy=>h.k y ((cutN_sub _ _ _).subset hy)⟩)
theorem withoutP_in {s:Sc} {d:Dd} (h:ScIn s):ScIn (withoutP s d):=by
 refine ⟨?_,?_,fun x hx=>?_⟩
 ·unfold I64 withoutP;simp
 ·unfold I64 withoutP;simp
 ·obtain ⟨t,ht,hx⟩:=List.mem_flatMap.1 (show x ∈ s.tabs.flatMap (withoutT d) from hx)
  exact withoutT_in (h.t t ht) x hx
theorem withoutT_B (d:Dd) (t:Tb):((withoutT d t).map tbB).sum≤tbB t:=by
 have hc:=sum_sub (f:=colB) (cutN_sub Col.nm t.cols d.column)
 have hi:=sum_sub (f:=ixB) (cutN_sub Ix.nm t.ixs d.name)
 have hk:=sum_sub (f:=fkBk) (cutN_sub Fk.nm t.fks d.name)
 unfold withoutT
 repeat' split
 all_goals simp only [List.map_cons,List.map_nil,List.sum_cons,List.sum_nil]
 all_goals first
  | omega
  | (unfold tbB;omega)
  | (unfold tbB;simp only;omega)
theorem without_B (s:Sc) (d:Dd):scB (withoutP s d)≤scB s:=by
 have:∀ l:List Tb,((l.flatMap (withoutT d)).map tbB).sum≤(l.map tbB).sum:=fun l=>by
  induction l with
  | nil=>exact Nat.le_refl _
  | cons t l ih =>
   rw [List.flatMap_cons,List.map_append,List.sum_append,List.map_cons,List.sum_cons]
   have:=withoutT_B d t
   omega
 have:=this s.tabs
 unfold scB
 show 1+((s.tabs.flatMap (withoutT d)).map tbB).sum≤_
 omega
theorem without_text {s:Sc} {d:Dd} (h:rightS s=true):(schL (withoutP s d)).length≤1000000000:=by
 have h1:=schL_len (withoutP s d)
 have h2:=without_B s d
 have h3:=right_B h
 omega
theorem right_few {s:Sc} (h:rightS s=true):Few s.tabs:=by
 have h3:=right_B h
 refine ⟨by have:=tabs_B s;omega,fun t ht=>?_⟩
 have h1:=cntT_B t
 have h2:=tab_B ht
 unfold cntT at h1
 exact ⟨by omega,by omega,by omega⟩
section
variable {ρ : Operand → Value} {X : World} {d : Option Tmp} {ty : TypeId} {ps : String} {af : Array Edge} {g : Option (Nat × Bool)}
theorem op_sub3s {x y:Operand} {n m r:Int} (e:ρ x=.int .i64 n) (e2:ρ y=.int .i64 m) (h:n - m=r) (h1:-9223372036854775808≤r) (h2:r≤9223372036854775807):(execOp ρ ⟨d,.binOp .sub 3 x y 3,ty,ps,af,g⟩).run Tryz.prog X=.ok (.value (.int .i64 r)) X:=by
 subst h
 simp only [execOp,e,e2]
 go_simp
 rw [IntKind.wrap_i64]
 omega
end
theorem cellsS {α:Type} {E:World→α→List Value→Prop} {c:Nat} {X:World} {L:List α} {a:Option Addr} {n m:Nat} (h:Lr E c X L (.slice a n m)):∀ i (h:i < L.length),∃ b o cs,a=some ⟨b,o,none⟩∧b < X.heap.size∧E X L[i] cs∧cs.length=c∧∀ j u,cs[j]?=some u→X.cell? ⟨b,o+i * c+j,none⟩=some u:=by
 obtain ⟨a1,c1,e,h0,h1,h2,h3⟩:=h
 cases e
 exact h3
theorem sc_at {X:World} {L:List Sc} {b o n m i:Nat} {u:Sc} (h:Lr scE 3 X L (.slice (some ⟨b,o,none⟩) n m)) (hi:i < L.length) (hu:L[i]=u):∃ uv,Lr tbE 5 X u.tabs uv∧X.cell? ⟨b,o+i * 3,none⟩=some (.int .i64 u.ver)∧∀ Y,Below X.heap.size X Y→(Instr.loadAt 24 (.pointer (some ⟨b,o+i * 3,none⟩))).run Tryz.prog Y=.ok (scV u uv) Y:=by
 obtain ⟨b',o',cs,e,hb,hE,_,hc⟩:=cellsS h i hi
 cases e
 obtain ⟨uv,rfl,hL⟩:=hE
 rw [hu] at hc hL
 obtain ⟨ua,uc,e,_⟩:=hL.shape
 subst e
 refine ⟨_,hL,hc 0 _ rfl,fun Y hY=>?_⟩
 have g0:Y.cell? ⟨b,o+i * 3,none⟩=some (.int .i64 u.ver):=cell_on hY (hc 0 _ rfl)
 have g1:Y.cell? ⟨b,o+i * 3+1,none⟩=some (.int .i64 u.last):=cell_on hY (hc 1 _ rfl)
 have g2:Y.cell? ⟨b,o+i * 3+2,none⟩=some (.slice ua u.tabs.length uc):=cell_on hY (hc 2 _ rfl)
 unfold scV
 go_simp
end Go.Proofs.YtongmhfpoopebaaGreat
