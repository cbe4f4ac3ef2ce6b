import Derived.Test.YtongmhfpoopebaaGreatQCk
namespace Go.Proofs.YtongmhfpoopebaaGreat
open Go.RowKit Go.Maps
section
variable {w : World}
theorem Lr.cells2 {α:Type} {E:World→α→List Value→Prop} {c:Nat} {X:World} {L:List α} {a:Option Addr} {n m:Nat} (h:Lr E c X L (.slice a n m)):∀ i (h:i < L.length),∃ b o cs,a=some ⟨b,o,none⟩∧b < X.heap.size∧E X L[i] cs∧cs.length=c∧∀ j u,cs[j]?=some u→X.cell? ⟨b,o+i * c+j,none⟩=some u:=by
 obtain ⟨a1,c1,e,h0,h1,h2,h3⟩:=h
 cases e
 exact h3
end
end Go.Proofs.YtongmhfpoopebaaGreat
