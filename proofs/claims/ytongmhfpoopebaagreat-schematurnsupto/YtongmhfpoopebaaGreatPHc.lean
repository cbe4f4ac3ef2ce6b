import Derived.Test.YtongmhfpoopebaaGreatPBo
import Derived.Test.YtongmhfpoopebaaGreatPCk
import Derived.Test.YtongmhfpoopebaaGreatPTo
namespace Go.Proofs.YtongmhfpoopebaaGreat
open Go.RowKit
abbrev Mv:=Int × Int
abbrev mvL (m:Mv):List Value:=[.int .i64 m.1,.int .i64 m.2]
def MvAns (w:World) (L:List Mv) (e:Ending) (w':World):Prop:=∃ ad cap,e=.returned (.slice ad L.length cap)∧w'.ownsRow w.heap.size 60 2 (.slice ad L.length cap) L.length (L.flatMap mvL)∧Below w.heap.size w w'
section
variable {w0 w : World}
theorem MvAns.from {w W:World} {L:List Mv} {e:Ending} {w':World} (hb:Below w.heap.size w W) (h:MvAns W L e w'):MvAns w L e w':=by
 obtain ⟨ad,cap,e1,h1,h2⟩:=h
 exact ⟨ad,cap,e1,own_mono h1 hb.size,bgo hb h2⟩
end
end Go.Proofs.YtongmhfpoopebaaGreat
namespace Go.Proofs.YtongmhfpoopebaaGreat
open Go.RowKit Go.Maps
def Rd (w wr:World) (B:Nat) (s:Sc) (tv:Value):Prop:=Lr tbE 5 w s.tabs tv∨∃ G,G.map Prod.fst=s.tabs∧Dr wr B G tv
theorem Rd.reads {w wr:World} {B:Nat} {s:Sc} {tv:Value} (h:Rd w wr B s tv) (hb:Below w.heap.size w wr):Lr tbE 5 wr s.tabs tv:=by
 rcases h with h | ⟨G,hG,hD⟩
 ·exact h.on tbE_held hb
 ·have:=hD.reads
  rwa [hG] at this
theorem Rd.keep {w wr wr':World} {B:Nat} {s:Sc} {tv:Value} {T:Nat→Prop} (h:Rd w wr B s tv) (hf:Fr wr wr' T) (ht:∀ k,T k→k<B∨∀ cs e,wr.heap[k]?=some (.cells cs e (0,0))→e≠35∧e≠50∧e≠71∧e≠74):Rd w wr' B s tv:=by
 rcases h with h | ⟨G,hG,hD⟩
 ·exact .inl h
 ·exact .inr ⟨G,hG,hD.keep hf ht⟩
theorem Rd.below {w wr wr':World} {B:Nat} {s:Sc} {tv:Value} (h:Rd w wr B s tv) (hb:Below wr.heap.size wr wr'):Rd w wr' B s tv:=h.keep (T:=fun _=>False) (Fr.ofBelow _ hb) (fun _ q=>q.elim)
theorem Rd.shape {w wr:World} {B:Nat} {s:Sc} {tv:Value} (h:Rd w wr B s tv):∃ a c,tv=.slice a s.tabs.length c:=by
 rcases h with h | ⟨G,hG,hD⟩
 ·obtain ⟨a,c,e,_⟩:=h
  exact ⟨a,c,e⟩
 ·obtain ⟨a,c,e⟩:=own_shape hD.row
  exact ⟨a,c,by rw [e,←hG,List.length_map]⟩
end Go.Proofs.YtongmhfpoopebaaGreat
