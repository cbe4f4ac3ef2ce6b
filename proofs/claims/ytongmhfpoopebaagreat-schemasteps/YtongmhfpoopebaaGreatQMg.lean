import Derived.Test.YtongmhfpoopebaaGreatQMd0
import Derived.Test.YtongmhfpoopebaaGreatQMn
namespace Go.Proofs.YtongmhfpoopebaaGreat
open Go.RowKit Go.Maps
theorem steps_any {w:World} {s:Sc} {tv cv:Value} {d:Dd} (hL:Lr tbE 5 w s.tabs tv) (hI:ScIn s) (hQ:ScQ s) (hd:Lr colE 7 w d.cols cv) (hdz:d.cols.length * 72≤140737488355328):Calls Tryz.prog 5 #[scV s tv,ddV d cv] w fun e w'=>e=.returned (.bool true)∧Below w.heap.size w w':=by
 obtain ⟨da,dc,e,_⟩:=hd.shape
 subst e
 show Calls Tryz.prog 5 #[scV s tv,.agg #[.int .i64 d.kind,.string d.table,.string d.name,.string d.column,.string d.parent,.bool d.uq,.int .i64 d.ty,.int .i64 d.df.k,.int .i64 d.df.n,.string d.df.s,.slice da d.cols.length dc]] w _
 by_cases k1:d.kind=1
 ·exact steps_lawN rfl (.inl ⟨k1,rfl,rfl⟩) hL hI hQ hd hdz
 by_cases k2:d.kind=2
 ·exact steps_lawN rfl (.inr (.inl ⟨k2,rfl,rfl⟩)) hL hI hQ hd hdz
 by_cases k3:d.kind=3
 ·exact steps_lawN rfl (.inr (.inr (.inl ⟨k3,rfl,rfl⟩))) hL hI hQ hd hdz
 by_cases k4:d.kind=4
 ·exact steps_lawN rfl (.inr (.inr (.inr (.inl ⟨k4,rfl,rfl⟩)))) hL hI hQ hd hdz
 by_cases k5:d.kind=5
 ·exact steps_lawN rfl (.inr (.inr (.inr (.inr (.inl ⟨k5,rfl,rfl⟩))))) hL hI hQ hd hdz
 by_cases k6:d.kind=6
 ·exact steps_lawN rfl (.inr (.inr (.inr (.inr (.inr (.inl ⟨k6,rfl,rfl⟩)))))) hL hI hQ hd hdz
 by_cases k7:d.kind=7
 ·exact steps_lawN rfl (.inr (.inr (.inr (.inr (.inr (.inr ⟨k7,rfl,rfl⟩)))))) hL hI hQ hd hdz
 exact steps_law0 rfl (by omega) hL hI hQ hd hdz
end Go.Proofs.YtongmhfpoopebaaGreat
