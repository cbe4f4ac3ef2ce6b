/- What awake does, plainly. -/
import Derived.Test.YtcoaahlakkghhaaTf
namespace Go.Proofs.Ytcoaahlakkghhaa
open Go.RowKit
def aK : ByteArray := ⟨#[97]⟩
def bK : ByteArray := ⟨#[98]⟩
def xK : ByteArray := ⟨#[120]⟩
def awL : List Wr := [⟨aK, xK, false⟩]
def aw1 : Cm := ⟨1, (0, 0, 1), 0, [], awL, 0, 0, 0⟩
def aw2 : Cm := ⟨1, (0, 0, 2), 0, [], awL, 0, 0, 0⟩
def aw3 : Cm := ⟨2, (0, 0, 1), 0, [], [], 1, 9, 0⟩
def aw4 : Cm := ⟨4, (0, 0, 1), 0, [], [], 0, 0, 5⟩
def aw5 : Cm := ⟨1, (0, 0, 1), 0, [], [], 0, 0, 0⟩
def as1 : Sh := ⟨[], [⟨(0, 0, 1), 0, 0, [], awL⟩], [], [], 0⟩
def as3 : Sh := ⟨[], [⟨(0, 0, 1), 0, 0, [], awL⟩], [((0, 0, 1), 5)], [], 0⟩
def as4 : Sh := ⟨[⟨aK, [⟨5, xK, false⟩]⟩], [], [((0, 0, 1), 5)], [(0, 0, 1)], 5⟩
theorem awa1 : Sh.nil.act 5 aw1 = (as1, ⟨0, 0, td0, 0, true⟩) := by rfl
theorem awa2 : as1.act 5 aw2 = (as1, ⟨131, 0, (0, 0, 1), 0, false⟩) := by rfl
theorem awa3 : as1.act 5 aw3 = (as3, ⟨0, 5, td0, 0, true⟩) := by rfl
theorem awa4 : as3.act 5 aw4 = (as4, ⟨0, 0, td0, 0, true⟩) := by rfl
theorem awa5 : as4.act 5 aw5 = (as4, ⟨132, 0, td0, 0, false⟩) := by rfl
theorem awas : span as4.rows aK bK 9223372036854775807 = [⟨aK, 5, xK⟩] := by rfl
end Go.Proofs.Ytcoaahlakkghhaa
