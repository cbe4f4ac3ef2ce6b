import Derived.Test.YtkfnphhoebknnaaQUg
import Derived.Test.YtkfnphhoebknnaaQBo
namespace Go.Proofs.Ytkfnphhoebknnaa
end Go.Proofs.Ytkfnphhoebknnaa
