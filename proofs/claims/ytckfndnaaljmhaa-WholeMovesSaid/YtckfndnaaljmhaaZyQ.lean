/-
  Layer whole: all that the laws' walks lean on, in one.
-/
import Derived.Test.YtckfndnaaljmhaaQZy11
import Derived.Test.YtckfndnaaljmhaaQZy12
namespace Go.Proofs.Ytckfndnaaljmhaa
end Go.Proofs.Ytckfndnaaljmhaa
