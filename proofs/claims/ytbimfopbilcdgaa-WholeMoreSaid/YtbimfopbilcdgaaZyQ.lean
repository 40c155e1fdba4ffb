/-
  Layer whole: all that the laws' walks lean on, in one.
-/
import Derived.Test.YtbimfopbilcdgaaQZy11
import Derived.Test.YtbimfopbilcdgaaQZy12
namespace Go.Proofs.Ytbimfopbilcdgaa
end Go.Proofs.Ytbimfopbilcdgaa
