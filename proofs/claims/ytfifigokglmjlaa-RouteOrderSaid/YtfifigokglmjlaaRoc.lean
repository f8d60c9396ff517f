/-
  What route's functions answer: right_any, add_any, del_any, find_any stand in the texts that this one imports. No condition.
-/
import Derived.Test.YtfifigokglmjlaaRog
import Derived.Test.YtfifigokglmjlaaRol
import Derived.Test.YtfifigokglmjlaaRoj
namespace Go.Proofs.Ytfifigokglmjlaa
open Go.RowKit

theorem ro_words : (zeroR.size = 9) := rfl
end Go.Proofs.Ytfifigokglmjlaa
