/- Gen is in these. -/
import Derived.Test.YtgccbfkofkohpaaGaNum
import Derived.Test.YtgccbfkofkohpaaGaInv
import Derived.Test.YtgccbfkofkohpaaGaKn
