/- GenB is in these. -/
import Derived.Test.YtgccbfkofkohpaaGen
import Derived.Test.YtgccbfkofkohpaaGaByte
import Derived.Test.YtgccbfkofkohpaaGaRel
