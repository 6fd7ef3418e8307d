/- GenR is in these. -/
import Derived.Test.YtgccbfkofkohpaaGenB
import Derived.Test.YtgccbfkofkohpaaGaRel
