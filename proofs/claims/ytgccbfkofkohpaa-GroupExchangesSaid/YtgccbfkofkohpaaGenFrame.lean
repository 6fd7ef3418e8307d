/- GenFrame is in these. -/
import Derived.Test.YtgccbfkofkohpaaMake
import Derived.Test.YtgccbfkofkohpaaGaKn
import Derived.Test.YtgccbfkofkohpaaFrame
