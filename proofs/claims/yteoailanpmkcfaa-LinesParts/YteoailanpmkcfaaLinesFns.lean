/-
  The program's own lines (package lines): all its contracts in one place.
-/
import Derived.Test.YteoailanpmkcfaaLinesSplit
import Derived.Test.YteoailanpmkcfaaLinesLine
import Derived.Test.YteoailanpmkcfaaLinesPerc
import Derived.Test.YteoailanpmkcfaaLinesCode
import Derived.Test.YteoailanpmkcfaaLinesJoinP
import Derived.Test.YteoailanpmkcfaaLinesTabbedP
import Derived.Test.YteoailanpmkcfaaLinesSplitP
