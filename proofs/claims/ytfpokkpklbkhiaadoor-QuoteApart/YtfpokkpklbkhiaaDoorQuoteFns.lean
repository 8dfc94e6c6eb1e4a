/-
  The program's own Write and Read (package quote): their contracts, together.
-/
import Derived.Test.YtfpokkpklbkhiaaDoorQuoteWriteP
import Derived.Test.YtfpokkpklbkhiaaDoorQuoteReadP
import Derived.Test.YtfpokkpklbkhiaaDoorQuoteDig
