/-
  Numbers in decimal digits, plain; what digits come to, with the value as a variable.
-/
import Derived.Test.YtlcnnkameflidaaDoorDecDig
import Derived.Test.YtlcnnkameflidaaDoorDecWorth
namespace Go.Proofs.YtlcnnkameflidaaDoor
open Go.RowKit
set_option linter.unusedVariables false

theorem at_worth {s : ByteArray} {n : Nat} (w : World) (hs : s.size ≤ maxLen) (h : allD s.data.toList = true) (hv : valN s.data.toList % 18446744073709551616 = n) :
    Calls Tryd.prog 42 #[.string s] w fun e w' => e = .returned (.tuple #[.int .u64 (n : Int), .bool true]) ∧ Below w.heap.size w w' := hv ▸ worth_yes s w hs h

end Go.Proofs.YtlcnnkameflidaaDoor
