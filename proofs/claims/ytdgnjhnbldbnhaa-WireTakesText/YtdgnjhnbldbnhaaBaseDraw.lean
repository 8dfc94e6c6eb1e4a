/-
  A region that draws its order, and whose calls make memory but hand back plain values: ONE walk in the order of the text, in the class of all worlds that are as they were below a block.
-/
import Derived.Test.YtdgnjhnbldbnhaaBase
import Derived.BigQuiet
import Derived.Below
namespace Go.Proofs.Ytdgnjhnbldbnhaa
open Go.RowKit
set_option linter.unusedVariables false

theorem wp_region_below {P : Program} {id : Nat} {Q : Exit → Act → World → Prop} {a : Act} {w w0 : World} {g : Nat} {l : List Oper} (hm : P.follows .mixedOrders = true) (hB : Region.lexB .any l.toArray = true) (hb : Below g w0 w)
    (h : (∃ x, Below g w0 x) → wpQuiet P l.toArray (fun w' => Below g w0 w') (fun a' => ∀ w', Below g w0 w' → Q .normal a' w') l a) : (Code.region id l.toArray true).wp P Q a w :=
  wp_region_quiet (C := fun w' => Below g w0 w') hm hB hb.drew (by simpa using h ⟨w, hb⟩)
end Go.Proofs.Ytdgnjhnbldbnhaa
