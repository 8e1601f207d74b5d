/-
  Arguments of the statements, opened: beside what the walks have of package pack.
-/
import Derived.Test.YticaonmifblnbaaPackStays
import Derived.Test.YticaonmifblnbaaOpen
