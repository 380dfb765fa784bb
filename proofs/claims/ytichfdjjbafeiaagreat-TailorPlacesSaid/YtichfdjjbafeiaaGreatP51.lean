/-
  PACKED for a claim.
-/
import Derived.SizedLaws
import Derived.Test.YtichfdjjbafeiaaGreatP38
import Derived.Test.YtichfdjjbafeiaaGreatP46
set_option linter.unusedVariables false
set_option linter.unusedSimpArgs false
set_option maxRecDepth 100000

