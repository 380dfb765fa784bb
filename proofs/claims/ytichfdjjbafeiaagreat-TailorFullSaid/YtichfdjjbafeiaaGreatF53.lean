/-
  PACKED for a claim.
-/
import Derived.SizedLaws
import Derived.Test.YtichfdjjbafeiaaGreatF40
import Derived.Test.YtichfdjjbafeiaaGreatF49
set_option linter.unusedVariables false
set_option linter.unusedSimpArgs false
set_option maxRecDepth 100000

