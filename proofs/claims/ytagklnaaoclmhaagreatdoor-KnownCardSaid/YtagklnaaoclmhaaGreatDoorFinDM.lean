import Derived.Test.YtagklnaaoclmhaaGreatDoorKnCM
import Derived.Test.YtagklnaaoclmhaaGreatDoorFrEM
set_option linter.unusedSimpArgs false
set_option linter.unusedVariables false
namespace Go.Proofs.YtagklnaaoclmhaaGreatDoor
/-- P3, P6 to P8: the answers of the document's examples. -/
theorem known_proved : Rows.KnownCardSaid :=
  known_card (known_over (fun c w h1 h2 hT => known_any c h1 h2 w hT))
#print axioms known_proved
end Go.Proofs.YtagklnaaoclmhaaGreatDoor
