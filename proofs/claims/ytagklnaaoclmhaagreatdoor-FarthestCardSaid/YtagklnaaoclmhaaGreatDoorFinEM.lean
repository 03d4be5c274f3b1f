import Derived.Test.YtagklnaaoclmhaaGreatDoorFarBM
import Derived.Test.YtagklnaaoclmhaaGreatDoorFrFM
set_option linter.unusedSimpArgs false
set_option linter.unusedVariables false
namespace Go.Proofs.YtagklnaaoclmhaaGreatDoor
/-- P6: where a text of words fails. -/
theorem farthest_proved : Rows.FarthestCardSaid :=
  farthest_card (farthest_over (fun pr n cap R a c w hR hn h1 h2 h3 h4 hT => farthest_any pr n cap R a c w ⟨hR.at_, hR.bd⟩ hn h1 h2 h3 h4 hT))
#print axioms farthest_proved
end Go.Proofs.YtagklnaaoclmhaaGreatDoor
