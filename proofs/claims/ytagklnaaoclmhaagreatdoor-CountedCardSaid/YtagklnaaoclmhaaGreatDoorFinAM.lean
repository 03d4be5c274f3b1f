import Derived.Test.YtagklnaaoclmhaaGreatDoorMgBC
import Derived.Test.YtagklnaaoclmhaaGreatDoorFrBM
set_option linter.unusedSimpArgs false
set_option linter.unusedVariables false
namespace Go.Proofs.YtagklnaaoclmhaaGreatDoor
/-- P6: a's and b's around one another. -/
theorem counted_proved : Rows.CountedCardSaid :=
  counted_card (counted_over (fun raw c w hm h1 h2 hT => counted_of openC parseC raw hm c h1 h2 w hT))
#print axioms counted_proved
end Go.Proofs.YtagklnaaoclmhaaGreatDoor
