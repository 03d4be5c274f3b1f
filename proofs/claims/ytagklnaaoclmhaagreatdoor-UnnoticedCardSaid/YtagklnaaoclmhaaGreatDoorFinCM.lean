import Derived.Test.YtagklnaaoclmhaaGreatDoorUnBM
import Derived.Test.YtagklnaaoclmhaaGreatDoorFrDM
set_option linter.unusedSimpArgs false
set_option linter.unusedVariables false
namespace Go.Proofs.YtagklnaaoclmhaaGreatDoor
/-- P6 to P8: the memory can't be noticed. -/
theorem unnoticed_proved : Rows.UnnoticedCardSaid :=
  unnoticed_card (unnoticed_over (fun G s c d r w hG hs h1 h2 h3 h4 h5 h6 hT => unnoticed_any G s hG hs c d r h1 h2 h3 h4 h5 h6 w hT))
#print axioms unnoticed_proved
end Go.Proofs.YtagklnaaoclmhaaGreatDoor
