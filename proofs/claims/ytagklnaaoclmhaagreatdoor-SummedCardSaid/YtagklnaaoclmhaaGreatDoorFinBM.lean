import Derived.Test.YtagklnaaoclmhaaGreatDoorMgBC
import Derived.Test.YtagklnaaoclmhaaGreatDoorFrCM
set_option linter.unusedSimpArgs false
set_option linter.unusedVariables false
namespace Go.Proofs.YtagklnaaoclmhaaGreatDoor
/-- P6: sums with brackets. -/
theorem summed_proved : Rows.SummedCardSaid :=
  summed_card (summed_over (fun pr n cap R c w hR hn h1 h2 hT => summed_of openC parseC (fun _ _ _ _ _ _ h hk => h.kept hk) pr n cap R w ⟨hR.at_, hR.bd⟩ hn c h1 h2 hT))
#print axioms summed_proved
end Go.Proofs.YtagklnaaoclmhaaGreatDoor
