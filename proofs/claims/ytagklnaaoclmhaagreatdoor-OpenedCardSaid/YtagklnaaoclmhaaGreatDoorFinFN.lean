import Derived.Test.YtagklnaaoclmhaaGreatDoorMnDJ
import Derived.Test.YtagklnaaoclmhaaGreatDoorFrHN
namespace Go.Proofs.YtagklnaaoclmhaaGreatDoor
theorem opened_proved : Rows.OpenedCardSaid :=
  Bs (Bt (fun G p b m r s w hG hs hT => DD G s hG hs p b m r w hT))
#print axioms opened_proved
end Go.Proofs.YtagklnaaoclmhaaGreatDoor
