/-
  DERIVED. GIVEN WITH THE SEED: THE CARDS: each row of YtlahamkbkeckmaaGreatDoorRows.lean that lists a variable, with what it lists TIED to the program's text (the seventh form; the later family's looks); each row that meets fmt, with fmt's text TOLD by the authors' own Lean function (tested against real Go, not proved from fmt's source: count such statements apart). THE CARD IS WHAT COUNTS. Prove the row's statement (the work); the ties are given (YtlahamkbkeckmaaGreatDoorTie.lean); close each card by the builder's one call (the guide's Derived/Test/ToyasCard.lean, 'card_holds'). Laid BY PROGRAM, IN A SANDBOX (cutbox-door.mjs). By AI agents, Wed Nov 11 2026. No macro, syntax, notation, axiom, sorry.
-/
import Derived.Test.YtlahamkbkeckmaaGreatDoorRows
import GoSem.ClaimSeven
namespace Go.Proofs.YtlahamkbkeckmaaGreatDoor
namespace Rows

/-- THE TIED CARD OF 'hostlerlaw28.ExploreApart'. -/
def exploreApartCard : Claim7 := { stood := { row := exploreApartRow, standIns := [], harness := (true, "f9318d2a7dda4e78edd58e79db9a27981861006a81fae81af239a34477e68a00"), looks := false }, kinds := [], alts := [], laidByText := true, laidKinds := [.data, .data, .data, .data], laidTests := true, laidLooks := .later }
def ExploreApartCardSaid : Prop := Claim7.holds Tryz.pinned (.plain (OpenSpec.ofChange exploreApartSpec)) exploreApartCard

/-- THE TIED CARD OF 'hostlerlaw28.ExploreOrders'. -/
def exploreOrdersCard : Claim7 := { stood := { row := exploreOrdersRow, standIns := [], harness := (true, "f9318d2a7dda4e78edd58e79db9a27981861006a81fae81af239a34477e68a00"), looks := false }, kinds := [], alts := [], laidByText := true, laidKinds := [.data, .data, .data, .data], laidTests := true, laidLooks := .later }
def ExploreOrdersCardSaid : Prop := Claim7.holds Tryz.pinned (.plain (OpenSpec.ofChange exploreOrdersSpec)) exploreOrdersCard

/-- THE SECOND FORM's CARD OF 'hostlerlaw28.ExploreApart'. -/
def exploreApartUptoCard : Claim7 := { stood := { row := exploreApartUptoRow, standIns := [], harness := (true, "f9318d2a7dda4e78edd58e79db9a27981861006a81fae81af239a34477e68a00"), looks := false }, kinds := [], alts := [], laidByText := true, laidKinds := [.data, .data, .data, .data], laidTests := true, laidLooks := .later }
def ExploreApartUptoCardSaid : Prop := Claim7.holds Tryz.pinned (.plain (OpenSpec.upto exploreApartSpec)) exploreApartUptoCard

/-- THE SECOND FORM's CARD OF 'hostlerlaw28.ExploreOrders'. -/
def exploreOrdersUptoCard : Claim7 := { stood := { row := exploreOrdersUptoRow, standIns := [], harness := (true, "f9318d2a7dda4e78edd58e79db9a27981861006a81fae81af239a34477e68a00"), looks := false }, kinds := [], alts := [], laidByText := true, laidKinds := [.data, .data, .data, .data], laidTests := true, laidLooks := .later }
def ExploreOrdersUptoCardSaid : Prop := Claim7.holds Tryz.pinned (.plain (OpenSpec.upto exploreOrdersSpec)) exploreOrdersUptoCard
end Rows
end Go.Proofs.YtlahamkbkeckmaaGreatDoor
