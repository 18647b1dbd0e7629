/-
  DERIVED. GIVEN WITH THE SEED: THE CARDS: each row of YtijibjdgnaphiabDoorRows.lean that lists a variable, with what it lists TIED to the program's text (the seventh form; the later family's looks); each row that meets fmt, with fmt's text TOLD by the authors' own Lean function (tested against real Go, not proved from fmt's source: count such statements apart). THE CARD IS WHAT COUNTS. Prove the row's statement (the work); the ties are given (YtijibjdgnaphiabDoorTie.lean); close each card by the builder's one call (the guide's Derived/Test/ToyasCard.lean, 'card_holds'). Laid BY PROGRAM, IN A SANDBOX (cutbox-door.mjs). By AI agents, Wed Nov 11 2026. No macro, syntax, notation, axiom, sorry.
-/
import Derived.Test.YtijibjdgnaphiabDoorRows
import GoSem.ClaimSeven
namespace Go.Proofs.YtijibjdgnaphiabDoor
namespace Rows

/-- THE TIED CARD OF 'munimentlaw02.PathOther'. -/
def pathOtherCard : Claim7 := { stood := { row := pathOtherRow, standIns := [], harness := (true, "fcef6fdec67102ed39f4b27ca1f3eb99b1f5c0fd9bf7bc1fb7346cd4fce77f25"), looks := true }, kinds := [], alts := [], laidByText := true, laidKinds := [.data, .data, .data, .data, .sentinel, .sentinel, .pinned], laidTests := true, laidLooks := .later }
def PathOtherCardSaid : Prop := Claim7.holds Tryd.pinned (.plain (OpenSpec.ofChange pathOtherSpec)) pathOtherCard

/-- THE SECOND FORM's CARD OF 'munimentlaw02.PathOther'. -/
def pathOtherUptoCard : Claim7 := { stood := { row := pathOtherUptoRow, standIns := [], harness := (true, "fcef6fdec67102ed39f4b27ca1f3eb99b1f5c0fd9bf7bc1fb7346cd4fce77f25"), looks := true }, kinds := [], alts := [], laidByText := true, laidKinds := [.data, .data, .data, .data, .sentinel, .sentinel, .pinned], laidTests := true, laidLooks := .later }
def PathOtherUptoCardSaid : Prop := Claim7.holds Tryd.pinned (.plain (OpenSpec.upto pathOtherSpec)) pathOtherUptoCard
end Rows
end Go.Proofs.YtijibjdgnaphiabDoor
