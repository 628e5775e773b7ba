/-
  DERIVED. GIVEN WITH THE SEED: THE CARDS: each row of YtnmnbogjnjbopaaDoorRows.lean that lists a variable, with what it lists TIED to the program's text (the seventh form; the later family's looks); each row that meets fmt, with fmt's text TOLD by the authors' own Lean function (tested against real Go, not proved from fmt's source: count such statements apart). THE CARD IS WHAT COUNTS. Prove the row's statement (the work); the ties are given (YtnmnbogjnjbopaaDoorTie.lean); close each card by the builder's one call (the guide's Derived/Test/ToyasCard.lean, 'card_holds'). Laid BY PROGRAM, IN A SANDBOX (cutbox-door.mjs). By AI agents, Wed Nov 11 2026. No macro, syntax, notation, axiom, sorry.
-/
import Derived.Test.YtnmnbogjnjbopaaDoorRows
import GoSem.ClaimSeven
namespace Go.Proofs.YtnmnbogjnjbopaaDoor
namespace Rows

/-- THE TIED CARD OF 'billiardlaw10.GridMatchesReference'. -/
def gridMatchesReferenceCard : Claim7 := { stood := { row := gridMatchesReferenceRow, standIns := [], harness := (true, "82953132c9d041ae5b120d664aebaed973fe7413e99b33e3197745d872cb1b41"), looks := false }, kinds := [], alts := [], laidByText := true, laidKinds := [.data], laidTests := true, laidLooks := .later }
def GridMatchesReferenceCardSaid : Prop := Claim7.holds Tryd.pinned (.plain (OpenSpec.ofChange gridMatchesReferenceSpec)) gridMatchesReferenceCard

/-- THE TIED CARD OF 'billiardlaw10.GridCandidates'. -/
def gridCandidatesCard : Claim7 := { stood := { row := gridCandidatesRow, standIns := [], harness := (true, "82953132c9d041ae5b120d664aebaed973fe7413e99b33e3197745d872cb1b41"), looks := false }, kinds := [], alts := [], laidByText := true, laidKinds := [.data], laidTests := true, laidLooks := .later }
def GridCandidatesCardSaid : Prop := Claim7.holds Tryd.pinned (.plain (OpenSpec.ofChange gridCandidatesSpec)) gridCandidatesCard

/-- THE TIED CARD OF 'billiardlaw10.GridOrder'. -/
def gridOrderCard : Claim7 := { stood := { row := gridOrderRow, standIns := [], harness := (true, "82953132c9d041ae5b120d664aebaed973fe7413e99b33e3197745d872cb1b41"), looks := false }, kinds := [], alts := [], laidByText := true, laidKinds := [.data], laidTests := true, laidLooks := .later }
def GridOrderCardSaid : Prop := Claim7.holds Tryd.pinned (.plain (OpenSpec.ofChange gridOrderSpec)) gridOrderCard

/-- THE TIED CARD OF 'billiardlaw10.GridPoints'. -/
def gridPointsCard : Claim7 := { stood := { row := gridPointsRow, standIns := [], harness := (true, "82953132c9d041ae5b120d664aebaed973fe7413e99b33e3197745d872cb1b41"), looks := false }, kinds := [], alts := [], laidByText := true, laidKinds := [.data], laidTests := true, laidLooks := .later }
def GridPointsCardSaid : Prop := Claim7.holds Tryd.pinned (.plain (OpenSpec.ofChange gridPointsSpec)) gridPointsCard

/-- THE TIED CARD OF 'billiardlaw10.GridMore'. -/
def gridMoreCard : Claim7 := { stood := { row := gridMoreRow, standIns := [], harness := (true, "82953132c9d041ae5b120d664aebaed973fe7413e99b33e3197745d872cb1b41"), looks := false }, kinds := [], alts := [], laidByText := true, laidKinds := [.data], laidTests := true, laidLooks := .later }
def GridMoreCardSaid : Prop := Claim7.holds Tryd.pinned (.plain (OpenSpec.ofChange gridMoreSpec)) gridMoreCard

/-- THE TIED CARD OF 'billiardlaw11.PairsMatchesReference'. -/
def pairsMatchesReferenceCard : Claim7 := { stood := { row := pairsMatchesReferenceRow, standIns := [], harness := (true, "82953132c9d041ae5b120d664aebaed973fe7413e99b33e3197745d872cb1b41"), looks := false }, kinds := [], alts := [], laidByText := true, laidKinds := [.data], laidTests := true, laidLooks := .later }
def PairsMatchesReferenceCardSaid : Prop := Claim7.holds Tryd.pinned (.plain (OpenSpec.ofChange pairsMatchesReferenceSpec)) pairsMatchesReferenceCard

/-- THE TIED CARD OF 'billiardlaw11.PairsExact'. -/
def pairsExactCard : Claim7 := { stood := { row := pairsExactRow, standIns := [], harness := (true, "82953132c9d041ae5b120d664aebaed973fe7413e99b33e3197745d872cb1b41"), looks := false }, kinds := [], alts := [], laidByText := true, laidKinds := [.data], laidTests := true, laidLooks := .later }
def PairsExactCardSaid : Prop := Claim7.holds Tryd.pinned (.plain (OpenSpec.ofChange pairsExactSpec)) pairsExactCard

/-- THE TIED CARD OF 'billiardlaw11.PairsLonely'. -/
def pairsLonelyCard : Claim7 := { stood := { row := pairsLonelyRow, standIns := [], harness := (true, "82953132c9d041ae5b120d664aebaed973fe7413e99b33e3197745d872cb1b41"), looks := false }, kinds := [], alts := [], laidByText := true, laidKinds := [.data], laidTests := true, laidLooks := .later }
def PairsLonelyCardSaid : Prop := Claim7.holds Tryd.pinned (.plain (OpenSpec.ofChange pairsLonelySpec)) pairsLonelyCard

/-- THE TIED CARD OF 'billiardlaw11.PairsMoved'. -/
def pairsMovedCard : Claim7 := { stood := { row := pairsMovedRow, standIns := [], harness := (true, "82953132c9d041ae5b120d664aebaed973fe7413e99b33e3197745d872cb1b41"), looks := false }, kinds := [], alts := [], laidByText := true, laidKinds := [.data], laidTests := true, laidLooks := .later }
def PairsMovedCardSaid : Prop := Claim7.holds Tryd.pinned (.plain (OpenSpec.ofChange pairsMovedSpec)) pairsMovedCard

/-- THE TIED CARD OF 'billiardlaw11.PairsWithin'. -/
def pairsWithinCard : Claim7 := { stood := { row := pairsWithinRow, standIns := [], harness := (true, "82953132c9d041ae5b120d664aebaed973fe7413e99b33e3197745d872cb1b41"), looks := false }, kinds := [], alts := [], laidByText := true, laidKinds := [.data], laidTests := true, laidLooks := .later }
def PairsWithinCardSaid : Prop := Claim7.holds Tryd.pinned (.plain (OpenSpec.ofChange pairsWithinSpec)) pairsWithinCard

/-- THE SECOND FORM's CARD OF 'billiardlaw10.GridMatchesReference'. -/
def gridMatchesReferenceUptoCard : Claim7 := { stood := { row := gridMatchesReferenceUptoRow, standIns := [], harness := (true, "82953132c9d041ae5b120d664aebaed973fe7413e99b33e3197745d872cb1b41"), looks := false }, kinds := [], alts := [], laidByText := true, laidKinds := [.data], laidTests := true, laidLooks := .later }
def GridMatchesReferenceUptoCardSaid : Prop := Claim7.holds Tryd.pinned (.plain (OpenSpec.upto gridMatchesReferenceSpec)) gridMatchesReferenceUptoCard

/-- THE SECOND FORM's CARD OF 'billiardlaw10.GridCandidates'. -/
def gridCandidatesUptoCard : Claim7 := { stood := { row := gridCandidatesUptoRow, standIns := [], harness := (true, "82953132c9d041ae5b120d664aebaed973fe7413e99b33e3197745d872cb1b41"), looks := false }, kinds := [], alts := [], laidByText := true, laidKinds := [.data], laidTests := true, laidLooks := .later }
def GridCandidatesUptoCardSaid : Prop := Claim7.holds Tryd.pinned (.plain (OpenSpec.upto gridCandidatesSpec)) gridCandidatesUptoCard

/-- THE SECOND FORM's CARD OF 'billiardlaw10.GridOrder'. -/
def gridOrderUptoCard : Claim7 := { stood := { row := gridOrderUptoRow, standIns := [], harness := (true, "82953132c9d041ae5b120d664aebaed973fe7413e99b33e3197745d872cb1b41"), looks := false }, kinds := [], alts := [], laidByText := true, laidKinds := [.data], laidTests := true, laidLooks := .later }
def GridOrderUptoCardSaid : Prop := Claim7.holds Tryd.pinned (.plain (OpenSpec.upto gridOrderSpec)) gridOrderUptoCard

/-- THE SECOND FORM's CARD OF 'billiardlaw10.GridPoints'. -/
def gridPointsUptoCard : Claim7 := { stood := { row := gridPointsUptoRow, standIns := [], harness := (true, "82953132c9d041ae5b120d664aebaed973fe7413e99b33e3197745d872cb1b41"), looks := false }, kinds := [], alts := [], laidByText := true, laidKinds := [.data], laidTests := true, laidLooks := .later }
def GridPointsUptoCardSaid : Prop := Claim7.holds Tryd.pinned (.plain (OpenSpec.upto gridPointsSpec)) gridPointsUptoCard

/-- THE SECOND FORM's CARD OF 'billiardlaw10.GridMore'. -/
def gridMoreUptoCard : Claim7 := { stood := { row := gridMoreUptoRow, standIns := [], harness := (true, "82953132c9d041ae5b120d664aebaed973fe7413e99b33e3197745d872cb1b41"), looks := false }, kinds := [], alts := [], laidByText := true, laidKinds := [.data], laidTests := true, laidLooks := .later }
def GridMoreUptoCardSaid : Prop := Claim7.holds Tryd.pinned (.plain (OpenSpec.upto gridMoreSpec)) gridMoreUptoCard

/-- THE SECOND FORM's CARD OF 'billiardlaw11.PairsMatchesReference'. -/
def pairsMatchesReferenceUptoCard : Claim7 := { stood := { row := pairsMatchesReferenceUptoRow, standIns := [], harness := (true, "82953132c9d041ae5b120d664aebaed973fe7413e99b33e3197745d872cb1b41"), looks := false }, kinds := [], alts := [], laidByText := true, laidKinds := [.data], laidTests := true, laidLooks := .later }
def PairsMatchesReferenceUptoCardSaid : Prop := Claim7.holds Tryd.pinned (.plain (OpenSpec.upto pairsMatchesReferenceSpec)) pairsMatchesReferenceUptoCard

/-- THE SECOND FORM's CARD OF 'billiardlaw11.PairsExact'. -/
def pairsExactUptoCard : Claim7 := { stood := { row := pairsExactUptoRow, standIns := [], harness := (true, "82953132c9d041ae5b120d664aebaed973fe7413e99b33e3197745d872cb1b41"), looks := false }, kinds := [], alts := [], laidByText := true, laidKinds := [.data], laidTests := true, laidLooks := .later }
def PairsExactUptoCardSaid : Prop := Claim7.holds Tryd.pinned (.plain (OpenSpec.upto pairsExactSpec)) pairsExactUptoCard

/-- THE SECOND FORM's CARD OF 'billiardlaw11.PairsLonely'. -/
def pairsLonelyUptoCard : Claim7 := { stood := { row := pairsLonelyUptoRow, standIns := [], harness := (true, "82953132c9d041ae5b120d664aebaed973fe7413e99b33e3197745d872cb1b41"), looks := false }, kinds := [], alts := [], laidByText := true, laidKinds := [.data], laidTests := true, laidLooks := .later }
def PairsLonelyUptoCardSaid : Prop := Claim7.holds Tryd.pinned (.plain (OpenSpec.upto pairsLonelySpec)) pairsLonelyUptoCard

/-- THE SECOND FORM's CARD OF 'billiardlaw11.PairsMoved'. -/
def pairsMovedUptoCard : Claim7 := { stood := { row := pairsMovedUptoRow, standIns := [], harness := (true, "82953132c9d041ae5b120d664aebaed973fe7413e99b33e3197745d872cb1b41"), looks := false }, kinds := [], alts := [], laidByText := true, laidKinds := [.data], laidTests := true, laidLooks := .later }
def PairsMovedUptoCardSaid : Prop := Claim7.holds Tryd.pinned (.plain (OpenSpec.upto pairsMovedSpec)) pairsMovedUptoCard

/-- THE SECOND FORM's CARD OF 'billiardlaw11.PairsWithin'. -/
def pairsWithinUptoCard : Claim7 := { stood := { row := pairsWithinUptoRow, standIns := [], harness := (true, "82953132c9d041ae5b120d664aebaed973fe7413e99b33e3197745d872cb1b41"), looks := false }, kinds := [], alts := [], laidByText := true, laidKinds := [.data], laidTests := true, laidLooks := .later }
def PairsWithinUptoCardSaid : Prop := Claim7.holds Tryd.pinned (.plain (OpenSpec.upto pairsWithinSpec)) pairsWithinUptoCard
end Rows
end Go.Proofs.YtnmnbogjnjbopaaDoor
