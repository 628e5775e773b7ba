/-
  DERIVED. GIVEN WITH THE SEED: THE CARDS: each row of YtangalkbjochjaaGreatDoorRows.lean that lists a variable, with what it lists TIED to the program's text (the seventh form; the later family's looks); each row that meets fmt, with fmt's text TOLD by the authors' own Lean function (tested against real Go, not proved from fmt's source: count such statements apart). THE CARD IS WHAT COUNTS. Prove the row's statement (the work); the ties are given (YtangalkbjochjaaGreatDoorTie.lean); close each card by the builder's one call (the guide's Derived/Test/ToyasCard.lean, 'card_holds'). Laid BY PROGRAM, IN A SANDBOX (cutbox-door.mjs). By AI agents, Wed Nov 11 2026. No macro, syntax, notation, axiom, sorry.
-/
import Derived.Test.YtangalkbjochjaaGreatDoorRows
import GoSem.ClaimSeven
namespace Go.Proofs.YtangalkbjochjaaGreatDoor
namespace Rows

/-- THE TIED CARD OF 'billiardlaw15.ContactsMatchesReference'. -/
def contactsMatchesReferenceCard : Claim7 := { stood := { row := contactsMatchesReferenceRow, standIns := [], harness := (true, "1f618b3dcc3f52b8232bdbd8b270c1ccf1e7d286301e4778af374bf474e4a264"), looks := false }, kinds := [], alts := [], laidByText := true, laidKinds := [.data], laidTests := true, laidLooks := .later }
def ContactsMatchesReferenceCardSaid : Prop := Claim7.holds Tryz.pinned (.plain (OpenSpec.ofChange contactsMatchesReferenceSpec)) contactsMatchesReferenceCard

/-- THE TIED CARD OF 'billiardlaw15.ContactsAll'. -/
def contactsAllCard : Claim7 := { stood := { row := contactsAllRow, standIns := [], harness := (true, "1f618b3dcc3f52b8232bdbd8b270c1ccf1e7d286301e4778af374bf474e4a264"), looks := false }, kinds := [], alts := [], laidByText := true, laidKinds := [.data], laidTests := true, laidLooks := .later }
def ContactsAllCardSaid : Prop := Claim7.holds Tryz.pinned (.plain (OpenSpec.ofChange contactsAllSpec)) contactsAllCard

/-- THE TIED CARD OF 'billiardlaw15.ContactsLonely'. -/
def contactsLonelyCard : Claim7 := { stood := { row := contactsLonelyRow, standIns := [], harness := (true, "1f618b3dcc3f52b8232bdbd8b270c1ccf1e7d286301e4778af374bf474e4a264"), looks := false }, kinds := [], alts := [], laidByText := true, laidKinds := [.data], laidTests := true, laidLooks := .later }
def ContactsLonelyCardSaid : Prop := Claim7.holds Tryz.pinned (.plain (OpenSpec.ofChange contactsLonelySpec)) contactsLonelyCard

/-- THE TIED CARD OF 'billiardlaw15.ContactsMoves'. -/
def contactsMovesCard : Claim7 := { stood := { row := contactsMovesRow, standIns := [], harness := (true, "1f618b3dcc3f52b8232bdbd8b270c1ccf1e7d286301e4778af374bf474e4a264"), looks := false }, kinds := [], alts := [], laidByText := true, laidKinds := [.data], laidTests := true, laidLooks := .later }
def ContactsMovesCardSaid : Prop := Claim7.holds Tryz.pinned (.plain (OpenSpec.ofChange contactsMovesSpec)) contactsMovesCard

/-- THE TIED CARD OF 'billiardlaw15.ContactsDeepest'. -/
def contactsDeepestCard : Claim7 := { stood := { row := contactsDeepestRow, standIns := [], harness := (true, "1f618b3dcc3f52b8232bdbd8b270c1ccf1e7d286301e4778af374bf474e4a264"), looks := false }, kinds := [], alts := [], laidByText := true, laidKinds := [.data], laidTests := true, laidLooks := .later }
def ContactsDeepestCardSaid : Prop := Claim7.holds Tryz.pinned (.plain (OpenSpec.ofChange contactsDeepestSpec)) contactsDeepestCard

/-- THE SECOND FORM's CARD OF 'billiardlaw15.ContactsMatchesReference'. -/
def contactsMatchesReferenceUptoCard : Claim7 := { stood := { row := contactsMatchesReferenceUptoRow, standIns := [], harness := (true, "1f618b3dcc3f52b8232bdbd8b270c1ccf1e7d286301e4778af374bf474e4a264"), looks := false }, kinds := [], alts := [], laidByText := true, laidKinds := [.data], laidTests := true, laidLooks := .later }
def ContactsMatchesReferenceUptoCardSaid : Prop := Claim7.holds Tryz.pinned (.plain (OpenSpec.upto contactsMatchesReferenceSpec)) contactsMatchesReferenceUptoCard

/-- THE SECOND FORM's CARD OF 'billiardlaw15.ContactsAll'. -/
def contactsAllUptoCard : Claim7 := { stood := { row := contactsAllUptoRow, standIns := [], harness := (true, "1f618b3dcc3f52b8232bdbd8b270c1ccf1e7d286301e4778af374bf474e4a264"), looks := false }, kinds := [], alts := [], laidByText := true, laidKinds := [.data], laidTests := true, laidLooks := .later }
def ContactsAllUptoCardSaid : Prop := Claim7.holds Tryz.pinned (.plain (OpenSpec.upto contactsAllSpec)) contactsAllUptoCard

/-- THE SECOND FORM's CARD OF 'billiardlaw15.ContactsLonely'. -/
def contactsLonelyUptoCard : Claim7 := { stood := { row := contactsLonelyUptoRow, standIns := [], harness := (true, "1f618b3dcc3f52b8232bdbd8b270c1ccf1e7d286301e4778af374bf474e4a264"), looks := false }, kinds := [], alts := [], laidByText := true, laidKinds := [.data], laidTests := true, laidLooks := .later }
def ContactsLonelyUptoCardSaid : Prop := Claim7.holds Tryz.pinned (.plain (OpenSpec.upto contactsLonelySpec)) contactsLonelyUptoCard

/-- THE SECOND FORM's CARD OF 'billiardlaw15.ContactsMoves'. -/
def contactsMovesUptoCard : Claim7 := { stood := { row := contactsMovesUptoRow, standIns := [], harness := (true, "1f618b3dcc3f52b8232bdbd8b270c1ccf1e7d286301e4778af374bf474e4a264"), looks := false }, kinds := [], alts := [], laidByText := true, laidKinds := [.data], laidTests := true, laidLooks := .later }
def ContactsMovesUptoCardSaid : Prop := Claim7.holds Tryz.pinned (.plain (OpenSpec.upto contactsMovesSpec)) contactsMovesUptoCard

/-- THE SECOND FORM's CARD OF 'billiardlaw15.ContactsDeepest'. -/
def contactsDeepestUptoCard : Claim7 := { stood := { row := contactsDeepestUptoRow, standIns := [], harness := (true, "1f618b3dcc3f52b8232bdbd8b270c1ccf1e7d286301e4778af374bf474e4a264"), looks := false }, kinds := [], alts := [], laidByText := true, laidKinds := [.data], laidTests := true, laidLooks := .later }
def ContactsDeepestUptoCardSaid : Prop := Claim7.holds Tryz.pinned (.plain (OpenSpec.upto contactsDeepestSpec)) contactsDeepestUptoCard
end Rows
end Go.Proofs.YtangalkbjochjaaGreatDoor
