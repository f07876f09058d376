/-
  DERIVED. GIVEN WITH THE SEED: THE CARDS: each row of YtjfambmdkinkiaaDoorRows.lean that lists a variable, with what it lists TIED to the program's text (the seventh form; the later family's looks); each row that meets fmt, with fmt's text TOLD by the authors' own Lean function (tested against real Go, not proved from fmt's source: count such statements apart). THE CARD IS WHAT COUNTS. Prove the row's statement (the work); the ties are given (YtjfambmdkinkiaaDoorTie.lean); close each card by the builder's one call (the guide's Derived/Test/ToyasCard.lean, 'card_holds'). Laid BY PROGRAM, IN A SANDBOX (cutbox-door.mjs). By AI agents, Wed Nov 11 2026. No macro, syntax, notation, axiom, sorry.
-/
import Derived.Test.YtjfambmdkinkiaaDoorRows
import GoSem.ClaimSeven
namespace Go.Proofs.YtjfambmdkinkiaaDoor
namespace Rows

/-- THE TIED CARD OF 'towlinelaw4.HmacSums'. -/
def hmacSumsCard : Claim7 := { stood := { row := hmacSumsRow, standIns := [], harness := (true, "63563b64a6306510ed63cfc416dd8b6a26f2dd0ab9477d8f2c3aa749824ab58e"), looks := false }, kinds := [], alts := [], laidByText := true, laidKinds := [.data], laidTests := true, laidLooks := .later }
def HmacSumsCardSaid : Prop := Claim7.holds Tryd.pinned (.plain (OpenSpec.ofChange hmacSumsSpec)) hmacSumsCard

/-- THE TIED CARD OF 'towlinelaw4.HmacKeys'. -/
def hmacKeysCard : Claim7 := { stood := { row := hmacKeysRow, standIns := [], harness := (true, "63563b64a6306510ed63cfc416dd8b6a26f2dd0ab9477d8f2c3aa749824ab58e"), looks := false }, kinds := [], alts := [], laidByText := true, laidKinds := [.data], laidTests := true, laidLooks := .later }
def HmacKeysCardSaid : Prop := Claim7.holds Tryd.pinned (.plain (OpenSpec.ofChange hmacKeysSpec)) hmacKeysCard

/-- THE TIED CARD OF 'towlinelaw4.HmacByTwo'. -/
def hmacByTwoCard : Claim7 := { stood := { row := hmacByTwoRow, standIns := [], harness := (true, "63563b64a6306510ed63cfc416dd8b6a26f2dd0ab9477d8f2c3aa749824ab58e"), looks := false }, kinds := [], alts := [], laidByText := true, laidKinds := [.data], laidTests := true, laidLooks := .later }
def HmacByTwoCardSaid : Prop := Claim7.holds Tryd.pinned (.plain (OpenSpec.ofChange hmacByTwoSpec)) hmacByTwoCard

/-- THE TIED CARD OF 'towlinelaw4.HmacSames'. -/
def hmacSamesCard : Claim7 := { stood := { row := hmacSamesRow, standIns := [], harness := (true, "63563b64a6306510ed63cfc416dd8b6a26f2dd0ab9477d8f2c3aa749824ab58e"), looks := false }, kinds := [], alts := [], laidByText := true, laidKinds := [.data], laidTests := true, laidLooks := .later }
def HmacSamesCardSaid : Prop := Claim7.holds Tryd.pinned (.plain (OpenSpec.ofChange hmacSamesSpec)) hmacSamesCard

/-- THE SECOND FORM's CARD OF 'towlinelaw4.HmacSums'. -/
def hmacSumsUptoCard : Claim7 := { stood := { row := hmacSumsUptoRow, standIns := [], harness := (true, "63563b64a6306510ed63cfc416dd8b6a26f2dd0ab9477d8f2c3aa749824ab58e"), looks := false }, kinds := [], alts := [], laidByText := true, laidKinds := [.data], laidTests := true, laidLooks := .later }
def HmacSumsUptoCardSaid : Prop := Claim7.holds Tryd.pinned (.plain (OpenSpec.upto hmacSumsSpec)) hmacSumsUptoCard

/-- THE SECOND FORM's CARD OF 'towlinelaw4.HmacKeys'. -/
def hmacKeysUptoCard : Claim7 := { stood := { row := hmacKeysUptoRow, standIns := [], harness := (true, "63563b64a6306510ed63cfc416dd8b6a26f2dd0ab9477d8f2c3aa749824ab58e"), looks := false }, kinds := [], alts := [], laidByText := true, laidKinds := [.data], laidTests := true, laidLooks := .later }
def HmacKeysUptoCardSaid : Prop := Claim7.holds Tryd.pinned (.plain (OpenSpec.upto hmacKeysSpec)) hmacKeysUptoCard

/-- THE SECOND FORM's CARD OF 'towlinelaw4.HmacByTwo'. -/
def hmacByTwoUptoCard : Claim7 := { stood := { row := hmacByTwoUptoRow, standIns := [], harness := (true, "63563b64a6306510ed63cfc416dd8b6a26f2dd0ab9477d8f2c3aa749824ab58e"), looks := false }, kinds := [], alts := [], laidByText := true, laidKinds := [.data], laidTests := true, laidLooks := .later }
def HmacByTwoUptoCardSaid : Prop := Claim7.holds Tryd.pinned (.plain (OpenSpec.upto hmacByTwoSpec)) hmacByTwoUptoCard

/-- THE SECOND FORM's CARD OF 'towlinelaw4.HmacSames'. -/
def hmacSamesUptoCard : Claim7 := { stood := { row := hmacSamesUptoRow, standIns := [], harness := (true, "63563b64a6306510ed63cfc416dd8b6a26f2dd0ab9477d8f2c3aa749824ab58e"), looks := false }, kinds := [], alts := [], laidByText := true, laidKinds := [.data], laidTests := true, laidLooks := .later }
def HmacSamesUptoCardSaid : Prop := Claim7.holds Tryd.pinned (.plain (OpenSpec.upto hmacSamesSpec)) hmacSamesUptoCard
end Rows
end Go.Proofs.YtjfambmdkinkiaaDoor
