/-
  DERIVED. GIVEN WITH THE SEED: THE CARDS: each row of YthfiebdpoleeeaaDoorRows.lean that lists a variable, with what it lists TIED to the program's text (the seventh form; the later family's looks); each row that meets fmt, with fmt's text TOLD by the authors' own Lean function (tested against real Go, not proved from fmt's source: count such statements apart). THE CARD IS WHAT COUNTS. Prove the row's statement (the work); the ties are given (YthfiebdpoleeeaaDoorTie.lean); close each card by the builder's one call (the guide's Derived/Test/ToyasCard.lean, 'card_holds'). Laid BY PROGRAM, IN A SANDBOX (cutbox-door.mjs). By AI agents, Wed Nov 11 2026. No macro, syntax, notation, axiom, sorry.
-/
import Derived.Test.YthfiebdpoleeeaaDoorRows
import GoSem.ClaimSeven
namespace Go.Proofs.YthfiebdpoleeeaaDoor
namespace Rows

/-- THE TIED CARD OF 'towlinelaw9.CookieBuilds'. -/
def cookieBuildsCard : Claim7 := { stood := { row := cookieBuildsRow, standIns := [], harness := (true, "ca3653a8f791068f624593d25c057a68670731fcb4311832470288df8a1fc510"), looks := false }, kinds := [], alts := [], laidByText := true, laidKinds := [.data], laidTests := true, laidLooks := .later }
def CookieBuildsCardSaid : Prop := Claim7.holds Tryd.pinned (.plain (OpenSpec.ofChange cookieBuildsSpec)) cookieBuildsCard

/-- THE TIED CARD OF 'towlinelaw9.CookieTurns'. -/
def cookieTurnsCard : Claim7 := { stood := { row := cookieTurnsRow, standIns := [], harness := (true, "ca3653a8f791068f624593d25c057a68670731fcb4311832470288df8a1fc510"), looks := false }, kinds := [], alts := [], laidByText := true, laidKinds := [.data], laidTests := true, laidLooks := .later }
def CookieTurnsCardSaid : Prop := Claim7.holds Tryd.pinned (.plain (OpenSpec.ofChange cookieTurnsSpec)) cookieTurnsCard

/-- THE TIED CARD OF 'towlinelaw9.CookieBack'. -/
def cookieBackCard : Claim7 := { stood := { row := cookieBackRow, standIns := [], harness := (true, "ca3653a8f791068f624593d25c057a68670731fcb4311832470288df8a1fc510"), looks := false }, kinds := [], alts := [], laidByText := true, laidKinds := [.data], laidTests := true, laidLooks := .later }
def CookieBackCardSaid : Prop := Claim7.holds Tryd.pinned (.plain (OpenSpec.ofChange cookieBackSpec)) cookieBackCard

/-- THE TIED CARD OF 'towlinelaw9.CookieLives'. -/
def cookieLivesCard : Claim7 := { stood := { row := cookieLivesRow, standIns := [], harness := (true, "ca3653a8f791068f624593d25c057a68670731fcb4311832470288df8a1fc510"), looks := false }, kinds := [], alts := [], laidByText := true, laidKinds := [.data], laidTests := true, laidLooks := .later }
def CookieLivesCardSaid : Prop := Claim7.holds Tryd.pinned (.plain (OpenSpec.ofChange cookieLivesSpec)) cookieLivesCard

/-- THE TIED CARD OF 'towlinelaw9.CookieNews'. -/
def cookieNewsCard : Claim7 := { stood := { row := cookieNewsRow, standIns := [], harness := (true, "ca3653a8f791068f624593d25c057a68670731fcb4311832470288df8a1fc510"), looks := false }, kinds := [], alts := [], laidByText := true, laidKinds := [.data], laidTests := true, laidLooks := .later }
def CookieNewsCardSaid : Prop := Claim7.holds Tryd.pinned (.plain (OpenSpec.ofChange cookieNewsSpec)) cookieNewsCard

/-- THE TIED CARD OF 'towlinelaw9.CookieParts'. -/
def cookiePartsCard : Claim7 := { stood := { row := cookiePartsRow, standIns := [], harness := (true, "ca3653a8f791068f624593d25c057a68670731fcb4311832470288df8a1fc510"), looks := false }, kinds := [], alts := [], laidByText := true, laidKinds := [.data], laidTests := true, laidLooks := .later }
def CookiePartsCardSaid : Prop := Claim7.holds Tryd.pinned (.plain (OpenSpec.ofChange cookiePartsSpec)) cookiePartsCard

/-- THE SECOND FORM's CARD OF 'towlinelaw9.CookieBuilds'. -/
def cookieBuildsUptoCard : Claim7 := { stood := { row := cookieBuildsUptoRow, standIns := [], harness := (true, "ca3653a8f791068f624593d25c057a68670731fcb4311832470288df8a1fc510"), looks := false }, kinds := [], alts := [], laidByText := true, laidKinds := [.data], laidTests := true, laidLooks := .later }
def CookieBuildsUptoCardSaid : Prop := Claim7.holds Tryd.pinned (.plain (OpenSpec.upto cookieBuildsSpec)) cookieBuildsUptoCard

/-- THE SECOND FORM's CARD OF 'towlinelaw9.CookieTurns'. -/
def cookieTurnsUptoCard : Claim7 := { stood := { row := cookieTurnsUptoRow, standIns := [], harness := (true, "ca3653a8f791068f624593d25c057a68670731fcb4311832470288df8a1fc510"), looks := false }, kinds := [], alts := [], laidByText := true, laidKinds := [.data], laidTests := true, laidLooks := .later }
def CookieTurnsUptoCardSaid : Prop := Claim7.holds Tryd.pinned (.plain (OpenSpec.upto cookieTurnsSpec)) cookieTurnsUptoCard

/-- THE SECOND FORM's CARD OF 'towlinelaw9.CookieBack'. -/
def cookieBackUptoCard : Claim7 := { stood := { row := cookieBackUptoRow, standIns := [], harness := (true, "ca3653a8f791068f624593d25c057a68670731fcb4311832470288df8a1fc510"), looks := false }, kinds := [], alts := [], laidByText := true, laidKinds := [.data], laidTests := true, laidLooks := .later }
def CookieBackUptoCardSaid : Prop := Claim7.holds Tryd.pinned (.plain (OpenSpec.upto cookieBackSpec)) cookieBackUptoCard

/-- THE SECOND FORM's CARD OF 'towlinelaw9.CookieLives'. -/
def cookieLivesUptoCard : Claim7 := { stood := { row := cookieLivesUptoRow, standIns := [], harness := (true, "ca3653a8f791068f624593d25c057a68670731fcb4311832470288df8a1fc510"), looks := false }, kinds := [], alts := [], laidByText := true, laidKinds := [.data], laidTests := true, laidLooks := .later }
def CookieLivesUptoCardSaid : Prop := Claim7.holds Tryd.pinned (.plain (OpenSpec.upto cookieLivesSpec)) cookieLivesUptoCard

/-- THE SECOND FORM's CARD OF 'towlinelaw9.CookieNews'. -/
def cookieNewsUptoCard : Claim7 := { stood := { row := cookieNewsUptoRow, standIns := [], harness := (true, "ca3653a8f791068f624593d25c057a68670731fcb4311832470288df8a1fc510"), looks := false }, kinds := [], alts := [], laidByText := true, laidKinds := [.data], laidTests := true, laidLooks := .later }
def CookieNewsUptoCardSaid : Prop := Claim7.holds Tryd.pinned (.plain (OpenSpec.upto cookieNewsSpec)) cookieNewsUptoCard

/-- THE SECOND FORM's CARD OF 'towlinelaw9.CookieParts'. -/
def cookiePartsUptoCard : Claim7 := { stood := { row := cookiePartsUptoRow, standIns := [], harness := (true, "ca3653a8f791068f624593d25c057a68670731fcb4311832470288df8a1fc510"), looks := false }, kinds := [], alts := [], laidByText := true, laidKinds := [.data], laidTests := true, laidLooks := .later }
def CookiePartsUptoCardSaid : Prop := Claim7.holds Tryd.pinned (.plain (OpenSpec.upto cookiePartsSpec)) cookiePartsUptoCard
end Rows
end Go.Proofs.YthfiebdpoleeeaaDoor
