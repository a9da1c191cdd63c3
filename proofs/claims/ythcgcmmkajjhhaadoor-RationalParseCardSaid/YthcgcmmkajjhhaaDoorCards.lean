/-
  DERIVED. GIVEN WITH THE SEED: THE CARDS: each row of YthcgcmmkajjhhaaDoorRows.lean that lists a variable, with what it lists TIED to the program's text (the seventh form; the later family's looks); each row that meets fmt, with fmt's text TOLD by the authors' own Lean function (tested against real Go, not proved from fmt's source: count such statements apart). THE CARD IS WHAT COUNTS. Prove the row's statement (the work); the ties are given (YthcgcmmkajjhhaaDoorTie.lean); close each card by the builder's one call (the guide's Derived/Test/ToyasCard.lean, 'card_holds'). Laid BY PROGRAM, IN A SANDBOX (cutbox-door.mjs). By AI agents, Wed Nov 11 2026. No macro, syntax, notation, axiom, sorry.
-/
import Derived.Test.YthcgcmmkajjhhaaDoorRows
import GoSem.ClaimSeven
namespace Go.Proofs.YthcgcmmkajjhhaaDoor
namespace Rows

/-- THE TIED CARD OF 'cutroomlaw01.RationalPosition'. -/
def rationalPositionCard : Claim7 := { stood := { row := rationalPositionRow, standIns := [], harness := (true, "36677dcb3a6cad5741e1bf3229794244cf5880a257f28581b827b437ba5aa1e2"), looks := true }, kinds := [], alts := [], laidByText := true, laidKinds := [.data], laidTests := true, laidLooks := .later }
def RationalPositionCardSaid : Prop := Claim7.holds Tryd.pinned (.plain (OpenSpec.ofChange rationalPositionSpec)) rationalPositionCard

/-- THE TIED CARD OF 'cutroomlaw01.RationalFormat'. -/
def rationalFormatCard : Claim7 := { stood := { row := rationalFormatRow, standIns := [], harness := (true, "36677dcb3a6cad5741e1bf3229794244cf5880a257f28581b827b437ba5aa1e2"), looks := true }, kinds := [], alts := [], laidByText := true, laidKinds := [.data, .data, .data, .sentinel, .sentinel], laidTests := true, laidLooks := .later }
def RationalFormatCardSaid : Prop := Claim7.holds Tryd.pinned (.plain (OpenSpec.ofChange rationalFormatSpec)) rationalFormatCard

/-- THE TIED CARD OF 'cutroomlaw01.RationalParse'. -/
def rationalParseCard : Claim7 := { stood := { row := rationalParseRow, standIns := [], harness := (true, "36677dcb3a6cad5741e1bf3229794244cf5880a257f28581b827b437ba5aa1e2"), looks := true }, kinds := [], alts := [], laidByText := true, laidKinds := [.data, .data, .data, .sentinel, .sentinel], laidTests := true, laidLooks := .later }
def RationalParseCardSaid : Prop := Claim7.holds Tryd.pinned (.plain (OpenSpec.ofChange rationalParseSpec)) rationalParseCard

/-- THE TIED CARD OF 'cutroomlaw01.RationalNearest'. -/
def rationalNearestCard : Claim7 := { stood := { row := rationalNearestRow, standIns := [], harness := (true, "36677dcb3a6cad5741e1bf3229794244cf5880a257f28581b827b437ba5aa1e2"), looks := true }, kinds := [], alts := [], laidByText := true, laidKinds := [.data], laidTests := true, laidLooks := .later }
def RationalNearestCardSaid : Prop := Claim7.holds Tryd.pinned (.plain (OpenSpec.ofChange rationalNearestSpec)) rationalNearestCard

/-- THE TIED CARD OF 'cutroomlaw01.RationalLong'. -/
def rationalLongCard : Claim7 := { stood := { row := rationalLongRow, standIns := [], harness := (true, "36677dcb3a6cad5741e1bf3229794244cf5880a257f28581b827b437ba5aa1e2"), looks := true }, kinds := [], alts := [], laidByText := true, laidKinds := [.data], laidTests := true, laidLooks := .later }
def RationalLongCardSaid : Prop := Claim7.holds Tryd.pinned (.plain (OpenSpec.ofChange rationalLongSpec)) rationalLongCard

/-- THE SECOND FORM's CARD OF 'cutroomlaw01.RationalPosition'. -/
def rationalPositionUptoCard : Claim7 := { stood := { row := rationalPositionUptoRow, standIns := [], harness := (true, "36677dcb3a6cad5741e1bf3229794244cf5880a257f28581b827b437ba5aa1e2"), looks := true }, kinds := [], alts := [], laidByText := true, laidKinds := [.data], laidTests := true, laidLooks := .later }
def RationalPositionUptoCardSaid : Prop := Claim7.holds Tryd.pinned (.plain (OpenSpec.upto rationalPositionSpec)) rationalPositionUptoCard

/-- THE SECOND FORM's CARD OF 'cutroomlaw01.RationalFormat'. -/
def rationalFormatUptoCard : Claim7 := { stood := { row := rationalFormatUptoRow, standIns := [], harness := (true, "36677dcb3a6cad5741e1bf3229794244cf5880a257f28581b827b437ba5aa1e2"), looks := true }, kinds := [], alts := [], laidByText := true, laidKinds := [.data, .data, .data, .sentinel, .sentinel], laidTests := true, laidLooks := .later }
def RationalFormatUptoCardSaid : Prop := Claim7.holds Tryd.pinned (.plain (OpenSpec.upto rationalFormatSpec)) rationalFormatUptoCard

/-- THE SECOND FORM's CARD OF 'cutroomlaw01.RationalParse'. -/
def rationalParseUptoCard : Claim7 := { stood := { row := rationalParseUptoRow, standIns := [], harness := (true, "36677dcb3a6cad5741e1bf3229794244cf5880a257f28581b827b437ba5aa1e2"), looks := true }, kinds := [], alts := [], laidByText := true, laidKinds := [.data, .data, .data, .sentinel, .sentinel], laidTests := true, laidLooks := .later }
def RationalParseUptoCardSaid : Prop := Claim7.holds Tryd.pinned (.plain (OpenSpec.upto rationalParseSpec)) rationalParseUptoCard

/-- THE SECOND FORM's CARD OF 'cutroomlaw01.RationalNearest'. -/
def rationalNearestUptoCard : Claim7 := { stood := { row := rationalNearestUptoRow, standIns := [], harness := (true, "36677dcb3a6cad5741e1bf3229794244cf5880a257f28581b827b437ba5aa1e2"), looks := true }, kinds := [], alts := [], laidByText := true, laidKinds := [.data], laidTests := true, laidLooks := .later }
def RationalNearestUptoCardSaid : Prop := Claim7.holds Tryd.pinned (.plain (OpenSpec.upto rationalNearestSpec)) rationalNearestUptoCard

/-- THE SECOND FORM's CARD OF 'cutroomlaw01.RationalLong'. -/
def rationalLongUptoCard : Claim7 := { stood := { row := rationalLongUptoRow, standIns := [], harness := (true, "36677dcb3a6cad5741e1bf3229794244cf5880a257f28581b827b437ba5aa1e2"), looks := true }, kinds := [], alts := [], laidByText := true, laidKinds := [.data], laidTests := true, laidLooks := .later }
def RationalLongUptoCardSaid : Prop := Claim7.holds Tryd.pinned (.plain (OpenSpec.upto rationalLongSpec)) rationalLongUptoCard
end Rows
end Go.Proofs.YthcgcmmkajjhhaaDoor
