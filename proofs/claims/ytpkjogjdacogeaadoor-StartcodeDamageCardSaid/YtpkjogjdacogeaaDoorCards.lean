/-
  DERIVED. GIVEN WITH THE SEED: THE CARDS: each row of YtpkjogjdacogeaaDoorRows.lean that lists a variable, with what it lists TIED to the program's text (the seventh form; the later family's looks); each row that meets fmt, with fmt's text TOLD by the authors' own Lean function (tested against real Go, not proved from fmt's source: count such statements apart). THE CARD IS WHAT COUNTS. Prove the row's statement (the work); the ties are given (YtpkjogjdacogeaaDoorTie.lean); close each card by the builder's one call (the guide's Derived/Test/ToyasCard.lean, 'card_holds'). Laid BY PROGRAM, IN A SANDBOX (cutbox-door.mjs). By AI agents, Wed Nov 11 2026. No macro, syntax, notation, axiom, sorry.
-/
import Derived.Test.YtpkjogjdacogeaaDoorRows
import GoSem.ClaimSeven
namespace Go.Proofs.YtpkjogjdacogeaaDoor
namespace Rows

/-- THE TIED CARD OF 'cutroomlaw03.StartcodeSplit'. -/
def startcodeSplitCard : Claim7 := { stood := { row := startcodeSplitRow, standIns := [], harness := (true, "9949952cab301ffae56fe057fd66391bf6129dc31a1a7b0eceb3af1c2116d7c0"), looks := false }, kinds := [], alts := [], laidByText := true, laidKinds := [.data, .pinned], laidTests := true, laidLooks := .later }
def StartcodeSplitCardSaid : Prop := Claim7.holds Tryd.pinned (.plain (OpenSpec.ofChange startcodeSplitSpec)) startcodeSplitCard

/-- THE TIED CARD OF 'cutroomlaw03.StartcodeBack'. -/
def startcodeBackCard : Claim7 := { stood := { row := startcodeBackRow, standIns := [], harness := (true, "9949952cab301ffae56fe057fd66391bf6129dc31a1a7b0eceb3af1c2116d7c0"), looks := false }, kinds := [], alts := [], laidByText := true, laidKinds := [.data, .pinned], laidTests := true, laidLooks := .later }
def StartcodeBackCardSaid : Prop := Claim7.holds Tryd.pinned (.plain (OpenSpec.ofChange startcodeBackSpec)) startcodeBackCard

/-- THE TIED CARD OF 'cutroomlaw03.StartcodeResync'. -/
def startcodeResyncCard : Claim7 := { stood := { row := startcodeResyncRow, standIns := [], harness := (true, "9949952cab301ffae56fe057fd66391bf6129dc31a1a7b0eceb3af1c2116d7c0"), looks := false }, kinds := [], alts := [], laidByText := true, laidKinds := [.data, .pinned], laidTests := true, laidLooks := .later }
def StartcodeResyncCardSaid : Prop := Claim7.holds Tryd.pinned (.plain (OpenSpec.ofChange startcodeResyncSpec)) startcodeResyncCard

/-- THE TIED CARD OF 'cutroomlaw03.StartcodeDamage'. -/
def startcodeDamageCard : Claim7 := { stood := { row := startcodeDamageRow, standIns := [], harness := (true, "9949952cab301ffae56fe057fd66391bf6129dc31a1a7b0eceb3af1c2116d7c0"), looks := false }, kinds := [], alts := [], laidByText := true, laidKinds := [.data, .pinned], laidTests := true, laidLooks := .later }
def StartcodeDamageCardSaid : Prop := Claim7.holds Tryd.pinned (.plain (OpenSpec.ofChange startcodeDamageSpec)) startcodeDamageCard

/-- THE SECOND FORM's CARD OF 'cutroomlaw03.StartcodeSplit'. -/
def startcodeSplitUptoCard : Claim7 := { stood := { row := startcodeSplitUptoRow, standIns := [], harness := (true, "9949952cab301ffae56fe057fd66391bf6129dc31a1a7b0eceb3af1c2116d7c0"), looks := false }, kinds := [], alts := [], laidByText := true, laidKinds := [.data, .pinned], laidTests := true, laidLooks := .later }
def StartcodeSplitUptoCardSaid : Prop := Claim7.holds Tryd.pinned (.plain (OpenSpec.upto startcodeSplitSpec)) startcodeSplitUptoCard

/-- THE SECOND FORM's CARD OF 'cutroomlaw03.StartcodeBack'. -/
def startcodeBackUptoCard : Claim7 := { stood := { row := startcodeBackUptoRow, standIns := [], harness := (true, "9949952cab301ffae56fe057fd66391bf6129dc31a1a7b0eceb3af1c2116d7c0"), looks := false }, kinds := [], alts := [], laidByText := true, laidKinds := [.data, .pinned], laidTests := true, laidLooks := .later }
def StartcodeBackUptoCardSaid : Prop := Claim7.holds Tryd.pinned (.plain (OpenSpec.upto startcodeBackSpec)) startcodeBackUptoCard

/-- THE SECOND FORM's CARD OF 'cutroomlaw03.StartcodeResync'. -/
def startcodeResyncUptoCard : Claim7 := { stood := { row := startcodeResyncUptoRow, standIns := [], harness := (true, "9949952cab301ffae56fe057fd66391bf6129dc31a1a7b0eceb3af1c2116d7c0"), looks := false }, kinds := [], alts := [], laidByText := true, laidKinds := [.data, .pinned], laidTests := true, laidLooks := .later }
def StartcodeResyncUptoCardSaid : Prop := Claim7.holds Tryd.pinned (.plain (OpenSpec.upto startcodeResyncSpec)) startcodeResyncUptoCard

/-- THE SECOND FORM's CARD OF 'cutroomlaw03.StartcodeDamage'. -/
def startcodeDamageUptoCard : Claim7 := { stood := { row := startcodeDamageUptoRow, standIns := [], harness := (true, "9949952cab301ffae56fe057fd66391bf6129dc31a1a7b0eceb3af1c2116d7c0"), looks := false }, kinds := [], alts := [], laidByText := true, laidKinds := [.data, .pinned], laidTests := true, laidLooks := .later }
def StartcodeDamageUptoCardSaid : Prop := Claim7.holds Tryd.pinned (.plain (OpenSpec.upto startcodeDamageSpec)) startcodeDamageUptoCard
end Rows
end Go.Proofs.YtpkjogjdacogeaaDoor
