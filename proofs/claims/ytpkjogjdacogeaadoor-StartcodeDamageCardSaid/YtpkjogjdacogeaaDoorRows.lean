/-
  NARROWER THAN 'FOR EVERY INPUT', by the rows' own cells (each row's printed sentence says how): StartcodeSplit: laid · StartcodeBack: laid · StartcodeResync: laid · StartcodeDamage: laid.
  DERIVED. THE GIVEN ROWS OF THIS SEAT. 4 by the template 'for every input the law returns true; each argument reads behind the call as it read before'; 0 by the template 'total and deterministic' (their statements: YtpkjogjdacogeaaDoorTotals.lean).
  GIVEN WITH THE SEED: the statements are not yours to turn. If you find one false, say at which input.
  Laid BY PROGRAM, IN A SANDBOX (cutbox-rows.mjs): the forced cells as the released guide's own fill.sh prints them over the translation 4984bb7137b94db0… (all of the seat's roots in one cut). By AI agents, Wed Nov 11 2026. No macro, syntax, notation, axiom, sorry.
-/
import Derived.Test.YtpkjogjdacogeaaDoorChecked
import GoSem.PinnedTables
import GoSem.Claim
import GoSem.ClaimJoined
import GoSem.ClaimMapViews
import Derived.JoinedTies
import Derived.KernelRfl
namespace Go.Proofs.YtpkjogjdacogeaaDoor
/- THE CELL 'sum', in the pinned program and in every row, IS THE sha256 OF THE DUMP (.gsa) THAT YtpkjogjdacogeaaDoorProg.lean LOADS. Nothing in Lean hashes anything: it is a label: what it is worth is what the hold of that sum in a sandbox is worth. -/
noncomputable def Tryd.pinned : Pinned := { name := "ytpkjogjdacogeaadoor", sum := "4984bb7137b94db077bd5e7f4a78fd39e75e7d0564f7299ee304bab8468db6e2", checked := Tryd.checked }
namespace Rows
def none {H : Type} : Left H := { results := [], args := [] }

/- WHAT THE LISTED PACKAGE-LEVEL VARIABLES READ AS WHEN THE CALL BEGINS. Each datum BY PROGRAM (the guide's laid-datum.mjs) off the statement by which the dump's own 'gosem.cut.vars' lays the variable. In a bare row this is a premise. The card (YtpkjogjdacogeaaDoorCards.lean) ties it to the program's text. -/
def laid_unicode_utf8_acceptRanges {H : Type} : DataW H := .agg [.agg [.lit (.int .u8 128), .lit (.int .u8 191)], .agg [.lit (.int .u8 160), .lit (.int .u8 191)], .agg [.lit (.int .u8 128), .lit (.int .u8 159)], .agg [.lit (.int .u8 144), .lit (.int .u8 191)], .agg [.lit (.int .u8 128), .lit (.int .u8 143)], .agg [.lit (.int .u8 0), .lit (.int .u8 0)], .agg [.lit (.int .u8 0), .lit (.int .u8 0)], .agg [.lit (.int .u8 0), .lit (.int .u8 0)], .agg [.lit (.int .u8 0), .lit (.int .u8 0)], .agg [.lit (.int .u8 0), .lit (.int .u8 0)], .agg [.lit (.int .u8 0), .lit (.int .u8 0)], .agg [.lit (.int .u8 0), .lit (.int .u8 0)], .agg [.lit (.int .u8 0), .lit (.int .u8 0)], .agg [.lit (.int .u8 0), .lit (.int .u8 0)], .agg [.lit (.int .u8 0), .lit (.int .u8 0)], .agg [.lit (.int .u8 0), .lit (.int .u8 0)]]
/-- One of Go's own tables, pinned by name: the form's constant. -/
def laid_unicode_utf8_first : DataW Unit := Go.Pinned.utf8First

/-- 'cutroomlaw03.StartcodeSplit': WHATEVER THE INPUT: true; the input reads as it did. -/
def startcodeSplitSpec : ChangeSpec := { name := "startcodeSplit", fn := fun _ => fun
  | [d] => { results := [.lit (.bool true)], args := [d] }
  | _ => none }
def startcodeSplitRow : OpenClaim := { program := "ytpkjogjdacogeaadoor", sum := "4984bb7137b94db077bd5e7f4a78fd39e75e7d0564f7299ee304bab8468db6e2", func := "cutroom/cutroomlaw03.StartcodeSplit", spec := "startcodeSplit", named := ["unicode/utf8.first", "unicode/utf8.acceptRanges"], apart := false, laid := [("unicode/utf8.acceptRanges", laid_unicode_utf8_acceptRanges), ("unicode/utf8.first", laid_unicode_utf8_first)] }
def StartcodeSplitSaid : Prop := startcodeSplitRow.holds Tryd.pinned (OpenSpec.ofChange startcodeSplitSpec)

/-- ITS FALSE NEIGHBOUR: 'it returns false'. Refute it at one input. -/
def startcodeSplitWrong : ChangeSpec := { name := "startcodeSplit", fn := fun _ => fun
  | [d] => { results := [.lit (.bool false)], args := [d] }
  | _ => none }
def StartcodeSplitWrongFalsely : Prop := startcodeSplitRow.holds Tryd.pinned (OpenSpec.ofChange startcodeSplitWrong)

/-- 'cutroomlaw03.StartcodeBack': WHATEVER THE INPUT: true; the input reads as it did. -/
def startcodeBackSpec : ChangeSpec := { name := "startcodeBack", fn := fun _ => fun
  | [d1, d2] => { results := [.lit (.bool true)], args := [d1, d2] }
  | _ => none }
def startcodeBackRow : OpenClaim := { program := "ytpkjogjdacogeaadoor", sum := "4984bb7137b94db077bd5e7f4a78fd39e75e7d0564f7299ee304bab8468db6e2", func := "cutroom/cutroomlaw03.StartcodeBack", spec := "startcodeBack", named := ["unicode/utf8.first", "unicode/utf8.acceptRanges"], apart := false, laid := [("unicode/utf8.acceptRanges", laid_unicode_utf8_acceptRanges), ("unicode/utf8.first", laid_unicode_utf8_first)] }
def StartcodeBackSaid : Prop := startcodeBackRow.holds Tryd.pinned (OpenSpec.ofChange startcodeBackSpec)

/-- ITS FALSE NEIGHBOUR: 'it returns false'. Refute it at one input. -/
def startcodeBackWrong : ChangeSpec := { name := "startcodeBack", fn := fun _ => fun
  | [d1, d2] => { results := [.lit (.bool false)], args := [d1, d2] }
  | _ => none }
def StartcodeBackWrongFalsely : Prop := startcodeBackRow.holds Tryd.pinned (OpenSpec.ofChange startcodeBackWrong)

/-- 'cutroomlaw03.StartcodeResync': WHATEVER THE INPUT: true; the input reads as it did. -/
def startcodeResyncSpec : ChangeSpec := { name := "startcodeResync", fn := fun _ => fun
  | [d1, d2] => { results := [.lit (.bool true)], args := [d1, d2] }
  | _ => none }
def startcodeResyncRow : OpenClaim := { program := "ytpkjogjdacogeaadoor", sum := "4984bb7137b94db077bd5e7f4a78fd39e75e7d0564f7299ee304bab8468db6e2", func := "cutroom/cutroomlaw03.StartcodeResync", spec := "startcodeResync", named := ["unicode/utf8.first", "unicode/utf8.acceptRanges"], apart := false, laid := [("unicode/utf8.acceptRanges", laid_unicode_utf8_acceptRanges), ("unicode/utf8.first", laid_unicode_utf8_first)] }
def StartcodeResyncSaid : Prop := startcodeResyncRow.holds Tryd.pinned (OpenSpec.ofChange startcodeResyncSpec)

/-- ITS FALSE NEIGHBOUR: 'it returns false'. Refute it at one input. -/
def startcodeResyncWrong : ChangeSpec := { name := "startcodeResync", fn := fun _ => fun
  | [d1, d2] => { results := [.lit (.bool false)], args := [d1, d2] }
  | _ => none }
def StartcodeResyncWrongFalsely : Prop := startcodeResyncRow.holds Tryd.pinned (OpenSpec.ofChange startcodeResyncWrong)

/-- 'cutroomlaw03.StartcodeDamage': WHATEVER THE INPUT: true; the input reads as it did. -/
def startcodeDamageSpec : ChangeSpec := { name := "startcodeDamage", fn := fun _ => fun
  | [d1, d2, d3, d4] => { results := [.lit (.bool true)], args := [d1, d2, d3, d4] }
  | _ => none }
def startcodeDamageRow : OpenClaim := { program := "ytpkjogjdacogeaadoor", sum := "4984bb7137b94db077bd5e7f4a78fd39e75e7d0564f7299ee304bab8468db6e2", func := "cutroom/cutroomlaw03.StartcodeDamage", spec := "startcodeDamage", named := ["unicode/utf8.first", "unicode/utf8.acceptRanges"], apart := false, laid := [("unicode/utf8.acceptRanges", laid_unicode_utf8_acceptRanges), ("unicode/utf8.first", laid_unicode_utf8_first)] }
def StartcodeDamageSaid : Prop := startcodeDamageRow.holds Tryd.pinned (OpenSpec.ofChange startcodeDamageSpec)

/-- ITS FALSE NEIGHBOUR: 'it returns false'. Refute it at one input. -/
def startcodeDamageWrong : ChangeSpec := { name := "startcodeDamage", fn := fun _ => fun
  | [d1, d2, d3, d4] => { results := [.lit (.bool false)], args := [d1, d2, d3, d4] }
  | _ => none }
def StartcodeDamageWrongFalsely : Prop := startcodeDamageRow.holds Tryd.pinned (OpenSpec.ofChange startcodeDamageWrong)

/- THE SECOND FORM. 'bulk': how many values and letters a reading holds, each counted each time it is reached (what is shared counts as often as it is met; a slice's spare places count too). A statement '..UptoSaid' is the law's where the arguments, and the package variables that the reading takes, are together of bulk at most 1048576: NARROWER than '..Said'. Prove '..Said' where nothing that the law and all that it calls make is longer than what came in: it says more and counts as full. Else prove '..UptoSaid'. A law counts once. -/
mutual
def uptoBulk {H : Type} : DataW H → Nat
  | .lit (.string bytes) => bytes.length + 1
  | .lit _ => 1
  | .nil => 1
  | .ptr d => uptoBulk d + 1
  | .slice elems spare => uptoBulkAll elems + uptoBulkAll spare + 1
  | .agg parts => uptoBulkAll parts + 1
  | .iface _ d => uptoBulk d + 1
  | .map entries => uptoBulkEntries entries + 1
  | .held _ => 1
def uptoBulkAll {H : Type} : List (DataW H) → Nat
  | [] => 0
  | d :: r => uptoBulk d + uptoBulkAll r
def uptoBulkEntries {H : Type} : List (Lit × DataW H) → Nat
  | [] => 0
  | x :: r => uptoBulkEntry x + uptoBulkEntries r
def uptoBulkEntry {H : Type} : Lit × DataW H → Nat
  | (.string bytes, d) => bytes.length + uptoBulk d + 1
  | (_, d) => uptoBulk d + 1
 end
def uptoSmall : (H : Type) → List (DataW H) → Bool := fun _ ds => decide (uptoBulkAll ds ≤ 1048576)
def OpenSpec.upto (s : _root_.Go.ChangeSpec) : _root_.Go.OpenSpec := { _root_.Go.OpenSpec.ofChange s with cond := some uptoSmall }

/-- 'cutroomlaw03.StartcodeSplit', WHERE WHAT IT READS IS OF BULK AT MOST 1048576: true; the input reads as it did. -/
def startcodeSplitUptoRow : OpenClaim := { program := "ytpkjogjdacogeaadoor", sum := "4984bb7137b94db077bd5e7f4a78fd39e75e7d0564f7299ee304bab8468db6e2", func := "cutroom/cutroomlaw03.StartcodeSplit", spec := "startcodeSplit", named := ["unicode/utf8.first", "unicode/utf8.acceptRanges"], apart := false, laid := [("unicode/utf8.acceptRanges", laid_unicode_utf8_acceptRanges), ("unicode/utf8.first", laid_unicode_utf8_first)], narrowed := true }
def StartcodeSplitUptoSaid : Prop := startcodeSplitUptoRow.holds Tryd.pinned (OpenSpec.upto startcodeSplitSpec)

/-- 'cutroomlaw03.StartcodeBack', WHERE WHAT IT READS IS OF BULK AT MOST 1048576: true; the input reads as it did. -/
def startcodeBackUptoRow : OpenClaim := { program := "ytpkjogjdacogeaadoor", sum := "4984bb7137b94db077bd5e7f4a78fd39e75e7d0564f7299ee304bab8468db6e2", func := "cutroom/cutroomlaw03.StartcodeBack", spec := "startcodeBack", named := ["unicode/utf8.first", "unicode/utf8.acceptRanges"], apart := false, laid := [("unicode/utf8.acceptRanges", laid_unicode_utf8_acceptRanges), ("unicode/utf8.first", laid_unicode_utf8_first)], narrowed := true }
def StartcodeBackUptoSaid : Prop := startcodeBackUptoRow.holds Tryd.pinned (OpenSpec.upto startcodeBackSpec)

/-- 'cutroomlaw03.StartcodeResync', WHERE WHAT IT READS IS OF BULK AT MOST 1048576: true; the input reads as it did. -/
def startcodeResyncUptoRow : OpenClaim := { program := "ytpkjogjdacogeaadoor", sum := "4984bb7137b94db077bd5e7f4a78fd39e75e7d0564f7299ee304bab8468db6e2", func := "cutroom/cutroomlaw03.StartcodeResync", spec := "startcodeResync", named := ["unicode/utf8.first", "unicode/utf8.acceptRanges"], apart := false, laid := [("unicode/utf8.acceptRanges", laid_unicode_utf8_acceptRanges), ("unicode/utf8.first", laid_unicode_utf8_first)], narrowed := true }
def StartcodeResyncUptoSaid : Prop := startcodeResyncUptoRow.holds Tryd.pinned (OpenSpec.upto startcodeResyncSpec)

/-- 'cutroomlaw03.StartcodeDamage', WHERE WHAT IT READS IS OF BULK AT MOST 1048576: true; the input reads as it did. -/
def startcodeDamageUptoRow : OpenClaim := { program := "ytpkjogjdacogeaadoor", sum := "4984bb7137b94db077bd5e7f4a78fd39e75e7d0564f7299ee304bab8468db6e2", func := "cutroom/cutroomlaw03.StartcodeDamage", spec := "startcodeDamage", named := ["unicode/utf8.first", "unicode/utf8.acceptRanges"], apart := false, laid := [("unicode/utf8.acceptRanges", laid_unicode_utf8_acceptRanges), ("unicode/utf8.first", laid_unicode_utf8_first)], narrowed := true }
def StartcodeDamageUptoSaid : Prop := startcodeDamageUptoRow.holds Tryd.pinned (OpenSpec.upto startcodeDamageSpec)

end Rows
end Go.Proofs.YtpkjogjdacogeaaDoor
