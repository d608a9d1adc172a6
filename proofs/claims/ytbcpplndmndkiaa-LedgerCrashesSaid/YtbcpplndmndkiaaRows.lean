/-
  No cell of these rows narrows 'for every input' (looked for: loops, veiled, ifaces, maps, wideKeys, modest, calm, conditions, laid).
  DERIVED. THE GIVEN ROWS OF THIS SEAT. 9 by the template 'for every input the law returns true; each argument reads behind the call as it read before'; 0 by the template 'total and deterministic' (their statements: YtbcpplndmndkiaaTotals.lean).
  GIVEN WITH THE SEED: the statements are not yours to turn. If you find one false, say at which input.
  Laid BY PROGRAM, IN A SANDBOX (cutbox-rows.mjs): the forced cells as the released guide's own fill.sh prints them over the translation 06e24fe609e04a2d… (all of the seat's roots in one cut). By AI agents, Wed Nov 11 2026. No macro, syntax, notation, axiom, sorry.
-/
import Derived.Test.YtbcpplndmndkiaaChecked
import GoSem.Claim
import GoSem.ClaimJoined
import GoSem.ClaimMapViews
import Derived.JoinedTies
import Derived.KernelRfl
namespace Go.Proofs.Ytbcpplndmndkiaa
/- THE CELL 'sum', in the pinned program and in every row, IS THE sha256 OF THE DUMP (.gsa) THAT YtbcpplndmndkiaaProg.lean LOADS. Nothing in Lean hashes anything: it is a label: what it is worth is what the hold of that sum in a sandbox is worth. -/
noncomputable def Try.pinned : Pinned := { name := "ytbcpplndmndkiaa", sum := "06e24fe609e04a2d1322560e2f5dbb8caf1a3f6c9d409100e48b262ec97c9ba0", checked := Try.checked }
namespace Rows
def none {H : Type} : Left H := { results := [], args := [] }

/-- 'columbarylaw02.LedgerSums': WHATEVER THE INPUT: true; the input reads as it did. -/
def ledgerSumsSpec : ChangeSpec := { name := "ledgerSums", fn := fun _ => fun
  | [d] => { results := [.lit (.bool true)], args := [d] }
  | _ => none }
def ledgerSumsRow : OpenClaim := { program := "ytbcpplndmndkiaa", sum := "06e24fe609e04a2d1322560e2f5dbb8caf1a3f6c9d409100e48b262ec97c9ba0", func := "columbary/columbarylaw02.LedgerSums", spec := "ledgerSums", unfollowed := true, recurses := true, apart := false }
def LedgerSumsSaid : Prop := ledgerSumsRow.holds Try.pinned (OpenSpec.ofChange ledgerSumsSpec)

/-- ITS FALSE NEIGHBOUR: 'it returns false'. Refute it at one input. -/
def ledgerSumsWrong : ChangeSpec := { name := "ledgerSums", fn := fun _ => fun
  | [d] => { results := [.lit (.bool false)], args := [d] }
  | _ => none }
def LedgerSumsWrongFalsely : Prop := ledgerSumsRow.holds Try.pinned (OpenSpec.ofChange ledgerSumsWrong)

/-- 'columbarylaw02.LedgerPlays': WHATEVER THE INPUT: true; the input reads as it did. -/
def ledgerPlaysSpec : ChangeSpec := { name := "ledgerPlays", fn := fun _ => fun
  | [d1, d2] => { results := [.lit (.bool true)], args := [d1, d2] }
  | _ => none }
def ledgerPlaysRow : OpenClaim := { program := "ytbcpplndmndkiaa", sum := "06e24fe609e04a2d1322560e2f5dbb8caf1a3f6c9d409100e48b262ec97c9ba0", func := "columbary/columbarylaw02.LedgerPlays", spec := "ledgerPlays", unfollowed := true, recurses := true, apart := false }
def LedgerPlaysSaid : Prop := ledgerPlaysRow.holds Try.pinned (OpenSpec.ofChange ledgerPlaysSpec)

/-- ITS FALSE NEIGHBOUR: 'it returns false'. Refute it at one input. -/
def ledgerPlaysWrong : ChangeSpec := { name := "ledgerPlays", fn := fun _ => fun
  | [d1, d2] => { results := [.lit (.bool false)], args := [d1, d2] }
  | _ => none }
def LedgerPlaysWrongFalsely : Prop := ledgerPlaysRow.holds Try.pinned (OpenSpec.ofChange ledgerPlaysWrong)

/-- 'columbarylaw02.LedgerCrashes': WHATEVER THE INPUT: true; the input reads as it did. -/
def ledgerCrashesSpec : ChangeSpec := { name := "ledgerCrashes", fn := fun _ => fun
  | [d1, d2] => { results := [.lit (.bool true)], args := [d1, d2] }
  | _ => none }
def ledgerCrashesRow : OpenClaim := { program := "ytbcpplndmndkiaa", sum := "06e24fe609e04a2d1322560e2f5dbb8caf1a3f6c9d409100e48b262ec97c9ba0", func := "columbary/columbarylaw02.LedgerCrashes", spec := "ledgerCrashes", unfollowed := true, recurses := true, apart := false }
def LedgerCrashesSaid : Prop := ledgerCrashesRow.holds Try.pinned (OpenSpec.ofChange ledgerCrashesSpec)

/-- ITS FALSE NEIGHBOUR: 'it returns false'. Refute it at one input. -/
def ledgerCrashesWrong : ChangeSpec := { name := "ledgerCrashes", fn := fun _ => fun
  | [d1, d2] => { results := [.lit (.bool false)], args := [d1, d2] }
  | _ => none }
def LedgerCrashesWrongFalsely : Prop := ledgerCrashesRow.holds Try.pinned (OpenSpec.ofChange ledgerCrashesWrong)

/-- 'columbarylaw02.LedgerApart': WHATEVER THE INPUT: true; the input reads as it did. -/
def ledgerApartSpec : ChangeSpec := { name := "ledgerApart", fn := fun _ => fun
  | [d1, d2] => { results := [.lit (.bool true)], args := [d1, d2] }
  | _ => none }
def ledgerApartRow : OpenClaim := { program := "ytbcpplndmndkiaa", sum := "06e24fe609e04a2d1322560e2f5dbb8caf1a3f6c9d409100e48b262ec97c9ba0", func := "columbary/columbarylaw02.LedgerApart", spec := "ledgerApart", unfollowed := true, recurses := true, apart := false }
def LedgerApartSaid : Prop := ledgerApartRow.holds Try.pinned (OpenSpec.ofChange ledgerApartSpec)

/-- ITS FALSE NEIGHBOUR: 'it returns false'. Refute it at one input. -/
def ledgerApartWrong : ChangeSpec := { name := "ledgerApart", fn := fun _ => fun
  | [d1, d2] => { results := [.lit (.bool false)], args := [d1, d2] }
  | _ => none }
def LedgerApartWrongFalsely : Prop := ledgerApartRow.holds Try.pinned (OpenSpec.ofChange ledgerApartWrong)

/-- 'columbarylaw02.LedgerRecords': WHATEVER THE INPUT: true; the input reads as it did. -/
def ledgerRecordsSpec : ChangeSpec := { name := "ledgerRecords", fn := fun _ => fun
  | [d1, d2] => { results := [.lit (.bool true)], args := [d1, d2] }
  | _ => none }
def ledgerRecordsRow : OpenClaim := { program := "ytbcpplndmndkiaa", sum := "06e24fe609e04a2d1322560e2f5dbb8caf1a3f6c9d409100e48b262ec97c9ba0", func := "columbary/columbarylaw02.LedgerRecords", spec := "ledgerRecords", unfollowed := true, recurses := true, apart := false }
def LedgerRecordsSaid : Prop := ledgerRecordsRow.holds Try.pinned (OpenSpec.ofChange ledgerRecordsSpec)

/-- ITS FALSE NEIGHBOUR: 'it returns false'. Refute it at one input. -/
def ledgerRecordsWrong : ChangeSpec := { name := "ledgerRecords", fn := fun _ => fun
  | [d1, d2] => { results := [.lit (.bool false)], args := [d1, d2] }
  | _ => none }
def LedgerRecordsWrongFalsely : Prop := ledgerRecordsRow.holds Try.pinned (OpenSpec.ofChange ledgerRecordsWrong)

/-- 'columbarylaw02.LedgerErrs': WHATEVER THE INPUT: true; the input reads as it did. -/
def ledgerErrsSpec : ChangeSpec := { name := "ledgerErrs", fn := fun _ => fun
  | [d1, d2, d3] => { results := [.lit (.bool true)], args := [d1, d2, d3] }
  | _ => none }
def ledgerErrsRow : OpenClaim := { program := "ytbcpplndmndkiaa", sum := "06e24fe609e04a2d1322560e2f5dbb8caf1a3f6c9d409100e48b262ec97c9ba0", func := "columbary/columbarylaw02.LedgerErrs", spec := "ledgerErrs", unfollowed := true, recurses := true, apart := false }
def LedgerErrsSaid : Prop := ledgerErrsRow.holds Try.pinned (OpenSpec.ofChange ledgerErrsSpec)

/-- ITS FALSE NEIGHBOUR: 'it returns false'. Refute it at one input. -/
def ledgerErrsWrong : ChangeSpec := { name := "ledgerErrs", fn := fun _ => fun
  | [d1, d2, d3] => { results := [.lit (.bool false)], args := [d1, d2, d3] }
  | _ => none }
def LedgerErrsWrongFalsely : Prop := ledgerErrsRow.holds Try.pinned (OpenSpec.ofChange ledgerErrsWrong)

/-- 'columbarylaw02.LedgerRoom': WHATEVER THE INPUT: true; the input reads as it did. -/
def ledgerRoomSpec : ChangeSpec := { name := "ledgerRoom", fn := fun _ => fun
  | [d1, d2] => { results := [.lit (.bool true)], args := [d1, d2] }
  | _ => none }
def ledgerRoomRow : OpenClaim := { program := "ytbcpplndmndkiaa", sum := "06e24fe609e04a2d1322560e2f5dbb8caf1a3f6c9d409100e48b262ec97c9ba0", func := "columbary/columbarylaw02.LedgerRoom", spec := "ledgerRoom", unfollowed := true, recurses := true, apart := false }
def LedgerRoomSaid : Prop := ledgerRoomRow.holds Try.pinned (OpenSpec.ofChange ledgerRoomSpec)

/-- ITS FALSE NEIGHBOUR: 'it returns false'. Refute it at one input. -/
def ledgerRoomWrong : ChangeSpec := { name := "ledgerRoom", fn := fun _ => fun
  | [d1, d2] => { results := [.lit (.bool false)], args := [d1, d2] }
  | _ => none }
def LedgerRoomWrongFalsely : Prop := ledgerRoomRow.holds Try.pinned (OpenSpec.ofChange ledgerRoomWrong)

/-- 'columbarylaw02.LedgerKeeps': WHATEVER THE INPUT: true; the input reads as it did. -/
def ledgerKeepsSpec : ChangeSpec := { name := "ledgerKeeps", fn := fun _ => fun
  | [d] => { results := [.lit (.bool true)], args := [d] }
  | _ => none }
def ledgerKeepsRow : OpenClaim := { program := "ytbcpplndmndkiaa", sum := "06e24fe609e04a2d1322560e2f5dbb8caf1a3f6c9d409100e48b262ec97c9ba0", func := "columbary/columbarylaw02.LedgerKeeps", spec := "ledgerKeeps", unfollowed := true, recurses := true, apart := false }
def LedgerKeepsSaid : Prop := ledgerKeepsRow.holds Try.pinned (OpenSpec.ofChange ledgerKeepsSpec)

/-- ITS FALSE NEIGHBOUR: 'it returns false'. Refute it at one input. -/
def ledgerKeepsWrong : ChangeSpec := { name := "ledgerKeeps", fn := fun _ => fun
  | [d] => { results := [.lit (.bool false)], args := [d] }
  | _ => none }
def LedgerKeepsWrongFalsely : Prop := ledgerKeepsRow.holds Try.pinned (OpenSpec.ofChange ledgerKeepsWrong)

/-- 'columbarylaw02.LedgerTorn': WHATEVER THE INPUT: true; the input reads as it did. -/
def ledgerTornSpec : ChangeSpec := { name := "ledgerTorn", fn := fun _ => fun
  | [d1, d2, d3, d4] => { results := [.lit (.bool true)], args := [d1, d2, d3, d4] }
  | _ => none }
def ledgerTornRow : OpenClaim := { program := "ytbcpplndmndkiaa", sum := "06e24fe609e04a2d1322560e2f5dbb8caf1a3f6c9d409100e48b262ec97c9ba0", func := "columbary/columbarylaw02.LedgerTorn", spec := "ledgerTorn", unfollowed := true, recurses := true, apart := false }
def LedgerTornSaid : Prop := ledgerTornRow.holds Try.pinned (OpenSpec.ofChange ledgerTornSpec)

/-- ITS FALSE NEIGHBOUR: 'it returns false'. Refute it at one input. -/
def ledgerTornWrong : ChangeSpec := { name := "ledgerTorn", fn := fun _ => fun
  | [d1, d2, d3, d4] => { results := [.lit (.bool false)], args := [d1, d2, d3, d4] }
  | _ => none }
def LedgerTornWrongFalsely : Prop := ledgerTornRow.holds Try.pinned (OpenSpec.ofChange ledgerTornWrong)

/- THE SECOND FORM. 'bulk': how many values and letters a reading holds, each counted each time it is reached (what is shared counts as often as it is met; a slice's spare places count too). A statement '..UptoSaid' is the law's where the arguments, and the package variables that the reading takes, are together of bulk at most 1048576: NARROWER than '..Said'. Prove '..Said' where nothing that the law and all that it calls make is longer than what came in: it says more and counts as full. Else prove '..UptoSaid'. A law counts once. -/
mutual
def uptoBulk {H : Type} : DataW H → Nat
  | .lit (.string bytes) => bytes.length + 1
  | .lit _ => 1
  | .nil => 1
  | .ptr d => uptoBulk d + 1
  | .slice elems spare => uptoBulkAll elems + uptoBulkAll spare + 1
  | .agg parts => uptoBulkAll parts + 1
  | .iface _ d => uptoBulk d + 1
  | .map entries => uptoBulkEntries entries + 1
  | .held _ => 1
def uptoBulkAll {H : Type} : List (DataW H) → Nat
  | [] => 0
  | d :: r => uptoBulk d + uptoBulkAll r
def uptoBulkEntries {H : Type} : List (Lit × DataW H) → Nat
  | [] => 0
  | x :: r => uptoBulkEntry x + uptoBulkEntries r
def uptoBulkEntry {H : Type} : Lit × DataW H → Nat
  | (.string bytes, d) => bytes.length + uptoBulk d + 1
  | (_, d) => uptoBulk d + 1
 end
def uptoSmall : (H : Type) → List (DataW H) → Bool := fun _ ds => decide (uptoBulkAll ds ≤ 1048576)
def OpenSpec.upto (s : _root_.Go.ChangeSpec) : _root_.Go.OpenSpec := { _root_.Go.OpenSpec.ofChange s with cond := some uptoSmall }

/-- 'columbarylaw02.LedgerSums', WHERE WHAT IT READS IS OF BULK AT MOST 1048576: true; the input reads as it did. -/
def ledgerSumsUptoRow : OpenClaim := { program := "ytbcpplndmndkiaa", sum := "06e24fe609e04a2d1322560e2f5dbb8caf1a3f6c9d409100e48b262ec97c9ba0", func := "columbary/columbarylaw02.LedgerSums", spec := "ledgerSums", unfollowed := true, recurses := true, apart := false, narrowed := true }
def LedgerSumsUptoSaid : Prop := ledgerSumsUptoRow.holds Try.pinned (OpenSpec.upto ledgerSumsSpec)

/-- 'columbarylaw02.LedgerPlays', WHERE WHAT IT READS IS OF BULK AT MOST 1048576: true; the input reads as it did. -/
def ledgerPlaysUptoRow : OpenClaim := { program := "ytbcpplndmndkiaa", sum := "06e24fe609e04a2d1322560e2f5dbb8caf1a3f6c9d409100e48b262ec97c9ba0", func := "columbary/columbarylaw02.LedgerPlays", spec := "ledgerPlays", unfollowed := true, recurses := true, apart := false, narrowed := true }
def LedgerPlaysUptoSaid : Prop := ledgerPlaysUptoRow.holds Try.pinned (OpenSpec.upto ledgerPlaysSpec)

/-- 'columbarylaw02.LedgerCrashes', WHERE WHAT IT READS IS OF BULK AT MOST 1048576: true; the input reads as it did. -/
def ledgerCrashesUptoRow : OpenClaim := { program := "ytbcpplndmndkiaa", sum := "06e24fe609e04a2d1322560e2f5dbb8caf1a3f6c9d409100e48b262ec97c9ba0", func := "columbary/columbarylaw02.LedgerCrashes", spec := "ledgerCrashes", unfollowed := true, recurses := true, apart := false, narrowed := true }
def LedgerCrashesUptoSaid : Prop := ledgerCrashesUptoRow.holds Try.pinned (OpenSpec.upto ledgerCrashesSpec)

/-- 'columbarylaw02.LedgerApart', WHERE WHAT IT READS IS OF BULK AT MOST 1048576: true; the input reads as it did. -/
def ledgerApartUptoRow : OpenClaim := { program := "ytbcpplndmndkiaa", sum := "06e24fe609e04a2d1322560e2f5dbb8caf1a3f6c9d409100e48b262ec97c9ba0", func := "columbary/columbarylaw02.LedgerApart", spec := "ledgerApart", unfollowed := true, recurses := true, apart := false, narrowed := true }
def LedgerApartUptoSaid : Prop := ledgerApartUptoRow.holds Try.pinned (OpenSpec.upto ledgerApartSpec)

/-- 'columbarylaw02.LedgerRecords', WHERE WHAT IT READS IS OF BULK AT MOST 1048576: true; the input reads as it did. -/
def ledgerRecordsUptoRow : OpenClaim := { program := "ytbcpplndmndkiaa", sum := "06e24fe609e04a2d1322560e2f5dbb8caf1a3f6c9d409100e48b262ec97c9ba0", func := "columbary/columbarylaw02.LedgerRecords", spec := "ledgerRecords", unfollowed := true, recurses := true, apart := false, narrowed := true }
def LedgerRecordsUptoSaid : Prop := ledgerRecordsUptoRow.holds Try.pinned (OpenSpec.upto ledgerRecordsSpec)

/-- 'columbarylaw02.LedgerErrs', WHERE WHAT IT READS IS OF BULK AT MOST 1048576: true; the input reads as it did. -/
def ledgerErrsUptoRow : OpenClaim := { program := "ytbcpplndmndkiaa", sum := "06e24fe609e04a2d1322560e2f5dbb8caf1a3f6c9d409100e48b262ec97c9ba0", func := "columbary/columbarylaw02.LedgerErrs", spec := "ledgerErrs", unfollowed := true, recurses := true, apart := false, narrowed := true }
def LedgerErrsUptoSaid : Prop := ledgerErrsUptoRow.holds Try.pinned (OpenSpec.upto ledgerErrsSpec)

/-- 'columbarylaw02.LedgerRoom', WHERE WHAT IT READS IS OF BULK AT MOST 1048576: true; the input reads as it did. -/
def ledgerRoomUptoRow : OpenClaim := { program := "ytbcpplndmndkiaa", sum := "06e24fe609e04a2d1322560e2f5dbb8caf1a3f6c9d409100e48b262ec97c9ba0", func := "columbary/columbarylaw02.LedgerRoom", spec := "ledgerRoom", unfollowed := true, recurses := true, apart := false, narrowed := true }
def LedgerRoomUptoSaid : Prop := ledgerRoomUptoRow.holds Try.pinned (OpenSpec.upto ledgerRoomSpec)

/-- 'columbarylaw02.LedgerKeeps', WHERE WHAT IT READS IS OF BULK AT MOST 1048576: true; the input reads as it did. -/
def ledgerKeepsUptoRow : OpenClaim := { program := "ytbcpplndmndkiaa", sum := "06e24fe609e04a2d1322560e2f5dbb8caf1a3f6c9d409100e48b262ec97c9ba0", func := "columbary/columbarylaw02.LedgerKeeps", spec := "ledgerKeeps", unfollowed := true, recurses := true, apart := false, narrowed := true }
def LedgerKeepsUptoSaid : Prop := ledgerKeepsUptoRow.holds Try.pinned (OpenSpec.upto ledgerKeepsSpec)

/-- 'columbarylaw02.LedgerTorn', WHERE WHAT IT READS IS OF BULK AT MOST 1048576: true; the input reads as it did. -/
def ledgerTornUptoRow : OpenClaim := { program := "ytbcpplndmndkiaa", sum := "06e24fe609e04a2d1322560e2f5dbb8caf1a3f6c9d409100e48b262ec97c9ba0", func := "columbary/columbarylaw02.LedgerTorn", spec := "ledgerTorn", unfollowed := true, recurses := true, apart := false, narrowed := true }
def LedgerTornUptoSaid : Prop := ledgerTornUptoRow.holds Try.pinned (OpenSpec.upto ledgerTornSpec)

end Rows
end Go.Proofs.Ytbcpplndmndkiaa
