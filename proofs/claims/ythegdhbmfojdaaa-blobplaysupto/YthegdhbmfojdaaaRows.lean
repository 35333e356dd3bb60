/-
  No cell of these rows narrows 'for every input' (looked for: loops, veiled, ifaces, maps, wideKeys, modest, calm, conditions, laid).
  DERIVED. THE GIVEN ROWS OF THIS SEAT. 6 by the template 'for every input the law returns true; each argument reads behind the call as it read before'; 0 by the template 'total and deterministic' (their statements: YthegdhbmfojdaaaTotals.lean).
  GIVEN WITH THE SEED: the statements are not yours to turn. If you find one false, say at which input.
  Laid BY PROGRAM, IN A SANDBOX (cutbox-rows.mjs): the forced cells as the released guide's own fill.sh prints them over the translation 079847586816b2e2… (all of the seat's roots in one cut). By AI agents, Wed Nov 11 2026. No macro, syntax, notation, axiom, sorry.
-/
import Derived.Test.YthegdhbmfojdaaaChecked
import GoSem.Claim
import GoSem.ClaimJoined
import GoSem.ClaimMapViews
import Derived.JoinedTies
import Derived.KernelRfl
namespace Go.Proofs.Ythegdhbmfojdaaa
/- THE CELL 'sum', in the pinned program and in every row, IS THE sha256 OF THE DUMP (.gsa) THAT YthegdhbmfojdaaaProg.lean LOADS. Nothing in Lean hashes anything: it is a label: what it is worth is what the hold of that sum in a sandbox is worth. -/
noncomputable def Try.pinned : Pinned := { name := "ythegdhbmfojdaaa", sum := "079847586816b2e202eb859a11f71b53b7b6ddcad5c0228bdf71e606ed56a3ed", checked := Try.checked }
namespace Rows
def none {H : Type} : Left H := { results := [], args := [] }

/-- 'gristmilllaw13.BlobPlays': WHATEVER THE INPUT: true; the input reads as it did. -/
def blobPlaysSpec : ChangeSpec := { name := "blobPlays", fn := fun _ => fun
  | [d] => { results := [.lit (.bool true)], args := [d] }
  | _ => none }
def blobPlaysRow : OpenClaim := { program := "ythegdhbmfojdaaa", sum := "079847586816b2e202eb859a11f71b53b7b6ddcad5c0228bdf71e606ed56a3ed", func := "gristmill/gristmilllaw13.BlobPlays", spec := "blobPlays", unfollowed := true, recurses := true, apart := false }
def BlobPlaysSaid : Prop := blobPlaysRow.holds Try.pinned (OpenSpec.ofChange blobPlaysSpec)

/-- ITS FALSE NEIGHBOUR: 'it returns false'. Refute it at one input. -/
def blobPlaysWrong : ChangeSpec := { name := "blobPlays", fn := fun _ => fun
  | [d] => { results := [.lit (.bool false)], args := [d] }
  | _ => none }
def BlobPlaysWrongFalsely : Prop := blobPlaysRow.holds Try.pinned (OpenSpec.ofChange blobPlaysWrong)

/-- 'gristmilllaw13.BlobKeeps': WHATEVER THE INPUT: true; the input reads as it did. -/
def blobKeepsSpec : ChangeSpec := { name := "blobKeeps", fn := fun _ => fun
  | [d1, d2] => { results := [.lit (.bool true)], args := [d1, d2] }
  | _ => none }
def blobKeepsRow : OpenClaim := { program := "ythegdhbmfojdaaa", sum := "079847586816b2e202eb859a11f71b53b7b6ddcad5c0228bdf71e606ed56a3ed", func := "gristmill/gristmilllaw13.BlobKeeps", spec := "blobKeeps", unfollowed := true, recurses := true, apart := false }
def BlobKeepsSaid : Prop := blobKeepsRow.holds Try.pinned (OpenSpec.ofChange blobKeepsSpec)

/-- ITS FALSE NEIGHBOUR: 'it returns false'. Refute it at one input. -/
def blobKeepsWrong : ChangeSpec := { name := "blobKeeps", fn := fun _ => fun
  | [d1, d2] => { results := [.lit (.bool false)], args := [d1, d2] }
  | _ => none }
def BlobKeepsWrongFalsely : Prop := blobKeepsRow.holds Try.pinned (OpenSpec.ofChange blobKeepsWrong)

/-- 'gristmilllaw13.BlobOnce': WHATEVER THE INPUT: true; the input reads as it did. -/
def blobOnceSpec : ChangeSpec := { name := "blobOnce", fn := fun _ => fun
  | [d1, d2] => { results := [.lit (.bool true)], args := [d1, d2] }
  | _ => none }
def blobOnceRow : OpenClaim := { program := "ythegdhbmfojdaaa", sum := "079847586816b2e202eb859a11f71b53b7b6ddcad5c0228bdf71e606ed56a3ed", func := "gristmill/gristmilllaw13.BlobOnce", spec := "blobOnce", unfollowed := true, recurses := true, apart := false }
def BlobOnceSaid : Prop := blobOnceRow.holds Try.pinned (OpenSpec.ofChange blobOnceSpec)

/-- ITS FALSE NEIGHBOUR: 'it returns false'. Refute it at one input. -/
def blobOnceWrong : ChangeSpec := { name := "blobOnce", fn := fun _ => fun
  | [d1, d2] => { results := [.lit (.bool false)], args := [d1, d2] }
  | _ => none }
def BlobOnceWrongFalsely : Prop := blobOnceRow.holds Try.pinned (OpenSpec.ofChange blobOnceWrong)

/-- 'gristmilllaw13.BlobSpoilt': WHATEVER THE INPUT: true; the input reads as it did. -/
def blobSpoiltSpec : ChangeSpec := { name := "blobSpoilt", fn := fun _ => fun
  | [d1, d2, d3, d4, d5] => { results := [.lit (.bool true)], args := [d1, d2, d3, d4, d5] }
  | _ => none }
def blobSpoiltRow : OpenClaim := { program := "ythegdhbmfojdaaa", sum := "079847586816b2e202eb859a11f71b53b7b6ddcad5c0228bdf71e606ed56a3ed", func := "gristmill/gristmilllaw13.BlobSpoilt", spec := "blobSpoilt", unfollowed := true, recurses := true, apart := false }
def BlobSpoiltSaid : Prop := blobSpoiltRow.holds Try.pinned (OpenSpec.ofChange blobSpoiltSpec)

/-- ITS FALSE NEIGHBOUR: 'it returns false'. Refute it at one input. -/
def blobSpoiltWrong : ChangeSpec := { name := "blobSpoilt", fn := fun _ => fun
  | [d1, d2, d3, d4, d5] => { results := [.lit (.bool false)], args := [d1, d2, d3, d4, d5] }
  | _ => none }
def BlobSpoiltWrongFalsely : Prop := blobSpoiltRow.holds Try.pinned (OpenSpec.ofChange blobSpoiltWrong)

/-- 'gristmilllaw13.BlobClean': WHATEVER THE INPUT: true; the input reads as it did. -/
def blobCleanSpec : ChangeSpec := { name := "blobClean", fn := fun _ => fun
  | [d1, d2] => { results := [.lit (.bool true)], args := [d1, d2] }
  | _ => none }
def blobCleanRow : OpenClaim := { program := "ythegdhbmfojdaaa", sum := "079847586816b2e202eb859a11f71b53b7b6ddcad5c0228bdf71e606ed56a3ed", func := "gristmill/gristmilllaw13.BlobClean", spec := "blobClean", unfollowed := true, recurses := true, apart := false }
def BlobCleanSaid : Prop := blobCleanRow.holds Try.pinned (OpenSpec.ofChange blobCleanSpec)

/-- ITS FALSE NEIGHBOUR: 'it returns false'. Refute it at one input. -/
def blobCleanWrong : ChangeSpec := { name := "blobClean", fn := fun _ => fun
  | [d1, d2] => { results := [.lit (.bool false)], args := [d1, d2] }
  | _ => none }
def BlobCleanWrongFalsely : Prop := blobCleanRow.holds Try.pinned (OpenSpec.ofChange blobCleanWrong)

/-- 'gristmilllaw13.BlobApart': WHATEVER THE INPUT: true; the input reads as it did. -/
def blobApartSpec : ChangeSpec := { name := "blobApart", fn := fun _ => fun
  | [d1, d2, d3] => { results := [.lit (.bool true)], args := [d1, d2, d3] }
  | _ => none }
def blobApartRow : OpenClaim := { program := "ythegdhbmfojdaaa", sum := "079847586816b2e202eb859a11f71b53b7b6ddcad5c0228bdf71e606ed56a3ed", func := "gristmill/gristmilllaw13.BlobApart", spec := "blobApart", unfollowed := true, recurses := true, apart := false }
def BlobApartSaid : Prop := blobApartRow.holds Try.pinned (OpenSpec.ofChange blobApartSpec)

/-- ITS FALSE NEIGHBOUR: 'it returns false'. Refute it at one input. -/
def blobApartWrong : ChangeSpec := { name := "blobApart", fn := fun _ => fun
  | [d1, d2, d3] => { results := [.lit (.bool false)], args := [d1, d2, d3] }
  | _ => none }
def BlobApartWrongFalsely : Prop := blobApartRow.holds Try.pinned (OpenSpec.ofChange blobApartWrong)

/- THE SECOND FORM. 'bulk': how many values and letters a reading holds, each counted each time it is reached (what is shared counts as often as it is met; a slice's spare places count too). A statement '..UptoSaid' is the law's where the arguments, and the package variables that the reading takes, are together of bulk at most 1048576: NARROWER than '..Said'. Prove '..Said' where nothing that the law and all that it calls make is longer than what came in: it says more and counts as full. Else prove '..UptoSaid'. A law counts once. -/
mutual
def uptoBulk {H : Type} : DataW H → Nat
  | .lit (.string bytes) => bytes.length + 1
  | .lit _ => 1
  | .nil => 1
  | .ptr d => uptoBulk d + 1
  | .slice elems spare => uptoBulkAll elems + uptoBulkAll spare + 1
  | .agg parts => uptoBulkAll parts + 1
  | .iface _ d => uptoBulk d + 1
  | .map entries => uptoBulkEntries entries + 1
  | .held _ => 1
def uptoBulkAll {H : Type} : List (DataW H) → Nat
  | [] => 0
  | d :: r => uptoBulk d + uptoBulkAll r
def uptoBulkEntries {H : Type} : List (Lit × DataW H) → Nat
  | [] => 0
  | x :: r => uptoBulkEntry x + uptoBulkEntries r
def uptoBulkEntry {H : Type} : Lit × DataW H → Nat
  | (.string bytes, d) => bytes.length + uptoBulk d + 1
  | (_, d) => uptoBulk d + 1
 end
def uptoSmall : (H : Type) → List (DataW H) → Bool := fun _ ds => decide (uptoBulkAll ds ≤ 1048576)
def OpenSpec.upto (s : _root_.Go.ChangeSpec) : _root_.Go.OpenSpec := { _root_.Go.OpenSpec.ofChange s with cond := some uptoSmall }

/-- 'gristmilllaw13.BlobPlays', WHERE WHAT IT READS IS OF BULK AT MOST 1048576: true; the input reads as it did. -/
def blobPlaysUptoRow : OpenClaim := { program := "ythegdhbmfojdaaa", sum := "079847586816b2e202eb859a11f71b53b7b6ddcad5c0228bdf71e606ed56a3ed", func := "gristmill/gristmilllaw13.BlobPlays", spec := "blobPlays", unfollowed := true, recurses := true, apart := false, narrowed := true }
def BlobPlaysUptoSaid : Prop := blobPlaysUptoRow.holds Try.pinned (OpenSpec.upto blobPlaysSpec)

/-- 'gristmilllaw13.BlobKeeps', WHERE WHAT IT READS IS OF BULK AT MOST 1048576: true; the input reads as it did. -/
def blobKeepsUptoRow : OpenClaim := { program := "ythegdhbmfojdaaa", sum := "079847586816b2e202eb859a11f71b53b7b6ddcad5c0228bdf71e606ed56a3ed", func := "gristmill/gristmilllaw13.BlobKeeps", spec := "blobKeeps", unfollowed := true, recurses := true, apart := false, narrowed := true }
def BlobKeepsUptoSaid : Prop := blobKeepsUptoRow.holds Try.pinned (OpenSpec.upto blobKeepsSpec)

/-- 'gristmilllaw13.BlobOnce', WHERE WHAT IT READS IS OF BULK AT MOST 1048576: true; the input reads as it did. -/
def blobOnceUptoRow : OpenClaim := { program := "ythegdhbmfojdaaa", sum := "079847586816b2e202eb859a11f71b53b7b6ddcad5c0228bdf71e606ed56a3ed", func := "gristmill/gristmilllaw13.BlobOnce", spec := "blobOnce", unfollowed := true, recurses := true, apart := false, narrowed := true }
def BlobOnceUptoSaid : Prop := blobOnceUptoRow.holds Try.pinned (OpenSpec.upto blobOnceSpec)

/-- 'gristmilllaw13.BlobSpoilt', WHERE WHAT IT READS IS OF BULK AT MOST 1048576: true; the input reads as it did. -/
def blobSpoiltUptoRow : OpenClaim := { program := "ythegdhbmfojdaaa", sum := "079847586816b2e202eb859a11f71b53b7b6ddcad5c0228bdf71e606ed56a3ed", func := "gristmill/gristmilllaw13.BlobSpoilt", spec := "blobSpoilt", unfollowed := true, recurses := true, apart := false, narrowed := true }
def BlobSpoiltUptoSaid : Prop := blobSpoiltUptoRow.holds Try.pinned (OpenSpec.upto blobSpoiltSpec)

/-- 'gristmilllaw13.BlobClean', WHERE WHAT IT READS IS OF BULK AT MOST 1048576: true; the input reads as it did. -/
def blobCleanUptoRow : OpenClaim := { program := "ythegdhbmfojdaaa", sum := "079847586816b2e202eb859a11f71b53b7b6ddcad5c0228bdf71e606ed56a3ed", func := "gristmill/gristmilllaw13.BlobClean", spec := "blobClean", unfollowed := true, recurses := true, apart := false, narrowed := true }
def BlobCleanUptoSaid : Prop := blobCleanUptoRow.holds Try.pinned (OpenSpec.upto blobCleanSpec)

/-- 'gristmilllaw13.BlobApart', WHERE WHAT IT READS IS OF BULK AT MOST 1048576: true; the input reads as it did. -/
def blobApartUptoRow : OpenClaim := { program := "ythegdhbmfojdaaa", sum := "079847586816b2e202eb859a11f71b53b7b6ddcad5c0228bdf71e606ed56a3ed", func := "gristmill/gristmilllaw13.BlobApart", spec := "blobApart", unfollowed := true, recurses := true, apart := false, narrowed := true }
def BlobApartUptoSaid : Prop := blobApartUptoRow.holds Try.pinned (OpenSpec.upto blobApartSpec)

end Rows
end Go.Proofs.Ythegdhbmfojdaaa
