/-
  No cell of these rows narrows 'for every input' (looked for: loops, veiled, ifaces, maps, wideKeys, modest, calm, conditions, laid).
  DERIVED. THE GIVEN ROWS OF THIS SEAT. 6 by the template 'for every input the law returns true; each argument reads behind the call as it read before'; 0 by the template 'total and deterministic' (their statements: YteellffkjjllgaaTotals.lean).
  GIVEN WITH THE SEED: the statements are not yours to turn. If you find one false, say at which input.
  Laid BY PROGRAM, IN A SANDBOX (cutbox-rows.mjs): the forced cells as the released guide's own fill.sh prints them over the translation de45ef3edcda0bb8… (all of the seat's roots in one cut). By AI agents, Wed Nov 11 2026. No macro, syntax, notation, axiom, sorry.
-/
import Derived.Test.YteellffkjjllgaaChecked
import GoSem.Claim
import GoSem.ClaimJoined
import GoSem.ClaimMapViews
import Derived.JoinedTies
import Derived.KernelRfl
namespace Go.Proofs.Yteellffkjjllgaa
/- THE CELL 'sum', in the pinned program and in every row, IS THE sha256 OF THE DUMP (.gsa) THAT YteellffkjjllgaaProg.lean LOADS. Nothing in Lean hashes anything: it is a label: what it is worth is what the hold of that sum in a sandbox is worth. -/
noncomputable def Try.pinned : Pinned := { name := "yteellffkjjllgaa", sum := "de45ef3edcda0bb860eb0f87acfbd39858b8565b106dae8179160745f5e65dd1", checked := Try.checked }
namespace Rows
def none {H : Type} : Left H := { results := [], args := [] }

/-- 'rootcellarlaw7.DirTakes': WHATEVER THE INPUT: true; the input reads as it did. -/
def dirTakesSpec : ChangeSpec := { name := "dirTakes", fn := fun _ => fun
  | [d1, d2] => { results := [.lit (.bool true)], args := [d1, d2] }
  | _ => none }
def dirTakesRow : OpenClaim := { program := "yteellffkjjllgaa", sum := "de45ef3edcda0bb860eb0f87acfbd39858b8565b106dae8179160745f5e65dd1", func := "rootcellar/rootcellarlaw7.DirTakes", spec := "dirTakes", inPlace := ["internal/abi.NoEscape", "internal/bytealg.MakeNoZero"], unfollowed := true, recurses := true, apart := false }
def DirTakesSaid : Prop := dirTakesRow.holds Try.pinned (OpenSpec.ofChange dirTakesSpec)

/-- ITS FALSE NEIGHBOUR: 'it returns false'. Refute it at one input. -/
def dirTakesWrong : ChangeSpec := { name := "dirTakes", fn := fun _ => fun
  | [d1, d2] => { results := [.lit (.bool false)], args := [d1, d2] }
  | _ => none }
def DirTakesWrongFalsely : Prop := dirTakesRow.holds Try.pinned (OpenSpec.ofChange dirTakesWrong)

/-- 'rootcellarlaw7.DirFiles': WHATEVER THE INPUT: true; the input reads as it did. -/
def dirFilesSpec : ChangeSpec := { name := "dirFiles", fn := fun _ => fun
  | [d1, d2, d3] => { results := [.lit (.bool true)], args := [d1, d2, d3] }
  | _ => none }
def dirFilesRow : OpenClaim := { program := "yteellffkjjllgaa", sum := "de45ef3edcda0bb860eb0f87acfbd39858b8565b106dae8179160745f5e65dd1", func := "rootcellar/rootcellarlaw7.DirFiles", spec := "dirFiles", inPlace := ["internal/abi.NoEscape", "internal/bytealg.MakeNoZero"], unfollowed := true, recurses := true, apart := false }
def DirFilesSaid : Prop := dirFilesRow.holds Try.pinned (OpenSpec.ofChange dirFilesSpec)

/-- ITS FALSE NEIGHBOUR: 'it returns false'. Refute it at one input. -/
def dirFilesWrong : ChangeSpec := { name := "dirFiles", fn := fun _ => fun
  | [d1, d2, d3] => { results := [.lit (.bool false)], args := [d1, d2, d3] }
  | _ => none }
def DirFilesWrongFalsely : Prop := dirFilesRow.holds Try.pinned (OpenSpec.ofChange dirFilesWrong)

/-- 'rootcellarlaw7.DirBack': WHATEVER THE INPUT: true; the input reads as it did. -/
def dirBackSpec : ChangeSpec := { name := "dirBack", fn := fun _ => fun
  | [d1, d2] => { results := [.lit (.bool true)], args := [d1, d2] }
  | _ => none }
def dirBackRow : OpenClaim := { program := "yteellffkjjllgaa", sum := "de45ef3edcda0bb860eb0f87acfbd39858b8565b106dae8179160745f5e65dd1", func := "rootcellar/rootcellarlaw7.DirBack", spec := "dirBack", inPlace := ["internal/abi.NoEscape", "internal/bytealg.MakeNoZero"], unfollowed := true, recurses := true, apart := false }
def DirBackSaid : Prop := dirBackRow.holds Try.pinned (OpenSpec.ofChange dirBackSpec)

/-- ITS FALSE NEIGHBOUR: 'it returns false'. Refute it at one input. -/
def dirBackWrong : ChangeSpec := { name := "dirBack", fn := fun _ => fun
  | [d1, d2] => { results := [.lit (.bool false)], args := [d1, d2] }
  | _ => none }
def DirBackWrongFalsely : Prop := dirBackRow.holds Try.pinned (OpenSpec.ofChange dirBackWrong)

/-- 'rootcellarlaw7.DirKeeps': WHATEVER THE INPUT: true; the input reads as it did. -/
def dirKeepsSpec : ChangeSpec := { name := "dirKeeps", fn := fun _ => fun
  | [d1, d2] => { results := [.lit (.bool true)], args := [d1, d2] }
  | _ => none }
def dirKeepsRow : OpenClaim := { program := "yteellffkjjllgaa", sum := "de45ef3edcda0bb860eb0f87acfbd39858b8565b106dae8179160745f5e65dd1", func := "rootcellar/rootcellarlaw7.DirKeeps", spec := "dirKeeps", inPlace := ["internal/abi.NoEscape", "internal/bytealg.MakeNoZero"], unfollowed := true, recurses := true, apart := false }
def DirKeepsSaid : Prop := dirKeepsRow.holds Try.pinned (OpenSpec.ofChange dirKeepsSpec)

/-- ITS FALSE NEIGHBOUR: 'it returns false'. Refute it at one input. -/
def dirKeepsWrong : ChangeSpec := { name := "dirKeeps", fn := fun _ => fun
  | [d1, d2] => { results := [.lit (.bool false)], args := [d1, d2] }
  | _ => none }
def DirKeepsWrongFalsely : Prop := dirKeepsRow.holds Try.pinned (OpenSpec.ofChange dirKeepsWrong)

/-- 'rootcellarlaw7.DirTurned': WHATEVER THE INPUT: true; the input reads as it did. -/
def dirTurnedSpec : ChangeSpec := { name := "dirTurned", fn := fun _ => fun
  | [d1, d2, d3, d4] => { results := [.lit (.bool true)], args := [d1, d2, d3, d4] }
  | _ => none }
def dirTurnedRow : OpenClaim := { program := "yteellffkjjllgaa", sum := "de45ef3edcda0bb860eb0f87acfbd39858b8565b106dae8179160745f5e65dd1", func := "rootcellar/rootcellarlaw7.DirTurned", spec := "dirTurned", inPlace := ["internal/abi.NoEscape", "internal/bytealg.MakeNoZero"], unfollowed := true, recurses := true, apart := false }
def DirTurnedSaid : Prop := dirTurnedRow.holds Try.pinned (OpenSpec.ofChange dirTurnedSpec)

/-- ITS FALSE NEIGHBOUR: 'it returns false'. Refute it at one input. -/
def dirTurnedWrong : ChangeSpec := { name := "dirTurned", fn := fun _ => fun
  | [d1, d2, d3, d4] => { results := [.lit (.bool false)], args := [d1, d2, d3, d4] }
  | _ => none }
def DirTurnedWrongFalsely : Prop := dirTurnedRow.holds Try.pinned (OpenSpec.ofChange dirTurnedWrong)

/-- 'rootcellarlaw7.DirUses': WHATEVER THE INPUT: true; the input reads as it did. -/
def dirUsesSpec : ChangeSpec := { name := "dirUses", fn := fun _ => fun
  | [d1, d2] => { results := [.lit (.bool true)], args := [d1, d2] }
  | _ => none }
def dirUsesRow : OpenClaim := { program := "yteellffkjjllgaa", sum := "de45ef3edcda0bb860eb0f87acfbd39858b8565b106dae8179160745f5e65dd1", func := "rootcellar/rootcellarlaw7.DirUses", spec := "dirUses", inPlace := ["internal/abi.NoEscape", "internal/bytealg.MakeNoZero"], unfollowed := true, recurses := true, apart := false }
def DirUsesSaid : Prop := dirUsesRow.holds Try.pinned (OpenSpec.ofChange dirUsesSpec)

/-- ITS FALSE NEIGHBOUR: 'it returns false'. Refute it at one input. -/
def dirUsesWrong : ChangeSpec := { name := "dirUses", fn := fun _ => fun
  | [d1, d2] => { results := [.lit (.bool false)], args := [d1, d2] }
  | _ => none }
def DirUsesWrongFalsely : Prop := dirUsesRow.holds Try.pinned (OpenSpec.ofChange dirUsesWrong)

/- THE SECOND FORM. 'bulk': how many values and letters a reading holds, each counted each time it is reached (what is shared counts as often as it is met; a slice's spare places count too). A statement '..UptoSaid' is the law's where the arguments, and the package variables that the reading takes, are together of bulk at most 1048576: NARROWER than '..Said'. Prove '..Said' where nothing that the law and all that it calls make is longer than what came in: it says more and counts as full. Else prove '..UptoSaid'. A law counts once. -/
mutual
def uptoBulk {H : Type} : DataW H → Nat
  | .lit (.string bytes) => bytes.length + 1
  | .lit _ => 1
  | .nil => 1
  | .ptr d => uptoBulk d + 1
  | .slice elems spare => uptoBulkAll elems + uptoBulkAll spare + 1
  | .agg parts => uptoBulkAll parts + 1
  | .iface _ d => uptoBulk d + 1
  | .map entries => uptoBulkEntries entries + 1
  | .held _ => 1
def uptoBulkAll {H : Type} : List (DataW H) → Nat
  | [] => 0
  | d :: r => uptoBulk d + uptoBulkAll r
def uptoBulkEntries {H : Type} : List (Lit × DataW H) → Nat
  | [] => 0
  | x :: r => uptoBulkEntry x + uptoBulkEntries r
def uptoBulkEntry {H : Type} : Lit × DataW H → Nat
  | (.string bytes, d) => bytes.length + uptoBulk d + 1
  | (_, d) => uptoBulk d + 1
 end
def uptoSmall : (H : Type) → List (DataW H) → Bool := fun _ ds => decide (uptoBulkAll ds ≤ 1048576)
def OpenSpec.upto (s : _root_.Go.ChangeSpec) : _root_.Go.OpenSpec := { _root_.Go.OpenSpec.ofChange s with cond := some uptoSmall }

/-- 'rootcellarlaw7.DirTakes', WHERE WHAT IT READS IS OF BULK AT MOST 1048576: true; the input reads as it did. -/
def dirTakesUptoRow : OpenClaim := { program := "yteellffkjjllgaa", sum := "de45ef3edcda0bb860eb0f87acfbd39858b8565b106dae8179160745f5e65dd1", func := "rootcellar/rootcellarlaw7.DirTakes", spec := "dirTakes", inPlace := ["internal/abi.NoEscape", "internal/bytealg.MakeNoZero"], unfollowed := true, recurses := true, apart := false, narrowed := true }
def DirTakesUptoSaid : Prop := dirTakesUptoRow.holds Try.pinned (OpenSpec.upto dirTakesSpec)

/-- 'rootcellarlaw7.DirFiles', WHERE WHAT IT READS IS OF BULK AT MOST 1048576: true; the input reads as it did. -/
def dirFilesUptoRow : OpenClaim := { program := "yteellffkjjllgaa", sum := "de45ef3edcda0bb860eb0f87acfbd39858b8565b106dae8179160745f5e65dd1", func := "rootcellar/rootcellarlaw7.DirFiles", spec := "dirFiles", inPlace := ["internal/abi.NoEscape", "internal/bytealg.MakeNoZero"], unfollowed := true, recurses := true, apart := false, narrowed := true }
def DirFilesUptoSaid : Prop := dirFilesUptoRow.holds Try.pinned (OpenSpec.upto dirFilesSpec)

/-- 'rootcellarlaw7.DirBack', WHERE WHAT IT READS IS OF BULK AT MOST 1048576: true; the input reads as it did. -/
def dirBackUptoRow : OpenClaim := { program := "yteellffkjjllgaa", sum := "de45ef3edcda0bb860eb0f87acfbd39858b8565b106dae8179160745f5e65dd1", func := "rootcellar/rootcellarlaw7.DirBack", spec := "dirBack", inPlace := ["internal/abi.NoEscape", "internal/bytealg.MakeNoZero"], unfollowed := true, recurses := true, apart := false, narrowed := true }
def DirBackUptoSaid : Prop := dirBackUptoRow.holds Try.pinned (OpenSpec.upto dirBackSpec)

/-- 'rootcellarlaw7.DirKeeps', WHERE WHAT IT READS IS OF BULK AT MOST 1048576: true; the input reads as it did. -/
def dirKeepsUptoRow : OpenClaim := { program := "yteellffkjjllgaa", sum := "de45ef3edcda0bb860eb0f87acfbd39858b8565b106dae8179160745f5e65dd1", func := "rootcellar/rootcellarlaw7.DirKeeps", spec := "dirKeeps", inPlace := ["internal/abi.NoEscape", "internal/bytealg.MakeNoZero"], unfollowed := true, recurses := true, apart := false, narrowed := true }
def DirKeepsUptoSaid : Prop := dirKeepsUptoRow.holds Try.pinned (OpenSpec.upto dirKeepsSpec)

/-- 'rootcellarlaw7.DirTurned', WHERE WHAT IT READS IS OF BULK AT MOST 1048576: true; the input reads as it did. -/
def dirTurnedUptoRow : OpenClaim := { program := "yteellffkjjllgaa", sum := "de45ef3edcda0bb860eb0f87acfbd39858b8565b106dae8179160745f5e65dd1", func := "rootcellar/rootcellarlaw7.DirTurned", spec := "dirTurned", inPlace := ["internal/abi.NoEscape", "internal/bytealg.MakeNoZero"], unfollowed := true, recurses := true, apart := false, narrowed := true }
def DirTurnedUptoSaid : Prop := dirTurnedUptoRow.holds Try.pinned (OpenSpec.upto dirTurnedSpec)

/-- 'rootcellarlaw7.DirUses', WHERE WHAT IT READS IS OF BULK AT MOST 1048576: true; the input reads as it did. -/
def dirUsesUptoRow : OpenClaim := { program := "yteellffkjjllgaa", sum := "de45ef3edcda0bb860eb0f87acfbd39858b8565b106dae8179160745f5e65dd1", func := "rootcellar/rootcellarlaw7.DirUses", spec := "dirUses", inPlace := ["internal/abi.NoEscape", "internal/bytealg.MakeNoZero"], unfollowed := true, recurses := true, apart := false, narrowed := true }
def DirUsesUptoSaid : Prop := dirUsesUptoRow.holds Try.pinned (OpenSpec.upto dirUsesSpec)

end Rows
end Go.Proofs.Yteellffkjjllgaa
