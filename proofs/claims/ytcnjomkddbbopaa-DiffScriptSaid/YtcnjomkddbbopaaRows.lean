/-
  No cell of these rows narrows 'for every input' (looked for: loops, veiled, ifaces, maps, wideKeys, modest, calm, conditions, laid).
  DERIVED. THE GIVEN ROWS OF THIS SEAT. 7 by the template 'for every input the law returns true; each argument reads behind the call as it read before'; 0 by the template 'total and deterministic' (their statements: YtcnjomkddbbopaaTotals.lean).
  GIVEN WITH THE SEED: the statements are not yours to turn. If you find one false, say at which input.
  Laid BY PROGRAM, IN A SANDBOX (cutbox-rows.mjs): the forced cells as the released guide's own fill.sh prints them over the translation ffa72ee404815350… (all of the seat's roots in one cut). By AI agents, Wed Nov 11 2026. No macro, syntax, notation, axiom, sorry.
-/
import Derived.Test.YtcnjomkddbbopaaChecked
import GoSem.Claim
import GoSem.ClaimJoined
import GoSem.ClaimMapViews
import Derived.JoinedTies
import Derived.KernelRfl
namespace Go.Proofs.Ytcnjomkddbbopaa
/- THE CELL 'sum', in the pinned program and in every row, IS THE sha256 OF THE DUMP (.gsa) THAT YtcnjomkddbbopaaProg.lean LOADS. Nothing in Lean hashes anything: it is a label: what it is worth is what the hold of that sum in a sandbox is worth. -/
noncomputable def Try.pinned : Pinned := { name := "ytcnjomkddbbopaa", sum := "ffa72ee404815350e2bf47417c1ec832fb435754ec27b41ca25a1c4ff9809294", checked := Try.checked }
namespace Rows
def none {H : Type} : Left H := { results := [], args := [] }

/-- 'calquelaw05.DiffCommon': WHATEVER THE INPUT: true; the input reads as it did. -/
def diffCommonSpec : ChangeSpec := { name := "diffCommon", fn := fun _ => fun
  | [d1, d2] => { results := [.lit (.bool true)], args := [d1, d2] }
  | _ => none }
def diffCommonRow : OpenClaim := { program := "ytcnjomkddbbopaa", sum := "ffa72ee404815350e2bf47417c1ec832fb435754ec27b41ca25a1c4ff9809294", func := "calque/calquelaw05.DiffCommon", spec := "diffCommon", unfollowed := true, recurses := true, apart := false }
def DiffCommonSaid : Prop := diffCommonRow.holds Try.pinned (OpenSpec.ofChange diffCommonSpec)

/-- ITS FALSE NEIGHBOUR: 'it returns false'. Refute it at one input. -/
def diffCommonWrong : ChangeSpec := { name := "diffCommon", fn := fun _ => fun
  | [d1, d2] => { results := [.lit (.bool false)], args := [d1, d2] }
  | _ => none }
def DiffCommonWrongFalsely : Prop := diffCommonRow.holds Try.pinned (OpenSpec.ofChange diffCommonWrong)

/-- 'calquelaw05.DiffScript': WHATEVER THE INPUT: true; the input reads as it did. -/
def diffScriptSpec : ChangeSpec := { name := "diffScript", fn := fun _ => fun
  | [d1, d2, d3] => { results := [.lit (.bool true)], args := [d1, d2, d3] }
  | _ => none }
def diffScriptRow : OpenClaim := { program := "ytcnjomkddbbopaa", sum := "ffa72ee404815350e2bf47417c1ec832fb435754ec27b41ca25a1c4ff9809294", func := "calque/calquelaw05.DiffScript", spec := "diffScript", unfollowed := true, recurses := true, apart := false }
def DiffScriptSaid : Prop := diffScriptRow.holds Try.pinned (OpenSpec.ofChange diffScriptSpec)

/-- ITS FALSE NEIGHBOUR: 'it returns false'. Refute it at one input. -/
def diffScriptWrong : ChangeSpec := { name := "diffScript", fn := fun _ => fun
  | [d1, d2, d3] => { results := [.lit (.bool false)], args := [d1, d2, d3] }
  | _ => none }
def DiffScriptWrongFalsely : Prop := diffScriptRow.holds Try.pinned (OpenSpec.ofChange diffScriptWrong)

/-- 'calquelaw05.DiffApply': WHATEVER THE INPUT: true; the input reads as it did. -/
def diffApplySpec : ChangeSpec := { name := "diffApply", fn := fun _ => fun
  | [d1, d2] => { results := [.lit (.bool true)], args := [d1, d2] }
  | _ => none }
def diffApplyRow : OpenClaim := { program := "ytcnjomkddbbopaa", sum := "ffa72ee404815350e2bf47417c1ec832fb435754ec27b41ca25a1c4ff9809294", func := "calque/calquelaw05.DiffApply", spec := "diffApply", unfollowed := true, recurses := true, apart := false }
def DiffApplySaid : Prop := diffApplyRow.holds Try.pinned (OpenSpec.ofChange diffApplySpec)

/-- ITS FALSE NEIGHBOUR: 'it returns false'. Refute it at one input. -/
def diffApplyWrong : ChangeSpec := { name := "diffApply", fn := fun _ => fun
  | [d1, d2] => { results := [.lit (.bool false)], args := [d1, d2] }
  | _ => none }
def DiffApplyWrongFalsely : Prop := diffApplyRow.holds Try.pinned (OpenSpec.ofChange diffApplyWrong)

/-- 'calquelaw05.DiffLeads': WHATEVER THE INPUT: true; the input reads as it did. -/
def diffLeadsSpec : ChangeSpec := { name := "diffLeads", fn := fun _ => fun
  | [d1, d2, d3] => { results := [.lit (.bool true)], args := [d1, d2, d3] }
  | _ => none }
def diffLeadsRow : OpenClaim := { program := "ytcnjomkddbbopaa", sum := "ffa72ee404815350e2bf47417c1ec832fb435754ec27b41ca25a1c4ff9809294", func := "calque/calquelaw05.DiffLeads", spec := "diffLeads", unfollowed := true, recurses := true, apart := false }
def DiffLeadsSaid : Prop := diffLeadsRow.holds Try.pinned (OpenSpec.ofChange diffLeadsSpec)

/-- ITS FALSE NEIGHBOUR: 'it returns false'. Refute it at one input. -/
def diffLeadsWrong : ChangeSpec := { name := "diffLeads", fn := fun _ => fun
  | [d1, d2, d3] => { results := [.lit (.bool false)], args := [d1, d2, d3] }
  | _ => none }
def DiffLeadsWrongFalsely : Prop := diffLeadsRow.holds Try.pinned (OpenSpec.ofChange diffLeadsWrong)

/-- 'calquelaw05.DiffLongest': WHATEVER THE INPUT: true; the input reads as it did. -/
def diffLongestSpec : ChangeSpec := { name := "diffLongest", fn := fun _ => fun
  | [d1, d2, d3] => { results := [.lit (.bool true)], args := [d1, d2, d3] }
  | _ => none }
def diffLongestRow : OpenClaim := { program := "ytcnjomkddbbopaa", sum := "ffa72ee404815350e2bf47417c1ec832fb435754ec27b41ca25a1c4ff9809294", func := "calque/calquelaw05.DiffLongest", spec := "diffLongest", unfollowed := true, recurses := true, apart := false }
def DiffLongestSaid : Prop := diffLongestRow.holds Try.pinned (OpenSpec.ofChange diffLongestSpec)

/-- ITS FALSE NEIGHBOUR: 'it returns false'. Refute it at one input. -/
def diffLongestWrong : ChangeSpec := { name := "diffLongest", fn := fun _ => fun
  | [d1, d2, d3] => { results := [.lit (.bool false)], args := [d1, d2, d3] }
  | _ => none }
def DiffLongestWrongFalsely : Prop := diffLongestRow.holds Try.pinned (OpenSpec.ofChange diffLongestWrong)

/-- 'calquelaw05.DiffMetric': WHATEVER THE INPUT: true; the input reads as it did. -/
def diffMetricSpec : ChangeSpec := { name := "diffMetric", fn := fun _ => fun
  | [d1, d2, d3] => { results := [.lit (.bool true)], args := [d1, d2, d3] }
  | _ => none }
def diffMetricRow : OpenClaim := { program := "ytcnjomkddbbopaa", sum := "ffa72ee404815350e2bf47417c1ec832fb435754ec27b41ca25a1c4ff9809294", func := "calque/calquelaw05.DiffMetric", spec := "diffMetric", unfollowed := true, recurses := true, apart := false }
def DiffMetricSaid : Prop := diffMetricRow.holds Try.pinned (OpenSpec.ofChange diffMetricSpec)

/-- ITS FALSE NEIGHBOUR: 'it returns false'. Refute it at one input. -/
def diffMetricWrong : ChangeSpec := { name := "diffMetric", fn := fun _ => fun
  | [d1, d2, d3] => { results := [.lit (.bool false)], args := [d1, d2, d3] }
  | _ => none }
def DiffMetricWrongFalsely : Prop := diffMetricRow.holds Try.pinned (OpenSpec.ofChange diffMetricWrong)

/-- 'calquelaw05.DiffEnds': WHATEVER THE INPUT: true; the input reads as it did. -/
def diffEndsSpec : ChangeSpec := { name := "diffEnds", fn := fun _ => fun
  | [d1, d2, d3] => { results := [.lit (.bool true)], args := [d1, d2, d3] }
  | _ => none }
def diffEndsRow : OpenClaim := { program := "ytcnjomkddbbopaa", sum := "ffa72ee404815350e2bf47417c1ec832fb435754ec27b41ca25a1c4ff9809294", func := "calque/calquelaw05.DiffEnds", spec := "diffEnds", unfollowed := true, recurses := true, apart := false }
def DiffEndsSaid : Prop := diffEndsRow.holds Try.pinned (OpenSpec.ofChange diffEndsSpec)

/-- ITS FALSE NEIGHBOUR: 'it returns false'. Refute it at one input. -/
def diffEndsWrong : ChangeSpec := { name := "diffEnds", fn := fun _ => fun
  | [d1, d2, d3] => { results := [.lit (.bool false)], args := [d1, d2, d3] }
  | _ => none }
def DiffEndsWrongFalsely : Prop := diffEndsRow.holds Try.pinned (OpenSpec.ofChange diffEndsWrong)

/- THE SECOND FORM. 'bulk': how many values and letters a reading holds, each counted each time it is reached (what is shared counts as often as it is met; a slice's spare places count too). A statement '..UptoSaid' is the law's where the arguments, and the package variables that the reading takes, are together of bulk at most 1048576: NARROWER than '..Said'. Prove '..Said' where nothing that the law and all that it calls make is longer than what came in: it says more and counts as full. Else prove '..UptoSaid'. A law counts once. -/
mutual
def uptoBulk {H : Type} : DataW H → Nat
  | .lit (.string bytes) => bytes.length + 1
  | .lit _ => 1
  | .nil => 1
  | .ptr d => uptoBulk d + 1
  | .slice elems spare => uptoBulkAll elems + uptoBulkAll spare + 1
  | .agg parts => uptoBulkAll parts + 1
  | .iface _ d => uptoBulk d + 1
  | .map entries => uptoBulkEntries entries + 1
  | .held _ => 1
def uptoBulkAll {H : Type} : List (DataW H) → Nat
  | [] => 0
  | d :: r => uptoBulk d + uptoBulkAll r
def uptoBulkEntries {H : Type} : List (Lit × DataW H) → Nat
  | [] => 0
  | x :: r => uptoBulkEntry x + uptoBulkEntries r
def uptoBulkEntry {H : Type} : Lit × DataW H → Nat
  | (.string bytes, d) => bytes.length + uptoBulk d + 1
  | (_, d) => uptoBulk d + 1
 end
def uptoSmall : (H : Type) → List (DataW H) → Bool := fun _ ds => decide (uptoBulkAll ds ≤ 1048576)
def OpenSpec.upto (s : _root_.Go.ChangeSpec) : _root_.Go.OpenSpec := { _root_.Go.OpenSpec.ofChange s with cond := some uptoSmall }

/-- 'calquelaw05.DiffCommon', WHERE WHAT IT READS IS OF BULK AT MOST 1048576: true; the input reads as it did. -/
def diffCommonUptoRow : OpenClaim := { program := "ytcnjomkddbbopaa", sum := "ffa72ee404815350e2bf47417c1ec832fb435754ec27b41ca25a1c4ff9809294", func := "calque/calquelaw05.DiffCommon", spec := "diffCommon", unfollowed := true, recurses := true, apart := false, narrowed := true }
def DiffCommonUptoSaid : Prop := diffCommonUptoRow.holds Try.pinned (OpenSpec.upto diffCommonSpec)

/-- 'calquelaw05.DiffScript', WHERE WHAT IT READS IS OF BULK AT MOST 1048576: true; the input reads as it did. -/
def diffScriptUptoRow : OpenClaim := { program := "ytcnjomkddbbopaa", sum := "ffa72ee404815350e2bf47417c1ec832fb435754ec27b41ca25a1c4ff9809294", func := "calque/calquelaw05.DiffScript", spec := "diffScript", unfollowed := true, recurses := true, apart := false, narrowed := true }
def DiffScriptUptoSaid : Prop := diffScriptUptoRow.holds Try.pinned (OpenSpec.upto diffScriptSpec)

/-- 'calquelaw05.DiffApply', WHERE WHAT IT READS IS OF BULK AT MOST 1048576: true; the input reads as it did. -/
def diffApplyUptoRow : OpenClaim := { program := "ytcnjomkddbbopaa", sum := "ffa72ee404815350e2bf47417c1ec832fb435754ec27b41ca25a1c4ff9809294", func := "calque/calquelaw05.DiffApply", spec := "diffApply", unfollowed := true, recurses := true, apart := false, narrowed := true }
def DiffApplyUptoSaid : Prop := diffApplyUptoRow.holds Try.pinned (OpenSpec.upto diffApplySpec)

/-- 'calquelaw05.DiffLeads', WHERE WHAT IT READS IS OF BULK AT MOST 1048576: true; the input reads as it did. -/
def diffLeadsUptoRow : OpenClaim := { program := "ytcnjomkddbbopaa", sum := "ffa72ee404815350e2bf47417c1ec832fb435754ec27b41ca25a1c4ff9809294", func := "calque/calquelaw05.DiffLeads", spec := "diffLeads", unfollowed := true, recurses := true, apart := false, narrowed := true }
def DiffLeadsUptoSaid : Prop := diffLeadsUptoRow.holds Try.pinned (OpenSpec.upto diffLeadsSpec)

/-- 'calquelaw05.DiffLongest', WHERE WHAT IT READS IS OF BULK AT MOST 1048576: true; the input reads as it did. -/
def diffLongestUptoRow : OpenClaim := { program := "ytcnjomkddbbopaa", sum := "ffa72ee404815350e2bf47417c1ec832fb435754ec27b41ca25a1c4ff9809294", func := "calque/calquelaw05.DiffLongest", spec := "diffLongest", unfollowed := true, recurses := true, apart := false, narrowed := true }
def DiffLongestUptoSaid : Prop := diffLongestUptoRow.holds Try.pinned (OpenSpec.upto diffLongestSpec)

/-- 'calquelaw05.DiffMetric', WHERE WHAT IT READS IS OF BULK AT MOST 1048576: true; the input reads as it did. -/
def diffMetricUptoRow : OpenClaim := { program := "ytcnjomkddbbopaa", sum := "ffa72ee404815350e2bf47417c1ec832fb435754ec27b41ca25a1c4ff9809294", func := "calque/calquelaw05.DiffMetric", spec := "diffMetric", unfollowed := true, recurses := true, apart := false, narrowed := true }
def DiffMetricUptoSaid : Prop := diffMetricUptoRow.holds Try.pinned (OpenSpec.upto diffMetricSpec)

/-- 'calquelaw05.DiffEnds', WHERE WHAT IT READS IS OF BULK AT MOST 1048576: true; the input reads as it did. -/
def diffEndsUptoRow : OpenClaim := { program := "ytcnjomkddbbopaa", sum := "ffa72ee404815350e2bf47417c1ec832fb435754ec27b41ca25a1c4ff9809294", func := "calque/calquelaw05.DiffEnds", spec := "diffEnds", unfollowed := true, recurses := true, apart := false, narrowed := true }
def DiffEndsUptoSaid : Prop := diffEndsUptoRow.holds Try.pinned (OpenSpec.upto diffEndsSpec)

end Rows
end Go.Proofs.Ytcnjomkddbbopaa
