/- What the laws of layer 15 want of the program: met (the seat without Parse). -/
import Derived.Test.YteofkofgdhmpjaaNui
import Derived.Test.YteofkofgdhmpjaaNvc
namespace Go.Proofs.Yteofkofgdhmpjaa
open Go.RowKit
theorem nuC : NuC MaxL where
  later := fun h b => h.below b
  format := fun x s t w hx hs ht E => formatP_any x hx s t hs ht w E
  group := fun x d w hx hd E => group_any x d hd hx.gr hx.p1 hx.p2 hx.s1 hx.s2 w
end Go.Proofs.Yteofkofgdhmpjaa
