/- BlockRules at every argument: it tells true. -/
import Derived.Test.YtlaifphedhaemaaGreatDoorCRuB
import Derived.Test.YtlaifphedhaemaaGreatDoorCRuS
namespace Go.Proofs.YtlaifphedhaemaaGreatDoor
open Go.ChangeShapes Go.WideShapes Go.ChangeAt Go.RowKit
theorem rules_all (n f t : Int) (tw : Bool) (w : World) (hK : Kw w) :
    Calls Tryz.prog 6 #[.int .i64 n, .int .i64 f, .int .i64 t, .bool tw] w fun e w' => e = .returned (.bool true) ∧ Below w.heap.size w w' :=
  rules_any n f t tw w hK (fun n F T h1 h2 h3 _ => ruleA n F T h1 h2 h3) (fun n F T h1 h2 h3 _ => ruleB sums_hold n F T h1 h2 h3) (fun n _ => ruleC sums_hold n)
end Go.Proofs.YtlaifphedhaemaaGreatDoor
