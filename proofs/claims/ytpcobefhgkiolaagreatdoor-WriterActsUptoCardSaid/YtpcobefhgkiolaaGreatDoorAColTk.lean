/- -/
import Derived.Test.YtpcobefhgkiolaaGreatDoorAColWo
import Derived.Test.YtpcobefhgkiolaaGreatDoorARdr
import Derived.Test.YtpcobefhgkiolaaGreatDoorABaseA
import Derived.Orders
import Derived.Deep.RegionWith
set_option linter.unusedVariables false
set_option linter.unusedSimpArgs false
set_option maxRecDepth 1000000
namespace Go.Proofs.YtpcobefhgkiolaaGreatDoor
open Go.RowKit
theorem enters9 {f : FuncId} {fn : Func} {c : Code} (hf : Tryz.prog.funcs[f]? = some fn) (hname : (fn.name == "runtime.NumGoroutine") = false) (hb : fn.body = some c) (args : Array Value) (u : World) : (callFunc f args).run Tryz.prog u = .ok (.enter f args) u := by
 have h1 : fn.name ≠ "runtime.NumGoroutine" := by simpa using hname
 simp [callFunc,hf,h1,hb,mark]
end Go.Proofs.YtpcobefhgkiolaaGreatDoor


/- -/
namespace Go.Proofs.YtpcobefhgkiolaaGreatDoor
open Go.RowKit
end Go.Proofs.YtpcobefhgkiolaaGreatDoor


/- -/
namespace Go.Proofs.YtpcobefhgkiolaaGreatDoor
open Go.RowKit
end Go.Proofs.YtpcobefhgkiolaaGreatDoor


/- -/
namespace Go.Proofs.YtpcobefhgkiolaaGreatDoor
open Go.RowKit
end Go.Proofs.YtpcobefhgkiolaaGreatDoor


/- -/
namespace Go.Proofs.YtpcobefhgkiolaaGreatDoor
open Go.RowKit
end Go.Proofs.YtpcobefhgkiolaaGreatDoor

