/- A function value that is made. No condition. -/
import Derived.Test.YtppeagjklndidaaMem
namespace Go.Proofs.Ytppeagjklndidaa
open Go.RowKit
theorem hmfP (fn : Fn) (first cap : Array Value) (w : World) : (Instr.makeFunc fn first cap).run Try.prog w = .ok (.func fn first cap) w := by rfl
end Go.Proofs.Ytppeagjklndidaa
