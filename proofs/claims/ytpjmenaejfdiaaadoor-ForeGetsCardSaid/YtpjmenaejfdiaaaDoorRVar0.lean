/- Contract of the document's reader's Var, at its beginning: the first short number. -/
import Derived.Test.YtpjmenaejfdiaaaDoorPlRead
import Derived.Test.YtpjmenaejfdiaaaDoorRefVar
namespace Go.Proofs.YtpjmenaejfdiaaaDoor
open Go.RowKit
set_option linter.unusedVariables false
set_option linter.unusedSimpArgs false

theorem rvar_0 {w : World} {g : Nat} {b : List Nat} (h : RfS w g b 0 none) :
    Calls Tryd.prog 17 #[.pointer (some ⟨g, 0, none⟩)] w fun e w' => e = .returned (.int .u64 (vv b 0 : Int)) ∧ RfTo w g b (vst b 1).1 (vst b 1).2 w' := rvar_is h
end Go.Proofs.YtpjmenaejfdiaaaDoor
