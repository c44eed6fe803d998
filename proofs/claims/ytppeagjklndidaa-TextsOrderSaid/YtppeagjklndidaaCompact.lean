/- The library's contract on slices.Compact over texts, laid at this program: a row holds its texts, runs of likes once each, then empty ones. No condition but the bound on the length. -/
import Derived.Shelf.SlicesG.CompactS
import Derived.Ground.SlgnProg
import Derived.Test.YtppeagjklndidaaProg
namespace Go.Proofs.Ytppeagjklndidaa
open Go.RowKit Go.Sort Go.Shelf
def co_compact40_ren : Go.Shelf.Ren := ⟨fun | 44 => 40 | n => n, fun | 25 => 35 | 26 => 9 | 3 => 3 | 4 => 4 | 0 => 0 | n => n, fun | n => n⟩
theorem co_compact40 : Go.Proofs.SlLaysN.n44 Try.prog co_compact40_ren := {
  mixed := by kernel_rfl
  f44 := ⟨Try.f40.name, by decide, Try.func40.trans (congrArg some (by kernel_rfl))⟩
  t0 := Try.underlying0
  a0 := Try.isAgg0
  z0 := Try.sizeOf0
  v0 := Try.zeroValue0
  t3 := Try.underlying3
  a3 := Try.isAgg3
  z3 := Try.sizeOf3
  v3 := Try.zeroValue3
  t4 := Try.underlying4
  a4 := Try.isAgg4
  z4 := Try.sizeOf4
  v4 := Try.zeroValue4
  t25 := Try.underlying35
  a25 := Try.isAgg35
  z25 := Try.sizeOf35
  v25 := Try.zeroValue35
  t26 := Try.underlying9
  a26 := Try.isAgg9
  z26 := Try.sizeOf9
  v26 := Try.zeroValue9
  i26 := by kernel_rfl }
theorem compact_row_str (blk off cap : Nat) (ss : List (List UInt8)) (w : World) (hH : Holds encStr w blk off ss.toArray) (hsz : ss.length ≤ 9223372036854775807) (hcap : ss.length ≤ cap) :
    Calls Try.prog 40 #[.slice (some ⟨blk, off, none⟩) ss.length cap] w fun e w' => e = .returned (.slice (some ⟨blk, off, none⟩) (Lib.compact ss).length cap) ∧ ∃ q, w' = putRow encStr (Sort.ahead w q) blk off (Lib.compact ss ++ List.replicate (ss.length - (Lib.compact ss).length) []).toArray := AnyG.slices_Compact_string co_compact40 blk off cap ss w hH hsz hcap
theorem compact_none_str (a : Option Addr) (cap : Nat) (w : World) : Calls Try.prog 40 #[.slice a 0 cap] w fun e w' => e = .returned (.slice a 0 cap) ∧ w' = w := AnyG.slices_Compact_string_empty co_compact40 a cap w
end Go.Proofs.Ytppeagjklndidaa
