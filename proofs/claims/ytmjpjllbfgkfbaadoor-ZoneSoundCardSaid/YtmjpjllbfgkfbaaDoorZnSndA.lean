/- The law's walk: ZoneSound whole, under the contracts of what it calls. No condition. -/
import Derived.Test.YtmjpjllbfgkfbaaDoorZnSndM
import Derived.Test.YtmjpjllbfgkfbaaDoorJ6
import Derived.Test.YtmjpjllbfgkfbaaDoorZwChkR
namespace Go.Proofs.YtmjpjllbfgkfbaaDoor
open Go.RowKit
set_option linter.unusedVariables false
set_option linter.unusedSimpArgs false
set_option maxRecDepth 100000

section
variable {f M : Nat} {P : Nat → Prop} {c0 c1 c2 c3 : Value} {p : Pd} {S A : Option Addr} {m cs n cp : Nat} {sl : List Cl} {rows : List (List Vl)} {cut : Int} {w : World}
theorem sndW_any (hM : (M : Int) ≤ 4611686018427387904) (ha : AwakeZC w) (hsp : Shp w) (hR : RefuC w) (hI : IsP f w P [c0, c1, c2, c3] p) (hl : ∀ k, LenP M k p) (hwf : ∀ k, WfP k p)
    (hS : Reads w w.heap.size 3 S m (cls sl)) (hV : VV w A rows) (hrn : rows.length = n) (hbig : ∀ r ∈ rows, r.length ≤ 9223372036854775807) :
    Calls Tryd.prog 3 #[.slice S m cs, .agg #[c0, c1, c2, c3], .slice A n cp, .int .i64 cut] w fun e w' => e = .returned (.bool true) ∧ Below w.heap.size w w' := by
  by_cases h : szP 400 40 p ≤ 400
  · by_cases h1 : m ≤ 64
    · by_cases h2 : n ≤ 100
      · refine sndW_main hM ha (fun W hb => CheckG_any (hsp.next hb) ((hS.below hb).more hb.size) (by omega) (hI.next hb) (small_szP (by omega) (by omega) 40 p h)) (fun W hb => ?_) hR hI hl hwf h h1 h2 hS hV hrn hbig
        exact (refSchema_any S m cs sl W ((hS.below hb).more hb.size) (by omega)).mono fun e w' ⟨he, hd⟩ => ⟨he, hd.below (Below.refl _ _)⟩
      · exact sndW_else hM ha hI hl (.inr (.inr h2))
    · exact sndW_else hM ha hI hl (.inr (.inl h1))
  · exact sndW_else hM ha hI hl (.inl h)
end
end Go.Proofs.YtmjpjllbfgkfbaaDoor
