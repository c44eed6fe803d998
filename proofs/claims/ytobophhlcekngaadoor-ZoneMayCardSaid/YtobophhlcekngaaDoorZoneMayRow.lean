/- ZoneMay: Which truths may be, of any predicate and any zones, is what the document says. The variable pred.shapes is tied to the program text (the given tie). -/
import Derived.Test.YtobophhlcekngaaDoorRows
import Derived.Test.YtobophhlcekngaaDoorJ1
import Derived.Test.YtobophhlcekngaaDoorJ3
import Derived.Test.YtobophhlcekngaaDoorZwAwk
import Derived.Test.YtobophhlcekngaaDoorZwFmd
import Derived.Test.YtobophhlcekngaaDoorZnMayR
import Derived.Test.YtobophhlcekngaaDoorZnOne8
import Derived.Test.YtobophhlcekngaaDoorZnMayW
import Derived.Test.YtobophhlcekngaaDoorJ5
import Derived.Test.YtobophhlcekngaaDoorZonesIn
import Derived.Test.YtobophhlcekngaaDoorTie
import Derived.Test.YtobophhlcekngaaDoorCards
import Derived.SevenTiedAt
import Derived.WalkKit
import Derived.ProofKit
import Derived.OpenShut
import Derived.ShutString
import Derived.ChangeOld
import Derived.Below
namespace Go.Proofs.YtobophhlcekngaaDoor.zoneMay
open Go.ChangeShapes Go.WideShapes Go.ChangeAt Go.RowKit
set_option linter.unusedVariables false
set_option linter.unusedSimpArgs false
set_option maxRecDepth 100000

theorem own : ownKnob Tryd.prog.godebug = none := by kernel_rfl
theorem laidOut : laidOutB Tryd.prog = true := by kernel_rfl
theorem walk (cA0 cB0 cC0 cD0 : Value) (fu0 : Nat) (pd0 : Pd) (a1 : Int) (a2 : Option Addr) (len2 cap2 : Nat) (zl2 : List Zn) (w : World) (w0 : IsP fu0 w (fun _ => False) [cA0, cB0, cC0, cD0] pd0) (wf0 : ∀ k, WfP k pd0) (wl0 : ∀ k, LenP reachBytes k pd0) (w1 : (Lit.int .i64 a1).wf = true) (w2 : IsZones w a2 len2 cap2 zl2) (hm : Shp w) :
    Calls Tryd.prog 3 #[.agg #[cA0, cB0, cC0, cD0], .int .i64 a1, .slice a2 len2 cap2] w fun e w' => e = .returned (.bool true) ∧ Below w.heap.size w w' := by
  have h1 := i64_of w1
  have HM := may_any fmd_any hm
  have HR := refutes_any HM
  exact mayZ_any (M := reachBytes) (by unfold reachBytes; omega) (awakeZ_any HR) (refMayC oneC w) HM HR w0 wl0 wf0 w2.2.2.2.1 h1

set_option maxRecDepth 100000 in
theorem lifted (os : Os) (started : os.Started) (H : Type) (enc : TypeId × Value → H) :
    ReturnsInHanded {} Tryd.checked os 3 .any (fun w args => (Rows.zoneMaySpec.pre enc Tryd.prog Tryd.f3 [] false w args ∧ laidMetH Tryd.prog laidShp w) ∧ sizedMet enc Tryd.prog Tryd.f3 (OpenSpec.ofChange Rows.zoneMaySpec) false w args) (Rows.zoneMaySpec.post enc Tryd.prog Tryd.f3 false true false false) := by
  refine returnsInHanded_of_change_and (C := Tryd.checked) (X := fun w _ => laidMetH Tryd.prog laidShp w) (fun _ _ _ hh h => h.of_heap hh) own started (by kernel_rfl) Tryd.func3
    (ChangeSpec.witness_at (enc := enc) (C := Tryd.checked) (os := os) (X := fun w _ => laidMetH Tryd.prog laidShp w) false (laidWorldS os) #[.agg #[.int .i64 0, .int .i64 0, .slice none 0 0, .slice none 0 0], .int .i64 0, .slice none 0 0] 8 rfl (by kernel_rfl) (by kernel_rfl) (by kernel_rfl) (by kernel_rfl) (by kernel_rfl) (laidWorldS_met os _)) ?_
  intro W base args ds gs before hval0 hW hcnd hsz0 hL _
  have hval : ∀ (j : Nat) t v, Tryd.f3.params[j]? = some t → args[j]? = some v → Value.okWide Tryd.prog W .any base t v := hval0
  have hW' := hW
  obtain ⟨p, q, hA0, hV, rfl, hfz, hnd⟩ := hW
  have hA : DataW.TrodAll enc Tryd.prog W 0 (fun _ => true) true Tryd.f3.params.toList args.toList ds p := hA0
  rw [Tryd.params3] at hA hval
  obtain ⟨v0, vs0, d0, ds0, p0, q0, hargs, rfl, rfl, h0, r0⟩ := trodAll_cons hA
  obtain ⟨v1, vs1, d1, ds1, p1, q1, rfl, rfl, rfl, h1, r1⟩ := trodAll_cons r0
  obtain ⟨v2, vs2, d2, ds2, p2, q2, rfl, rfl, rfl, h2, r2⟩ := trodAll_cons r1
  obtain ⟨rfl, rfl, rfl⟩ := trodAll_nil r2
  obtain rfl : args = #[v0, v1, v2] := by cases args; simp_all
  have hsized : ∀ n ∈ d0.weights Tryd.prog 25, n ≤ reachBytes := fun n hn => by
    rw [Tryd.params3] at hsz0
    have h := List.all_eq_true.1 hsz0 n (by
      show n ∈ DataW.weightsEach Tryd.prog (25 :: _) (d0 :: _)
      rw [DataW.weightsEach]
      exact List.mem_append_left _ hn)
    simpa using h
  obtain ⟨rfl, rfl⟩ := trodVars_none hV
  have k0 := h0
  have lt0 : ∀ x ∈ p0, x.block < W.heap.size := by obtain ⟨m, hm⟩ := k0; exact DataW.trod_lt m _ _ _ hm
  obtain ⟨cA0, cB0, cC0, cD0, fu0, pd0, rfl, w0, wf0, wm0⟩ := pdArg_of (hval 0 25 v0 rfl rfl) h0
  have wl0 : ∀ k, LenP reachBytes k pd0 := wm0 reachBytes fun n hn => hsized n hn
  obtain ⟨a1, rfl, rfl, rfl, w1⟩ := open_int Tryd.underlying3 (hval 1 3 v1 rfl rfl) h1
  obtain ⟨a2, len2, cap2, rfl⟩ := okWide_slice Tryd.underlying26 (hval 2 26 v2 rfl rfl)
  have k2 := h2
  have lt2 : ∀ x ∈ p2, x.block < W.heap.size := by obtain ⟨m, hm⟩ := k2; exact DataW.trod_lt m _ _ _ hm
  obtain ⟨zl2, w2⟩ := zones_of h2
  clear hA0 hval0
  refine (walk cA0 cB0 cC0 cD0 fu0 pd0 a1 a2 len2 cap2 zl2 W w0 wf0 wl0 w1 w2 (shp_of_laid hL)).mono fun e W' ⟨he, bel⟩ => ?_
  subst he
  exact ⟨_, rfl, _, _, _, [], _, [], hW', trodAll_mk1 (shut_bool Tryd.underlying4 _), (trodAll_cons_mk (Below.trod laidOut (by kernel_rfl) (of_decide_eq_true (by kernel_rfl)) k0 bel lt0) (trodAll_cons_mk (shut_int Tryd.underlying3 w1) (trodAll_cons_mk (Below.trod laidOut (by kernel_rfl) (of_decide_eq_true (by kernel_rfl)) k2 bel lt2) trodAll_mk0))), rfl, bel.frame _, fun h => by cases h⟩

theorem over : Rows.zoneMayRow.holds Tryd.pinned (OpenSpec.ofChange Rows.zoneMaySpec) :=
  OpenClaim.holds_of_wide 3 Tryd.f3 rfl rfl rfl rfl rfl rfl rfl ⟨rfl, rfl, rfl, rfl, rfl⟩ rfl rfl rfl rfl rfl (by kernel_rfl) Tryd.func3 (by kernel_rfl)
    (of_decide_eq_true (by kernel_rfl)) (by unfold Func.isWrapper; first | (rw [if_pos (by decide +kernel)]; kernel_rfl) | (rw [if_neg (by decide +kernel)]; exact ⟨rfl, rfl⟩))
    (fun os started H enc _ => lifted os started H enc)

/-- The row's own statement. -/
theorem said : Rows.ZoneMaySaid := over

theorem proved : Rows.ZoneMayCardSaid :=
  Claim7.holds_tied_plain_at .later [] [.wider] true Rows.zoneMayCard.stood.harness false
    said (fun _ h => by cases h) (by kernel_rfl) (fun _ h => by cases h) zoneMay_row_tie rfl ⟨rfl, rfl⟩ (by kernel_rfl) rfl
    (fun f fn hf hfn => by
      obtain rfl : f = 3 := Option.some.inj ((show Tryd.prog.funcNamed Rows.zoneMayRow.func = some 3 by kernel_rfl).symm.trans hf) |>.symm
      obtain rfl : fn = Tryd.f3 := (Option.some.inj (Tryd.func3.symm.trans hfn)).symm
      exact ⟨by kernel_rfl, fun j t ht => by
        rw [Tryd.params3] at ht
        have hmem : t ∈ (Tryd.f3.params.toList) := by
          rw [Tryd.params3]
          exact List.mem_of_getElem? (by simpa using ht)
        rw [Tryd.params3] at hmem
        revert hmem
        simp only [List.mem_cons, List.not_mem_nil, or_false]
        rintro (rfl | rfl | rfl)
        · exact (show Tryd.prog.wantsStandIn 25 = false by kernel_rfl)
        · exact (show Tryd.prog.wantsStandIn 3 = false by kernel_rfl)
        · exact (show Tryd.prog.wantsStandIn 26 = false by kernel_rfl)⟩)
    (by kernel_rfl)
end Go.Proofs.YtobophhlcekngaaDoor.zoneMay
