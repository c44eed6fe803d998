/- ZoneSound: The zone of values that may stand in a column is sound; of more rows the zone only grows: what refutes them refutes a part of them. The variable pred.shapes is tied to the program text (the given tie). -/
import Derived.Test.YtmjpjllbfgkfbaaDoorRows
import Derived.Test.YtmjpjllbfgkfbaaDoorJ1
import Derived.Test.YtmjpjllbfgkfbaaDoorJ3
import Derived.Test.YtmjpjllbfgkfbaaDoorZwAwk
import Derived.Test.YtmjpjllbfgkfbaaDoorZwFmd
import Derived.Test.YtmjpjllbfgkfbaaDoorZnSndA
import Derived.Test.YtmjpjllbfgkfbaaDoorJ6
import Derived.Test.YtmjpjllbfgkfbaaDoorJ4
import Derived.Test.YtmjpjllbfgkfbaaDoorJ5
import Derived.Test.YtmjpjllbfgkfbaaDoorTie
import Derived.Test.YtmjpjllbfgkfbaaDoorCards
import Derived.SevenTiedAt
import Derived.WalkKit
import Derived.ProofKit
import Derived.OpenShut
import Derived.ShutString
import Derived.ChangeOld
import Derived.Below
namespace Go.Proofs.YtmjpjllbfgkfbaaDoor.zoneSound
open Go.ChangeShapes Go.WideShapes Go.ChangeAt Go.RowKit
set_option linter.unusedVariables false
set_option linter.unusedSimpArgs false
set_option maxRecDepth 100000

theorem own : ownKnob Tryd.prog.godebug = none := by kernel_rfl
theorem laidOut : laidOutB Tryd.prog = true := by kernel_rfl
theorem walk (a0 : Option Addr) (len0 cap0 : Nat) (cl0 : List (Int × Bool × Int)) (cA1 cB1 cC1 cD1 : Value) (fu1 : Nat) (pd1 : Pd) (a2 : Option Addr) (len2 cap2 : Nat) (rl2 : List (List (Int × Int × Tx))) (a3 : Int) (w : World) (w0 : IsCols w a0 len0 cap0 cl0) (w1 : IsP fu1 w (fun _ => False) [cA1, cB1, cC1, cD1] pd1) (wf1 : ∀ k, WfP k pd1) (wl1 : ∀ k, LenP reachBytes k pd1) (w2 : IsRowsV w a2 len2 cap2 rl2) (wr2 : ∀ r ∈ rl2, r.length ≤ maxLen) (w3 : (Lit.int .i64 a3).wf = true) (hm : Shp w) :
    Calls Tryd.prog 3 #[.slice a0 len0 cap0, .agg #[cA1, cB1, cC1, cD1], .slice a2 len2 cap2, .int .i64 a3] w fun e w' => e = .returned (.bool true) ∧ Below w.heap.size w w' := by
  obtain ⟨e1, e2, e3, e4, e5⟩ := w0
  obtain ⟨f1, f2, f3, f4, f5⟩ := w2
  have HM := may_any fmd_any hm
  have HR := refutes_any HM
  exact sndW_any (M := reachBytes) (by unfold reachBytes; omega) (awakeZ_any HR) hm HR w1 wl1 wf1 e4 f4 f1 (fun r hr => by have := wr2 r hr; unfold maxLen at this; omega)

set_option maxRecDepth 100000 in
theorem lifted (os : Os) (started : os.Started) (H : Type) (enc : TypeId × Value → H) :
    ReturnsInHanded {} Tryd.checked os 3 .any (fun w args => (Rows.zoneSoundSpec.pre enc Tryd.prog Tryd.f3 [] false w args ∧ laidMetH Tryd.prog laidShp w) ∧ sizedMet enc Tryd.prog Tryd.f3 (OpenSpec.ofChange Rows.zoneSoundSpec) false w args) (Rows.zoneSoundSpec.post enc Tryd.prog Tryd.f3 false true false false) := by
  refine returnsInHanded_of_change_and (C := Tryd.checked) (X := fun w _ => laidMetH Tryd.prog laidShp w) (fun _ _ _ hh h => h.of_heap hh) own started (by kernel_rfl) Tryd.func3
    (ChangeSpec.witness_at (enc := enc) (C := Tryd.checked) (os := os) (X := fun w _ => laidMetH Tryd.prog laidShp w) false (laidWorldS os) #[.slice none 0 0, .agg #[.int .i64 0, .int .i64 0, .slice none 0 0, .slice none 0 0], .slice none 0 0, .int .i64 0] 8 rfl (by kernel_rfl) (by kernel_rfl) (by kernel_rfl) (by kernel_rfl) (by kernel_rfl) (laidWorldS_met os _)) ?_
  intro W base args ds gs before hval0 hW hcnd hsz0 hL _
  have hval : ∀ (j : Nat) t v, Tryd.f3.params[j]? = some t → args[j]? = some v → Value.okWide Tryd.prog W .any base t v := hval0
  have hW' := hW
  obtain ⟨p, q, hA0, hV, rfl, hfz, hnd⟩ := hW
  have hA : DataW.TrodAll enc Tryd.prog W 0 (fun _ => true) true Tryd.f3.params.toList args.toList ds p := hA0
  rw [Tryd.params3] at hA hval
  obtain ⟨v0, vs0, d0, ds0, p0, q0, hargs, rfl, rfl, h0, r0⟩ := trodAll_cons hA
  obtain ⟨v1, vs1, d1, ds1, p1, q1, rfl, rfl, rfl, h1, r1⟩ := trodAll_cons r0
  obtain ⟨v2, vs2, d2, ds2, p2, q2, rfl, rfl, rfl, h2, r2⟩ := trodAll_cons r1
  obtain ⟨v3, vs3, d3, ds3, p3, q3, rfl, rfl, rfl, h3, r3⟩ := trodAll_cons r2
  obtain ⟨rfl, rfl, rfl⟩ := trodAll_nil r3
  obtain rfl : args = #[v0, v1, v2, v3] := by cases args; simp_all
  have hsized : ∀ n ∈ d1.weights Tryd.prog 26, n ≤ reachBytes := fun n hn => by
    rw [Tryd.params3] at hsz0
    have h := List.all_eq_true.1 hsz0 n (by
      show n ∈ DataW.weightsEach Tryd.prog (22 :: 26 :: _) (d0 :: d1 :: _)
      rw [DataW.weightsEach, DataW.weightsEach]
      exact List.mem_append_right _ (List.mem_append_left _ hn))
    simpa using h
  obtain ⟨rfl, rfl⟩ := trodVars_none hV
  obtain ⟨a0, len0, cap0, rfl⟩ := okWide_slice Tryd.underlying22 (hval 0 22 v0 rfl rfl)
  have k0 := h0
  have lt0 : ∀ x ∈ p0, x.block < W.heap.size := by obtain ⟨m, hm⟩ := k0; exact DataW.trod_lt m _ _ _ hm
  obtain ⟨cl0, w0⟩ := cols_of h0
  have k1 := h1
  have lt1 : ∀ x ∈ p1, x.block < W.heap.size := by obtain ⟨m, hm⟩ := k1; exact DataW.trod_lt m _ _ _ hm
  obtain ⟨cA1, cB1, cC1, cD1, fu1, pd1, rfl, w1, wf1, wm1⟩ := pdArg_of (hval 1 26 v1 rfl rfl) h1
  have wl1 : ∀ k, LenP reachBytes k pd1 := wm1 reachBytes fun n hn => hsized n hn
  obtain ⟨a2, len2, cap2, rfl⟩ := okWide_slice Tryd.underlying27 (hval 2 27 v2 rfl rfl)
  have k2 := h2
  have lt2 : ∀ x ∈ p2, x.block < W.heap.size := by obtain ⟨m, hm⟩ := k2; exact DataW.trod_lt m _ _ _ hm
  obtain ⟨rl2, w2, wr2⟩ := rowsV_len h2
  obtain ⟨a3, rfl, rfl, rfl, w3⟩ := open_int Tryd.underlying3 (hval 3 3 v3 rfl rfl) h3
  clear hA0 hval0
  refine (walk a0 len0 cap0 cl0 cA1 cB1 cC1 cD1 fu1 pd1 a2 len2 cap2 rl2 a3 W w0 w1 wf1 wl1 w2 wr2 w3 (shp_of_laid hL)).mono fun e W' ⟨he, bel⟩ => ?_
  subst he
  exact ⟨_, rfl, _, _, _, [], _, [], hW', trodAll_mk1 (shut_bool Tryd.underlying4 _), (trodAll_cons_mk (Below.trod laidOut (by kernel_rfl) (of_decide_eq_true (by kernel_rfl)) k0 bel lt0) (trodAll_cons_mk (Below.trod laidOut (by kernel_rfl) (of_decide_eq_true (by kernel_rfl)) k1 bel lt1) (trodAll_cons_mk (Below.trod laidOut (by kernel_rfl) (of_decide_eq_true (by kernel_rfl)) k2 bel lt2) (trodAll_cons_mk (shut_int Tryd.underlying3 w3) trodAll_mk0)))), rfl, bel.frame _, fun h => by cases h⟩

theorem over : Rows.zoneSoundRow.holds Tryd.pinned (OpenSpec.ofChange Rows.zoneSoundSpec) :=
  OpenClaim.holds_of_wide 3 Tryd.f3 rfl rfl rfl rfl rfl rfl rfl ⟨rfl, rfl, rfl, rfl, rfl⟩ rfl rfl rfl rfl rfl (by kernel_rfl) Tryd.func3 (by kernel_rfl)
    (of_decide_eq_true (by kernel_rfl)) (by unfold Func.isWrapper; first | (rw [if_pos (by decide +kernel)]; kernel_rfl) | (rw [if_neg (by decide +kernel)]; exact ⟨rfl, rfl⟩))
    (fun os started H enc _ => lifted os started H enc)

/-- The row's own statement. -/
theorem said : Rows.ZoneSoundSaid := over

theorem proved : Rows.ZoneSoundCardSaid :=
  Claim7.holds_tied_plain_at .later [] [.wider] true Rows.zoneSoundCard.stood.harness false
    said (fun _ h => by cases h) (by kernel_rfl) (fun _ h => by cases h) zoneSound_row_tie rfl ⟨rfl, rfl⟩ (by kernel_rfl) rfl
    (fun f fn hf hfn => by
      obtain rfl : f = 3 := Option.some.inj ((show Tryd.prog.funcNamed Rows.zoneSoundRow.func = some 3 by kernel_rfl).symm.trans hf) |>.symm
      obtain rfl : fn = Tryd.f3 := (Option.some.inj (Tryd.func3.symm.trans hfn)).symm
      exact ⟨by kernel_rfl, fun j t ht => by
        rw [Tryd.params3] at ht
        have hmem : t ∈ (Tryd.f3.params.toList) := by
          rw [Tryd.params3]
          exact List.mem_of_getElem? (by simpa using ht)
        rw [Tryd.params3] at hmem
        revert hmem
        simp only [List.mem_cons, List.not_mem_nil, or_false]
        rintro (rfl | rfl | rfl | rfl)
        · exact (show Tryd.prog.wantsStandIn 22 = false by kernel_rfl)
        · exact (show Tryd.prog.wantsStandIn 26 = false by kernel_rfl)
        · exact (show Tryd.prog.wantsStandIn 27 = false by kernel_rfl)
        · exact (show Tryd.prog.wantsStandIn 3 = false by kernel_rfl)⟩)
    (by kernel_rfl)
end Go.Proofs.YtmjpjllbfgkfbaaDoor.zoneSound
