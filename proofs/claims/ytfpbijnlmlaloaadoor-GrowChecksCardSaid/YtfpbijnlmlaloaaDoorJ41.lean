/- Texts joined: GwEq GwSize TrLast. -/
import Derived.Test.YtfpbijnlmlaloaaDoorGwTog
import Derived.Test.YtfpbijnlmlaloaaDoorJ27
import Derived.Test.YtfpbijnlmlaloaaDoorJ13
import Derived.Test.YtfpbijnlmlaloaaDoorJ26
import Derived.Test.YtfpbijnlmlaloaaDoorJ9
/- Package grow's struct that goes up: two of them are compared. No condition. -/
namespace Go.Proofs.YtfpbijnlmlaloaaDoor
open Go.RowKit
set_option linter.unusedVariables false
set_option linter.unusedSimpArgs false
set_option maxRecDepth 100000

theorem eql_roots (W : World) (o n o' n' : List Nat) (h1 : o.length = 32) (h2 : n.length = 32) (h3 : o'.length = 32) (h4 : n'.length = 32) :
    (binOp .eql 41 (.agg (rootsV o n).toArray) (.agg (rootsV o' n').toArray)).run Tryd.prog W = .ok (.bool (decide (o = o') && decide (n = n'))) W := by
  obtain ⟨X, hX⟩ : ∃ X, (rootsV o n).toArray = X := ⟨_, rfl⟩
  obtain ⟨Y, hY⟩ : ∃ Y, (rootsV o' n').toArray = Y := ⟨_, rfl⟩
  have cut : ∀ (x y : List Nat) (Z : Array Value), x.length = 32 → y.length = 32 → (rootsV x y).toArray = Z → Z.extract 0 32 = (bs x).toArray ∧ Z.extract 32 64 = (bs y).toArray ∧ Z.size = 64 := by
    intro x y Z hx hy hZ
    subst hZ
    refine ⟨?_, ?_, by simp [rootsV, bs_length, hx, hy]⟩
    · simp [rootsV, List.take_of_length_le, bs_length, hx]
    · simp [rootsV, List.take_of_length_le, bs_length, hx, hy]
  obtain ⟨x1, x2, x3⟩ := cut o n X h1 h2 hX
  obtain ⟨y1, y2, y3⟩ := cut o' n' Y h3 h4 hY
  rw [hX, hY]
  clear hX hY cut
  have hh := fun (W : World) (l m : List Nat) (hl : l.length = 32) (hm : m.length = 32) => run_eql_bytes (P := Tryd.prog) W 33 5 32 Tryd.underlying33 Tryd.underlying5 sizeS_u8 agg_u8 9997 l m hl hm
  have hu := Tryd.underlying41
  rw [run_eql_struct]
  have key : (Op.equalIn 10000 41 (.agg X) (.agg Y)).run Tryd.prog W = .ok (decide (o = o') && decide (n = n')) W := by
    rw [run_equalIn_struct W 9999 41 _ _ (by kernel_rfl) (by kernel_rfl)]
    simp only [Op.eqFields, Program.fieldsOf, hu]
    have hg2 : ∀ W, (isAgg 33).run Tryd.prog W = .ok true W := fun W => by simp [isAgg, run_underlying Tryd.underlying33]
    have hs2 : ∀ W, (Go.sizeOf 33).run Tryd.prog W = .ok 32 W := fun W => by
      obtain ⟨i, hi, hz⟩ := Option.map_eq_some_iff.1 (show (Tryd.prog.info? 33).map (·.size) = some 32 by kernel_rfl)
      simp [Go.sizeOf, typeInfo, hi, hz]
    have p1 : ∀ W, (part 33 X 0).run Tryd.prog W = .ok (.agg (bs o).toArray) W := fun W => by
      simp only [part, Sem.run_bind, hg2, Result.andThen_ok, if_true, hs2, Sem.run_pure, Nat.zero_add, x1]
    have p2 : ∀ W, (part 33 X 32).run Tryd.prog W = .ok (.agg (bs n).toArray) W := fun W => by
      simp only [part, Sem.run_bind, hg2, Result.andThen_ok, if_true, hs2, Sem.run_pure, Nat.reduceAdd, x2]
    have p3 : ∀ W, (part 33 Y 0).run Tryd.prog W = .ok (.agg (bs o').toArray) W := fun W => by
      simp only [part, Sem.run_bind, hg2, Result.andThen_ok, if_true, hs2, Sem.run_pure, Nat.zero_add, y1]
    have p4 : ∀ W, (part 33 Y 32).run Tryd.prog W = .ok (.agg (bs n').toArray) W := fun W => by
      simp only [part, Sem.run_bind, hg2, Result.andThen_ok, if_true, hs2, Sem.run_pure, Nat.reduceAdd, y2]
    have e1 : ∀ W, (Op.equalIn 9999 33 (.agg (bs o).toArray) (.agg (bs o').toArray)).run Tryd.prog W = .ok (decide (o = o')) W := fun W => hh W o o' h1 h3
    have e2 : ∀ W, (Op.equalIn 9999 33 (.agg (bs n).toArray) (.agg (bs n').toArray)).run Tryd.prog W = .ok (decide (n = n')) W := fun W => hh W n n' h2 h4
    obtain ⟨q1, hq1⟩ : ∃ q, decide (o = o') = q := ⟨_, rfl⟩
    obtain ⟨q2, hq2⟩ : ∃ q, decide (n = n') = q := ⟨_, rfl⟩
    rw [hq1] at e1 ⊢
    rw [hq2] at e2 ⊢
    rw [if_pos (by decide), if_pos (by decide)]
    cases q1 <;> cases q2 <;> simp only [Sem.run_bind, p1, p2, p3, p4, e1, e2, Result.andThen_ok, Bool.not_true, Bool.not_false, Bool.false_eq_true, if_false, if_true, Sem.run_pure, Bool.and_true, Bool.and_false, Bool.true_and, Bool.false_and]
  rw [key]
  rfl
/-- A struct that is built in a region that only reads. -/
theorem wpQuiet_buildV {P : Program} {ops : Array Oper} {C : World → Prop} {Q : Act → Prop} {o : Oper} {rest : List Oper} {a : Act} (hw : Region.wanted o (yielded ops a.tmps) = true) (t : TypeId) (parts : Array (Nat × Operand)) (ho : o.op = .build t parts)
    (vs : Array (Nat × Value)) (hp : parts.map (fun (i, x) => (i, a.eval x)) = vs) (V : Value) (hv : ∀ W, (Instr.build t vs).run P W = .ok V W) (h : wpQuiet P ops C Q rest (a.put o.dst V)) : wpQuiet P ops C Q (o :: rest) a :=
  BigFrame.wpQuiet_want hw fun K hK => by
    refine ⟨_, fun w hw => ?_, hK _ h⟩
    unfold Oper.quietAt execOp
    simp only [ho, hp, Sem.run_bind, hv, Result.andThen_ok, Sem.run_pure]
    exact ⟨rfl, rfl⟩
end Go.Proofs.YtfpbijnlmlaloaaDoor

/- Contract of package grow's Size. Condition: at most 2^60 leaves. -/
namespace Go.Proofs.YtfpbijnlmlaloaaDoor
open Go.RowKit
set_option linter.unusedVariables false
set_option linter.unusedSimpArgs false
set_option maxRecDepth 100000

set_option maxHeartbeats 2000000 in
theorem gwSize_any (m n : Int) (w : World) (h0 : -9223372036854775808 ≤ n) (h1 : n ≤ 1152921504606846976) :
    Calls Tryd.prog 9 #[.int .i64 m, .int .i64 n] w fun e w' => e = .returned (.int .i64 (sizeD m n)) ∧ w = w' := by
  by_cases h : m < 0
  · have e1 : sizeD m n = -1 := by unfold sizeD; rw [if_pos (.inl h)]
    rw [e1]
    go_enter Tryd.func9, Tryd.ntmps9
    go_wp2_with fail
    go_ret
    exact ⟨rfl, rfl⟩
  · by_cases h2 : n < m
    · have e1 : sizeD m n = -1 := by unfold sizeD; rw [if_pos (.inr h2)]
      rw [e1]
      go_enter Tryd.func9, Tryd.ntmps9
      go_wp2_with fail
      go_ret
      exact ⟨rfl, rfl⟩
    · by_cases hm0 : m = 0
      · have e1 : sizeD m n = 0 := by unfold sizeD; rw [if_neg (by omega), if_pos hm0]
        rw [e1]
        subst hm0
        go_enter Tryd.func9, Tryd.ntmps9
        go_wp2_with fail
        go_ret
        exact ⟨rfl, rfl⟩
      · obtain ⟨a, rfl⟩ : ∃ a : Nat, m = (a : Int) := ⟨m.toNat, by omega⟩
        obtain ⟨N, rfl⟩ : ∃ N : Nat, n = (N : Int) := ⟨n.toNat, by omega⟩
        have e1 : sizeD (a : Int) (N : Int) = (szD a N false : Int) := by unfold sizeD; rw [if_neg (by omega), if_neg hm0]; rfl
        rw [e1]
        have ha1 : 1 ≤ a := by omega
        have haN : a ≤ N := by omega
        obtain ⟨D, hD⟩ : ∃ D, szD a N false = D := ⟨_, rfl⟩
        have hDm := szD_le 60 N a false (by omega) ha1 haN
        rw [hD] at hDm ⊢
        have HD := Lib.hid hD
        have HSP := Lib.hid fun (x : Nat) (hx : x ≤ 1152921504606846976) => split_any (x : Int) w (by omega) (by omega)
        simp only [Int.toNat_natCast] at HSP
        clear hD e1
        go_enter Tryd.func9, Tryd.ntmps9
        go_wp2_with fail
        go_loopw [0, 1, 5, 6, 7] (fun s0 s1 s5 s6 s7 wr => ∃ x y d o : Nat, s0 = .int .i64 (x : Int) ∧ s1 = .int .i64 (y : Int) ∧ s5 = .int .i64 (d : Int) ∧ s6 = .int .i64 (o : Int) ∧ o ≤ 1 ∧ 1 ≤ x ∧ x ≤ y ∧ y ≤ N ∧ Hid (szD x y (decide (o = 1)) + d = D) ∧ wr = w) (fun _ s1 _ _ _ _ => (intOf s1).toNat)
        case atStart => exact ⟨a, N, 0, 0, rfl, rfl, rfl, rfl, by omega, ha1, haN, Nat.le_refl _, Lib.hid HD.out, rfl⟩
        case round =>
          obtain ⟨x, y, d, o, rfl, rfl, rfl, rfl, ho, hx1, hxy, hyN, hd, rfl⟩ := hrel
          by_cases hlt : x < y
          · have hy : 2 ≤ y := by omega
            have h3 := spl_lt (n := y) hy
            have h4 := spl_pos (n := y) hy
            have HS := Lib.hid (HSP.out y (by omega))
            have hdd := hd.out
            have hw : IntKind.i64.wrap ((d : Int) + 1) = (d : Int) + 1 := IntWalk.i64_in _ (by omega)
            have hltI : (x : Int) < (y : Int) := by omega
            by_cases hk : x ≤ spl y
            · rw [szD_left _ hy (by omega) hk] at hdd
              have HDD : Hid (szD x (spl y) (decide (o = 1)) + (d + 1) = D) := Lib.hid (by omega)
              obtain ⟨k, hke⟩ : ∃ k, spl y = k := ⟨_, rfl⟩
              rw [hke] at hk h3 h4 HS HDD hdd
              have hkI : (x : Int) ≤ (k : Int) := by omega
              clear hke hdd hd
              go_wp2_with fail
              refine HS.out.mono ?_
              rintro _ _ ⟨rfl, rfl⟩
              go_wp2_with fail
              go_round
              case rel => exact ⟨x, k, d + 1, o, rfl, rfl, by go_num, rfl, ho, hx1, hk, by omega, HDD, trivial⟩
              case measure => simp [intOf]; omega
            · rw [szD_right _ hy (by omega) hk] at hdd
              have HDD : Hid (szD (x - spl y) (y - spl y) (decide (1 = 1)) + (d + 1) = D) := Lib.hid (by rw [show decide (1 = 1) = true from rfl]; omega)
              obtain ⟨k, hke⟩ : ∃ k, spl y = k := ⟨_, rfl⟩
              rw [hke] at hk h3 h4 HS HDD hdd
              have hw1 : IntKind.i64.wrap ((x : Int) - (k : Int)) = (x : Int) - (k : Int) := IntWalk.i64_in _ (by omega)
              have hw2 : IntKind.i64.wrap ((y : Int) - (k : Int)) = (y : Int) - (k : Int) := IntWalk.i64_in _ (by omega)
              have hkI : ¬ (x : Int) ≤ (k : Int) := by omega
              clear hke hdd hd
              go_wp2_with fail
              refine HS.out.mono ?_
              rintro _ _ ⟨rfl, rfl⟩
              go_wp2_with fail
              go_round
              case rel => exact ⟨x - k, y - k, d + 1, 1, by go_num, by go_num, by go_num, rfl, by omega, by omega, by omega, by omega, HDD, trivial⟩
              case measure => simp [intOf]; omega
          · obtain rfl : x = y := by omega
            have hdd := hd.out
            rw [szD_same x x _ rfl] at hdd
            have hod : (d : Int) + (o : Int) = (D : Int) := by
              rcases (by omega : o = 0 ∨ o = 1) with rfl | rfl
              · simp at hdd; omega
              · simp at hdd; omega
            have hwo : IntKind.i64.wrap ((d : Int) + (o : Int)) = (d : Int) + (o : Int) := IntWalk.i64_in _ (by omega)
            have hltI : ¬ (x : Int) < (x : Int) := by omega
            have HOD := Lib.hid hod
            clear hdd hd hod hlt
            go_wp2_with fail
            go_ret
            exact ⟨ret_of (congrArg (Value.int IntKind.i64) HOD.out), rfl⟩
end Go.Proofs.YtfpbijnlmlaloaaDoor

/- The last one of some digests. No program but for names; no condition. -/
namespace Go.Proofs.YtfpbijnlmlaloaaDoor
open Go.RowKit
set_option linter.unusedVariables false
set_option linter.unusedSimpArgs false

theorem Dg.last {ds : List (List Nat)} (h : Dg ds) (hn : 0 < ds.length) : (ds.getLastD []).length = 32 ∧ (∀ b ∈ ds.getLastD [], b < 256) ∧ ds[ds.length - 1]? = some (ds.getLastD []) := by
  obtain ⟨x, hx⟩ : ∃ x, ds[ds.length - 1]? = some x := ⟨_, List.getElem?_eq_getElem (by omega)⟩
  have hl : ds.getLastD [] = x := by
    rw [List.getLastD_eq_getLast?, List.getLast?_eq_getElem?, hx]
    rfl
  rw [hl]
  exact ⟨(h x (List.mem_of_getElem? hx)).1, (h x (List.mem_of_getElem? hx)).2, hx⟩
theorem dropLast_is (ds : List (List Nat)) (m : Nat) (h : ds.length = m + 1) : ds.dropLast = ds.take m := by
  rw [List.dropLast_eq_take, h]
  rfl
end Go.Proofs.YtfpbijnlmlaloaaDoor
