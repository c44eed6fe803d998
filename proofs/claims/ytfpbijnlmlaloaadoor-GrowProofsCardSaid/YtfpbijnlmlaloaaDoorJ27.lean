/- Texts joined: TrQuiet TrEq. -/
import Derived.BigQuiet
import Derived.Lib.QuietBelow
import Derived.Deep.MidRow
import Derived.Laws.StructEq
import Derived.Deep.RegionHeld3
import Derived.Test.YtfpbijnlmlaloaaDoorWords
import Derived.Deep.DeepCutAuto
import Derived.Deep.CutBlock
import Derived.Test.YtfpbijnlmlaloaaDoorTrDig
import Derived.Test.YtfpbijnlmlaloaaDoorJ11
/- Whole arrays by value in a region that draws its order and only reads: a load, a comparison. No program. -/
namespace Go.Proofs.YtfpbijnlmlaloaaDoor
open Go.RowKit
set_option linter.unusedVariables false
set_option linter.unusedSimpArgs false

theorem quiet_load_mid {P : Program} {C : World → Prop} {o : Oper} {a : Act} {K : Act → Prop} (ty : TypeId) (x : Operand) (ho : o.op = .load ty x)
    (b off : Nat) (hx : a.eval x = .pointer (some ⟨b, off, none⟩)) (cs : List Value) (X : Array Value) (hX : cs.toArray = X) (d : TypeDesc) (hS : ∀ w, C w → w.rangeAt b off cs)
    (hu : P.underlying ty = some d) (hd : d.isRow = true) (hi : (P.info? ty).map (·.size) = some cs.length) (h : K (a.put o.dst (.agg X))) : o.quiet P a C K := by
  subst hX
  refine ⟨_, fun w hw => ?_, h⟩
  unfold Oper.quietAt execOp
  simp only [ho, hx, Instr.loadAt, Instr.sureAddr, Sem.run_bind, Sem.run_pure, Result.andThen_ok, run_loadVar_mid w b off ty cs d (hS w hw) hu hd hi]
  exact ⟨rfl, rfl⟩
theorem wpQuiet_load {P : Program} {ops : Array Oper} {C : World → Prop} {Q : Act → Prop} {o : Oper} {rest : List Oper} {a : Act} (hw : Region.wanted o (yielded ops a.tmps) = true) (ty : TypeId) (x : Operand) (ho : o.op = .load ty x)
    (b off : Nat) (hx : a.eval x = .pointer (some ⟨b, off, none⟩)) (cs : List Value) (X : Array Value) (hX : cs.toArray = X) (d : TypeDesc) (hS : ∀ w, C w → w.rangeAt b off cs)
    (hu : P.underlying ty = some d) (hd : d.isRow = true) (hi : (P.info? ty).map (·.size) = some cs.length) (h : wpQuiet P ops C Q rest (a.put o.dst (.agg X))) : wpQuiet P ops C Q (o :: rest) a :=
  BigFrame.wpQuiet_want hw fun K hK => quiet_load_mid ty x ho b off hx cs X hX d hS hu hd hi (hK _ h)
theorem wpQuiet_bin {P : Program} {ops : Array Oper} {C : World → Prop} {Q : Act → Prop} {o : Oper} {rest : List Oper} {a : Act} (hw : Region.wanted o (yielded ops a.tmps) = true) (op : BinOp) (t t' : TypeId) (x y : Operand) (ho : o.op = .binOp op t x y t')
    (X Y : Array Value) (hx : a.eval x = .agg X) (hy : a.eval y = .agg Y) (hm : P.eqGuardType P.depth t = false) (q : Bool) (heq : ∀ W, (binOp op t (.agg X) (.agg Y)).run P W = .ok (.bool q) W)
    (h : wpQuiet P ops C Q rest (a.put o.dst (.bool q))) : wpQuiet P ops C Q (o :: rest) a :=
  BigFrame.wpQuiet_want hw fun K hK => by
    refine ⟨_, fun w hw => ?_, hK _ h⟩
    unfold Oper.quietAt execOp
    simp only [ho, hx, hy, Sem.run_bind, run_eqGuard_agg w op t x y X Y hm, Result.andThen_ok, heq, Sem.run_pure]
    exact ⟨rfl, rfl⟩
/-- A load in a plain region, the value by its name. -/
theorem wpQ_load {P : Program} {ops : Array Oper} {rest : List Oper} {op : Oper} {a : Act} {w : World} {Q : Exit → Act → World → Prop} (hgd : op.guard = none) (ty : TypeId) (x : Operand) (ho : op.op = .load ty x)
    (b o : Nat) (hx : a.eval x = .pointer (some ⟨b, o, none⟩)) (cs : List Value) (X : Array Value) (hX : cs.toArray = X) (d : TypeDesc) (hc : w.rangeAt b o cs)
    (hu : P.underlying ty = some d) (hd : d.isRow = true) (hi : (P.info? ty).map (·.size) = some cs.length)
    (h : wpList P ops Q rest (a.put op.dst (.agg X)) w) : wpList P ops Q (op :: rest) a w := by
  subst hX
  exact wpList_load_mid hgd ty x ho b o hx cs d hc hu hd hi h
/-- A comparison of two arrays in a plain region. -/
theorem wpList_bin {P : Program} {ops : Array Oper} {rest : List Oper} {o : Oper} {a : Act} {w : World} {Q : Exit → Act → World → Prop} (hgd : o.guard = none) (op : BinOp) (t t' : TypeId) (x y : Operand) (ho : o.op = .binOp op t x y t')
    (X Y : Array Value) (hx : a.eval x = .agg X) (hy : a.eval y = .agg Y) (hm : P.eqGuardType P.depth t = false) (q : Bool) (heq : ∀ W, (binOp op t (.agg X) (.agg Y)).run P W = .ok (.bool q) W)
    (h : wpList P ops Q rest (a.put o.dst (.bool q)) w) : wpList P ops Q (o :: rest) a w :=
  wpList_plain hgd fun _ hK => by
    unfold Oper.wp execOp
    simp only [ho, hx, hy, Sem.run_bind, run_eqGuard_agg w op t x y X Y hm, Result.andThen_ok, heq, Sem.run_pure]
    exact hK _ _ h
/-- The same where the operation is wanted. -/
theorem wpList_binw {P : Program} {ops : Array Oper} {rest : List Oper} {o : Oper} {a : Act} {w : World} {Q : Exit → Act → World → Prop} (hgd : Region.wanted o (yielded ops a.tmps) = true) (op : BinOp) (t t' : TypeId) (x y : Operand) (ho : o.op = .binOp op t x y t')
    (X Y : Array Value) (hx : a.eval x = .agg X) (hy : a.eval y = .agg Y) (hm : P.eqGuardType P.depth t = false) (q : Bool) (heq : ∀ W, (binOp op t (.agg X) (.agg Y)).run P W = .ok (.bool q) W)
    (h : wpList P ops Q rest (a.put o.dst (.bool q)) w) : wpList P ops Q (o :: rest) a w :=
  wpList_step fun _ hK => by
    rw [if_pos hgd]
    unfold Oper.wp execOp
    simp only [ho, hx, hy, Sem.run_bind, run_eqGuard_agg w op t x y X Y hm, Result.andThen_ok, heq, Sem.run_pure]
    exact hK _ _ h
/-- A range of an elder block in each world of the class. -/
theorem range_regrown {w : World} {b o : Nat} {cs : List Value} (h : w.rangeAt b o cs) : ∀ w', (∃ p : Regrown, w' = Go.Sort.grow (redrawn w p.d) p.os) → w'.rangeAt b o cs := by
  rintro _ ⟨p, rfl⟩ j v hv
  exact cell_regrown (h j v hv) p.d p.os
theorem yieldsIf_loadX {P : Program} {ops : Array Oper} {S : World → Prop} {op : Oper} {a : Act} (hw : Region.wanted op (yielded ops a.tmps) = true) (ty : TypeId) (x : Operand) (ho : op.op = .load ty x)
    (b o : Nat) (hx : a.eval x = .pointer (some ⟨b, o, none⟩)) (cs : List Value) (X : Array Value) (hX : cs.toArray = X) (d : TypeDesc) (hS : ∀ w, S w → w.rangeAt b o cs)
    (hu : P.underlying ty = some d) (hd : d.isRow = true) (hi : (P.info? ty).map (·.size) = some cs.length) : YieldsIf P ops S op (.agg X) a := by
  subst hX
  exact yieldsIf_load_mid hw ty x ho b o hx cs d hS hu hd hi
theorem np {Q : Exit → Act → World → Prop} {c} {a a' : Act} {w : World} (h : NoPanic Q (.panic c) a w) : NoPanic Q (.panic c) a' w := (h : False).elim
end Go.Proofs.YtfpbijnlmlaloaaDoor

/- Contract of the library's slices.Equal over digests. No condition. -/
namespace Go.Proofs.YtfpbijnlmlaloaaDoor
open Go.RowKit
set_option linter.unusedVariables false
set_option linter.unusedSimpArgs false
set_option maxRecDepth 100000

theorem neqD (w : World) (l m : List Nat) (hl : l.length = 32) (hm : m.length = 32) : (binOp .neq 33 (.agg (bs l).toArray) (.agg (bs m).toArray)).run Tryd.prog w = .ok (.bool (!decide (l = m))) w := by
  have h := run_eql_bytes (P := Tryd.prog) w 33 5 32 Tryd.underlying33 Tryd.underlying5 sizeS_u8 agg_u8 9998 l m hl hm
  rw [run_neq_struct, h]
  rfl
theorem hash_size (d : List Nat) (h : d.length = 32) : (Tryd.prog.info? 33).map (·.size) = some (bs d).length := by rw [bs_length, h]; exact (zero_of_info info_hash).2
theorem hash_guard : Tryd.prog.eqGuardType Tryd.prog.depth 33 = false := by kernel_rfl
theorem take_same {ds es : List (List Nat)} {i : Nat} (h : ds.take i = es.take i) {d e : List Nat} (h1 : ds[i]? = some d) (h2 : es[i]? = some e) : (d = e ↔ ds.take (i + 1) = es.take (i + 1)) := by
  rw [List.take_add_one, List.take_add_one, h1, h2, h]
  simp
set_option maxHeartbeats 2000000 in
theorem equal_any (A A' : Option Addr) (n m c c' : Nat) (ds es : List (List Nat)) (w : World) (h1 : HsAt w A ds) (h2 : HsAt w A' es) (d1 : Dg ds) (d2 : Dg es) (hn : ds.length = n) (hm : es.length = m) (hn2 : n ≤ 1000000) :
    Calls Tryd.prog 37 #[.slice A n c, .slice A' m c'] w fun e w' => e = .returned (.bool (decide (ds = es))) ∧ Below w.heap.size w w' := by
  by_cases hnm : n = m
  · subst hnm
    have hD : ∀ d ∈ ds, d.length = 32 := fun d hd => (d1 d hd).1
    obtain ⟨q, hq⟩ : ∃ q, decide (ds = es) = q := ⟨_, rfl⟩
    rw [hq]
    have HQ := Lib.hid hq
    have HD1 := Lib.hid d1; have HD2 := Lib.hid d2; have HN := Lib.hid hn; have HM := Lib.hid hm; have H1 := Lib.hid h1; have H2 := Lib.hid h2
    clear h1 h2 d1 d2 hn hm hq hD
    go_enter Tryd.func37, Tryd.ntmps37
    go_wp2_with fail
    go_loopg [5, 13] n (fun gk s5 s13 wr => ∃ i : Nat, i + gk = n ∧ s13 = .int .i64 (i : Int) ∧ Hid (ds.take i = es.take i) ∧ Hid (Below w.heap.size w wr))
    case atStart => exact ⟨0, by omega, rfl, Lib.hid rfl, Lib.hid (Below.refl _ _)⟩
    case round =>
      obtain ⟨i, hig, rfl, hs, hb⟩ := hrel
      cases gk with
      | zero =>
        obtain rfl : i = n := by omega
        clear hig
        have hin : ¬ (i : Int) < (i : Int) := by omega
        go_wp2_with fail
        go_ret
        refine ⟨?_, hb.out⟩
        have e1 := hs.out
        rw [List.take_of_length_le (by rw [HN.out]; exact Nat.le_refl _), List.take_of_length_le (by rw [HM.out]; exact Nat.le_refl _)] at e1
        rw [← HQ.out, e1]
        simp
      | succ gk =>
        have hin2 : i < n := by omega
        have hii : (i : Int) < (n : Int) := by omega
        obtain ⟨d, hd⟩ : ∃ d, ds[i]? = some d := ⟨_, List.getElem?_eq_getElem (by rw [HN.out]; exact hin2)⟩
        obtain ⟨e, he⟩ : ∃ e, es[i]? = some e := ⟨_, List.getElem?_eq_getElem (by rw [HM.out]; exact hin2)⟩
        have hd32 := (HD1.out d (List.mem_of_getElem? hd)).1
        have he32 := (HD2.out e (List.mem_of_getElem? he)).1
        obtain ⟨b1, o1, hA1, _, hr1⟩ := (H1.out.next hb.out).at_ HD1.out hd
        obtain ⟨b2, o2, hA2, _, hr2⟩ := (H2.out.next hb.out).at_ HD2.out he
        subst hA1 hA2
        have HST := Lib.hid (take_same hs.out hd he)
        have HR1 := Lib.hid (range_regrown hr1); have HR2 := Lib.hid (range_regrown hr2)
        obtain ⟨r, hr⟩ : ∃ r, (!decide (d = e)) = r := ⟨_, rfl⟩
        have HE := Lib.hid fun W => neqD W d e hd32 he32
        rw [hr] at HE
        have HR := Lib.hid hr
        have HI1 := Lib.hid (hash_size d hd32); have HI2 := Lib.hid (hash_size e he32)
        have HSZ := Lib.hid hb.out.size
        clear hr1 hr2 hr
        go_upto_region 6 with fail
        refine wp_region_quiet_below (by kernel_rfl) (by kernel_rfl) ?_
        go_big_quiet_step (fail)
        go_big_quiet_step (fail)
        go_big_quiet_step (fail)
        refine wpQuiet_load (by rfl) 33 (.tmp 18) rfl b1 (o1 + i * 32) rfl (bs d) _ rfl _ HR1.out Tryd.underlying33 rfl HI1.out ?_
        try simp only [Act.put, List.setIfInBounds_toArray, List.set_cons_zero, List.set_cons_succ]
        go_big_quiet_step (fail)
        go_big_quiet_step (fail)
        go_big_quiet_step (fail)
        refine wpQuiet_load (by rfl) 33 (.tmp 22) rfl b2 (o2 + i * 32) rfl (bs e) _ rfl _ HR2.out Tryd.underlying33 rfl HI2.out ?_
        try simp only [Act.put, List.setIfInBounds_toArray, List.set_cons_zero, List.set_cons_succ]
        refine wpQuiet_bin (by rfl) .neq 33 _ (.tmp 19) (.tmp 23) rfl _ _ rfl rfl hash_guard _ HE.out ?_
        try simp only [Act.put, List.setIfInBounds_toArray, List.set_cons_zero, List.set_cons_succ]
        refine wpQuiet_nil ?_
        intro _ hw'
        obtain ⟨p, hw''⟩ := hw'
        subst hw''
        have HB2 := Lib.hid (hb.out.trans ((below_regrown wr p.d p.os).mono hb.out.size))
        cases r with
        | false =>
          have HS2 := Lib.hid (HST.out.1 (by have := HR.out; simpa using this))
          go_wp2_with fail
          go_roundg gk
          case measure => omega
          case rel => exact ⟨i + 1, by omega, by go_num, HS2, HB2⟩
        | true =>
          have HNE : Hid (q = false) := Lib.hid (by
            rw [← HQ.out]
            simp only [decide_eq_false_iff_not]
            intro hac
            have h1 := HR.out
            have h2 : d = e := HST.out.2 (by rw [hac])
            rw [h2] at h1
            simp at h1)
          go_wp2_with fail
          go_ret
          exact ⟨by rw [HNE.out]; rfl, HB2.out⟩
  · have hne : decide (ds = es) = false := by
      simp only [decide_eq_false_iff_not]
      intro h
      exact hnm (by rw [← hn, ← hm, h])
    rw [hne]
    have hnm2 : ¬ (n : Int) = (m : Int) := by omega
    clear h1 h2 d1 d2 hn hm hne
    go_enter Tryd.func37, Tryd.ntmps37
    go_wp2_with fail
    go_ret
    exact ⟨rfl, Below.refl _ _⟩
end Go.Proofs.YtfpbijnlmlaloaaDoor
