/- Contract of the document's Take: the value that stands there, and the reader behind it. -/
import Derived.Laws.Rows
import Derived.Test.YtieknhhhcjdbnaaDoorJ18
import Derived.Test.YtieknhhhcjdbnaaDoorJ22
import Derived.Test.YtieknhhhcjdbnaaDoorRefFix
import Derived.Test.YtieknhhhcjdbnaaDoorRefVar
import Derived.Test.YtieknhhhcjdbnaaDoorRefBlob
import Derived.Test.YtieknhhhcjdbnaaDoorRefZag
import Derived.Test.YtieknhhhcjdbnaaDoorJ20
namespace Go.Proofs.YtieknhhhcjdbnaaDoor
open Go.RowKit
set_option linter.unusedVariables false
set_option linter.unusedSimpArgs false
set_option maxRecDepth 100000

theorem RfS.byte {w : World} {g : Nat} {l : List Nat} {at_ : Nat} {x : Option (Int × Nat)} (h : RfS w g l at_ x) : ∀ b ∈ l, b < 256 := by
  obtain ⟨⟨A, n, c, hR⟩, _⟩ := h
  exact hR.byte
theorem RfS.store {w : World} {g V : Nat} {l : List Nat} {at_ : Nat} {x : Option (Int × Nat)} (h : RfS w g l at_ x) (hV : g < V) (i : Nat) (u : Value) : RfS (w.setCell ⟨V, i, none⟩ u) g l at_ x :=
  h.grown (only_setCell (p := ⟨V, i, none⟩) (World.grownBy.refl w (some V)) (.inl rfl) u) (fun q hq => by injection hq with hq; omega)
theorem blobS_byteF {b : List Nat} (hb : ∀ x ∈ b, x < 256) (at_ : Nat) (x : Option (Int × Nat)) (most : Int) : ∀ y ∈ (blobS b at_ x most).1, y < 256 := by
  intro y hy
  unfold blobS at hy
  cases x with
  | some z => simp at hy
  | none =>
    simp only at hy
    split at hy
    · exact hb y (List.mem_of_mem_drop (List.mem_of_mem_take (List.mem_of_mem_drop hy)))
    · simp at hy
/-- The result's three cells are stored. -/
theorem tkf_fin {w W : World} {g R : Nat} {b : List Nat} {at_ : Nat} {x : Option (Int × Nat)} {t : TypeId} {z0 z1 z2 : Value} (hS : RfS W g b at_ x) (hR : Blk W R t #[z0, z1, z2]) (hgR : g < R) (hG : w.grownBy W (some g)) (hwR : w.heap.size ≤ R) (u0 u1 u2 : Value) :
    Blk (((W.setCell ⟨R, 0, none⟩ u0).setCell ⟨R, 1, none⟩ u1).setCell ⟨R, 2, none⟩ u2) R t #[u0, u1, u2] ∧ RfTo w g b at_ x (((W.setCell ⟨R, 0, none⟩ u0).setCell ⟨R, 1, none⟩ u1).setCell ⟨R, 2, none⟩ u2) := by
  have b3 := ((hR.set_ 0 u0).set_ 1 u1).set_ 2 u2
  have s3 := ((hS.store hgR 0 u0).store hgR 1 u1).store hgR 2 u2
  have g1 := only_setCell (p := ⟨R, 0, none⟩) hG (.inr hwR) u0
  have g2 := only_setCell (p := ⟨R, 1, none⟩) g1 (.inr hwR) u1
  have g3 := only_setCell (p := ⟨R, 2, none⟩) g2 (.inr hwR) u2
  exact ⟨by simpa using b3, s3, g3⟩
/-- What stands while a value is taken: the reader, the result's block, nothing else that was there changed. -/
structure TkF (w W : World) (g : Nat) (t : TypeId) (zs : Array Value) (b : List Nat) (at_ : Nat) (x : Option (Int × Nat)) : Prop where
  rd : RfS W g b at_ x
  res : Blk W w.heap.size t zs
  gr : w.grownBy W (some g)
theorem TkF.next {w W W' : World} {g : Nat} {t : TypeId} {zs : Array Value} {b : List Nat} {at_ : Nat} {x : Option (Int × Nat)} (h : TkF w W g t zs b at_ x) (hb : Below W.heap.size W W') : TkF w W' g t zs b at_ x :=
  ⟨h.rd.next hb, h.res.below hb h.res.lt, only_below h.gr hb⟩
theorem TkF.alloc {w W : World} {g : Nat} {t : TypeId} {zs : Array Value} {b : List Nat} {at_ : Nat} {x : Option (Int × Nat)} (h : TkF w W g t zs b at_ x) (o : Obj) : TkF w (W.alloc o) g t zs b at_ x := h.next ((Below.refl _ _).alloc (Nat.le_refl _) o)
theorem TkF.take {w W W' : World} {g : Nat} {t : TypeId} {zs : Array Value} {b : List Nat} {at_ at' : Nat} {x x' : Option (Int × Nat)} (h : TkF w W g t zs b at_ x) (hgw : g < w.heap.size) (hto : RfTo W g b at' x' W') : TkF w W' g t zs b at' x' :=
  ⟨hto.1, h.res.grown hto.2 (by simp; omega), only_trans h.gr hto.2⟩
theorem TkF.store {w W : World} {g V : Nat} {t : TypeId} {zs : Array Value} {b : List Nat} {at_ : Nat} {x : Option (Int × Nat)} (h : TkF w W g t zs b at_ x) (hgw : g < w.heap.size) (hne : w.heap.size < V) (i : Nat) (u : Value) : TkF w (W.setCell ⟨V, i, none⟩ u) g t zs b at_ x := by
  have hb : Below (w.heap.size + 1) W (W.setCell ⟨V, i, none⟩ u) := (Below.refl _ _).setCell (p := ⟨V, i, none⟩) (by show _ ≤ V; omega) u
  exact ⟨h.rd.store (by omega) i u, h.res.below hb (by omega), only_setCell (p := ⟨V, i, none⟩) h.gr (.inr (by show _ ≤ V; omega)) u⟩
theorem blkf_take {W W' : World} {g V : Nat} {b : List Nat} {at' : Nat} {x' : Option (Int × Nat)} {t : TypeId} {cs : Array Value} (hV : Blk W V t cs) (hne : g ≠ V) (hto : RfTo W g b at' x' W') : Blk W' V t cs := hV.grown hto.2 (by simp; omega)
theorem TkF.new {w : World} {g : Nat} {b : List Nat} {at_ : Nat} {x : Option (Int × Nat)} (h : RfS w g b at_ x) (t : TypeId) (zs : Array Value) : TkF w (w.alloc (.cells zs t)) g t zs b at_ x :=
  ⟨h.alloc _, Blk.new w t zs, only_alloc (World.grownBy.refl w _) _⟩
set_option maxHeartbeats 2000000 in
theorem refTake_any {w : World} {g : Nat} {b : List Nat} {at_ : Nat} {x : Option (Int × Nat)} (hS : RfS w g b at_ x) :
    Calls Tryd.prog 8 #[.pointer (some ⟨g, 0, none⟩)] w fun e w' => e = .returned (vW (tkV b at_ x).1) ∧ RfTo w g b (tkV b at_ x).2.1 (tkV b at_ x).2.2 w' := by
  have hgw := hS.lt
  have hby := hS.byte
  have T0 := TkF.new hS 31 #[.int .i64 0, .int .i64 0, .string ⟨#[]⟩]
  have hfx := rfix_is 1 T0.rd
  have hsm := fix_small b at_ x hby
  have hT : tkV b at_ x = if (fixS b at_ x 1).1 = 1 then
      (if (varS b (fixS b at_ x 1).2.1 (fixS b at_ x 1).2.2).2.2 = none then (1, zagI ((varS b (fixS b at_ x 1).2.1 (fixS b at_ x 1).2.2).1 : Int), []) else (0, 0, []), (varS b (fixS b at_ x 1).2.1 (fixS b at_ x 1).2.2).2.1, (varS b (fixS b at_ x 1).2.1 (fixS b at_ x 1).2.2).2.2)
    else if (fixS b at_ x 1).1 = 2 then
      (if (blobS b (fixS b at_ x 1).2.1 (fixS b at_ x 1).2.2 65536).2.2 = none then (2, 0, tb (blobS b (fixS b at_ x 1).2.1 (fixS b at_ x 1).2.2 65536).1) else (0, 0, []), (blobS b (fixS b at_ x 1).2.1 (fixS b at_ x 1).2.2 65536).2.1, (blobS b (fixS b at_ x 1).2.1 (fixS b at_ x 1).2.2 65536).2.2)
    else ((0, 0, []), (fixS b at_ x 1).2.1, if 2 < (fixS b at_ x 1).1 then failS (fixS b at_ x 1).2.1 (fixS b at_ x 1).2.2 4 else (fixS b at_ x 1).2.2) := rfl
  obtain ⟨⟨kf, a1, x1⟩, hF⟩ : ∃ y, fixS b at_ x 1 = y := ⟨_, rfl⟩
  rw [hF] at hfx hsm hT
  simp only at hfx hsm hT
  obtain ⟨⟨v, a3, x3⟩, hK⟩ : ∃ y, tkV b at_ x = y := ⟨_, rfl⟩
  rw [hK] at hT ⊢
  simp only
  have hkw : IntKind.i64.wrap (kf : Int) = (kf : Int) := IntWalk.i64_in _ (by omega)
  have HFX := Lib.hid hfx; have HT0 := Lib.hid T0; have HBY := Lib.hid hby
  clear hfx T0 hS hF hK hby
  by_cases k1 : kf = 1
  · subst k1
    rw [if_pos rfl] at hT
    have hul := varS_lt b HBY.out a1 x1
    have HV := Lib.hid fun (W : World) (h : RfS W g b a1 x1) => rvar_is h
    obtain ⟨⟨u, a2, x2⟩, hV⟩ : ∃ y, varS b a1 x1 = y := ⟨_, rfl⟩
    rw [hV] at hT hul HV
    simp only at hT hul
    injection hT with hT1 hT2
    injection hT2 with hT2 hT3
    subst hT2 hT3
    have HTV := Lib.hid hT1
    clear hV hT1
    go_enter Tryd.func8, Tryd.ntmps8
    go_wp2_with fail
    refine HFX.out.mono ?_
    rintro e w1 ⟨rfl, hto1⟩
    have T1 := HT0.out.take hgw hto1
    have T2 := T1.alloc (.cells #[.int .i64 1, .int .i64 0, .string ⟨#[]⟩] 31)
    have hV2 := Blk.new w1 31 #[.int .i64 1, .int .i64 0, .string ⟨#[]⟩]
    have hw1 := T1.res.lt
    clear hto1 T1 HFX HT0
    go_wp2_with fail
    refine (HV.out _ T2.rd).mono ?_
    rintro e w2 ⟨rfl, hto2⟩
    have T3 := T2.take hgw hto2
    have hV3 := blkf_take hV2 (by omega) hto2
    clear hto2 T2 hV2 HV
    go_wp2_with fail
    refine (refZag_any u _ hul).mono ?_
    rintro e w' ⟨rfl, hww⟩
    rw [← hww]
    clear hww w'
    have p1 := hV3.cell 1
    have z1 := hV3.frozen 1
    simp only [List.getElem?_toArray, List.getElem?_cons_succ, List.getElem?_cons_zero] at p1
    have T5 := T3.store hgw hw1 1 (.int .i64 (zagI (u : Int)))
    have hV5 := hV3.set_ 1 (.int .i64 (zagI (u : Int)))
    clear T3 hV3
    obtain ⟨r0, r1, r2⟩ := blk3 T5.res
    have z0 := T5.res.frozen 0; have z1 := T5.res.frozen 1; have z2 := T5.res.frozen 2
    have hV0 := HTV.out
    cases x3 with
    | some y =>
      have hy : y.1 ≠ 0 := T5.rd.2 y rfl
      have hcE : _ = some (Value.int .i64 y.1) := T5.rd.cellE
      have qy : (y.1 != 0) = true := by simpa using hy
      rw [if_neg (by simp)] at hV0
      subst hV0
      obtain ⟨f1, f2⟩ := tkf_fin T5.rd T5.res hgw T5.gr (Nat.le_refl _) (.int .i64 0) (.int .i64 0) (.string ⟨#[]⟩)
      have F1 := Lib.hid f1; have F2 := Lib.hid f2
      clear f1 f2 T5 hV5 hy
      go_wp2_with fail
      exact bodyPost_ret (v := .agg #[.int .i64 0, .int .i64 0, .string ⟨#[]⟩]) (results_cell_row rfl _ _ _ _ _ _ _ (by rfl) F1.out Tryd.underlying31 rfl (by kernel_rfl)) rfl ⟨rfl, F2.out⟩
    | none =>
      have hcE : _ = some (Value.int .i64 0) := T5.rd.cellE
      obtain ⟨p0, p1, p2⟩ := blk3 (show Blk _ _ _ #[.int .i64 1, .int .i64 (zagI (u : Int)), .string ⟨#[]⟩] from by simpa using hV5)
      rw [if_pos rfl] at hV0
      subst hV0
      obtain ⟨f1, f2⟩ := tkf_fin T5.rd T5.res hgw T5.gr (Nat.le_refl _) (.int .i64 1) (.int .i64 (zagI (u : Int))) (.string ⟨#[]⟩)
      have F1 := Lib.hid f1; have F2 := Lib.hid f2
      clear f1 f2 T5 hV5
      go_wp2_with fail
      exact bodyPost_ret (v := .agg #[.int .i64 1, .int .i64 (zagI (u : Int)), .string ⟨#[]⟩]) (results_cell_row rfl _ _ _ _ _ _ _ (by rfl) F1.out Tryd.underlying31 rfl (by kernel_rfl)) rfl ⟨rfl, F2.out⟩
  · by_cases k2 : kf = 2
    · subst k2
      rw [if_neg (by decide), if_pos rfl] at hT
      have hpb := blobS_byteF HBY.out a1 x1 65536
      have HV := Lib.hid fun (W : World) (h : RfS W g b a1 x1) => rblob_is 65536 h (by omega) (by omega)
      obtain ⟨⟨p, a2, x2⟩, hV⟩ : ∃ y, blobS b a1 x1 65536 = y := ⟨_, rfl⟩
      rw [hV] at hT hpb HV
      simp only at hT hpb
      injection hT with hT1 hT2
      injection hT2 with hT2 hT3
      subst hT2 hT3
      have HTV := Lib.hid hT1; have HPB := Lib.hid hpb
      have q1 : ((2 : Int) == 1) = false := rfl
      clear hV hT1 hpb k1
      go_enter Tryd.func8, Tryd.ntmps8
      go_wp2_with fail
      refine HFX.out.mono ?_
      rintro e w1 ⟨rfl, hto1⟩
      have T1 := HT0.out.take hgw hto1
      have T2 := T1.alloc (.cells #[.int .i64 2, .int .i64 0, .string ⟨#[]⟩] 31)
      have hV2 := Blk.new w1 31 #[.int .i64 2, .int .i64 0, .string ⟨#[]⟩]
      have hw1 := T1.res.lt
      clear hto1 T1 HFX HT0
      go_wp2_with fail
      refine (HV.out _ T2.rd).mono ?_
      rintro e w2 ⟨⟨A3, n3, c3, rfl, r3⟩, hto2⟩
      have hcv := text_of c3 r3 HPB.out
      have T3 := T2.take hgw hto2
      have hV3 := blkf_take hV2 (by omega) hto2
      clear hto2 T2 hV2 HV r3
      have p2 := hV3.cell 2
      have z2 := hV3.frozen 2
      simp only [List.getElem?_toArray, List.getElem?_cons_succ, List.getElem?_cons_zero] at p2
      have T5 := T3.store hgw hw1 2 (.string ⟨(tb p).toArray⟩)
      have hV5 := hV3.set_ 2 (.string ⟨(tb p).toArray⟩)
      clear T3 hV3
      obtain ⟨r0, r1, r2⟩ := blk3 T5.res
      have z0 := T5.res.frozen 0; have z1 := T5.res.frozen 1; have z2 := T5.res.frozen 2
      have hV0 := HTV.out
      cases x3 with
      | some y =>
        have hy : y.1 ≠ 0 := T5.rd.2 y rfl
        have hcE : _ = some (Value.int .i64 y.1) := T5.rd.cellE
        have qy : (y.1 != 0) = true := by simpa using hy
        rw [if_neg (by simp)] at hV0
        subst hV0
        obtain ⟨f1, f2⟩ := tkf_fin T5.rd T5.res hgw T5.gr (Nat.le_refl _) (.int .i64 0) (.int .i64 0) (.string ⟨#[]⟩)
        have F1 := Lib.hid f1; have F2 := Lib.hid f2
        clear f1 f2 T5 hV5 hy
        go_wp2_with fail
        exact bodyPost_ret (v := .agg #[.int .i64 0, .int .i64 0, .string ⟨#[]⟩]) (results_cell_row rfl _ _ _ _ _ _ _ (by rfl) F1.out Tryd.underlying31 rfl (by kernel_rfl)) rfl ⟨rfl, F2.out⟩
      | none =>
        have hcE : _ = some (Value.int .i64 0) := T5.rd.cellE
        obtain ⟨p0, p1, p2⟩ := blk3 (show Blk _ _ _ #[.int .i64 2, .int .i64 0, .string ⟨(tb p).toArray⟩] from by simpa using hV5)
        rw [if_pos rfl] at hV0
        subst hV0
        obtain ⟨f1, f2⟩ := tkf_fin T5.rd T5.res hgw T5.gr (Nat.le_refl _) (.int .i64 2) (.int .i64 0) (.string ⟨(tb p).toArray⟩)
        have F1 := Lib.hid f1; have F2 := Lib.hid f2
        clear f1 f2 T5 hV5
        go_wp2_with fail
        exact bodyPost_ret (v := .agg #[.int .i64 2, .int .i64 0, .string ⟨(tb p).toArray⟩]) (results_cell_row rfl _ _ _ _ _ _ _ (by rfl) F1.out Tryd.underlying31 rfl (by kernel_rfl)) rfl ⟨rfl, F2.out⟩
    · rw [if_neg k1, if_neg k2] at hT
      by_cases k3 : 2 < kf
      · rw [if_pos k3] at hT
        injection hT with hT1 hT2
        injection hT2 with hT2 hT3
        have hsome : ∃ y, failS a1 x1 4 = some y := by
          cases x1 with
          | some y => exact ⟨y, rfl⟩
          | none => exact ⟨(4, a1), rfl⟩
        obtain ⟨y, hy⟩ := hsome
        have HV := Lib.hid fun (W : World) (h : RfS W g b a1 x1) => rfail_is 4 h
        rw [hy] at hT3 HV
        subst hT1 hT2 hT3
        have q1 : ((kf : Int) == 1) = false := by simp; omega
        have q2 : ((kf : Int) == 2) = false := by simp; omega
        clear k1 k2 hy
        go_enter Tryd.func8, Tryd.ntmps8
        go_wp2_with fail
        refine HFX.out.mono ?_
        rintro e w1 ⟨rfl, hto1⟩
        have T1 := HT0.out.take hgw hto1
        have T2 := T1.alloc (.cells #[.int .i64 (kf : Int), .int .i64 0, .string ⟨#[]⟩] 31)
        clear hto1 T1 HFX HT0
        go_wp2_with fail
        refine (HV.out _ T2.rd).mono ?_
        rintro e w2 ⟨rfl, hto2⟩
        have T5 := T2.take hgw hto2
        clear hto2 T2 HV
        obtain ⟨r0, r1, r2⟩ := blk3 T5.res
        have z0 := T5.res.frozen 0; have z1 := T5.res.frozen 1; have z2 := T5.res.frozen 2
        have hy : y.1 ≠ 0 := T5.rd.2 y rfl
        have hcE : _ = some (Value.int .i64 y.1) := T5.rd.cellE
        have qy : (y.1 != 0) = true := by simpa using hy
        obtain ⟨f1, f2⟩ := tkf_fin T5.rd T5.res hgw T5.gr (Nat.le_refl _) (.int .i64 0) (.int .i64 0) (.string ⟨#[]⟩)
        have F1 := Lib.hid f1; have F2 := Lib.hid f2
        clear f1 f2 T5 hy
        go_wp2_with fail
        exact bodyPost_ret (v := .agg #[.int .i64 0, .int .i64 0, .string ⟨#[]⟩]) (results_cell_row rfl _ _ _ _ _ _ _ (by rfl) F1.out Tryd.underlying31 rfl (by kernel_rfl)) rfl ⟨rfl, F2.out⟩
      · rw [if_neg k3] at hT
        obtain rfl : kf = 0 := by omega
        injection hT with hT1 hT2
        injection hT2 with hT2 hT3
        subst hT1 hT2 hT3
        have HTV : Hid (((0 : Int), (0 : Int), ([] : Tx)) = if x3 = none then (0, 0, []) else (0, 0, [])) := Lib.hid (by split <;> rfl)
        clear k1 k2
        go_enter Tryd.func8, Tryd.ntmps8
        go_wp2_with fail
        refine HFX.out.mono ?_
        rintro e w1 ⟨rfl, hto1⟩
        have T1 := HT0.out.take hgw hto1
        have T5 := T1.alloc (.cells #[.int .i64 0, .int .i64 0, .string ⟨#[]⟩] 31)
        have hV5 := Blk.new w1 31 #[.int .i64 0, .int .i64 0, .string ⟨#[]⟩]
        clear hto1 T1 HFX HT0
        obtain ⟨r0, r1, r2⟩ := blk3 T5.res
        have z0 := T5.res.frozen 0; have z1 := T5.res.frozen 1; have z2 := T5.res.frozen 2
        cases x3 with
        | some y =>
          have hy : y.1 ≠ 0 := T5.rd.2 y rfl
          have hcE : _ = some (Value.int .i64 y.1) := T5.rd.cellE
          have qy : (y.1 != 0) = true := by simpa using hy
          obtain ⟨f1, f2⟩ := tkf_fin T5.rd T5.res hgw T5.gr (Nat.le_refl _) (.int .i64 0) (.int .i64 0) (.string ⟨#[]⟩)
          have F1 := Lib.hid f1; have F2 := Lib.hid f2
          clear f1 f2 T5 hV5 hy
          go_wp2_with fail
          exact bodyPost_ret (v := .agg #[.int .i64 0, .int .i64 0, .string ⟨#[]⟩]) (results_cell_row rfl _ _ _ _ _ _ _ (by rfl) F1.out Tryd.underlying31 rfl (by kernel_rfl)) rfl ⟨rfl, F2.out⟩
        | none =>
          have hcE : _ = some (Value.int .i64 0) := T5.rd.cellE
          obtain ⟨p0, p1, p2⟩ := blk3 (show Blk _ _ _ #[.int .i64 0, .int .i64 0, .string ⟨#[]⟩] from by simpa using hV5)
          obtain ⟨f1, f2⟩ := tkf_fin T5.rd T5.res hgw T5.gr (Nat.le_refl _) (.int .i64 0) (.int .i64 0) (.string ⟨#[]⟩)
          have F1 := Lib.hid f1; have F2 := Lib.hid f2
          clear f1 f2 T5 hV5
          go_wp2_with fail
          exact bodyPost_ret (v := .agg #[.int .i64 0, .int .i64 0, .string ⟨#[]⟩]) (results_cell_row rfl _ _ _ _ _ _ _ (by rfl) F1.out Tryd.underlying31 rfl (by kernel_rfl)) rfl ⟨rfl, F2.out⟩
end Go.Proofs.YtieknhhhcjdbnaaDoor
