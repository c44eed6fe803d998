/- Texts joined: GwRefPutZ GwRefPutO. -/
import Derived.Test.YtfpbijnlmlaloaaDoorJ38
import Derived.Deep.DrawnRows
/- Contract of the document's put of layer 20, where the proof isn't as long as it has to be. No condition. -/
namespace Go.Proofs.YtfpbijnlmlaloaaDoor
open Go.RowKit
set_option linter.unusedVariables false
set_option linter.unusedSimpArgs false
set_option maxRecDepth 100000

theorem build_none (w : World) (ZB : Array Value) (hz : ∀ w : World, (zeroValue 44).run Tryd.prog w = .ok (.agg ZB) w) :
    (Instr.build 44 #[]).run Tryd.prog w = .ok (.agg ZB) w := by
  have hf : ∀ place zs, Instr.fill place zs [] = some zs := fun place zs => by rw [Instr.fill]
  have h := hz w
  unfold Instr.build
  simp only [Sem.run_bind, h, Result.andThen_ok]
  generalize Instr.fill = F at hf ⊢
  simp [go_sem, Tryd.underlying44, hf]
set_option maxHeartbeats 2000000 in
theorem refPut_zero (m n q c : Nat) (is : Bool) (a : List Nat) (A : Option Addr) (w : World) (ha : a.length = 32) (hcase : (m = n ∧ is = true ∧ q ≠ 1) ∨ (m ≠ n ∧ q = 0)) :
    Calls Tryd.prog 22 #[.int .i64 (m : Int), .int .i64 (n : Int), .agg (bs a).toArray, .slice A q c, .bool is] w fun e w' => e = .returned (.agg (bothV ⟨zD, zD, false⟩).toArray) ∧ Below w.heap.size w w' := by
  have hz := (zero_of_info info_both).1
  have hZV : (bothV ⟨zD, zD, false⟩).toArray = Array.replicate 64 (.int .u8 0) ++ #[.bool false] := by
    have e : bothV ⟨zD, zD, false⟩ = List.replicate 64 (Value.int .u8 0) ++ [Value.bool false] := by kernel_rfl
    rw [e, ← List.toArray_replicate]
    exact (List.append_toArray _ _).symm
  obtain ⟨V, hV, hVs, hVo, hVi⟩ := bothV_ok zD zD false (by decide) (by decide)
  rw [hV] at hZV ⊢
  rw [← hZV] at hz
  have HBN := Lib.hid fun W => build_none W V hz
  have hsz := Lib.hid (zero_of_info info_both).2
  obtain ⟨VD, hVD, hvz, hon, hvi⟩ := hash_ok a ha
  rw [hVD]
  have b0 := (Below.refl w.heap.size w).alloc (Nat.le_refl _) (.cells VD 33)
  obtain ⟨W0, hW0⟩ : ∃ W0, w.alloc (.cells VD 33) = W0 := ⟨_, rfl⟩
  have hs0 : W0.heap.size = w.heap.size + 1 := by rw [← hW0]; simp
  rw [hW0] at b0
  have b1 := b0.alloc (by omega) (.cells V 44)
  have k1 := Blk.new W0 44 V
  obtain ⟨W1, hW1⟩ : ∃ W1, W0.alloc (.cells V 44) = W1 := ⟨_, rfl⟩
  rw [hW1] at k1 b1
  rw [hs0] at k1
  have HK1 := Lib.hid k1; have HB1 := Lib.hid b1; have HVS := Lib.hid hVs; have HVO := Lib.hid hVo; have HVI := Lib.hid hVi
  clear hVD hvz hon hvi b0 b1 k1 hVs hVo hVi hV hZV ha
  rcases hcase with ⟨rfl, rfl, hq⟩ | ⟨hmn, rfl⟩
  · have hq' : ¬ (q : Int) = 1 := by omega
    clear hq
    go_enter Tryd.func22, Tryd.ntmps22
    go_wp2_with (first
      | refine wpList_buildV (by rfl) 44 #[] rfl #[] (by first | rfl | simp [Act.eval]) _ (HBN.out _) ?_
      | (refine wpList_store_row (by rfl) (.tmp 10) (.tmp 29) (by rfl) (by rfl) (by rfl) HK1.out HVI.out (by rw [HVS.out]) HVO.out ?_))
    refine bodyPost_ret (v := .agg V) (results_cell_row rfl _ _ _ _ _ _ _ (by rfl) (HK1.out.row V) Tryd.underlying44 rfl HVI.out) rfl ⟨rfl, Below.row HB1.out (by omega) _⟩
  · have hmn' : ¬ (m : Int) = (n : Int) := by omega
    clear hmn
    go_enter Tryd.func22, Tryd.ntmps22
    go_wp2_with (first
      | refine wpList_buildV (by rfl) 44 #[] rfl #[] (by first | rfl | simp [Act.eval]) _ (HBN.out _) ?_
      | (refine wpList_store_row (by rfl) (.tmp 10) (.tmp 40) (by rfl) (by rfl) (by rfl) HK1.out HVI.out (by rw [HVS.out]) HVO.out ?_))
    refine bodyPost_ret (v := .agg V) (results_cell_row rfl _ _ _ _ _ _ _ (by rfl) (HK1.out.row V) Tryd.underlying44 rfl HVI.out) rfl ⟨rfl, Below.row HB1.out (by omega) _⟩
end Go.Proofs.YtfpbijnlmlaloaaDoor

/- Contract of the document's put of layer 20, where one digest is left: the part's root. No condition. -/
namespace Go.Proofs.YtfpbijnlmlaloaaDoor
open Go.RowKit
set_option linter.unusedVariables false
set_option linter.unusedSimpArgs false
set_option maxRecDepth 100000
attribute [local go_sem ↓] Go.wp_at_zero Go.wp_at_succ

theorem wp_buildV {P : Program} {o : Oper} {a : Act} {w : World} {K : Act → World → Prop} {Q : Exit → Act → World → Prop} (t : TypeId) (parts : Array (Nat × Operand)) (ho : o.op = .build t parts)
    (vs : Array (Nat × Value)) (hp : parts.map (fun (i, x) => (i, a.eval x)) = vs) (V : Value) (hv : (Instr.build t vs).run P w = .ok V w) (h : K (a.put o.dst V) w) : o.wp P a w K Q := by
  unfold Oper.wp execOp
  simp only [ho, hp, Sem.run_bind, hv, Result.andThen_ok, Sem.run_pure]
  exact h
set_option maxHeartbeats 2000000 in
theorem refPut_one (n c : Nat) (a d : List Nat) (A : Option Addr) (w : World) (ha : a.length = 32) (hd : Dg [d]) (hat : HsAt w A [d]) :
    Calls Tryd.prog 22 #[.int .i64 (n : Int), .int .i64 (n : Int), .agg (bs a).toArray, .slice A 1 c, .bool true] w fun e w' => e = .returned (.agg (bothV ⟨d, d, true⟩).toArray) ∧ Below w.heap.size w w' := by
  have hd32 := (hd d (by simp)).1
  have hz := (zero_of_info info_both).1
  obtain ⟨ZB, hZB⟩ : ∃ ZB : Array Value, Array.replicate 64 (.int .u8 0) ++ #[.bool false] = ZB := ⟨_, rfl⟩
  rw [hZB] at hz
  have hZS : ZB.size = 65 := by rw [← hZB]; simp
  have hsz := Lib.hid (zero_of_info info_both).2
  obtain ⟨V, hV, hVs, hVo, hVi⟩ := bothV_ok d d true hd32 hd32
  obtain ⟨VD, hVD, hvz, hon, hvi⟩ := hash_ok a ha
  obtain ⟨VE, hVE, hez, heo, hei⟩ := hash_ok d hd32
  have hbd : ∀ W, (Instr.build 44 #[(0, .agg VE), (1, .agg VE), (2, .bool true)]).run Tryd.prog W = .ok (.agg V) W := fun W => by
    rw [build_both W VE VE _ hez hez, ← hV, ← hVE]
    rfl
  rw [hVD, hV]
  have b0 := (Below.refl w.heap.size w).alloc (Nat.le_refl _) (.cells VD 33)
  obtain ⟨W0, hW0⟩ : ∃ W0, w.alloc (.cells VD 33) = W0 := ⟨_, rfl⟩
  have hs0 : W0.heap.size = w.heap.size + 1 := by rw [← hW0]; simp
  rw [hW0] at b0
  have b1 := b0.alloc (by omega) (.cells ZB 44)
  have k1 := Blk.new W0 44 ZB
  obtain ⟨W1, hW1⟩ : ∃ W1, W0.alloc (.cells ZB 44) = W1 := ⟨_, rfl⟩
  rw [hW1] at k1 b1
  rw [hs0] at k1
  obtain ⟨b, o, rfl, hbl, hrr0⟩ := hat.at_ hd (k := 0) (d := d) rfl
  rw [Nat.zero_mul, Nat.add_zero] at hrr0
  have hrr : W1.rangeAt b o (bs d) := fun j v hv => (b1.cell (p := ⟨b, o + j, none⟩) hbl).trans (hrr0 j v hv)
  have HRR := Lib.hid hrr; have HVE := Lib.hid hVE; have HI := Lib.hid (hash_size d hd32)
  have HK1 := Lib.hid k1.drew; have HB1 := Lib.hid (Below.drew b1); have HZS := Lib.hid hZS; have HVS := Lib.hid hVs; have HVO := Lib.hid hVo; have HVI := Lib.hid hVi
  have HBD := Lib.hid hbd
  clear hVD k1 hZS hvz hon hvi b0 b1 hVs hVo hVi hV hZB ha hbd hat hrr hrr0 hd hVE hez heo hei
  go_enter Tryd.func22, Tryd.ntmps22
  go_upto_region 6 with fail
  try clear hW0 hW1
  refine wp_region_noPanic ?_
  refine wp_region_held_drew (S := fun w' => w'.rangeAt b o (bs d)) (by kernel_rfl) (by rw [World.rangeAt_drew]; exact HRR.out) (fun hHeld => ?_)
  refine wpAnyH_take (i := 0) (oi := { dst := some 30, op := Go.Op.move (Go.Operand.tmp 3), type := 25, pos := "ref.go:47", after := #[], guard := none }) (v := ?_) rfl (by kernel_rfl) (by kernel_rfl) (by kernel_rfl) (fun _ _ _ => np) (Or.inl ⟨by rfl, ?_⟩) (by assumption) ?_
  rotate_left
  · (intro _ hSw; (try dsimp only at hSw); clear hSw; go_simp; try with_reducible rfl)
  try simp only [Act.put, List.setIfInBounds_toArray, List.set_cons_zero, List.set_cons_succ]
  refine wpAnyH_take (i := 1) (oi := { dst := some 31, op := Go.Op.indexAddr 25 (Go.Operand.tmp 30) (Go.Operand.const (Go.Value.int Go.IntKind.i64 0)), type := 0, pos := "ref.go:47", after := #[{ on := 0, ground := Go.Ground.data }], guard := none }) (v := ?_) rfl (by kernel_rfl) (by kernel_rfl) (by kernel_rfl) (fun _ _ _ => np) (Or.inl ⟨by rfl, ?_⟩) (by assumption) ?_
  rotate_left
  · (intro _ hSw; (try dsimp only at hSw); clear hSw; go_simp; try with_reducible rfl)
  try simp only [Act.put, List.setIfInBounds_toArray, List.set_cons_zero, List.set_cons_succ]
  refine wpAnyH_take (i := 2) (oi := { dst := some 32, op := Go.Op.load 33 (Go.Operand.tmp 31), type := 33, pos := "ref.go:47", after := #[{ on := 1, ground := Go.Ground.data }], guard := none }) (v := .agg VE) rfl (by kernel_rfl) (by kernel_rfl) (by kernel_rfl) (fun _ _ _ => np) (yieldsIf_loadX (by rfl) 33 (.tmp 31) rfl b o rfl (bs d) VE HVE.out _ (fun w' hS => hS) Tryd.underlying33 rfl HI.out) (by assumption) ?_
  try simp only [Act.put, List.setIfInBounds_toArray, List.set_cons_zero, List.set_cons_succ]
  refine wpAnyH_take (i := 3) (oi := { dst := some 33, op := Go.Op.move (Go.Operand.tmp 3), type := 25, pos := "ref.go:47", after := #[], guard := none }) (v := ?_) rfl (by kernel_rfl) (by kernel_rfl) (by kernel_rfl) (fun _ _ _ => np) (Or.inl ⟨by rfl, ?_⟩) (by assumption) ?_
  rotate_left
  · (intro _ hSw; (try dsimp only at hSw); clear hSw; go_simp; try with_reducible rfl)
  try simp only [Act.put, List.setIfInBounds_toArray, List.set_cons_zero, List.set_cons_succ]
  refine wpAnyH_take (i := 4) (oi := { dst := some 34, op := Go.Op.indexAddr 25 (Go.Operand.tmp 33) (Go.Operand.const (Go.Value.int Go.IntKind.i64 0)), type := 0, pos := "ref.go:47", after := #[{ on := 3, ground := Go.Ground.data }], guard := none }) (v := ?_) rfl (by kernel_rfl) (by kernel_rfl) (by kernel_rfl) (fun _ _ _ => np) (Or.inl ⟨by rfl, ?_⟩) (by assumption) ?_
  rotate_left
  · (intro _ hSw; (try dsimp only at hSw); clear hSw; go_simp; try with_reducible rfl)
  try simp only [Act.put, List.setIfInBounds_toArray, List.set_cons_zero, List.set_cons_succ]
  refine wpAnyH_take (i := 5) (oi := { dst := some 35, op := Go.Op.load 33 (Go.Operand.tmp 34), type := 33, pos := "ref.go:47", after := #[{ on := 4, ground := Go.Ground.data }], guard := none }) (v := .agg VE) rfl (by kernel_rfl) (by kernel_rfl) (by kernel_rfl) (fun _ _ _ => np) (yieldsIf_loadX (by rfl) 33 (.tmp 34) rfl b o rfl (bs d) VE HVE.out _ (fun w' hS => hS) Tryd.underlying33 rfl HI.out) (by assumption) ?_
  try simp only [Act.put, List.setIfInBounds_toArray, List.set_cons_zero, List.set_cons_succ]
  refine wpAnyH_ready (rs := [6]) (by kernel_rfl) (by simp) ?_
  refine AllReadyH.cons rfl (fun K hK => ?_) AllReadyH.nil
  refine wp_buildV 44 #[(0, .tmp 32), (1, .tmp 35), (2, .const (.bool true))] rfl #[(0, .agg VE), (1, .agg VE), (2, .bool true)] (by first | rfl | simp [Act.eval]) _ (HBD.out _) ?_
  refine hK.out _ _ (hHeld) (fun hHeld => ?_)
  clear hK K
  try simp only [Act.put, List.setIfInBounds_toArray, List.set_cons_zero, List.set_cons_succ]
  have hst := run_storeCells_row (P := Tryd.prog) HK1.out (cs' := V) HVI.out (by rw [HVS.out, HZS.out]) HVO.out
  have hvv := HVS.out
  refine wpAnyH_ready (rs := [7]) (by kernel_rfl) (by simp) ?_
  refine AllReadyH.cons rfl (fun K hK => ?_) AllReadyH.nil
  go_simp
  refine hK.out _ _ (fun j v hv => (World.cell?_of_block (a := ⟨b, o + j, none⟩) (setRow_other W1.drew (w.heap.size + 1) b V (by omega))).trans (HRR.out j v hv)) (fun hHeld => ?_)
  clear hK K hst
  refine wpAnyH_done (by kernel_rfl) ?_ _
  refine NoPanic.normal ?_
  go_wp2_with fail
  refine bodyPost_ret (v := .agg V) (results_cell_row rfl _ _ _ _ _ _ _ (by rfl) (HK1.out.row V) Tryd.underlying44 rfl HVI.out) rfl ⟨rfl, Below.row HB1.out (by omega) _⟩
end Go.Proofs.YtfpbijnlmlaloaaDoor
