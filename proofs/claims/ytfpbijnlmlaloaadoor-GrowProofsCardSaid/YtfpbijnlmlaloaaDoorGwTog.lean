/- Package grow's struct that goes up (two digests): built whole; contract of grow's together, where nothing is left to be put together. No condition. -/
import Derived.Test.YtfpbijnlmlaloaaDoorJ13
import Derived.Test.YtfpbijnlmlaloaaDoorJ39
namespace Go.Proofs.YtfpbijnlmlaloaaDoor
open Go.RowKit
set_option linter.unusedVariables false
set_option linter.unusedSimpArgs false
set_option maxRecDepth 100000
attribute [local go_sem ↓] Go.wp_at_zero Go.wp_at_succ

theorem info_roots : (Tryd.prog.info? 41).map (fun i => (i.zero, i.size)) = some (some (.agg (Array.replicate 64 (.int .u8 0))), 64) := by kernel_rfl
def rootsV (o n : List Nat) : List Value := bs o ++ bs n
theorem fill_roots (X Y : Array Value) (zs : List Value) (hX : X.size = 32) (hY : Y.size = 32) (hzs : zs.length = 64) (place : Nat → Option (Nat × Nat)) (p0 : place 0 = some (0, 32)) (p1 : place 1 = some (32, 32)) :
    Instr.fill place zs.toArray [(0, .agg X), (1, .agg Y)] = some (X.toList ++ Y.toList).toArray := by
  have lX : X.toList.length = 32 := by simpa using hX
  have lY : Y.toList.length = 32 := by simpa using hY
  have e1 : zs.take 0 ++ X.toList ++ zs.drop (0 + 32) = X.toList ++ zs.drop 32 := by simp
  have e2 : (X.toList ++ zs.drop 32).take 32 ++ Y.toList ++ (X.toList ++ zs.drop 32).drop (32 + 32) = X.toList ++ Y.toList := by
    rw [List.take_left' lX, List.drop_append, lX, List.drop_of_length_le (by omega), List.nil_append, List.drop_drop, List.drop_of_length_le (l := zs) (by omega), List.append_nil]
  rw [fill_step place zs 0 0 32 (.agg X) _ p0 hX (by omega)]
  show Instr.fill place (zs.take 0 ++ X.toList ++ zs.drop (0 + 32)).toArray _ = _
  rw [e1, fill_step place _ 1 32 32 (.agg Y) _ p1 hY (by rw [List.length_append, lX, List.length_drop]; omega)]
  show Instr.fill place ((X.toList ++ zs.drop 32).take 32 ++ Y.toList ++ (X.toList ++ zs.drop 32).drop (32 + 32)).toArray [] = _
  rw [e2, Instr.fill]
theorem build_roots (w : World) (X Y : Array Value) (hX : X.size = 32) (hY : Y.size = 32) :
    (Instr.build 41 #[(0, .agg X), (1, .agg Y)]).run Tryd.prog w = .ok (.agg (X.toList ++ Y.toList).toArray) w := by
  have hz := (zero_of_info info_roots).1 w
  obtain ⟨zs, hzs⟩ : ∃ zs, List.replicate 64 (Value.int .u8 0) = zs := ⟨_, rfl⟩
  have hzl : zs.length = 64 := by rw [← hzs, List.length_replicate]
  have hlist : Array.replicate 64 (Value.int .u8 0) = zs.toArray := by rw [← hzs, ← List.toArray_replicate]
  rw [hlist] at hz
  clear hzs hlist
  unfold Instr.build
  simp only [Sem.run_bind, hz, Result.andThen_ok]
  have hf := fun place p0 p1 => fill_roots X Y zs hX hY hzl place p0 p1
  show ((Sem.run Tryd.prog (underlying 41) w).andThen _) = _
  generalize Instr.fill = F at hf ⊢
  simp [go_sem, Tryd.underlying41, hf]
theorem rootsV_ok (o n : List Nat) (ho : o.length = 32) (hn : n.length = 32) : ∃ V : Array Value, (rootsV o n).toArray = V ∧ V.size = 64 ∧ V.all (·.oneCell') = true ∧ (Tryd.prog.info? 41).map (·.size) = some V.size := by
  have hl : (rootsV o n).length = 64 := by simp [rootsV, bs_length, ho, hn]
  refine ⟨_, rfl, by rw [List.size_toArray]; exact hl, all_oneCell_toArray fun v hv => ?_, by rw [List.size_toArray, hl]; exact (zero_of_info info_roots).2⟩
  unfold rootsV at hv
  rcases List.mem_append.1 hv with hv | hv
  · exact bs_one _ v hv
  · exact bs_one _ v hv
/-- What together answers: two roots. -/
def RootsTo (w : World) (o n : List Nat) (e : Ending) (w' : World) : Prop := e = .returned (.agg (rootsV o n).toArray) ∧ Below w.heap.size w w'
set_option maxHeartbeats 2000000 in
theorem tog_whole (n c : Nat) (a : List Nat) (A : Option Addr) (w : World) (ha : a.length = 32) :
    Calls Tryd.prog 20 #[.int .i64 (n : Int), .int .i64 (n : Int), .agg (bs a).toArray, .slice A 0 c] w (RootsTo w a a) := by
  have hz := (zero_of_info info_roots).1
  obtain ⟨ZB, hZB⟩ : ∃ ZB : Array Value, Array.replicate 64 (.int .u8 0) = ZB := ⟨_, rfl⟩
  rw [hZB] at hz
  have hZS : ZB.size = 64 := by rw [← hZB]; simp
  have hsz := Lib.hid (zero_of_info info_roots).2
  obtain ⟨V, hV, hVs, hVo, hVi⟩ := rootsV_ok a a ha ha
  obtain ⟨VD, hVD, hvz, hon, hvi⟩ := hash_ok a ha
  have hbd : ∀ W, (Instr.build 41 #[(0, .agg VD), (1, .agg VD)]).run Tryd.prog W = .ok (.agg V) W := fun W => by
    rw [build_roots W VD VD hvz hvz, ← hV, ← hVD]
    rfl
  unfold RootsTo
  rw [hVD, hV]
  have k0 := Blk.new w 33 VD
  have b0 := (Below.refl w.heap.size w).alloc (Nat.le_refl _) (.cells VD 33)
  obtain ⟨W0, hW0⟩ : ∃ W0, w.alloc (.cells VD 33) = W0 := ⟨_, rfl⟩
  have hs0 : W0.heap.size = w.heap.size + 1 := by rw [← hW0]; simp
  rw [hW0] at k0 b0
  have b1 := b0.alloc (by omega) (.cells ZB 41)
  have k01 := k0.alloc (.cells ZB 41)
  have k1 := Blk.new W0 41 ZB
  obtain ⟨W1, hW1⟩ : ∃ W1, W0.alloc (.cells ZB 41) = W1 := ⟨_, rfl⟩
  rw [hW1] at k01 k1 b1
  rw [hs0] at k1
  have hrd : W1.rangeAt w.heap.size 0 (bs a) := by rw [← hVD] at k01; exact k01.range
  have HRD := Lib.hid hrd; have HVD := Lib.hid hVD; have HI := Lib.hid (hash_size a ha)
  have HK1 := Lib.hid k1; have HB1 := Lib.hid b1; have HZS := Lib.hid hZS; have HVS := Lib.hid hVs; have HVO := Lib.hid hVo; have HVI := Lib.hid hVi
  have HBD := Lib.hid (hbd W1)
  clear hrd hVD k0 k01 k1 hZS hvz hon hvi b0 b1 hVs hVo hVi hV hZB ha hbd
  go_enter Tryd.func20, Tryd.ntmps20
  go_wp2_with (first
    | refine wpList_buildV (by rfl) 41 #[(0, .tmp 21), (1, .tmp 22)] rfl #[(0, .agg VD), (1, .agg VD)] (by first | rfl | (simp [Act.eval, Act.put]; done) | simp [Act.eval]) _ HBD.out ?_
    | refine wpQ_load (by rfl) 33 (.tmp 6) rfl w.heap.size 0 rfl (bs a) VD HVD.out _ HRD.out Tryd.underlying33 rfl HI.out ?_
    | (refine wpList_store_row (by rfl) (.tmp 8) (.tmp 23) (by rfl) (by rfl) (by rfl) HK1.out HVI.out (by rw [HVS.out, HZS.out]) HVO.out ?_))
  refine bodyPost_ret (v := .agg V) (results_cell_row rfl _ _ _ _ _ _ _ (by rfl) (HK1.out.row V) Tryd.underlying41 rfl HVI.out) rfl ⟨rfl, Below.row HB1.out (by omega) _⟩
set_option maxHeartbeats 2000000 in
theorem tog_one (n c : Nat) (a d : List Nat) (A : Option Addr) (w : World) (ha : a.length = 32) (hd : Dg [d]) (hat : HsAt w A [d]) :
    Calls Tryd.prog 20 #[.int .i64 (n : Int), .int .i64 (n : Int), .agg (bs a).toArray, .slice A 1 c] w (RootsTo w d d) := by
  have hd32 := (hd d (by simp)).1
  have hz := (zero_of_info info_roots).1
  obtain ⟨ZB, hZB⟩ : ∃ ZB : Array Value, Array.replicate 64 (.int .u8 0) = ZB := ⟨_, rfl⟩
  rw [hZB] at hz
  have hZS : ZB.size = 64 := by rw [← hZB]; simp
  have hsz := Lib.hid (zero_of_info info_roots).2
  obtain ⟨V, hV, hVs, hVo, hVi⟩ := rootsV_ok d d hd32 hd32
  obtain ⟨VD, hVD, hvz, hon, hvi⟩ := hash_ok a ha
  obtain ⟨VE, hVE, hez, heo, hei⟩ := hash_ok d hd32
  have hbd : ∀ W, (Instr.build 41 #[(0, .agg VE), (1, .agg VE)]).run Tryd.prog W = .ok (.agg V) W := fun W => by
    rw [build_roots W VE VE hez hez, ← hV, ← hVE]
    rfl
  unfold RootsTo
  rw [hVD, hV]
  have b0 := (Below.refl w.heap.size w).alloc (Nat.le_refl _) (.cells VD 33)
  obtain ⟨W0, hW0⟩ : ∃ W0, w.alloc (.cells VD 33) = W0 := ⟨_, rfl⟩
  have hs0 : W0.heap.size = w.heap.size + 1 := by rw [← hW0]; simp
  rw [hW0] at b0
  have b1 := b0.alloc (by omega) (.cells ZB 41)
  have k1 := Blk.new W0 41 ZB
  obtain ⟨W1, hW1⟩ : ∃ W1, W0.alloc (.cells ZB 41) = W1 := ⟨_, rfl⟩
  rw [hW1] at k1 b1
  rw [hs0] at k1
  obtain ⟨b, o, rfl, hbl, hrr0⟩ := hat.at_ hd (k := 0) (d := d) rfl
  rw [Nat.zero_mul, Nat.add_zero] at hrr0
  have hrr : W1.rangeAt b o (bs d) := fun j v hv => (b1.cell (p := ⟨b, o + j, none⟩) hbl).trans (hrr0 j v hv)
  have HRR := Lib.hid hrr; have HVE := Lib.hid hVE; have HI := Lib.hid (hash_size d hd32)
  have HK1 := Lib.hid k1.drew; have HB1 := Lib.hid (Below.drew b1); have HZS := Lib.hid hZS; have HVS := Lib.hid hVs; have HVO := Lib.hid hVo; have HVI := Lib.hid hVi
  have HBD := Lib.hid hbd
  clear hVD k1 hZS hvz hon hvi b0 b1 hVs hVo hVi hV hZB ha hbd hat hrr hrr0 hd hVE hez heo hei
  go_enter Tryd.func20, Tryd.ntmps20
  go_upto_region 4 with fail
  try clear hW0 hW1
  refine wp_region_noPanic ?_
  refine wp_region_held_drew (S := fun w' => w'.rangeAt b o (bs d)) (by kernel_rfl) (by rw [World.rangeAt_drew]; exact HRR.out) (fun hHeld => ?_)
  refine wpAnyH_take (i := 0) (oi := { dst := some 24, op := Go.Op.move (Go.Operand.tmp 3), type := 25, pos := "grow.go:78", after := #[], guard := none }) (v := ?_) rfl (by kernel_rfl) (by kernel_rfl) (by kernel_rfl) (fun _ _ _ => np) (Or.inl ⟨by rfl, ?_⟩) (by assumption) ?_
  rotate_left
  · (intro _ hSw; (try dsimp only at hSw); clear hSw; go_simp; try with_reducible rfl)
  try simp only [Act.put, List.setIfInBounds_toArray, List.set_cons_zero, List.set_cons_succ]
  refine wpAnyH_take (i := 1) (oi := { dst := some 25, op := Go.Op.indexAddr 25 (Go.Operand.tmp 24) (Go.Operand.const (Go.Value.int Go.IntKind.i64 0)), type := 0, pos := "grow.go:78", after := #[{ on := 0, ground := Go.Ground.data }], guard := none }) (v := ?_) rfl (by kernel_rfl) (by kernel_rfl) (by kernel_rfl) (fun _ _ _ => np) (Or.inl ⟨by rfl, ?_⟩) (by assumption) ?_
  rotate_left
  · (intro _ hSw; (try dsimp only at hSw); clear hSw; go_simp; try with_reducible rfl)
  try simp only [Act.put, List.setIfInBounds_toArray, List.set_cons_zero, List.set_cons_succ]
  refine wpAnyH_take (i := 2) (oi := { dst := some 26, op := Go.Op.load 33 (Go.Operand.tmp 25), type := 33, pos := "grow.go:78", after := #[{ on := 1, ground := Go.Ground.data }], guard := none }) (v := .agg VE) rfl (by kernel_rfl) (by kernel_rfl) (by kernel_rfl) (fun _ _ _ => np) (yieldsIf_loadX (by rfl) 33 (.tmp 25) rfl b o rfl (bs d) VE HVE.out _ (fun w' hS => hS) Tryd.underlying33 rfl HI.out) (by assumption) ?_
  try simp only [Act.put, List.setIfInBounds_toArray, List.set_cons_zero, List.set_cons_succ]
  refine wpAnyH_take (i := 3) (oi := { dst := some 27, op := Go.Op.move (Go.Operand.tmp 3), type := 25, pos := "grow.go:78", after := #[], guard := none }) (v := ?_) rfl (by kernel_rfl) (by kernel_rfl) (by kernel_rfl) (fun _ _ _ => np) (Or.inl ⟨by rfl, ?_⟩) (by assumption) ?_
  rotate_left
  · (intro _ hSw; (try dsimp only at hSw); clear hSw; go_simp; try with_reducible rfl)
  try simp only [Act.put, List.setIfInBounds_toArray, List.set_cons_zero, List.set_cons_succ]
  refine wpAnyH_take (i := 4) (oi := { dst := some 28, op := Go.Op.indexAddr 25 (Go.Operand.tmp 27) (Go.Operand.const (Go.Value.int Go.IntKind.i64 0)), type := 0, pos := "grow.go:78", after := #[{ on := 3, ground := Go.Ground.data }], guard := none }) (v := ?_) rfl (by kernel_rfl) (by kernel_rfl) (by kernel_rfl) (fun _ _ _ => np) (Or.inl ⟨by rfl, ?_⟩) (by assumption) ?_
  rotate_left
  · (intro _ hSw; (try dsimp only at hSw); clear hSw; go_simp; try with_reducible rfl)
  try simp only [Act.put, List.setIfInBounds_toArray, List.set_cons_zero, List.set_cons_succ]
  refine wpAnyH_take (i := 5) (oi := { dst := some 29, op := Go.Op.load 33 (Go.Operand.tmp 28), type := 33, pos := "grow.go:78", after := #[{ on := 4, ground := Go.Ground.data }], guard := none }) (v := .agg VE) rfl (by kernel_rfl) (by kernel_rfl) (by kernel_rfl) (fun _ _ _ => np) (yieldsIf_loadX (by rfl) 33 (.tmp 28) rfl b o rfl (bs d) VE HVE.out _ (fun w' hS => hS) Tryd.underlying33 rfl HI.out) (by assumption) ?_
  try simp only [Act.put, List.setIfInBounds_toArray, List.set_cons_zero, List.set_cons_succ]
  refine wpAnyH_ready (rs := [6]) (by kernel_rfl) (by simp) ?_
  refine AllReadyH.cons rfl (fun K hK => ?_) AllReadyH.nil
  refine wp_buildV 41 #[(0, .tmp 26), (1, .tmp 29)] rfl #[(0, .agg VE), (1, .agg VE)] (by first | rfl | simp [Act.eval]) _ (HBD.out _) ?_
  refine hK.out _ _ (hHeld) (fun hHeld => ?_)
  clear hK K
  try simp only [Act.put, List.setIfInBounds_toArray, List.set_cons_zero, List.set_cons_succ]
  have hst := run_storeCells_row (P := Tryd.prog) HK1.out (cs' := V) HVI.out (by rw [HVS.out, HZS.out]) HVO.out
  have hvv := HVS.out
  refine wpAnyH_ready (rs := [7]) (by kernel_rfl) (by simp) ?_
  refine AllReadyH.cons rfl (fun K hK => ?_) AllReadyH.nil
  go_simp
  refine hK.out _ _ (fun j v hv => (World.cell?_of_block (a := ⟨b, o + j, none⟩) (setRow_other W1.drew (w.heap.size + 1) b V (by omega))).trans (HRR.out j v hv)) (fun hHeld => ?_)
  clear hK K hst
  refine wpAnyH_done (by kernel_rfl) ?_ _
  refine NoPanic.normal ?_
  go_wp2_with fail
  refine bodyPost_ret (v := .agg V) (results_cell_row rfl _ _ _ _ _ _ _ (by rfl) (HK1.out.row V) Tryd.underlying41 rfl HVI.out) rfl ⟨rfl, Below.row HB1.out (by omega) _⟩
end Go.Proofs.YtfpbijnlmlaloaaDoor
