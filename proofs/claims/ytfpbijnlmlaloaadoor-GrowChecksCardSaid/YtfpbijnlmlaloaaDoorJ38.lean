/- Texts joined: GwProof GwRefProof FillS GwBoth GwRefPutA. -/
import Derived.Test.YtfpbijnlmlaloaaDoorGwProofOf
import Derived.Test.YtfpbijnlmlaloaaDoorGwRefPart
import Derived.Test.YtfpbijnlmlaloaaDoorJ35
/- Contract of package grow's Proof. No condition. -/
namespace Go.Proofs.YtfpbijnlmlaloaaDoor
open Go.RowKit
set_option linter.unusedVariables false
set_option linter.unusedSimpArgs false
set_option maxRecDepth 100000

/-- Digests in new memory, and whether there is that. -/
def NewHB (w : World) (ds : List (List Nat)) (e : Ending) (w' : World) : Prop := ∃ v, e = .returned (.tuple #[v, .bool true]) ∧ w'.ownsRow w.heap.size 33 32 v ds.length (bs ds.flatten) ∧ Below w.heap.size w w'
theorem gwProof_yes (N m : Nat) (ls : List (List Nat)) (A : Option Addr) (c : Nat) (w : World) (hN : ls.length = N) (hm : m ≤ N) (hmax : N ≤ 1000) (hp : LC w A ls) (hbt : ∀ l ∈ ls, ∀ b ∈ l, b < 256) (hlong : ∀ l ∈ ls, l.length ≤ 1000000) (hc : N ≤ c) (ht : ShTab w) :
    Calls Tryd.prog 8 #[.slice A N c, .int .i64 (m : Int)] w (NewHB w (proofD ls m)) := by
  have n1 : ¬ (m : Int) < 0 := by omega
  have n2 : ¬ (N : Int) < (m : Int) := by omega
  by_cases h0 : m = 0
  · subst h0
    clear hp
    go_enter Tryd.func8, Tryd.ntmps8
    go_wp2_with fail
    go_ret2
    exact ⟨_, rfl, own_nil _ _ _ _, Below.refl _ _⟩
  · have HP := Lib.hid (proofOf_any N ls m false A c w hN (by omega) hm hmax hp hbt hlong hc ht)
    have hpr : proofD ls m = partD ls m false := by unfold proofD; rw [if_neg h0]
    rw [hpr]
    obtain ⟨ps, hps⟩ : ∃ ps, partD ls m false = ps := ⟨_, rfl⟩
    rw [hps] at HP ⊢
    have h0' : ¬ (m : Int) = 0 := by omega
    clear hp hbt hlong hpr hps
    go_enter Tryd.func8, Tryd.ntmps8
    go_wp2_with fail
    refine HP.out.mono ?_
    rintro e w1 ⟨v, rfl, ho, hb⟩
    have HO := Lib.hid ho; have HB := Lib.hid hb
    clear ho hb
    go_wp2_with fail
    go_ret2
    exact ⟨v, rfl, HO.out, HB.out⟩
theorem gwProof_no (N : Nat) (m : Int) (A : Option Addr) (c : Nat) (w : World) (hm : m < 0 ∨ (N : Int) < m) :
    Calls Tryd.prog 8 #[.slice A N c, .int .i64 m] w fun e w' => e = .returned (.tuple #[.slice none 0 0, .bool false]) ∧ w = w' := by
  by_cases h : m < 0
  · clear hm
    go_enter Tryd.func8, Tryd.ntmps8
    go_wp2_with fail
    go_ret2
    exact ⟨rfl, rfl⟩
  · have h2 : (N : Int) < m := by omega
    clear hm
    go_enter Tryd.func8, Tryd.ntmps8
    go_wp2_with fail
    go_ret2
    exact ⟨rfl, rfl⟩
end Go.Proofs.YtfpbijnlmlaloaaDoor

/- Contract of the document's Proof of layer 20. No condition. -/
namespace Go.Proofs.YtfpbijnlmlaloaaDoor
open Go.RowKit
set_option linter.unusedVariables false
set_option linter.unusedSimpArgs false
set_option maxRecDepth 100000

theorem refProof_any (N m : Nat) (ls : List (List Nat)) (A : Option Addr) (c : Nat) (w : World) (hN : ls.length = N) (hm : m ≤ N) (hmax : N ≤ 1000) (hp : LC w A ls) (hbt : ∀ l ∈ ls, ∀ b ∈ l, b < 256) (hlong : ∀ l ∈ ls, l.length ≤ 1000000) (hc : N ≤ c) :
    Calls Tryd.prog 11 #[.slice A N c, .int .i64 (m : Int)] w (NewH w (proofD ls m)) := by
  by_cases h0 : m = 0
  · subst h0
    clear hp
    go_enter Tryd.func11, Tryd.ntmps11
    go_wp2_with fail
    go_ret
    exact ⟨_, rfl, own_nil _ _ _ _, Below.refl _ _⟩
  · have HP := Lib.hid (refPart_any N ls m false A c w hN (by omega) hm hmax hp hbt hlong hc)
    have hpr : proofD ls m = partD ls m false := by unfold proofD; rw [if_neg h0]
    rw [hpr]
    obtain ⟨ps, hps⟩ : ∃ ps, partD ls m false = ps := ⟨_, rfl⟩
    rw [hps] at HP ⊢
    have h0' : ¬ (m : Int) = 0 := by omega
    clear hp hbt hlong hpr hps
    go_enter Tryd.func11, Tryd.ntmps11
    go_wp2_with fail
    refine HP.out.mono ?_
    rintro e w1 ⟨v, rfl, ho, hb⟩
    have HO := Lib.hid ho; have HB := Lib.hid hb
    clear ho hb
    go_wp2_with fail
    go_ret
    exact ⟨v, rfl, HO.out, HB.out⟩
end Go.Proofs.YtfpbijnlmlaloaaDoor

/- A struct that is built of whole parts: one step of filling, whatever the part's size. No program; no condition. -/
namespace Go.Proofs.YtfpbijnlmlaloaaDoor
open Go.RowKit
set_option linter.unusedVariables false
set_option linter.unusedSimpArgs false

theorem fill_step (place : Nat → Option (Nat × Nat)) (cells : List Value) (i off size : Nat) (v : Value) (rest : List (Nat × Value)) (hp : place i = some (off, size)) (hs : v.cells.size = size) (hc : off + size ≤ cells.length) :
    Instr.fill place cells.toArray ((i, v) :: rest) = Instr.fill place (cells.take off ++ v.cells.toList ++ cells.drop (off + size)).toArray rest := by
  rw [Instr.fill]
  simp only [hp]
  rw [if_neg (by simp [hs]; omega)]
  congr 1
  have h1 := fold_setT off v.cells.toList 0 cells.toArray (by simp [hs]; omega)
  simp only [Nat.add_zero, Array.length_toList, hs] at h1
  rw [← Array.foldl_toList, Array.toList_zipIdx]
  exact h1
end Go.Proofs.YtfpbijnlmlaloaaDoor

/- The document's struct of layer 20 that goes up (two digests and a bool): built whole. No condition. -/
namespace Go.Proofs.YtfpbijnlmlaloaaDoor
open Go.RowKit
set_option linter.unusedVariables false
set_option linter.unusedSimpArgs false
set_option maxRecDepth 100000

theorem info_both : (Tryd.prog.info? 44).map (fun i => (i.zero, i.size)) = some (some (.agg (Array.replicate 64 (.int .u8 0) ++ #[.bool false])), 65) := by kernel_rfl
def bothV (x : Both) : List Value := bs x.old ++ bs x.new ++ [.bool x.ok]
theorem fill_both (X Y : Array Value) (b : Bool) (zs : List Value) (hX : X.size = 32) (hY : Y.size = 32) (hzs : zs.length = 65) (place : Nat → Option (Nat × Nat)) (p0 : place 0 = some (0, 32)) (p1 : place 1 = some (32, 32)) (p2 : place 2 = some (64, 1)) :
    Instr.fill place zs.toArray [(0, .agg X), (1, .agg Y), (2, .bool b)] = some (X.toList ++ Y.toList ++ [Value.bool b]).toArray := by
  have lX : X.toList.length = 32 := by simpa using hX
  have lY : Y.toList.length = 32 := by simpa using hY
  have e1 : zs.take 0 ++ X.toList ++ zs.drop (0 + 32) = X.toList ++ zs.drop 32 := by simp
  have e2 : (X.toList ++ zs.drop 32).take 32 ++ Y.toList ++ (X.toList ++ zs.drop 32).drop (32 + 32) = X.toList ++ Y.toList ++ zs.drop 64 := by
    rw [List.take_left' lX, List.drop_append, lX, List.drop_of_length_le (by omega), List.nil_append, List.drop_drop]
  have e3 : (X.toList ++ Y.toList ++ zs.drop 64).take 64 ++ [Value.bool b] ++ (X.toList ++ Y.toList ++ zs.drop 64).drop (64 + 1) = X.toList ++ Y.toList ++ [Value.bool b] := by
    rw [List.take_left' (by rw [List.length_append]; omega), List.drop_of_length_le (l := X.toList ++ Y.toList ++ zs.drop 64) (by rw [List.length_append, List.length_append, List.length_drop]; omega), List.append_nil]
  rw [fill_step place zs 0 0 32 (.agg X) _ p0 hX (by omega)]
  show Instr.fill place (zs.take 0 ++ X.toList ++ zs.drop (0 + 32)).toArray _ = _
  rw [e1, fill_step place _ 1 32 32 (.agg Y) _ p1 hY (by rw [List.length_append, lX, List.length_drop]; omega)]
  show Instr.fill place ((X.toList ++ zs.drop 32).take 32 ++ Y.toList ++ (X.toList ++ zs.drop 32).drop (32 + 32)).toArray _ = _
  rw [e2, fill_step place _ 2 64 1 (.bool b) [] p2 rfl (by rw [List.length_append, List.length_append, lX, lY, List.length_drop]; omega)]
  show Instr.fill place ((X.toList ++ Y.toList ++ zs.drop 64).take 64 ++ [Value.bool b] ++ (X.toList ++ Y.toList ++ zs.drop 64).drop (64 + 1)).toArray [] = _
  rw [e3, Instr.fill]
theorem build_both (w : World) (X Y : Array Value) (b : Bool) (hX : X.size = 32) (hY : Y.size = 32) :
    (Instr.build 44 #[(0, .agg X), (1, .agg Y), (2, .bool b)]).run Tryd.prog w = .ok (.agg (X.toList ++ Y.toList ++ [Value.bool b]).toArray) w := by
  have hz := (zero_of_info info_both).1 w
  obtain ⟨zs, hzs⟩ : ∃ zs, List.replicate 64 (Value.int .u8 0) ++ [Value.bool false] = zs := ⟨_, rfl⟩
  have hzl : zs.length = 65 := by rw [← hzs, List.length_append, List.length_replicate]; rfl
  have hlist : Array.replicate 64 (Value.int .u8 0) ++ #[Value.bool false] = zs.toArray := by rw [← hzs, ← List.toArray_replicate]; exact List.append_toArray _ _
  rw [hlist] at hz
  clear hzs hlist
  unfold Instr.build
  simp only [Sem.run_bind, hz, Result.andThen_ok]
  have hf := fun place p0 p1 p2 => fill_both X Y b zs hX hY hzl place p0 p1 p2
  show ((Sem.run Tryd.prog (underlying 44) w).andThen _) = _
  generalize Instr.fill = F at hf ⊢
  simp [go_sem, Tryd.underlying44, hf]
end Go.Proofs.YtfpbijnlmlaloaaDoor

/- Contract of the document's put of layer 20, where nothing is left and the old root is known. No condition. -/
namespace Go.Proofs.YtfpbijnlmlaloaaDoor
open Go.RowKit
set_option linter.unusedVariables false
set_option linter.unusedSimpArgs false
set_option maxRecDepth 100000

theorem bothV_ok (o n : List Nat) (b : Bool) (ho : o.length = 32) (hn : n.length = 32) : ∃ V : Array Value, (bothV ⟨o, n, b⟩).toArray = V ∧ V.size = 65 ∧ V.all (·.oneCell') = true ∧ (Tryd.prog.info? 44).map (·.size) = some V.size := by
  have hl : (bothV ⟨o, n, b⟩).length = 65 := by simp [bothV, bs_length, ho, hn]
  refine ⟨_, rfl, by rw [List.size_toArray]; exact hl, all_oneCell_toArray fun v hv => ?_, by rw [List.size_toArray, hl]; exact (zero_of_info info_both).2⟩
  unfold bothV at hv
  rcases List.mem_append.1 hv with hv | hv
  · rcases List.mem_append.1 hv with hv | hv
    · exact bs_one _ v hv
    · exact bs_one _ v hv
  · rw [List.mem_singleton.1 hv]
    rfl
/-- A struct that is built in a plain region, its value by a name. -/
theorem wpList_buildV {P : Program} {ops : Array Oper} {rest : List Oper} {o : Oper} {a : Act} {w : World} {Q : Exit → Act → World → Prop} (hgd : o.guard = none) (t : TypeId) (parts : Array (Nat × Operand)) (ho : o.op = .build t parts)
    (vs : Array (Nat × Value)) (hp : parts.map (fun (i, x) => (i, a.eval x)) = vs) (V : Value) (hv : (Instr.build t vs).run P w = .ok V w) (h : wpList P ops Q rest (a.put o.dst V) w) : wpList P ops Q (o :: rest) a w :=
  wpList_plain hgd fun _ hK => by
    unfold Oper.wp execOp
    simp only [ho, hp, Sem.run_bind, hv, Result.andThen_ok, Sem.run_pure]
    exact hK _ _ h
set_option maxHeartbeats 2000000 in
theorem refPut_whole (n c : Nat) (a : List Nat) (A : Option Addr) (q : Nat) (w : World) (ha : a.length = 32) :
    Calls Tryd.prog 22 #[.int .i64 (n : Int), .int .i64 (n : Int), .agg (bs a).toArray, .slice A q c, .bool false] w fun e w' => e = .returned (.agg (bothV ⟨a, a, decide (q = 0)⟩).toArray) ∧ Below w.heap.size w w' := by
  have hz := (zero_of_info info_both).1
  obtain ⟨ZB, hZB⟩ : ∃ ZB : Array Value, Array.replicate 64 (.int .u8 0) ++ #[.bool false] = ZB := ⟨_, rfl⟩
  rw [hZB] at hz
  have hZS : ZB.size = 65 := by rw [← hZB]; simp
  have hsz := Lib.hid (zero_of_info info_both).2
  obtain ⟨V, hV, hVs, hVo, hVi⟩ := bothV_ok a a (decide (q = 0)) ha ha
  obtain ⟨VD, hVD, hvz, hon, hvi⟩ := hash_ok a ha
  have hbd : ∀ W, (Instr.build 44 #[(0, .agg VD), (1, .agg VD), (2, .bool (decide (q = 0)))]).run Tryd.prog W = .ok (.agg V) W := fun W => by
    rw [build_both W VD VD _ hvz hvz, ← hV, ← hVD]
    rfl
  have hq0 : ((q : Int) == 0) = decide (q = 0) := by
    by_cases h : q = 0
    · subst h; rfl
    · rw [decide_eq_false h]
      simpa using h
  rw [hVD, hV]
  have k0 := Blk.new w 33 VD
  have b0 := (Below.refl w.heap.size w).alloc (Nat.le_refl _) (.cells VD 33)
  obtain ⟨W0, hW0⟩ : ∃ W0, w.alloc (.cells VD 33) = W0 := ⟨_, rfl⟩
  have hs0 : W0.heap.size = w.heap.size + 1 := by rw [← hW0]; simp
  rw [hW0] at k0 b0
  have b1 := b0.alloc (by omega) (.cells ZB 44)
  have k01 := k0.alloc (.cells ZB 44)
  have k1 := Blk.new W0 44 ZB
  obtain ⟨W1, hW1⟩ : ∃ W1, W0.alloc (.cells ZB 44) = W1 := ⟨_, rfl⟩
  rw [hW1] at k01 k1 b1
  rw [hs0] at k1
  have hrd : W1.rangeAt w.heap.size 0 (bs a) := by rw [← hVD] at k01; exact k01.range
  have HRD := Lib.hid hrd; have HVD := Lib.hid hVD; have HI := Lib.hid (hash_size a ha)
  have HK1 := Lib.hid k1; have HB1 := Lib.hid b1; have HZS := Lib.hid hZS; have HVS := Lib.hid hVs; have HVO := Lib.hid hVo; have HVI := Lib.hid hVi
  have HBD := Lib.hid (hbd W1)
  clear hrd hVD k0 k01 k1 hZS hvz hon hvi b0 b1 hVs hVo hVi hV hZB ha hbd
  go_enter Tryd.func22, Tryd.ntmps22
  go_wp2_with (first
    | refine wpList_buildV (by rfl) 44 #[(0, .tmp 20), (1, .tmp 21), (2, .tmp 24)] rfl #[(0, .agg VD), (1, .agg VD), (2, .bool (decide (q = 0)))] (by first | rfl | simp [Act.eval]) _ HBD.out ?_
    | refine wpQ_load (by rfl) 33 (.tmp 7) rfl w.heap.size 0 rfl (bs a) VD HVD.out _ HRD.out Tryd.underlying33 rfl HI.out ?_
    | (refine wpList_store_row (by rfl) (.tmp 10) (.tmp 25) (by rfl) (by rfl) (by rfl) HK1.out HVI.out (by rw [HVS.out, HZS.out]) HVO.out ?_))
  refine bodyPost_ret (v := .agg V) (results_cell_row rfl _ _ _ _ _ _ _ (by rfl) (HK1.out.row V) Tryd.underlying44 rfl HVI.out) rfl ⟨rfl, Below.row HB1.out (by omega) _⟩
end Go.Proofs.YtfpbijnlmlaloaaDoor
