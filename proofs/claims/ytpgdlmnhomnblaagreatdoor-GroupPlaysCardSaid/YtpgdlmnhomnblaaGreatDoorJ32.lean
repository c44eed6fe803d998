import Derived.BigQuiet
import Derived.Deep.QuietTactic
import Derived.Deep.DeepCutAuto
import Derived.Deep.CutBlock
import Derived.Deep.MidRow
import Derived.Deep.RegionHeld3
import Derived.Test.YtpgdlmnhomnblaaGreatDoorJ31
import Derived.Lib.QuietBelow
import Derived.Test.YtpgdlmnhomnblaaGreatDoorJ6
import Derived.Test.YtpgdlmnhomnblaaGreatDoorGrNew
import Derived.Test.YtpgdlmnhomnblaaGreatDoorJ24
namespace Go.Proofs.YtpgdlmnhomnblaaGreatDoor
open Go.RowKit
set_option linter.unusedVariables false
set_option linter.unusedSimpArgs false
set_option maxRecDepth 100000
theorem wpList_load_when {P : Program} {ops : Array Oper} {rest : List Oper} {op : Oper} {a : Act} {w : World} {Q : Exit → Act → World → Prop} (hw : Region.wanted op (yielded ops a.tmps) = true) (ty : TypeId) (x : Operand) (ho : op.op = .load ty x)
    (b o : Nat) (hx : a.eval x = .pointer (some ⟨b, o, none⟩)) (cs : List Value) (d : TypeDesc) (hc : w.rangeAt b o cs)
    (hu : P.underlying ty = some d) (hd : d.isRow = true) (hi : (P.info? ty).map (·.size) = some cs.length)
    (h : wpList P ops Q rest (a.put op.dst (.agg cs.toArray)) w) : wpList P ops Q (op :: rest) a w :=
  wpList_step fun _ hK => by
    rw [if_pos hw]
    exact wp_load_mid ty x ho b o hx cs d hc hu hd hi (hK _ _ h)
theorem np {Q : Exit → Act → World → Prop} {c} {a a' : Act} {w : World} (h : NoPanic Q (.panic c) a w) : NoPanic Q (.panic c) a' w := (h : False).elim
theorem yieldsIf_load_midX {P : Program} {ops : Array Oper} {S : World → Prop} {op : Oper} {a : Act} (hw : Region.wanted op (yielded ops a.tmps) = true) (ty : TypeId) (x : Operand) (ho : op.op = .load ty x)
    (b o : Nat) (hx : a.eval x = .pointer (some ⟨b, o, none⟩)) (cs : List Value) (X : Array Value) (hX : cs.toArray = X) (d : TypeDesc) (hS : ∀ w, S w → w.rangeAt b o cs)
    (hu : P.underlying ty = some d) (hd : d.isRow = true) (hi : (P.info? ty).map (·.size) = some cs.length) : YieldsIf P ops S op (.agg X) a := by
  subst hX
  exact yieldsIf_load_mid hw ty x ho b o hx cs d hS hu hd hi
section
variable {w : World} {m c c' : Nat} {A A' : Option Addr} {n L : Int} {hs : List (Zn × List Nat)} {l : List Nat}
set_option maxHeartbeats 4000000 in
theorem sameH_true (h1 : Reads w w.heap.size 40 A m (hcs hs)) (h2 : Reads w w.heap.size 40 A' m (hcs hs)) (hl : l.length = 32) (ha : ∀ y ∈ hs, y.2.length = 32) (hhm : hs.length = m) (hm : m ≤ 65536) :
    Calls Tryz.prog 13 #[hdA n L (bs l) (.slice A m c), hdA n L (bs l) (.slice A' m c')] w fun e w' => e = .returned (.bool true) ∧ Below w.heap.size w w' := by
  have hD32 : (bs l).length = 32 := by rw [bs_length, hl]
  obtain ⟨F1, hF1⟩ : ∃ F, ([Value.int .i64 n, Value.int .i64 L] ++ bs l ++ [Value.slice A m c]).toArray = F := ⟨_, rfl⟩
  obtain ⟨F2, hF2⟩ : ∃ F, ([Value.int .i64 n, Value.int .i64 L] ++ bs l ++ [Value.slice A' m c']).toArray = F := ⟨_, rfl⟩
  rw [show hdA n L (bs l) (.slice A m c) = .agg F1 by rw [← hF1]; rfl, show hdA n L (bs l) (.slice A' m c') = .agg F2 by rw [← hF2]; rfl]
  have b1 := (Below.refl w.heap.size w).alloc (Nat.le_refl _) (.cells F1 42)
  have b2 := b1.alloc b1.size (.cells F2 42)
  have k1 := (Blk.new w 42 F1).alloc (.cells F2 42)
  have k2 := Blk.new (w.alloc (.cells F1 42)) 42 F2
  rw [World.size_alloc] at k2
  have hg34 : ∀ v : Value, ([Value.int .i64 n, Value.int .i64 L] ++ bs l ++ [v])[34]? = some v := fun v => by rw [List.getElem?_append_right (by simp [hD32])]; simp [hD32]
  have f10 : F1[0]? = some (.int .i64 n) := by rw [← hF1]; rfl
  have f11 : F1[1]? = some (.int .i64 L) := by rw [← hF1]; rfl
  have f12 : F1[34]? = some (.slice A m c) := by rw [← hF1, List.getElem?_toArray]; exact hg34 _
  have f20 : F2[0]? = some (.int .i64 n) := by rw [← hF2]; rfl
  have f21 : F2[1]? = some (.int .i64 L) := by rw [← hF2]; rfl
  have f22 : F2[34]? = some (.slice A' m c') := by rw [← hF2, List.getElem?_toArray]; exact hg34 _
  have hmid : ∀ (v : Value) (j : Nat) (u : Value), (bs l)[j]? = some u → ([Value.int .i64 n, Value.int .i64 L] ++ bs l ++ [v])[2 + j]? = some u := fun v j u hu => by
    have hj := (List.getElem?_eq_some_iff.1 hu).1
    rw [List.getElem?_append_left (by simp; omega), List.getElem?_append_right (by simp)]
    simpa using hu
  have g1 : ∀ j u, (bs l)[j]? = some u → F1[2 + j]? = some u := fun j u hu => by rw [← hF1, List.getElem?_toArray]; exact hmid _ j u hu
  have g2 : ∀ j u, (bs l)[j]? = some u → F2[2 + j]? = some u := fun j u hu => by rw [← hF2, List.getElem?_toArray]; exact hmid _ j u hu
  have HB2 := Lib.hid b2; have HK1 := Lib.hid k1; have HK2 := Lib.hid k2; have HR1 := Lib.hid h1; have HR2 := Lib.hid h2; have HA := Lib.hid ha; have HHM := Lib.hid hhm
  have HNE := Lib.hid fun W => eqIn_hash W l hl
  have hgw := b2.size
  clear h1 h2 ha b1 b2 k1 k2 hg34 hmid hF1 hF2 hhm
  go_enter Tryz.func13, Tryz.ntmps13
  go_upto_region 1 with fail
  obtain ⟨W2, hW2⟩ : ∃ W2, (w.alloc (.cells F1 42)).alloc (.cells F2 42) = W2 := ⟨_, rfl⟩
  rw [hW2] at HB2 HK1 HK2 hgw ⊢
  have x0 := (HK1.out.cell 0).trans f10; have x1 := (HK1.out.cell 1).trans f11; have x2 := (HK1.out.cell 34).trans f12
  have y0 := (HK2.out.cell 0).trans f20; have y1 := (HK2.out.cell 1).trans f21; have y2 := (HK2.out.cell 34).trans f22
  have la1 : W2.rangeAt w.heap.size 2 (bs l) := fun j u hu => (HK1.out.cell (2 + j)).trans (g1 j u hu)
  have la2 : W2.rangeAt (w.heap.size + 1) 2 (bs l) := fun j u hu => (HK2.out.cell (2 + j)).trans (g2 j u hu)
  have hne := HNE.out W2
  have HI : (Tryz.prog.info? 39).map (·.size) = some (bs l).length := by rw [hD32]; kernel_rfl
  have HLA1 := Lib.hid la1; have HLA2 := Lib.hid la2
  clear hW2 la1 la2
  go_wp2_with (with_reducible first | refine wpList_load_when rfl 39 (.tmp 19) rfl w.heap.size 2 rfl (bs l) _ HLA1.out Tryz.underlying39 rfl HI ?_ | refine wpList_load_when rfl 39 (.tmp 21) rfl (w.heap.size + 1) 2 rfl (bs l) _ HLA2.out Tryz.underlying39 rfl HI ?_)
  go_loopw [5] (fun i wr => ∃ k : Nat, k ≤ m ∧ i = .int .i64 (k : Int) ∧ Below W2.heap.size W2 wr) (fun i _ => m - (intOf i).toNat)
  case atStart => exact ⟨0, Nat.zero_le _, rfl, Below.refl _ _⟩
  case round =>
    obtain ⟨k, hk, rfl, hb⟩ := hrel
    clear hne
    by_cases hlt : k < m
    · have hbk := World.block_lt_of_cell? _ _ x2; have hbk2 := World.block_lt_of_cell? _ _ y2
      have z2 := (hb.cell hbk).trans x2; have z3 := (hb.cell hbk2).trans y2
      clear x0 x1 x2 y0 y1 y2
      go_upto_region 6 with fail
      obtain ⟨⟨z, d⟩, hz⟩ : ∃ x, hs[k]? = some x := ⟨_, List.getElem?_eq_getElem (by rw [HHM.out]; exact hlt)⟩
      have hd32 : d.length = 32 := HA.out _ (List.mem_of_getElem? hz)
      obtain ⟨b1, o1, hA1, hb1, hc1⟩ := HR1.out.headc HA.out hlt hz
      obtain ⟨b2, o2, hA2, hb2, hc2⟩ := HR2.out.headc HA.out hlt hz
      subst hA1 hA2
      have hww : Below w.heap.size w wr := HB2.out.trans (hb.mono hgw)
      have RA1 := Lib.hid fun (W : World) (hW : Below wr.heap.size wr W) => (fun j v hv => ((hww.trans (hW.mono hww.size)).cell (p := ⟨b1, o1 + k * 40 + j, none⟩) hb1).trans (hc1 j v hv) : W.rangeAt b1 (o1 + k * 40) (zc z ++ bs d))
      have RA2 := Lib.hid fun (W : World) (hW : Below wr.heap.size wr W) => (fun j v hv => ((hww.trans (hW.mono hww.size)).cell (p := ⟨b2, o2 + k * 40 + j, none⟩) hb2).trans (hc2 j v hv) : W.rangeAt b2 (o2 + k * 40) (zc z ++ bs d))
      have HC1 := Lib.hid fun (W : World) (hW : Below wr.heap.size wr W) => (hW.cell (World.block_lt_of_cell? _ _ z2)).trans z2
      have HC2 := Lib.hid fun (W : World) (hW : Below wr.heap.size wr W) => (hW.cell (World.block_lt_of_cell? _ _ z3)).trans z3
      have HXI : (Tryz.prog.info? 57).map (·.size) = some (zc z ++ bs d).length := by rw [List.length_append, bs_length, hd32]; kernel_rfl
      obtain ⟨X, hX⟩ : ∃ X, (zc z ++ bs d).toArray = X := ⟨_, rfl⟩
      have HX := Lib.hid hX
      have HEQ := Lib.hid fun W => eqIn_head W z.1 z.2.1 z.2.2.1.1 z.2.2.1.2.1 z.2.2.1.2.2 z.2.2.2.1 z.2.2.2.2.1 z.2.2.2.2.2 d hd32 X (by rw [← hX]; rfl)
      have HBW := Lib.hid hb
      clear hz hc1 hc2 hww z2 z3 hX hd32 hb
      refine wp_region_noPanic ?_
      refine wp_region_held_drew (S := fun w' => Below wr.heap.size wr w') (by kernel_rfl) (below_drew (Below.refl _ _)) (fun hHeld => ?_)
      refine wpAnyH_take (i := 0) (oi := { dst := some 41, op := Op.fieldAddr 42 (Operand.tmp 2) 3, type := 0, pos := "ref.go:139", after := #[], guard := none }) (v := ?_) rfl (by kernel_rfl) (by kernel_rfl) (by kernel_rfl) (fun _ _ _ => np) (Or.inl ⟨by rfl, ?_⟩) (by assumption) ?_
      rotate_left
      · intro W hSw
        try dsimp only at hSw
        try clear hSw
        go_simp
        try with_reducible rfl
      try simp only [Act.put, List.setIfInBounds_toArray, List.set_cons_zero, List.set_cons_succ]
      refine wpAnyH_take (i := 1) (oi := { dst := some 42, op := Op.load 40 (Operand.tmp 41), type := 40, pos := "ref.go:139", after := #[{ on := 0, ground := Ground.data }], guard := none }) (v := ?_) rfl (by kernel_rfl) (by kernel_rfl) (by kernel_rfl) (fun _ _ _ => np) (Or.inl ⟨by rfl, ?_⟩) (by assumption) ?_
      rotate_left
      · intro W hSw
        try dsimp only at hSw
        have q := HC1.out W hSw
        try clear hSw
        go_simp
        try with_reducible rfl
      try simp only [Act.put, List.setIfInBounds_toArray, List.set_cons_zero, List.set_cons_succ]
      refine wpAnyH_take (i := 2) (oi := { dst := some 43, op := Op.move (Operand.tmp 5), type := 3, pos := "ref.go:139", after := #[], guard := none }) (v := ?_) rfl (by kernel_rfl) (by kernel_rfl) (by kernel_rfl) (fun _ _ _ => np) (Or.inl ⟨by rfl, ?_⟩) (by assumption) ?_
      rotate_left
      · intro W hSw
        try dsimp only at hSw
        try clear hSw
        go_simp
        try with_reducible rfl
      try simp only [Act.put, List.setIfInBounds_toArray, List.set_cons_zero, List.set_cons_succ]
      refine wpAnyH_take (i := 3) (oi := { dst := some 44, op := Op.indexAddr 40 (Operand.tmp 42) (Operand.tmp 43), type := 0, pos := "ref.go:139", after := #[{ on := 1, ground := Ground.data }, { on := 2, ground := Ground.data }], guard := none }) (v := ?_) rfl (by kernel_rfl) (by kernel_rfl) (by kernel_rfl) (fun _ _ _ => np) (Or.inl ⟨by rfl, ?_⟩) (by assumption) ?_
      rotate_left
      · intro W hSw
        try dsimp only at hSw
        try clear hSw
        go_simp
        try with_reducible rfl
      try simp only [Act.put, List.setIfInBounds_toArray, List.set_cons_zero, List.set_cons_succ]
      refine wpAnyH_take (i := 4) (oi := { dst := some 45, op := Op.load 57 (Operand.tmp 44), type := 57, pos := "ref.go:139", after := #[{ on := 3, ground := Ground.data }], guard := none }) (v := .agg X) rfl (by kernel_rfl) (by kernel_rfl) (by kernel_rfl) (fun _ _ _ => np) (yieldsIf_load_midX rfl 57 (.tmp 44) rfl b1 (o1 + k * 40) rfl (zc z ++ bs d) X HX.out _ RA1.out Tryz.underlying57 rfl HXI) (by assumption) ?_
      try simp only [Act.put, List.setIfInBounds_toArray, List.set_cons_zero, List.set_cons_succ]
      refine wpAnyH_take (i := 5) (oi := { dst := some 46, op := Op.fieldAddr 42 (Operand.tmp 3) 3, type := 0, pos := "ref.go:139", after := #[], guard := none }) (v := ?_) rfl (by kernel_rfl) (by kernel_rfl) (by kernel_rfl) (fun _ _ _ => np) (Or.inl ⟨by rfl, ?_⟩) (by assumption) ?_
      rotate_left
      · intro W hSw
        try dsimp only at hSw
        try clear hSw
        go_simp
        try with_reducible rfl
      try simp only [Act.put, List.setIfInBounds_toArray, List.set_cons_zero, List.set_cons_succ]
      refine wpAnyH_take (i := 6) (oi := { dst := some 47, op := Op.load 40 (Operand.tmp 46), type := 40, pos := "ref.go:139", after := #[{ on := 5, ground := Ground.data }], guard := none }) (v := ?_) rfl (by kernel_rfl) (by kernel_rfl) (by kernel_rfl) (fun _ _ _ => np) (Or.inl ⟨by rfl, ?_⟩) (by assumption) ?_
      rotate_left
      · intro W hSw
        try dsimp only at hSw
        have q := HC2.out W hSw
        try clear hSw
        go_simp
        try with_reducible rfl
      try simp only [Act.put, List.setIfInBounds_toArray, List.set_cons_zero, List.set_cons_succ]
      refine wpAnyH_take (i := 7) (oi := { dst := some 48, op := Op.move (Operand.tmp 5), type := 3, pos := "ref.go:139", after := #[], guard := none }) (v := ?_) rfl (by kernel_rfl) (by kernel_rfl) (by kernel_rfl) (fun _ _ _ => np) (Or.inl ⟨by rfl, ?_⟩) (by assumption) ?_
      rotate_left
      · intro W hSw
        try dsimp only at hSw
        try clear hSw
        go_simp
        try with_reducible rfl
      try simp only [Act.put, List.setIfInBounds_toArray, List.set_cons_zero, List.set_cons_succ]
      refine wpAnyH_take (i := 8) (oi := { dst := some 49, op := Op.indexAddr 40 (Operand.tmp 47) (Operand.tmp 48), type := 0, pos := "ref.go:139", after := #[{ on := 6, ground := Ground.data }, { on := 7, ground := Ground.data }], guard := none }) (v := ?_) rfl (by kernel_rfl) (by kernel_rfl) (by kernel_rfl) (fun _ _ _ => np) (Or.inl ⟨by rfl, ?_⟩) (by assumption) ?_
      rotate_left
      · intro W hSw
        try dsimp only at hSw
        try clear hSw
        go_simp
        try with_reducible rfl
      try simp only [Act.put, List.setIfInBounds_toArray, List.set_cons_zero, List.set_cons_succ]
      refine wpAnyH_take (i := 9) (oi := { dst := some 50, op := Op.load 57 (Operand.tmp 49), type := 57, pos := "ref.go:139", after := #[{ on := 8, ground := Ground.data }], guard := none }) (v := .agg X) rfl (by kernel_rfl) (by kernel_rfl) (by kernel_rfl) (fun _ _ _ => np) (yieldsIf_load_midX rfl 57 (.tmp 49) rfl b2 (o2 + k * 40) rfl (zc z ++ bs d) X HX.out _ RA2.out Tryz.underlying57 rfl HXI) (by assumption) ?_
      try simp only [Act.put, List.setIfInBounds_toArray, List.set_cons_zero, List.set_cons_succ]
      refine wpAnyH_take (i := 10) (oi := { dst := some 51, op := Op.binOp BinOp.neq 57 (Operand.tmp 45) (Operand.tmp 50) 57, type := 4, pos := "ref.go:139", after := #[{ on := 4, ground := Ground.data }, { on := 9, ground := Ground.data }], guard := none }) (v := .bool false) rfl (by kernel_rfl) (by kernel_rfl) (by kernel_rfl) (fun _ _ _ => np) (Or.inl ⟨by rfl, fun W hSw => exec_neq rfl rfl rfl (by kernel_rfl) (HEQ.out W)⟩) (by assumption) ?_
      try simp only [Act.put, List.setIfInBounds_toArray, List.set_cons_zero, List.set_cons_succ]
      refine wpAnyH_done (by kernel_rfl) ?_ _
      refine NoPanic.normal ?_
      have HH := Lib.hid (HBW.out.trans (hHeld.mono HBW.out.size))
      clear hHeld
      go_wp2_with fail
      go_round
      case rel => exact ⟨k + 1, by omega, by go_num, (HBW.out.trans ((Below.drew (Below.refl wr.heap.size wr)).mono HBW.out.size))⟩
      case measure => simp [intOf]; omega
    · obtain rfl : k = m := by omega
      have hbk := World.block_lt_of_cell? _ _ x2; have hbk2 := World.block_lt_of_cell? _ _ y2
      have z2 := (hb.cell hbk).trans x2; have z3 := (hb.cell hbk2).trans y2
      have HBW := Lib.hid hb
      clear x0 x1 x2 y0 y1 y2 hb
      go_wp2_with fail
      go_ret
      exact ⟨rfl, HB2.out.trans (HBW.out.mono hgw)⟩
end
end Go.Proofs.YtpgdlmnhomnblaaGreatDoor
namespace Go.Proofs.YtpgdlmnhomnblaaGreatDoor
open Go.RowKit
set_option linter.unusedVariables false
set_option linter.unusedSimpArgs false
set_option maxRecDepth 100000
theorem exG : newE [(1, false, -1)] [[(1, 5, [])]] = 0 ∧ zoV (colV [[(1, 5, [])]] 0) = (0, true, (1, 5, []), (1, 5, [])) := by decide +kernel
theorem hd_parts (n L : Int) (D : List Value) (v : Value) (hD : D.length = 32) : ∃ F : Array Value, hdA n L D v = .agg F ∧ F.size = 35 ∧ F[1]? = some (.int .i64 L) ∧ F[34]? = some v := by
  refine ⟨_, rfl, by simp [hD], by simp, ?_⟩
  rw [List.getElem?_toArray, List.getElem?_append_right (by simp [hD])]
  simp [hD]
theorem run_field_cols {F : Array Value} {v : Value} (h : F[34]? = some v) (W : World) : (Instr.field 42 (.agg F) 3).run Tryz.prog W = .ok v W := by
  simp [Instr.field, run_underlying Tryz.underlying42, run_underlying Tryz.underlying40, part, isAgg, asAgg, Result.andThen, Sem.run_bind, Sem.run_pure, h]
theorem run_field_live {F : Array Value} {v : Value} (h : F[1]? = some v) (W : World) : (Instr.field 42 (.agg F) 1).run Tryz.prog W = .ok v W := by
  simp [Instr.field, run_underlying Tryz.underlying42, run_underlying Tryz.underlying3, part, isAgg, asAgg, Result.andThen, Sem.run_bind, Sem.run_pure, h]
theorem hdsG_32 (sl : List Cl) (rows : List (List Vl)) (m : Nat) : ∀ y ∈ hdsG sl rows m, y.2.length = 32 := by
  intro y hy
  obtain ⟨c, _, rfl⟩ := List.mem_map.1 hy
  exact shaN_length _
theorem exL : cnt (bit (List.replicate (siz 1) 0)) 1 = 0 ∧ canM 1 (List.replicate (siz 1) 0) 0 = true ∧ canM 1 (mrk 1 (List.replicate (siz 1) 0) 0) 0 = false ∧ cnt (bit (mrk 1 (mrk 1 (List.replicate (siz 1) 0) 0) 0)) 1 = 1 := by decide +kernel
set_option maxHeartbeats 4000000 in
theorem awakeG_any (HP : PutG) {w0 : World} (ht : ShTab w0) (w : World) (h0 : Below w0.heap.size w0 w) :
    Calls Tryz.prog 5 #[] w fun e w' => e = .returned (.bool true) ∧ Below w.heap.size w w' := by
  have htw := ht.next h0
  have b1 := (Below.refl w.heap.size w).alloc (Nat.le_refl _) (.cells #[.int .i64 1, .int .i64 5, .string ⟨#[]⟩] 51)
  have k1 := Blk.new w 51 #[.int .i64 1, .int .i64 5, .string ⟨#[]⟩]
  have e1 : (w.alloc (.cells #[.int .i64 1, .int .i64 5, .string ⟨#[]⟩] 51)).heap.size = w.heap.size + 1 := World.size_alloc _ _
  obtain ⟨W1, hW1⟩ : ∃ W1, w.alloc (.cells #[.int .i64 1, .int .i64 5, .string ⟨#[]⟩] 51) = W1 := ⟨_, rfl⟩
  rw [hW1] at b1 k1 e1
  have b2 := b1.alloc b1.size (.cells #[.int .i64 1, .bool false, .int .i64 (-1)] 53)
  have k2 := Blk.new W1 53 #[.int .i64 1, .bool false, .int .i64 (-1)]
  have k1 := k1.alloc (.cells #[.int .i64 1, .bool false, .int .i64 (-1)] 53)
  have e2 : (W1.alloc (.cells #[.int .i64 1, .bool false, .int .i64 (-1)] 53)).heap.size = W1.heap.size + 1 := World.size_alloc _ _
  obtain ⟨W2, hW2⟩ : ∃ W2, W1.alloc (.cells #[.int .i64 1, .bool false, .int .i64 (-1)] 53) = W2 := ⟨_, rfl⟩
  rw [hW2] at b2 k2 k1 e2
  have b3 := b2.alloc b2.size (.cells #[.int .i64 1, .int .i64 5, .string ⟨#[]⟩] 51)
  have k3 := Blk.new W2 51 #[.int .i64 1, .int .i64 5, .string ⟨#[]⟩]
  have k1 := k1.alloc (.cells #[.int .i64 1, .int .i64 5, .string ⟨#[]⟩] 51)
  have k2 := k2.alloc (.cells #[.int .i64 1, .int .i64 5, .string ⟨#[]⟩] 51)
  have e3 : (W2.alloc (.cells #[.int .i64 1, .int .i64 5, .string ⟨#[]⟩] 51)).heap.size = W2.heap.size + 1 := World.size_alloc _ _
  obtain ⟨W3, hW3⟩ : ∃ W3, W2.alloc (.cells #[.int .i64 1, .int .i64 5, .string ⟨#[]⟩] 51) = W3 := ⟨_, rfl⟩
  rw [hW3] at b3 k3 k2 k1 e3
  have b4 := b3.alloc b3.size (.cells #[.slice (some ⟨W2.heap.size, 0, none⟩) 1 1] 49)
  have k4 := Blk.new W3 49 #[.slice (some ⟨W2.heap.size, 0, none⟩) 1 1]
  have k1 := k1.alloc (.cells #[.slice (some ⟨W2.heap.size, 0, none⟩) 1 1] 49)
  have k2 := k2.alloc (.cells #[.slice (some ⟨W2.heap.size, 0, none⟩) 1 1] 49)
  have k3 := k3.alloc (.cells #[.slice (some ⟨W2.heap.size, 0, none⟩) 1 1] 49)
  obtain ⟨W4, hW4⟩ : ∃ W4, W3.alloc (.cells #[.slice (some ⟨W2.heap.size, 0, none⟩) 1 1] 49) = W4 := ⟨_, rfl⟩
  rw [hW4] at b4 k4 k3 k2 k1
  have rS : Reads W4 W4.heap.size 3 (some ⟨W1.heap.size, 0, none⟩) 1 (cls [(1, false, -1)]) := reads_blkZ k2 rfl
  have rR : Reads W4 W4.heap.size 3 (some ⟨W2.heap.size, 0, none⟩) 1 (vs [(1, 5, [])]) := reads_blkZ k3 rfl
  have hV : VV W4 (some ⟨W3.heap.size, 0, none⟩) [[(1, 5, [])]] := by
    refine ⟨[.slice (some ⟨W2.heap.size, 0, none⟩) 1 1], reads_blkZ k4 rfl, fun k r hk => ?_⟩
    match k, hk with
    | 0, hk =>
      simp at hk
      subst hk
      exact ⟨_, rfl, _, _, rfl, rR⟩
    | k + 1, hk => simp at hk
  have hN := new_yes (m := 1) (n := 1) (c := 1) (cs := 1) HP (htw.next b4) rS (by intro c hc; simp at hc; subst hc; exact ⟨by unfold In64; decide, by unfold In64; decide⟩) (by omega) hV rfl (by omega) (by intro r hr v hv; simp at hr; subst hr; simp at hv; subst hv; exact ⟨by unfold In64; decide, by unfold In64; decide⟩) (by intro r hr; simp at hr; subst hr; decide) exG.1
  simp only [e3, e2, e1] at hN
  simp only [e2, e1] at hW4
  have X1 := Lib.hid hW1; have X2 := Lib.hid hW2; have X3 := Lib.hid hW3; have X4 := Lib.hid hW4
  have hww4 : w.heap.size ≤ W4.heap.size := b4.size
  have HN := Lib.hid hN; have HB4 := Lib.hid b4; have HK1 := Lib.hid k1; have HT := Lib.hid htw
  clear hN hV rR rS k2 k3 k4 k1 b1 b2 b3 b4 htw ht h0 HP hW1 hW2 hW3 hW4 e1 e2 e3
  go_enter Tryz.func5, Tryz.ntmps5
  go_wp2_with fail
  rw [X1.out, X2.out, X3.out, X4.out]
  refine HN.out.mono ?_
  rintro e w5 ⟨g, d, h, rfl, hG, hS, hb5⟩
  have hx1 : hdsG [(1, false, -1)] [[(1, 5, [])]] 1 = [((0, true, (1, 5, []), (1, 5, [])), shaN (chG [(1, false, -1)] [[(1, 5, [])]] 0))] := by show [(_, _)] = _; rw [exG.2]
  obtain ⟨ks, hks⟩ : ∃ ks, chsG [(1, false, -1)] [[(1, 5, [])]] 1 = ks := ⟨_, rfl⟩
  rw [show ([(1, false, -1)] : List Cl).length = 1 from rfl, hx1, hks] at hG
  have hh32 : (shaN (chG [(1, false, -1)] [[(1, 5, [])]] 0)).length = 32 := shaN_length _
  obtain ⟨D, hD⟩ : ∃ D, shaN (chG [(1, false, -1)] [[(1, 5, [])]] 0) = D := ⟨_, rfl⟩
  rw [hD] at hG hh32
  have b5 := HB4.out.trans (hb5.mono HB4.out.size)
  have K1 := HK1.out.below hb5 HK1.out.lt
  have HG := Lib.hid hG; have HS := Lib.hid hS; have HB5 := Lib.hid b5; have HK5 := Lib.hid K1
  clear hG hS hb5 b5 K1 hx1 hks hD HN X1 X2 X3 X4 HB4 HK1
  have hst : ∀ (V : World), Below w5.heap.size w5 V → Stp w5 V (fun b => b < W4.heap.size ∨ b = h) (fun b => b < W4.heap.size ∨ b = h) none := fun V hb => Stp.of_below hb
  have hH1 := Header_G HG.out HS.out (HT.out.next HB5.out) (by simp)
  rw [show ([[(1, 5, [])]] : List (List Vl)).length = 1 from rfl, exL.1] at hH1
  have HH1 := Lib.hid hH1
  clear hH1
  go_wp2_with fail
  refine HH1.out.mono ?_
  rintro e w6 ⟨v6, rfl, ho6, hb6⟩
  obtain ⟨A6, c6, rfl, _, _, _⟩ := own_slice ho6
  obtain ⟨F6, hF6, _, _, f6⟩ := hd_parts ((1 : Nat) : Int) (((1 : Nat) : Int) - ((0 : Nat) : Int)) (bs (shaN (List.replicate (siz 1) 0))) (.slice A6 1 c6) (by rw [bs_length, shaN_length])
  have ff6 := run_field_cols f6 w6
  rw [show ([((0, true, (1, 5, []), (1, 5, [])), D)] : List (Zn × List Nat)).length = 1 from rfl, hF6]
  have HG6 := Lib.hid (HG.out.step (hst _ hb6)); have HS6 := Lib.hid (HS.out.below hb6 (Nat.le_refl _)); have HB6 := Lib.hid (HB5.out.trans (hb6.mono HB5.out.size)); have HK6 := Lib.hid (HK5.out.below hb6 HK5.out.lt)
  have hH2 := Header_G HG6.out HS6.out (HT.out.next HB6.out) (by simp)
  rw [show ([[(1, 5, [])]] : List (List Vl)).length = 1 from rfl, exL.1] at hH2
  have HH2 := Lib.hid hH2
  clear hH2 HG HS HB5 HK5 HH1 ho6 hb6 hst hF6 f6
  go_wp2_with fail
  refine HH2.out.mono ?_
  rintro e w7 ⟨v7, rfl, ho7, hb7⟩
  obtain ⟨A7, c7, rfl, _, _, r7⟩ := own_slice ho7
  obtain ⟨F7, hF7, _, _, f7⟩ := hd_parts ((1 : Nat) : Int) (((1 : Nat) : Int) - ((0 : Nat) : Int)) (bs (shaN (List.replicate (siz 1) 0))) (.slice A7 1 c7) (by rw [bs_length, shaN_length])
  rw [show ([((0, true, (1, 5, []), (1, 5, [])), D)] : List (Zn × List Nat)).length = 1 from rfl, hF7]
  obtain ⟨b7, o7, hA7, _, hc7⟩ := r7.headc (by intro y hy; simp at hy; subst hy; exact hh32) (k := 0) (show 0 < 1 by omega) rfl
  subst hA7
  have ff7 := run_field_cols f7 w7
  have x0 := hc7 0 _ rfl; have x1 := hc7 1 _ rfl; have x2 := hc7 2 _ rfl; have x3 := hc7 3 _ rfl; have x4 := hc7 4 _ rfl; have x5 := hc7 5 _ rfl; have x6 := hc7 6 _ rfl; have x7 := hc7 7 _ rfl
  simp only [Nat.zero_mul, Nat.add_zero] at x0 x1 x2 x3 x4 x5 x6 x7
  have st7 : Stp w6 w7 (fun b => b < W4.heap.size ∨ b = h) (fun b => b < W4.heap.size ∨ b = h) none := Stp.of_below hb7
  have HG7 := Lib.hid (HG6.out.step st7); have HS7 := Lib.hid (HS6.out.below hb7 (Nat.le_refl _)); have HB7 := Lib.hid (HB6.out.trans (hb7.mono HB6.out.size))
  have K7 := HK6.out.below hb7 HK6.out.lt
  have b8 : Below w7.heap.size w7 (w7.alloc (.cells #[.int .i64 0, .bool true, .int .i64 1, .int .i64 5, .string ⟨#[]⟩, .int .i64 1, .int .i64 5, .string ⟨#[]⟩] 55)) := (Below.refl _ _).alloc (Nat.le_refl _) _
  have K8 := K7.below b8 K7.lt
  have Z8 := Blk.new w7 55 #[.int .i64 0, .bool true, .int .i64 1, .int .i64 5, .string ⟨#[]⟩, .int .i64 1, .int .i64 5, .string ⟨#[]⟩]
  have st8 : Stp w7 (w7.alloc (.cells #[.int .i64 0, .bool true, .int .i64 1, .int .i64 5, .string ⟨#[]⟩, .int .i64 1, .int .i64 5, .string ⟨#[]⟩] 55)) (fun b => b < W4.heap.size ∨ b = h) (fun b => b < W4.heap.size ∨ b = h) none := Stp.of_below b8
  have HG8 := Lib.hid (HG7.out.step st8); have HS8 := Lib.hid (HS7.out.below b8 (Nat.le_refl _)); have HB8 := Lib.hid (HB7.out.trans (b8.mono HB7.out.size)); have HK8 := Lib.hid K8; have HZ8 := Lib.hid Z8
  clear HG6 HS6 HB6 HK6 HH2 ho7 hb7 r7 hc7 hF7 K7 st7 HG7 HS7 HB7 K8 Z8 st8 b8
  go_upto_region 6 with fail
  obtain ⟨w8, hw8⟩ : ∃ q, w7.alloc (.cells #[.int .i64 0, .bool true, .int .i64 1, .int .i64 5, .string ⟨#[]⟩, .int .i64 1, .int .i64 5, .string ⟨#[]⟩] 55) = q := ⟨_, rfl⟩
  rw [hw8] at HG8 HS8 HB8 HK8 HZ8 ⊢
  obtain ⟨y0, y1, y2⟩ := blk3 HK8.out
  obtain ⟨z0, z1, z2, z3, z4, z5, z6, z7⟩ := blk8 HZ8.out
  have k1 := Kill_G HG8.out HS8.out 0
  unfold MarkD at k1
  rw [show ([[(1, 5, [])]] : List (List Vl)).length = 1 from rfl, exL.2.1] at k1
  have HKL := Lib.hid k1
  clear k1 hw8 x0 x1 x2 x3 x4 x5 x6 x7 ff6 ff7 f7
  go_wp2_with fail
  refine HKL.out.mono ?_
  rintro e w9 ⟨rfl, hs9, hg9⟩
  have hbh : W4.heap.size ≤ h := HS8.out.bh
  have hw4 : w.heap.size ≤ W4.heap.size := hww4
  have stk : ∀ {V V' : World}, V.grownBy V' (some h) → Stp V V' (fun b => b < W4.heap.size ∨ b = h) (fun b => b < W4.heap.size ∨ b = h) (some h) := fun hg => ⟨hg, fun q hq => by injection hq with hq; exact .inl (.inr hq.symm), fun q hq => .inl hq⟩
  have HG9 := Lib.hid (HG8.out.step (stk hg9)); have HS9 := Lib.hid hs9
  have HB9 := Lib.hid (HB8.out.grown hg9 HB8.out.size (fun k hk => by injection hk with hk; omega))
  have k2 := Kill_G HG9.out HS9.out 0
  unfold MarkD at k2
  rw [exL.2.2.1] at k2
  have HKL2 := Lib.hid k2
  clear hs9 hg9 k2 HKL HG8 HS8 HB8 HK8 HZ8 y0 y1 y2 z0 z1 z2 z3 z4 z5 z6 z7
  go_wp2_with fail
  refine HKL2.out.mono ?_
  rintro e w10 ⟨rfl, hs10, hg10⟩
  have HG10 := Lib.hid (HG9.out.step (stk hg10)); have HS10 := Lib.hid hs10
  have HB10 := Lib.hid (HB9.out.grown hg10 HB9.out.size (fun k hk => by injection hk with hk; omega))
  have hl := Live_G HG10.out HS10.out
  rw [show ([[(1, 5, [])]] : List (List Vl)).length = 1 from rfl, exL.2.2.2] at hl
  have HL := Lib.hid hl
  clear hs10 hg10 hl HKL2 HG9 HS9 HB9 stk
  go_wp2_with fail
  refine HL.out.mono ?_
  rintro e w11 ⟨rfl, hb11⟩
  have HG11 := Lib.hid (HG10.out.step (P' := fun b => b < W4.heap.size ∨ b = h) (Stp.of_below hb11)); have HS11 := Lib.hid (HS10.out.below hb11 (Nat.le_refl _)); have HB11 := Lib.hid (HB10.out.trans (hb11.mono HB10.out.size))
  have hh := Header_G HG11.out HS11.out (HT.out.next HB11.out) (by simp)
  rw [show ([[(1, 5, [])]] : List (List Vl)).length = 1 from rfl, exL.2.2.2] at hh
  have HH := Lib.hid hh
  clear hb11 hh HL HG10 HS10 HB10
  go_wp2_with fail
  refine HH.out.mono ?_
  rintro e w12 ⟨v12, rfl, _, hb12⟩
  obtain ⟨F12, hF12, _, f12, _⟩ := hd_parts ((1 : Nat) : Int) (((1 : Nat) : Int) - ((1 : Nat) : Int)) (bs (shaN (mrk 1 (mrk 1 (List.replicate (siz 1) 0) 0) 0))) v12 (by rw [bs_length, shaN_length])
  have HF12 := Lib.hid hF12
  rw [HF12.out]
  have ff := run_field_live f12 w12
  rw [show ((1 : Nat) : Int) - ((1 : Nat) : Int) = 0 by decide] at ff
  have HB12 := Lib.hid (HB11.out.trans (hb12.mono HB11.out.size))
  clear hb12 f12 hF12 HH HG11 HS11 HB11
  go_wp2_with fail
  go_ret
  exact ⟨by first | rfl | simp, HB12.out⟩
end Go.Proofs.YtpgdlmnhomnblaaGreatDoor
