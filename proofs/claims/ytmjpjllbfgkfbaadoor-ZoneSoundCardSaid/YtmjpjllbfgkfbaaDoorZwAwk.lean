/- The law's example of layer 17 holds. -/
import Derived.Deep.RegionHeld
import Derived.Deep.RegionHeld3
import Derived.Deep.DeepCutAuto
import Derived.Test.YtmjpjllbfgkfbaaDoorZwMay0
import Derived.Test.YtmjpjllbfgkfbaaDoorJ9
import Derived.Test.YtmjpjllbfgkfbaaDoorJ5
import Derived.Test.YtmjpjllbfgkfbaaDoorJ4
namespace Go.Proofs.YtmjpjllbfgkfbaaDoor
open Go.RowKit
set_option linter.unusedVariables false
set_option linter.unusedSimpArgs false
set_option maxRecDepth 100000

theorem npA {Q : Exit → Act → World → Prop} {c} {a a' : Act} {w : World} (h : NoPanic Q (.panic c) a w) : NoPanic Q (.panic c) a' w := (h : False).elim
theorem exMay (v : Int) (hv : In64 v) {w0 W : World} (hRF : RefuC w0) (hb : Below w0.heap.size w0 W) {h g : Nat} (kh : Blk W h 37 #[.int .i64 1, .int .i64 v, .string ⟨#[]⟩]) (kg : Blk W g 39 #[.int .i64 0, .bool true, .int .i64 1, .int .i64 5, .string ⟨#[]⟩, .int .i64 1, .int .i64 9, .string ⟨#[]⟩]) :
    Calls Tryd.prog 13 #[.agg #[.int .i64 3, .int .i64 0, .slice (some ⟨h, 0, none⟩) 1 1, .slice none 0 0], .int .i64 3, .slice (some ⟨g, 0, none⟩) 1 1] W fun e w' => e = .returned (.bool (!(mayP 3 [exZ] (.mk 3 0 [(1, v, [])] [])).2.2)) ∧ Below W.heap.size W w' := by
  have hz := reads_blkZ kg (n := 1) (s := 8) (xs := zcs [exZ]) rfl
  have hh := reads_blkZ kh (n := 1) (s := 3) (xs := vs [(1, v, [])]) rfl
  refine hRF W hb 1 (fun _ => False) _ _ _ _ (.mk 3 0 [(1, v, [])] []) 3 _ 1 1 [exZ] (isP_leaf hh rfl (Nat.le_refl _)) (fun k => ?_) ?_ hz (by omega) (by unfold In64; omega)
  · cases k with
    | zero => trivial
    | succ k =>
      refine ⟨⟨by unfold In64; simp [Pd.op], by unfold In64; simp [Pd.col], fun u hu => ?_⟩, fun q hq => by simp [Pd.parts] at hq⟩
      simp only [Pd.vals, List.mem_cons, List.not_mem_nil, or_false] at hu
      subst hu
      exact ⟨by unfold In64; omega, hv⟩
  · simp [szP, Pd.vals, Pd.parts]
theorem exMay5 : (mayP 3 [exZ] (.mk 3 0 [(1, 5, [])] [])).2.2 = false := by
  rw [mayP]; simp [frmZ, exZ, oneZ, cmpV, vahd, zNone]
theorem exMay6 : (mayP 3 [exZ] (.mk 3 0 [(1, 6, [])] [])).2.2 = true := by
  rw [mayP]; simp [frmZ, exZ, oneZ, cmpV, vahd, zNone]
set_option maxHeartbeats 8000000 in
theorem awakeZ_any {w0 : World} (hRF : RefuC w0) : AwakeZC w0 := by
  intro w hbw
  have hof := fun (W : World) (g : Nat) (hg : Blk W g 37 #[.int .i64 1, .int .i64 7, .string ⟨#[]⟩, .int .i64 1, .int .i64 5, .string ⟨#[]⟩, .int .i64 1, .int .i64 9, .string ⟨#[]⟩]) => exOf hg
  rw [show zW exZ = .agg #[.int .i64 0, .bool true, .int .i64 1, .int .i64 5, .string ⟨#[]⟩, .int .i64 1, .int .i64 9, .string ⟨#[]⟩] from rfl] at hof
  have HOF := Lib.hid hof
  have hb0 := (Below.refl w.heap.size w).alloc (Nat.le_refl _) (.cells #[.func (.func 17) #[] #[]] 51)
  have kf := Blk.new w 51 #[.func (.func 17) #[] #[]]
  have hmf := hmfP
  have HBW := Lib.hid hbw
  clear hof hbw
  go_enter Tryd.func7, Tryd.ntmps7
  go_upto_region 2 with fail
  obtain ⟨W0, hW0⟩ : ∃ q, w.alloc (.cells #[.func (.func 17) #[] #[]] 51) = q := ⟨_, rfl⟩
  rw [hW0] at hb0 kf ⊢
  clear hW0
  have HB0 := Lib.hid hb0; have HKF := Lib.hid kf
  have HF0 := Lib.hid fun (W : World) (hb : Below W0.heap.size W0 W) => (show W.cell? ⟨w.heap.size, 0, none⟩ = some (.func (.func 17) #[] #[]) from (HKF.out.below hb HKF.out.lt).cell 0)
  clear hb0 kf
  go_cut [2] (fun z wx => ∃ gz X, z = .pointer (some ⟨gz, 0, none⟩) ∧ X = wx ∧ W0.heap.size ≤ gz ∧ Below W0.heap.size W0 X ∧ Blk X gz 39 #[.int .i64 0, .bool true, .int .i64 1, .int .i64 5, .string ⟨#[]⟩, .int .i64 1, .int .i64 9, .string ⟨#[]⟩])
  case first =>
    refine wp_region_noPanic ?_
    refine wp_region_held_drew (S := fun w7 => Below W0.heap.size W0 w7) (by kernel_rfl) (below_drew (Below.refl _ _)) (fun hHeld => ?_)
    obtain ⟨V0, hV⟩ : ∃ q, W0.drew = q := ⟨_, rfl⟩
    rw [hV] at hHeld ⊢
    clear hV
    refine wpAnyH_take (i := 0) (oi := { dst := some 4, op := Op.load 51 (Operand.tmp 1), type := 51, pos := "law.go:17", after := #[], guard := none }) (v := ?_) rfl (by kernel_rfl) (by kernel_rfl) (by kernel_rfl) (fun _ _ _ => npA) (Or.inl ⟨by rfl, ?_⟩) (by assumption) ?_
    rotate_left
    · intro W hSw
      try dsimp only at hSw
      have y0 := HF0.out W hSw
      try clear hSw
      go_simp
      try with_reducible rfl
    try simp only [Act.put, List.setIfInBounds_toArray, List.set_cons_zero, List.set_cons_succ]
    refine wpAnyH_take (i := 2) (oi := { dst := some 6, op := Op.load 51 (Operand.tmp 1), type := 51, pos := "law.go:17", after := #[], guard := none }) (v := ?_) rfl (by kernel_rfl) (by kernel_rfl) (by kernel_rfl) (fun _ _ _ => npA) (Or.inl ⟨by rfl, ?_⟩) (by assumption) ?_
    rotate_left
    · intro W hSw
      try dsimp only at hSw
      have y0 := HF0.out W hSw
      try clear hSw
      go_simp
      try with_reducible rfl
    try simp only [Act.put, List.setIfInBounds_toArray, List.set_cons_zero, List.set_cons_succ]
    refine wpAnyH_take (i := 4) (oi := { dst := some 8, op := Op.load 51 (Operand.tmp 1), type := 51, pos := "law.go:17", after := #[], guard := none }) (v := ?_) rfl (by kernel_rfl) (by kernel_rfl) (by kernel_rfl) (fun _ _ _ => npA) (Or.inl ⟨by rfl, ?_⟩) (by assumption) ?_
    rotate_left
    · intro W hSw
      try dsimp only at hSw
      have y0 := HF0.out W hSw
      try clear hSw
      go_simp
      try with_reducible rfl
    try simp only [Act.put, List.setIfInBounds_toArray, List.set_cons_zero, List.set_cons_succ]
    refine wpAnyH_ready (rs := [1, 8]) (by kernel_rfl) (by simp) ?_
    refine AllReadyH.cons (o := { dst := some 5, op := Op.call { callee := Callee.value (Operand.tmp 4), args := #[Operand.const (Value.int IntKind.i64 7)], argTypes := #[2] }, type := 37, pos := "law.go:17", after := #[{ on := 0, ground := Ground.data }], guard := none }) rfl (fun K hK => ?_) ?_
    · skip
      go_simp
      go_at_call 17
      refine ((exN 7) _).mono ?_
      rintro e9 V1 ⟨rfl, hb9⟩
      have hHeld1 := hHeld.trans (hb9.mono hHeld.size)
      clear hb9
      show _
      try go_simp
      clear hHeld
      have hHeld := hHeld1
      clear hHeld1
      refine hK.out _ _ hHeld (fun _ => ?_)
      clear hK K
      try simp only [Act.put, List.setIfInBounds_toArray, List.set_cons_zero, List.set_cons_succ]
      refine wpAnyH_ready (rs := [3, 8]) (by kernel_rfl) (by simp) ?_
      refine AllReadyH.cons (o := { dst := some 7, op := Op.call { callee := Callee.value (Operand.tmp 6), args := #[Operand.const (Value.int IntKind.i64 5)], argTypes := #[2] }, type := 37, pos := "law.go:17", after := #[{ on := 2, ground := Ground.data }, { on := 1, ground := Ground.chain }], guard := none }) rfl (fun K hK => ?_) ?_
      · skip
        go_simp
        go_at_call 17
        refine ((exN 5) _).mono ?_
        rintro e9 V3 ⟨rfl, hb9⟩
        have hHeld1 := hHeld.trans (hb9.mono hHeld.size)
        clear hb9
        show _
        try go_simp
        clear hHeld
        have hHeld := hHeld1
        clear hHeld1
        refine hK.out _ _ hHeld (fun _ => ?_)
        clear hK K
        try simp only [Act.put, List.setIfInBounds_toArray, List.set_cons_zero, List.set_cons_succ]
        refine wpAnyH_ready (rs := [5, 8]) (by kernel_rfl) (by simp) ?_
        refine AllReadyH.cons (o := { dst := some 9, op := Op.call { callee := Callee.value (Operand.tmp 8), args := #[Operand.const (Value.int IntKind.i64 9)], argTypes := #[2] }, type := 37, pos := "law.go:17", after := #[{ on := 4, ground := Ground.data }, { on := 3, ground := Ground.chain }], guard := none }) rfl (fun K hK => ?_) ?_
        · skip
          go_simp
          go_at_call 17
          refine ((exN 9) _).mono ?_
          rintro e9 V5 ⟨rfl, hb9⟩
          have hHeld1 := hHeld.trans (hb9.mono hHeld.size)
          clear hb9
          show _
          try go_simp
          clear hHeld
          have hHeld := hHeld1
          clear hHeld1
          refine hK.out _ _ hHeld (fun _ => ?_)
          clear hK K
          try simp only [Act.put, List.setIfInBounds_toArray, List.set_cons_zero, List.set_cons_succ]
          refine wpAnyH_ready (rs := [6, 8]) (by kernel_rfl) (by simp) ?_
          refine AllReadyH.cons (o := { dst := some 10, op := Op.buildSlice 23 3 #[(0, Operand.tmp 5), (1, Operand.tmp 7), (2, Operand.tmp 9)], type := 23, pos := "law.go:17", after := #[{ on := 1, ground := Ground.data }, { on := 3, ground := Ground.data }, { on := 5, ground := Ground.data }], guard := none }) rfl (fun K hK => ?_) ?_
          · skip
            go_simp
            have hHeld1 := hHeld.alloc hHeld.size (.cells #[.int .i64 1, .int .i64 7, .string ⟨#[]⟩, .int .i64 1, .int .i64 5, .string ⟨#[]⟩, .int .i64 1, .int .i64 9, .string ⟨#[]⟩] 37)
            have KG := Lib.hid (Blk.new V5 37 #[.int .i64 1, .int .i64 7, .string ⟨#[]⟩, .int .i64 1, .int .i64 5, .string ⟨#[]⟩, .int .i64 1, .int .i64 9, .string ⟨#[]⟩])
            obtain ⟨g6, hg6⟩ : ∃ g, V5.heap.size = g := ⟨_, rfl⟩
            obtain ⟨Y6, hY6⟩ : ∃ q, V5.alloc (.cells #[.int .i64 1, .int .i64 7, .string ⟨#[]⟩, .int .i64 1, .int .i64 5, .string ⟨#[]⟩, .int .i64 1, .int .i64 9, .string ⟨#[]⟩] 37) = q := ⟨_, rfl⟩
            rw [hY6] at hHeld1 KG ⊢
            rw [hg6] at KG ⊢
            clear hY6 hg6
            clear hHeld
            have hHeld := hHeld1
            clear hHeld1
            refine hK.out _ _ hHeld (fun _ => ?_)
            clear hK K
            try simp only [Act.put, List.setIfInBounds_toArray, List.set_cons_zero, List.set_cons_succ]
            refine wpAnyH_ready (rs := [7, 8]) (by kernel_rfl) (by simp) ?_
            refine AllReadyH.cons (o := { dst := some 11, op := Op.call { callee := Callee.value (Operand.func 10), args := #[Operand.tmp 10], argTypes := #[23] }, type := 39, pos := "law.go:17", after := #[{ on := 6, ground := Ground.data }, { on := 5, ground := Ground.chain }], guard := none }) rfl (fun K hK => ?_) ?_
            · skip
              go_simp
              go_at_call 10
              refine (HOF.out _ _ KG.out).mono ?_
              rintro e9 V7 ⟨rfl, hb9⟩
              have hHeld1 := hHeld.trans (hb9.mono hHeld.size)
              clear hb9
              show _
              try go_simp
              clear hHeld
              have hHeld := hHeld1
              clear hHeld1
              refine hK.out _ _ hHeld (fun _ => ?_)
              clear hK K
              try simp only [Act.put, List.setIfInBounds_toArray, List.set_cons_zero, List.set_cons_succ]
              refine wpAnyH_ready (rs := [8]) (by kernel_rfl) (by simp) ?_
              refine AllReadyH.cons (o := { dst := some 2, op := Op.alloc 39, type := 0, pos := "law.go:17", after := #[], guard := none }) rfl (fun K hK => ?_) ?_
              · skip
                go_simp
                have hHeld1 := hHeld.alloc hHeld.size (.cells #[.int .i64 0, .bool false, .int .i64 0, .int .i64 0, .string ⟨#[]⟩, .int .i64 0, .int .i64 0, .string ⟨#[]⟩] 39)
                have KZ8 := Lib.hid (Blk.new V7 39 #[.int .i64 0, .bool false, .int .i64 0, .int .i64 0, .string ⟨#[]⟩, .int .i64 0, .int .i64 0, .string ⟨#[]⟩])
                have hgz : W0.heap.size ≤ V7.heap.size := hHeld.size
                obtain ⟨gz, hgz2⟩ : ∃ g, V7.heap.size = g := ⟨_, rfl⟩
                obtain ⟨Y8, hY8⟩ : ∃ q, V7.alloc (.cells #[.int .i64 0, .bool false, .int .i64 0, .int .i64 0, .string ⟨#[]⟩, .int .i64 0, .int .i64 0, .string ⟨#[]⟩] 39) = q := ⟨_, rfl⟩
                rw [hY8] at hHeld1 KZ8 ⊢
                rw [hgz2] at KZ8 hgz ⊢
                clear hY8 hgz2
                clear hHeld
                have hHeld := hHeld1
                clear hHeld1
                refine hK.out _ _ hHeld (fun _ => ?_)
                clear hK K
                try simp only [Act.put, List.setIfInBounds_toArray, List.set_cons_zero, List.set_cons_succ]
                refine wpAnyH_ready (rs := [9]) (by kernel_rfl) (by simp) ?_
                refine AllReadyH.cons (o := { dst := none, op := Op.store 39 (Operand.tmp 2) (Operand.tmp 11), type := 0, pos := "law.go:17", after := #[{ on := 8, ground := Ground.data }, { on := 7, ground := Ground.data }, { on := 7, ground := Ground.chain }, { on := 0, ground := Ground.phase }, { on := 1, ground := Ground.phase }, { on := 2, ground := Ground.phase }, { on := 3, ground := Ground.phase }, { on := 4, ground := Ground.phase }, { on := 5, ground := Ground.phase }, { on := 6, ground := Ground.phase }, { on := 7, ground := Ground.phase }, { on := 8, ground := Ground.phase }], guard := none }) rfl (fun K hK => ?_) ?_
                · skip
                  have kz := KZ8.out
                  obtain ⟨y0, y1, y2, y3, y4, y5, y6, y7⟩ := blk8 kz
                  have z0 := kz.frozen 0
                  have z1 := kz.frozen 1
                  have z2 := kz.frozen 2
                  have z3 := kz.frozen 3
                  have z4 := kz.frozen 4
                  have z5 := kz.frozen 5
                  have z6 := kz.frozen 6
                  have z7 := kz.frozen 7
                  have K9 := Lib.hid (show Blk _ gz 39 #[.int .i64 0, .bool true, .int .i64 1, .int .i64 5, .string ⟨#[]⟩, .int .i64 1, .int .i64 9, .string ⟨#[]⟩] by simpa using ((((((((kz.set_ 0 (.int .i64 0)).set_ 1 (.bool true)).set_ 2 (.int .i64 1)).set_ 3 (.int .i64 5)).set_ 4 (.string ⟨#[]⟩)).set_ 5 (.int .i64 1)).set_ 6 (.int .i64 9)).set_ 7 (.string ⟨#[]⟩)))
                  have hHeld1 := ((((((((hHeld.setCell (p := ⟨gz, 0, none⟩) hgz (.int .i64 0)).setCell (p := ⟨gz, 1, none⟩) hgz (.bool true)).setCell (p := ⟨gz, 2, none⟩) hgz (.int .i64 1)).setCell (p := ⟨gz, 3, none⟩) hgz (.int .i64 5)).setCell (p := ⟨gz, 4, none⟩) hgz (.string ⟨#[]⟩)).setCell (p := ⟨gz, 5, none⟩) hgz (.int .i64 1)).setCell (p := ⟨gz, 6, none⟩) hgz (.int .i64 9)).setCell (p := ⟨gz, 7, none⟩) hgz (.string ⟨#[]⟩))
                  clear kz
                  go_simp
                  clear hHeld
                  have hHeld := hHeld1
                  clear hHeld1
                  refine hK.out _ _ hHeld (fun _ => ?_)
                  clear hK K
                  try simp only [Act.put, List.setIfInBounds_toArray, List.set_cons_zero, List.set_cons_succ]
                  refine wpAnyH_done (by kernel_rfl) ?_ _
                  refine NoPanic.normal ?_
                  go_wp2_with fail
                  go_meet
                  exact ⟨gz, _, rfl, rfl, hgz, hHeld, K9.out⟩
                exact AllReadyH.nil
              exact AllReadyH.nil
            refine AllReadyH.cons (o := { dst := some 2, op := Op.alloc 39, type := 0, pos := "law.go:17", after := #[], guard := none }) rfl (fun K hK => ?_) ?_
            · skip
              go_simp
              have hHeld1 := hHeld.alloc hHeld.size (.cells #[.int .i64 0, .bool false, .int .i64 0, .int .i64 0, .string ⟨#[]⟩, .int .i64 0, .int .i64 0, .string ⟨#[]⟩] 39)
              have KZ8 := Lib.hid (Blk.new Y6 39 #[.int .i64 0, .bool false, .int .i64 0, .int .i64 0, .string ⟨#[]⟩, .int .i64 0, .int .i64 0, .string ⟨#[]⟩])
              have hgz : W0.heap.size ≤ Y6.heap.size := hHeld.size
              have KG8 := Lib.hid (KG.out.alloc (.cells #[.int .i64 0, .bool false, .int .i64 0, .int .i64 0, .string ⟨#[]⟩, .int .i64 0, .int .i64 0, .string ⟨#[]⟩] 39))
              obtain ⟨gz, hgz2⟩ : ∃ g, Y6.heap.size = g := ⟨_, rfl⟩
              obtain ⟨Y8, hY8⟩ : ∃ q, Y6.alloc (.cells #[.int .i64 0, .bool false, .int .i64 0, .int .i64 0, .string ⟨#[]⟩, .int .i64 0, .int .i64 0, .string ⟨#[]⟩] 39) = q := ⟨_, rfl⟩
              rw [hY8] at hHeld1 KZ8 KG8 ⊢
              rw [hgz2] at KZ8 hgz ⊢
              clear hY8 hgz2
              clear hHeld
              have hHeld := hHeld1
              clear hHeld1
              refine hK.out _ _ hHeld (fun _ => ?_)
              clear hK K
              try simp only [Act.put, List.setIfInBounds_toArray, List.set_cons_zero, List.set_cons_succ]
              refine wpAnyH_ready (rs := [7]) (by kernel_rfl) (by simp) ?_
              refine AllReadyH.cons (o := { dst := some 11, op := Op.call { callee := Callee.value (Operand.func 10), args := #[Operand.tmp 10], argTypes := #[23] }, type := 39, pos := "law.go:17", after := #[{ on := 6, ground := Ground.data }, { on := 5, ground := Ground.chain }], guard := none }) rfl (fun K hK => ?_) ?_
              · skip
                go_simp
                go_at_call 10
                refine (HOF.out _ _ KG8.out).mono ?_
                rintro e9 V7 ⟨rfl, hb9⟩
                have hHeld1 := hHeld.trans (hb9.mono hHeld.size)
                have KZ7 := Lib.hid (KZ8.out.below hb9 KZ8.out.lt)
                clear hb9
                show _
                try go_simp
                clear hHeld
                have hHeld := hHeld1
                clear hHeld1
                refine hK.out _ _ hHeld (fun _ => ?_)
                clear hK K
                try simp only [Act.put, List.setIfInBounds_toArray, List.set_cons_zero, List.set_cons_succ]
                refine wpAnyH_ready (rs := [9]) (by kernel_rfl) (by simp) ?_
                refine AllReadyH.cons (o := { dst := none, op := Op.store 39 (Operand.tmp 2) (Operand.tmp 11), type := 0, pos := "law.go:17", after := #[{ on := 8, ground := Ground.data }, { on := 7, ground := Ground.data }, { on := 7, ground := Ground.chain }, { on := 0, ground := Ground.phase }, { on := 1, ground := Ground.phase }, { on := 2, ground := Ground.phase }, { on := 3, ground := Ground.phase }, { on := 4, ground := Ground.phase }, { on := 5, ground := Ground.phase }, { on := 6, ground := Ground.phase }, { on := 7, ground := Ground.phase }, { on := 8, ground := Ground.phase }], guard := none }) rfl (fun K hK => ?_) ?_
                · skip
                  have kz := KZ7.out
                  obtain ⟨y0, y1, y2, y3, y4, y5, y6, y7⟩ := blk8 kz
                  have z0 := kz.frozen 0
                  have z1 := kz.frozen 1
                  have z2 := kz.frozen 2
                  have z3 := kz.frozen 3
                  have z4 := kz.frozen 4
                  have z5 := kz.frozen 5
                  have z6 := kz.frozen 6
                  have z7 := kz.frozen 7
                  have K9 := Lib.hid (show Blk _ gz 39 #[.int .i64 0, .bool true, .int .i64 1, .int .i64 5, .string ⟨#[]⟩, .int .i64 1, .int .i64 9, .string ⟨#[]⟩] by simpa using ((((((((kz.set_ 0 (.int .i64 0)).set_ 1 (.bool true)).set_ 2 (.int .i64 1)).set_ 3 (.int .i64 5)).set_ 4 (.string ⟨#[]⟩)).set_ 5 (.int .i64 1)).set_ 6 (.int .i64 9)).set_ 7 (.string ⟨#[]⟩)))
                  have hHeld1 := ((((((((hHeld.setCell (p := ⟨gz, 0, none⟩) hgz (.int .i64 0)).setCell (p := ⟨gz, 1, none⟩) hgz (.bool true)).setCell (p := ⟨gz, 2, none⟩) hgz (.int .i64 1)).setCell (p := ⟨gz, 3, none⟩) hgz (.int .i64 5)).setCell (p := ⟨gz, 4, none⟩) hgz (.string ⟨#[]⟩)).setCell (p := ⟨gz, 5, none⟩) hgz (.int .i64 1)).setCell (p := ⟨gz, 6, none⟩) hgz (.int .i64 9)).setCell (p := ⟨gz, 7, none⟩) hgz (.string ⟨#[]⟩))
                  clear kz
                  go_simp
                  clear hHeld
                  have hHeld := hHeld1
                  clear hHeld1
                  refine hK.out _ _ hHeld (fun _ => ?_)
                  clear hK K
                  try simp only [Act.put, List.setIfInBounds_toArray, List.set_cons_zero, List.set_cons_succ]
                  refine wpAnyH_done (by kernel_rfl) ?_ _
                  refine NoPanic.normal ?_
                  go_wp2_with fail
                  go_meet
                  exact ⟨gz, _, rfl, rfl, hgz, hHeld, K9.out⟩
                exact AllReadyH.nil
              exact AllReadyH.nil
            exact AllReadyH.nil
          refine AllReadyH.cons (o := { dst := some 2, op := Op.alloc 39, type := 0, pos := "law.go:17", after := #[], guard := none }) rfl (fun K hK => ?_) ?_
          · skip
            go_simp
            have hHeld1 := hHeld.alloc hHeld.size (.cells #[.int .i64 0, .bool false, .int .i64 0, .int .i64 0, .string ⟨#[]⟩, .int .i64 0, .int .i64 0, .string ⟨#[]⟩] 39)
            have KZ8 := Lib.hid (Blk.new V5 39 #[.int .i64 0, .bool false, .int .i64 0, .int .i64 0, .string ⟨#[]⟩, .int .i64 0, .int .i64 0, .string ⟨#[]⟩])
            have hgz : W0.heap.size ≤ V5.heap.size := hHeld.size
            obtain ⟨gz, hgz2⟩ : ∃ g, V5.heap.size = g := ⟨_, rfl⟩
            obtain ⟨Y8, hY8⟩ : ∃ q, V5.alloc (.cells #[.int .i64 0, .bool false, .int .i64 0, .int .i64 0, .string ⟨#[]⟩, .int .i64 0, .int .i64 0, .string ⟨#[]⟩] 39) = q := ⟨_, rfl⟩
            rw [hY8] at hHeld1 KZ8 ⊢
            rw [hgz2] at KZ8 hgz ⊢
            clear hY8 hgz2
            clear hHeld
            have hHeld := hHeld1
            clear hHeld1
            refine hK.out _ _ hHeld (fun _ => ?_)
            clear hK K
            try simp only [Act.put, List.setIfInBounds_toArray, List.set_cons_zero, List.set_cons_succ]
            refine wpAnyH_ready (rs := [6]) (by kernel_rfl) (by simp) ?_
            refine AllReadyH.cons (o := { dst := some 10, op := Op.buildSlice 23 3 #[(0, Operand.tmp 5), (1, Operand.tmp 7), (2, Operand.tmp 9)], type := 23, pos := "law.go:17", after := #[{ on := 1, ground := Ground.data }, { on := 3, ground := Ground.data }, { on := 5, ground := Ground.data }], guard := none }) rfl (fun K hK => ?_) ?_
            · skip
              go_simp
              have hHeld1 := hHeld.alloc hHeld.size (.cells #[.int .i64 1, .int .i64 7, .string ⟨#[]⟩, .int .i64 1, .int .i64 5, .string ⟨#[]⟩, .int .i64 1, .int .i64 9, .string ⟨#[]⟩] 37)
              have KG := Lib.hid (Blk.new Y8 37 #[.int .i64 1, .int .i64 7, .string ⟨#[]⟩, .int .i64 1, .int .i64 5, .string ⟨#[]⟩, .int .i64 1, .int .i64 9, .string ⟨#[]⟩])
              have KZ6 := Lib.hid (KZ8.out.alloc (.cells #[.int .i64 1, .int .i64 7, .string ⟨#[]⟩, .int .i64 1, .int .i64 5, .string ⟨#[]⟩, .int .i64 1, .int .i64 9, .string ⟨#[]⟩] 37))
              obtain ⟨g6, hg6⟩ : ∃ g, Y8.heap.size = g := ⟨_, rfl⟩
              obtain ⟨Y6, hY6⟩ : ∃ q, Y8.alloc (.cells #[.int .i64 1, .int .i64 7, .string ⟨#[]⟩, .int .i64 1, .int .i64 5, .string ⟨#[]⟩, .int .i64 1, .int .i64 9, .string ⟨#[]⟩] 37) = q := ⟨_, rfl⟩
              rw [hY6] at hHeld1 KG KZ6 ⊢
              rw [hg6] at KG ⊢
              clear hY6 hg6
              clear hHeld
              have hHeld := hHeld1
              clear hHeld1
              refine hK.out _ _ hHeld (fun _ => ?_)
              clear hK K
              try simp only [Act.put, List.setIfInBounds_toArray, List.set_cons_zero, List.set_cons_succ]
              refine wpAnyH_ready (rs := [7]) (by kernel_rfl) (by simp) ?_
              refine AllReadyH.cons (o := { dst := some 11, op := Op.call { callee := Callee.value (Operand.func 10), args := #[Operand.tmp 10], argTypes := #[23] }, type := 39, pos := "law.go:17", after := #[{ on := 6, ground := Ground.data }, { on := 5, ground := Ground.chain }], guard := none }) rfl (fun K hK => ?_) ?_
              · skip
                go_simp
                go_at_call 10
                refine (HOF.out _ _ KG.out).mono ?_
                rintro e9 V7 ⟨rfl, hb9⟩
                have hHeld1 := hHeld.trans (hb9.mono hHeld.size)
                have KZ7 := Lib.hid (KZ6.out.below hb9 KZ6.out.lt)
                clear hb9
                show _
                try go_simp
                clear hHeld
                have hHeld := hHeld1
                clear hHeld1
                refine hK.out _ _ hHeld (fun _ => ?_)
                clear hK K
                try simp only [Act.put, List.setIfInBounds_toArray, List.set_cons_zero, List.set_cons_succ]
                refine wpAnyH_ready (rs := [9]) (by kernel_rfl) (by simp) ?_
                refine AllReadyH.cons (o := { dst := none, op := Op.store 39 (Operand.tmp 2) (Operand.tmp 11), type := 0, pos := "law.go:17", after := #[{ on := 8, ground := Ground.data }, { on := 7, ground := Ground.data }, { on := 7, ground := Ground.chain }, { on := 0, ground := Ground.phase }, { on := 1, ground := Ground.phase }, { on := 2, ground := Ground.phase }, { on := 3, ground := Ground.phase }, { on := 4, ground := Ground.phase }, { on := 5, ground := Ground.phase }, { on := 6, ground := Ground.phase }, { on := 7, ground := Ground.phase }, { on := 8, ground := Ground.phase }], guard := none }) rfl (fun K hK => ?_) ?_
                · skip
                  have kz := KZ7.out
                  obtain ⟨y0, y1, y2, y3, y4, y5, y6, y7⟩ := blk8 kz
                  have z0 := kz.frozen 0
                  have z1 := kz.frozen 1
                  have z2 := kz.frozen 2
                  have z3 := kz.frozen 3
                  have z4 := kz.frozen 4
                  have z5 := kz.frozen 5
                  have z6 := kz.frozen 6
                  have z7 := kz.frozen 7
                  have K9 := Lib.hid (show Blk _ gz 39 #[.int .i64 0, .bool true, .int .i64 1, .int .i64 5, .string ⟨#[]⟩, .int .i64 1, .int .i64 9, .string ⟨#[]⟩] by simpa using ((((((((kz.set_ 0 (.int .i64 0)).set_ 1 (.bool true)).set_ 2 (.int .i64 1)).set_ 3 (.int .i64 5)).set_ 4 (.string ⟨#[]⟩)).set_ 5 (.int .i64 1)).set_ 6 (.int .i64 9)).set_ 7 (.string ⟨#[]⟩)))
                  have hHeld1 := ((((((((hHeld.setCell (p := ⟨gz, 0, none⟩) hgz (.int .i64 0)).setCell (p := ⟨gz, 1, none⟩) hgz (.bool true)).setCell (p := ⟨gz, 2, none⟩) hgz (.int .i64 1)).setCell (p := ⟨gz, 3, none⟩) hgz (.int .i64 5)).setCell (p := ⟨gz, 4, none⟩) hgz (.string ⟨#[]⟩)).setCell (p := ⟨gz, 5, none⟩) hgz (.int .i64 1)).setCell (p := ⟨gz, 6, none⟩) hgz (.int .i64 9)).setCell (p := ⟨gz, 7, none⟩) hgz (.string ⟨#[]⟩))
                  clear kz
                  go_simp
                  clear hHeld
                  have hHeld := hHeld1
                  clear hHeld1
                  refine hK.out _ _ hHeld (fun _ => ?_)
                  clear hK K
                  try simp only [Act.put, List.setIfInBounds_toArray, List.set_cons_zero, List.set_cons_succ]
                  refine wpAnyH_done (by kernel_rfl) ?_ _
                  refine NoPanic.normal ?_
                  go_wp2_with fail
                  go_meet
                  exact ⟨gz, _, rfl, rfl, hgz, hHeld, K9.out⟩
                exact AllReadyH.nil
              exact AllReadyH.nil
            exact AllReadyH.nil
          exact AllReadyH.nil
        refine AllReadyH.cons (o := { dst := some 2, op := Op.alloc 39, type := 0, pos := "law.go:17", after := #[], guard := none }) rfl (fun K hK => ?_) ?_
        · skip
          go_simp
          have hHeld1 := hHeld.alloc hHeld.size (.cells #[.int .i64 0, .bool false, .int .i64 0, .int .i64 0, .string ⟨#[]⟩, .int .i64 0, .int .i64 0, .string ⟨#[]⟩] 39)
          have KZ8 := Lib.hid (Blk.new V3 39 #[.int .i64 0, .bool false, .int .i64 0, .int .i64 0, .string ⟨#[]⟩, .int .i64 0, .int .i64 0, .string ⟨#[]⟩])
          have hgz : W0.heap.size ≤ V3.heap.size := hHeld.size
          obtain ⟨gz, hgz2⟩ : ∃ g, V3.heap.size = g := ⟨_, rfl⟩
          obtain ⟨Y8, hY8⟩ : ∃ q, V3.alloc (.cells #[.int .i64 0, .bool false, .int .i64 0, .int .i64 0, .string ⟨#[]⟩, .int .i64 0, .int .i64 0, .string ⟨#[]⟩] 39) = q := ⟨_, rfl⟩
          rw [hY8] at hHeld1 KZ8 ⊢
          rw [hgz2] at KZ8 hgz ⊢
          clear hY8 hgz2
          clear hHeld
          have hHeld := hHeld1
          clear hHeld1
          refine hK.out _ _ hHeld (fun _ => ?_)
          clear hK K
          try simp only [Act.put, List.setIfInBounds_toArray, List.set_cons_zero, List.set_cons_succ]
          refine wpAnyH_ready (rs := [5]) (by kernel_rfl) (by simp) ?_
          refine AllReadyH.cons (o := { dst := some 9, op := Op.call { callee := Callee.value (Operand.tmp 8), args := #[Operand.const (Value.int IntKind.i64 9)], argTypes := #[2] }, type := 37, pos := "law.go:17", after := #[{ on := 4, ground := Ground.data }, { on := 3, ground := Ground.chain }], guard := none }) rfl (fun K hK => ?_) ?_
          · skip
            go_simp
            go_at_call 17
            refine ((exN 9) _).mono ?_
            rintro e9 V5 ⟨rfl, hb9⟩
            have hHeld1 := hHeld.trans (hb9.mono hHeld.size)
            have KZ5 := Lib.hid (KZ8.out.below hb9 KZ8.out.lt)
            clear hb9
            show _
            try go_simp
            clear hHeld
            have hHeld := hHeld1
            clear hHeld1
            refine hK.out _ _ hHeld (fun _ => ?_)
            clear hK K
            try simp only [Act.put, List.setIfInBounds_toArray, List.set_cons_zero, List.set_cons_succ]
            refine wpAnyH_ready (rs := [6]) (by kernel_rfl) (by simp) ?_
            refine AllReadyH.cons (o := { dst := some 10, op := Op.buildSlice 23 3 #[(0, Operand.tmp 5), (1, Operand.tmp 7), (2, Operand.tmp 9)], type := 23, pos := "law.go:17", after := #[{ on := 1, ground := Ground.data }, { on := 3, ground := Ground.data }, { on := 5, ground := Ground.data }], guard := none }) rfl (fun K hK => ?_) ?_
            · skip
              go_simp
              have hHeld1 := hHeld.alloc hHeld.size (.cells #[.int .i64 1, .int .i64 7, .string ⟨#[]⟩, .int .i64 1, .int .i64 5, .string ⟨#[]⟩, .int .i64 1, .int .i64 9, .string ⟨#[]⟩] 37)
              have KG := Lib.hid (Blk.new V5 37 #[.int .i64 1, .int .i64 7, .string ⟨#[]⟩, .int .i64 1, .int .i64 5, .string ⟨#[]⟩, .int .i64 1, .int .i64 9, .string ⟨#[]⟩])
              have KZ6 := Lib.hid (KZ5.out.alloc (.cells #[.int .i64 1, .int .i64 7, .string ⟨#[]⟩, .int .i64 1, .int .i64 5, .string ⟨#[]⟩, .int .i64 1, .int .i64 9, .string ⟨#[]⟩] 37))
              obtain ⟨g6, hg6⟩ : ∃ g, V5.heap.size = g := ⟨_, rfl⟩
              obtain ⟨Y6, hY6⟩ : ∃ q, V5.alloc (.cells #[.int .i64 1, .int .i64 7, .string ⟨#[]⟩, .int .i64 1, .int .i64 5, .string ⟨#[]⟩, .int .i64 1, .int .i64 9, .string ⟨#[]⟩] 37) = q := ⟨_, rfl⟩
              rw [hY6] at hHeld1 KG KZ6 ⊢
              rw [hg6] at KG ⊢
              clear hY6 hg6
              clear hHeld
              have hHeld := hHeld1
              clear hHeld1
              refine hK.out _ _ hHeld (fun _ => ?_)
              clear hK K
              try simp only [Act.put, List.setIfInBounds_toArray, List.set_cons_zero, List.set_cons_succ]
              refine wpAnyH_ready (rs := [7]) (by kernel_rfl) (by simp) ?_
              refine AllReadyH.cons (o := { dst := some 11, op := Op.call { callee := Callee.value (Operand.func 10), args := #[Operand.tmp 10], argTypes := #[23] }, type := 39, pos := "law.go:17", after := #[{ on := 6, ground := Ground.data }, { on := 5, ground := Ground.chain }], guard := none }) rfl (fun K hK => ?_) ?_
              · skip
                go_simp
                go_at_call 10
                refine (HOF.out _ _ KG.out).mono ?_
                rintro e9 V7 ⟨rfl, hb9⟩
                have hHeld1 := hHeld.trans (hb9.mono hHeld.size)
                have KZ7 := Lib.hid (KZ6.out.below hb9 KZ6.out.lt)
                clear hb9
                show _
                try go_simp
                clear hHeld
                have hHeld := hHeld1
                clear hHeld1
                refine hK.out _ _ hHeld (fun _ => ?_)
                clear hK K
                try simp only [Act.put, List.setIfInBounds_toArray, List.set_cons_zero, List.set_cons_succ]
                refine wpAnyH_ready (rs := [9]) (by kernel_rfl) (by simp) ?_
                refine AllReadyH.cons (o := { dst := none, op := Op.store 39 (Operand.tmp 2) (Operand.tmp 11), type := 0, pos := "law.go:17", after := #[{ on := 8, ground := Ground.data }, { on := 7, ground := Ground.data }, { on := 7, ground := Ground.chain }, { on := 0, ground := Ground.phase }, { on := 1, ground := Ground.phase }, { on := 2, ground := Ground.phase }, { on := 3, ground := Ground.phase }, { on := 4, ground := Ground.phase }, { on := 5, ground := Ground.phase }, { on := 6, ground := Ground.phase }, { on := 7, ground := Ground.phase }, { on := 8, ground := Ground.phase }], guard := none }) rfl (fun K hK => ?_) ?_
                · skip
                  have kz := KZ7.out
                  obtain ⟨y0, y1, y2, y3, y4, y5, y6, y7⟩ := blk8 kz
                  have z0 := kz.frozen 0
                  have z1 := kz.frozen 1
                  have z2 := kz.frozen 2
                  have z3 := kz.frozen 3
                  have z4 := kz.frozen 4
                  have z5 := kz.frozen 5
                  have z6 := kz.frozen 6
                  have z7 := kz.frozen 7
                  have K9 := Lib.hid (show Blk _ gz 39 #[.int .i64 0, .bool true, .int .i64 1, .int .i64 5, .string ⟨#[]⟩, .int .i64 1, .int .i64 9, .string ⟨#[]⟩] by simpa using ((((((((kz.set_ 0 (.int .i64 0)).set_ 1 (.bool true)).set_ 2 (.int .i64 1)).set_ 3 (.int .i64 5)).set_ 4 (.string ⟨#[]⟩)).set_ 5 (.int .i64 1)).set_ 6 (.int .i64 9)).set_ 7 (.string ⟨#[]⟩)))
                  have hHeld1 := ((((((((hHeld.setCell (p := ⟨gz, 0, none⟩) hgz (.int .i64 0)).setCell (p := ⟨gz, 1, none⟩) hgz (.bool true)).setCell (p := ⟨gz, 2, none⟩) hgz (.int .i64 1)).setCell (p := ⟨gz, 3, none⟩) hgz (.int .i64 5)).setCell (p := ⟨gz, 4, none⟩) hgz (.string ⟨#[]⟩)).setCell (p := ⟨gz, 5, none⟩) hgz (.int .i64 1)).setCell (p := ⟨gz, 6, none⟩) hgz (.int .i64 9)).setCell (p := ⟨gz, 7, none⟩) hgz (.string ⟨#[]⟩))
                  clear kz
                  go_simp
                  clear hHeld
                  have hHeld := hHeld1
                  clear hHeld1
                  refine hK.out _ _ hHeld (fun _ => ?_)
                  clear hK K
                  try simp only [Act.put, List.setIfInBounds_toArray, List.set_cons_zero, List.set_cons_succ]
                  refine wpAnyH_done (by kernel_rfl) ?_ _
                  refine NoPanic.normal ?_
                  go_wp2_with fail
                  go_meet
                  exact ⟨gz, _, rfl, rfl, hgz, hHeld, K9.out⟩
                exact AllReadyH.nil
              exact AllReadyH.nil
            exact AllReadyH.nil
          exact AllReadyH.nil
        exact AllReadyH.nil
      refine AllReadyH.cons (o := { dst := some 2, op := Op.alloc 39, type := 0, pos := "law.go:17", after := #[], guard := none }) rfl (fun K hK => ?_) ?_
      · skip
        go_simp
        have hHeld1 := hHeld.alloc hHeld.size (.cells #[.int .i64 0, .bool false, .int .i64 0, .int .i64 0, .string ⟨#[]⟩, .int .i64 0, .int .i64 0, .string ⟨#[]⟩] 39)
        have KZ8 := Lib.hid (Blk.new V1 39 #[.int .i64 0, .bool false, .int .i64 0, .int .i64 0, .string ⟨#[]⟩, .int .i64 0, .int .i64 0, .string ⟨#[]⟩])
        have hgz : W0.heap.size ≤ V1.heap.size := hHeld.size
        obtain ⟨gz, hgz2⟩ : ∃ g, V1.heap.size = g := ⟨_, rfl⟩
        obtain ⟨Y8, hY8⟩ : ∃ q, V1.alloc (.cells #[.int .i64 0, .bool false, .int .i64 0, .int .i64 0, .string ⟨#[]⟩, .int .i64 0, .int .i64 0, .string ⟨#[]⟩] 39) = q := ⟨_, rfl⟩
        rw [hY8] at hHeld1 KZ8 ⊢
        rw [hgz2] at KZ8 hgz ⊢
        clear hY8 hgz2
        clear hHeld
        have hHeld := hHeld1
        clear hHeld1
        refine hK.out _ _ hHeld (fun _ => ?_)
        clear hK K
        try simp only [Act.put, List.setIfInBounds_toArray, List.set_cons_zero, List.set_cons_succ]
        refine wpAnyH_ready (rs := [3]) (by kernel_rfl) (by simp) ?_
        refine AllReadyH.cons (o := { dst := some 7, op := Op.call { callee := Callee.value (Operand.tmp 6), args := #[Operand.const (Value.int IntKind.i64 5)], argTypes := #[2] }, type := 37, pos := "law.go:17", after := #[{ on := 2, ground := Ground.data }, { on := 1, ground := Ground.chain }], guard := none }) rfl (fun K hK => ?_) ?_
        · skip
          go_simp
          go_at_call 17
          refine ((exN 5) _).mono ?_
          rintro e9 V3 ⟨rfl, hb9⟩
          have hHeld1 := hHeld.trans (hb9.mono hHeld.size)
          have KZ3 := Lib.hid (KZ8.out.below hb9 KZ8.out.lt)
          clear hb9
          show _
          try go_simp
          clear hHeld
          have hHeld := hHeld1
          clear hHeld1
          refine hK.out _ _ hHeld (fun _ => ?_)
          clear hK K
          try simp only [Act.put, List.setIfInBounds_toArray, List.set_cons_zero, List.set_cons_succ]
          refine wpAnyH_ready (rs := [5]) (by kernel_rfl) (by simp) ?_
          refine AllReadyH.cons (o := { dst := some 9, op := Op.call { callee := Callee.value (Operand.tmp 8), args := #[Operand.const (Value.int IntKind.i64 9)], argTypes := #[2] }, type := 37, pos := "law.go:17", after := #[{ on := 4, ground := Ground.data }, { on := 3, ground := Ground.chain }], guard := none }) rfl (fun K hK => ?_) ?_
          · skip
            go_simp
            go_at_call 17
            refine ((exN 9) _).mono ?_
            rintro e9 V5 ⟨rfl, hb9⟩
            have hHeld1 := hHeld.trans (hb9.mono hHeld.size)
            have KZ5 := Lib.hid (KZ3.out.below hb9 KZ3.out.lt)
            clear hb9
            show _
            try go_simp
            clear hHeld
            have hHeld := hHeld1
            clear hHeld1
            refine hK.out _ _ hHeld (fun _ => ?_)
            clear hK K
            try simp only [Act.put, List.setIfInBounds_toArray, List.set_cons_zero, List.set_cons_succ]
            refine wpAnyH_ready (rs := [6]) (by kernel_rfl) (by simp) ?_
            refine AllReadyH.cons (o := { dst := some 10, op := Op.buildSlice 23 3 #[(0, Operand.tmp 5), (1, Operand.tmp 7), (2, Operand.tmp 9)], type := 23, pos := "law.go:17", after := #[{ on := 1, ground := Ground.data }, { on := 3, ground := Ground.data }, { on := 5, ground := Ground.data }], guard := none }) rfl (fun K hK => ?_) ?_
            · skip
              go_simp
              have hHeld1 := hHeld.alloc hHeld.size (.cells #[.int .i64 1, .int .i64 7, .string ⟨#[]⟩, .int .i64 1, .int .i64 5, .string ⟨#[]⟩, .int .i64 1, .int .i64 9, .string ⟨#[]⟩] 37)
              have KG := Lib.hid (Blk.new V5 37 #[.int .i64 1, .int .i64 7, .string ⟨#[]⟩, .int .i64 1, .int .i64 5, .string ⟨#[]⟩, .int .i64 1, .int .i64 9, .string ⟨#[]⟩])
              have KZ6 := Lib.hid (KZ5.out.alloc (.cells #[.int .i64 1, .int .i64 7, .string ⟨#[]⟩, .int .i64 1, .int .i64 5, .string ⟨#[]⟩, .int .i64 1, .int .i64 9, .string ⟨#[]⟩] 37))
              obtain ⟨g6, hg6⟩ : ∃ g, V5.heap.size = g := ⟨_, rfl⟩
              obtain ⟨Y6, hY6⟩ : ∃ q, V5.alloc (.cells #[.int .i64 1, .int .i64 7, .string ⟨#[]⟩, .int .i64 1, .int .i64 5, .string ⟨#[]⟩, .int .i64 1, .int .i64 9, .string ⟨#[]⟩] 37) = q := ⟨_, rfl⟩
              rw [hY6] at hHeld1 KG KZ6 ⊢
              rw [hg6] at KG ⊢
              clear hY6 hg6
              clear hHeld
              have hHeld := hHeld1
              clear hHeld1
              refine hK.out _ _ hHeld (fun _ => ?_)
              clear hK K
              try simp only [Act.put, List.setIfInBounds_toArray, List.set_cons_zero, List.set_cons_succ]
              refine wpAnyH_ready (rs := [7]) (by kernel_rfl) (by simp) ?_
              refine AllReadyH.cons (o := { dst := some 11, op := Op.call { callee := Callee.value (Operand.func 10), args := #[Operand.tmp 10], argTypes := #[23] }, type := 39, pos := "law.go:17", after := #[{ on := 6, ground := Ground.data }, { on := 5, ground := Ground.chain }], guard := none }) rfl (fun K hK => ?_) ?_
              · skip
                go_simp
                go_at_call 10
                refine (HOF.out _ _ KG.out).mono ?_
                rintro e9 V7 ⟨rfl, hb9⟩
                have hHeld1 := hHeld.trans (hb9.mono hHeld.size)
                have KZ7 := Lib.hid (KZ6.out.below hb9 KZ6.out.lt)
                clear hb9
                show _
                try go_simp
                clear hHeld
                have hHeld := hHeld1
                clear hHeld1
                refine hK.out _ _ hHeld (fun _ => ?_)
                clear hK K
                try simp only [Act.put, List.setIfInBounds_toArray, List.set_cons_zero, List.set_cons_succ]
                refine wpAnyH_ready (rs := [9]) (by kernel_rfl) (by simp) ?_
                refine AllReadyH.cons (o := { dst := none, op := Op.store 39 (Operand.tmp 2) (Operand.tmp 11), type := 0, pos := "law.go:17", after := #[{ on := 8, ground := Ground.data }, { on := 7, ground := Ground.data }, { on := 7, ground := Ground.chain }, { on := 0, ground := Ground.phase }, { on := 1, ground := Ground.phase }, { on := 2, ground := Ground.phase }, { on := 3, ground := Ground.phase }, { on := 4, ground := Ground.phase }, { on := 5, ground := Ground.phase }, { on := 6, ground := Ground.phase }, { on := 7, ground := Ground.phase }, { on := 8, ground := Ground.phase }], guard := none }) rfl (fun K hK => ?_) ?_
                · skip
                  have kz := KZ7.out
                  obtain ⟨y0, y1, y2, y3, y4, y5, y6, y7⟩ := blk8 kz
                  have z0 := kz.frozen 0
                  have z1 := kz.frozen 1
                  have z2 := kz.frozen 2
                  have z3 := kz.frozen 3
                  have z4 := kz.frozen 4
                  have z5 := kz.frozen 5
                  have z6 := kz.frozen 6
                  have z7 := kz.frozen 7
                  have K9 := Lib.hid (show Blk _ gz 39 #[.int .i64 0, .bool true, .int .i64 1, .int .i64 5, .string ⟨#[]⟩, .int .i64 1, .int .i64 9, .string ⟨#[]⟩] by simpa using ((((((((kz.set_ 0 (.int .i64 0)).set_ 1 (.bool true)).set_ 2 (.int .i64 1)).set_ 3 (.int .i64 5)).set_ 4 (.string ⟨#[]⟩)).set_ 5 (.int .i64 1)).set_ 6 (.int .i64 9)).set_ 7 (.string ⟨#[]⟩)))
                  have hHeld1 := ((((((((hHeld.setCell (p := ⟨gz, 0, none⟩) hgz (.int .i64 0)).setCell (p := ⟨gz, 1, none⟩) hgz (.bool true)).setCell (p := ⟨gz, 2, none⟩) hgz (.int .i64 1)).setCell (p := ⟨gz, 3, none⟩) hgz (.int .i64 5)).setCell (p := ⟨gz, 4, none⟩) hgz (.string ⟨#[]⟩)).setCell (p := ⟨gz, 5, none⟩) hgz (.int .i64 1)).setCell (p := ⟨gz, 6, none⟩) hgz (.int .i64 9)).setCell (p := ⟨gz, 7, none⟩) hgz (.string ⟨#[]⟩))
                  clear kz
                  go_simp
                  clear hHeld
                  have hHeld := hHeld1
                  clear hHeld1
                  refine hK.out _ _ hHeld (fun _ => ?_)
                  clear hK K
                  try simp only [Act.put, List.setIfInBounds_toArray, List.set_cons_zero, List.set_cons_succ]
                  refine wpAnyH_done (by kernel_rfl) ?_ _
                  refine NoPanic.normal ?_
                  go_wp2_with fail
                  go_meet
                  exact ⟨gz, _, rfl, rfl, hgz, hHeld, K9.out⟩
                exact AllReadyH.nil
              exact AllReadyH.nil
            exact AllReadyH.nil
          exact AllReadyH.nil
        exact AllReadyH.nil
      exact AllReadyH.nil
    refine AllReadyH.cons (o := { dst := some 2, op := Op.alloc 39, type := 0, pos := "law.go:17", after := #[], guard := none }) rfl (fun K hK => ?_) ?_
    · skip
      go_simp
      have hHeld1 := hHeld.alloc hHeld.size (.cells #[.int .i64 0, .bool false, .int .i64 0, .int .i64 0, .string ⟨#[]⟩, .int .i64 0, .int .i64 0, .string ⟨#[]⟩] 39)
      have KZ8 := Lib.hid (Blk.new V0 39 #[.int .i64 0, .bool false, .int .i64 0, .int .i64 0, .string ⟨#[]⟩, .int .i64 0, .int .i64 0, .string ⟨#[]⟩])
      have hgz : W0.heap.size ≤ V0.heap.size := hHeld.size
      obtain ⟨gz, hgz2⟩ : ∃ g, V0.heap.size = g := ⟨_, rfl⟩
      obtain ⟨Y8, hY8⟩ : ∃ q, V0.alloc (.cells #[.int .i64 0, .bool false, .int .i64 0, .int .i64 0, .string ⟨#[]⟩, .int .i64 0, .int .i64 0, .string ⟨#[]⟩] 39) = q := ⟨_, rfl⟩
      rw [hY8] at hHeld1 KZ8 ⊢
      rw [hgz2] at KZ8 hgz ⊢
      clear hY8 hgz2
      clear hHeld
      have hHeld := hHeld1
      clear hHeld1
      refine hK.out _ _ hHeld (fun _ => ?_)
      clear hK K
      try simp only [Act.put, List.setIfInBounds_toArray, List.set_cons_zero, List.set_cons_succ]
      refine wpAnyH_ready (rs := [1]) (by kernel_rfl) (by simp) ?_
      refine AllReadyH.cons (o := { dst := some 5, op := Op.call { callee := Callee.value (Operand.tmp 4), args := #[Operand.const (Value.int IntKind.i64 7)], argTypes := #[2] }, type := 37, pos := "law.go:17", after := #[{ on := 0, ground := Ground.data }], guard := none }) rfl (fun K hK => ?_) ?_
      · skip
        go_simp
        go_at_call 17
        refine ((exN 7) _).mono ?_
        rintro e9 V1 ⟨rfl, hb9⟩
        have hHeld1 := hHeld.trans (hb9.mono hHeld.size)
        have KZ1 := Lib.hid (KZ8.out.below hb9 KZ8.out.lt)
        clear hb9
        show _
        try go_simp
        clear hHeld
        have hHeld := hHeld1
        clear hHeld1
        refine hK.out _ _ hHeld (fun _ => ?_)
        clear hK K
        try simp only [Act.put, List.setIfInBounds_toArray, List.set_cons_zero, List.set_cons_succ]
        refine wpAnyH_ready (rs := [3]) (by kernel_rfl) (by simp) ?_
        refine AllReadyH.cons (o := { dst := some 7, op := Op.call { callee := Callee.value (Operand.tmp 6), args := #[Operand.const (Value.int IntKind.i64 5)], argTypes := #[2] }, type := 37, pos := "law.go:17", after := #[{ on := 2, ground := Ground.data }, { on := 1, ground := Ground.chain }], guard := none }) rfl (fun K hK => ?_) ?_
        · skip
          go_simp
          go_at_call 17
          refine ((exN 5) _).mono ?_
          rintro e9 V3 ⟨rfl, hb9⟩
          have hHeld1 := hHeld.trans (hb9.mono hHeld.size)
          have KZ3 := Lib.hid (KZ1.out.below hb9 KZ1.out.lt)
          clear hb9
          show _
          try go_simp
          clear hHeld
          have hHeld := hHeld1
          clear hHeld1
          refine hK.out _ _ hHeld (fun _ => ?_)
          clear hK K
          try simp only [Act.put, List.setIfInBounds_toArray, List.set_cons_zero, List.set_cons_succ]
          refine wpAnyH_ready (rs := [5]) (by kernel_rfl) (by simp) ?_
          refine AllReadyH.cons (o := { dst := some 9, op := Op.call { callee := Callee.value (Operand.tmp 8), args := #[Operand.const (Value.int IntKind.i64 9)], argTypes := #[2] }, type := 37, pos := "law.go:17", after := #[{ on := 4, ground := Ground.data }, { on := 3, ground := Ground.chain }], guard := none }) rfl (fun K hK => ?_) ?_
          · skip
            go_simp
            go_at_call 17
            refine ((exN 9) _).mono ?_
            rintro e9 V5 ⟨rfl, hb9⟩
            have hHeld1 := hHeld.trans (hb9.mono hHeld.size)
            have KZ5 := Lib.hid (KZ3.out.below hb9 KZ3.out.lt)
            clear hb9
            show _
            try go_simp
            clear hHeld
            have hHeld := hHeld1
            clear hHeld1
            refine hK.out _ _ hHeld (fun _ => ?_)
            clear hK K
            try simp only [Act.put, List.setIfInBounds_toArray, List.set_cons_zero, List.set_cons_succ]
            refine wpAnyH_ready (rs := [6]) (by kernel_rfl) (by simp) ?_
            refine AllReadyH.cons (o := { dst := some 10, op := Op.buildSlice 23 3 #[(0, Operand.tmp 5), (1, Operand.tmp 7), (2, Operand.tmp 9)], type := 23, pos := "law.go:17", after := #[{ on := 1, ground := Ground.data }, { on := 3, ground := Ground.data }, { on := 5, ground := Ground.data }], guard := none }) rfl (fun K hK => ?_) ?_
            · skip
              go_simp
              have hHeld1 := hHeld.alloc hHeld.size (.cells #[.int .i64 1, .int .i64 7, .string ⟨#[]⟩, .int .i64 1, .int .i64 5, .string ⟨#[]⟩, .int .i64 1, .int .i64 9, .string ⟨#[]⟩] 37)
              have KG := Lib.hid (Blk.new V5 37 #[.int .i64 1, .int .i64 7, .string ⟨#[]⟩, .int .i64 1, .int .i64 5, .string ⟨#[]⟩, .int .i64 1, .int .i64 9, .string ⟨#[]⟩])
              have KZ6 := Lib.hid (KZ5.out.alloc (.cells #[.int .i64 1, .int .i64 7, .string ⟨#[]⟩, .int .i64 1, .int .i64 5, .string ⟨#[]⟩, .int .i64 1, .int .i64 9, .string ⟨#[]⟩] 37))
              obtain ⟨g6, hg6⟩ : ∃ g, V5.heap.size = g := ⟨_, rfl⟩
              obtain ⟨Y6, hY6⟩ : ∃ q, V5.alloc (.cells #[.int .i64 1, .int .i64 7, .string ⟨#[]⟩, .int .i64 1, .int .i64 5, .string ⟨#[]⟩, .int .i64 1, .int .i64 9, .string ⟨#[]⟩] 37) = q := ⟨_, rfl⟩
              rw [hY6] at hHeld1 KG KZ6 ⊢
              rw [hg6] at KG ⊢
              clear hY6 hg6
              clear hHeld
              have hHeld := hHeld1
              clear hHeld1
              refine hK.out _ _ hHeld (fun _ => ?_)
              clear hK K
              try simp only [Act.put, List.setIfInBounds_toArray, List.set_cons_zero, List.set_cons_succ]
              refine wpAnyH_ready (rs := [7]) (by kernel_rfl) (by simp) ?_
              refine AllReadyH.cons (o := { dst := some 11, op := Op.call { callee := Callee.value (Operand.func 10), args := #[Operand.tmp 10], argTypes := #[23] }, type := 39, pos := "law.go:17", after := #[{ on := 6, ground := Ground.data }, { on := 5, ground := Ground.chain }], guard := none }) rfl (fun K hK => ?_) ?_
              · skip
                go_simp
                go_at_call 10
                refine (HOF.out _ _ KG.out).mono ?_
                rintro e9 V7 ⟨rfl, hb9⟩
                have hHeld1 := hHeld.trans (hb9.mono hHeld.size)
                have KZ7 := Lib.hid (KZ6.out.below hb9 KZ6.out.lt)
                clear hb9
                show _
                try go_simp
                clear hHeld
                have hHeld := hHeld1
                clear hHeld1
                refine hK.out _ _ hHeld (fun _ => ?_)
                clear hK K
                try simp only [Act.put, List.setIfInBounds_toArray, List.set_cons_zero, List.set_cons_succ]
                refine wpAnyH_ready (rs := [9]) (by kernel_rfl) (by simp) ?_
                refine AllReadyH.cons (o := { dst := none, op := Op.store 39 (Operand.tmp 2) (Operand.tmp 11), type := 0, pos := "law.go:17", after := #[{ on := 8, ground := Ground.data }, { on := 7, ground := Ground.data }, { on := 7, ground := Ground.chain }, { on := 0, ground := Ground.phase }, { on := 1, ground := Ground.phase }, { on := 2, ground := Ground.phase }, { on := 3, ground := Ground.phase }, { on := 4, ground := Ground.phase }, { on := 5, ground := Ground.phase }, { on := 6, ground := Ground.phase }, { on := 7, ground := Ground.phase }, { on := 8, ground := Ground.phase }], guard := none }) rfl (fun K hK => ?_) ?_
                · skip
                  have kz := KZ7.out
                  obtain ⟨y0, y1, y2, y3, y4, y5, y6, y7⟩ := blk8 kz
                  have z0 := kz.frozen 0
                  have z1 := kz.frozen 1
                  have z2 := kz.frozen 2
                  have z3 := kz.frozen 3
                  have z4 := kz.frozen 4
                  have z5 := kz.frozen 5
                  have z6 := kz.frozen 6
                  have z7 := kz.frozen 7
                  have K9 := Lib.hid (show Blk _ gz 39 #[.int .i64 0, .bool true, .int .i64 1, .int .i64 5, .string ⟨#[]⟩, .int .i64 1, .int .i64 9, .string ⟨#[]⟩] by simpa using ((((((((kz.set_ 0 (.int .i64 0)).set_ 1 (.bool true)).set_ 2 (.int .i64 1)).set_ 3 (.int .i64 5)).set_ 4 (.string ⟨#[]⟩)).set_ 5 (.int .i64 1)).set_ 6 (.int .i64 9)).set_ 7 (.string ⟨#[]⟩)))
                  have hHeld1 := ((((((((hHeld.setCell (p := ⟨gz, 0, none⟩) hgz (.int .i64 0)).setCell (p := ⟨gz, 1, none⟩) hgz (.bool true)).setCell (p := ⟨gz, 2, none⟩) hgz (.int .i64 1)).setCell (p := ⟨gz, 3, none⟩) hgz (.int .i64 5)).setCell (p := ⟨gz, 4, none⟩) hgz (.string ⟨#[]⟩)).setCell (p := ⟨gz, 5, none⟩) hgz (.int .i64 1)).setCell (p := ⟨gz, 6, none⟩) hgz (.int .i64 9)).setCell (p := ⟨gz, 7, none⟩) hgz (.string ⟨#[]⟩))
                  clear kz
                  go_simp
                  clear hHeld
                  have hHeld := hHeld1
                  clear hHeld1
                  refine hK.out _ _ hHeld (fun _ => ?_)
                  clear hK K
                  try simp only [Act.put, List.setIfInBounds_toArray, List.set_cons_zero, List.set_cons_succ]
                  refine wpAnyH_done (by kernel_rfl) ?_ _
                  refine NoPanic.normal ?_
                  go_wp2_with fail
                  go_meet
                  exact ⟨gz, _, rfl, rfl, hgz, hHeld, K9.out⟩
                exact AllReadyH.nil
              exact AllReadyH.nil
            exact AllReadyH.nil
          exact AllReadyH.nil
        exact AllReadyH.nil
      exact AllReadyH.nil
    exact AllReadyH.nil
  case rest =>
    clear HOF HF0
    obtain ⟨gz, X, rfl, hX, hgz, hbz, kz⟩ := hcut
    subst hX
    have hbx := HB0.out.trans (hbz.mono HB0.out.size)
    have hfx := HKF.out.below hbz HKF.out.lt
    have hsn := exSound
    rw [show zW exZ = .agg #[.int .i64 0, .bool true, .int .i64 1, .int .i64 5, .string ⟨#[]⟩, .int .i64 1, .int .i64 9, .string ⟨#[]⟩] from rfl] at hsn
    have HSND := Lib.hid hsn
    have hr1 : ∀ W, Below X.heap.size X W → ∀ h g, Blk W h 37 #[.int .i64 1, .int .i64 5, .string ⟨#[]⟩] → Blk W g 39 #[.int .i64 0, .bool true, .int .i64 1, .int .i64 5, .string ⟨#[]⟩, .int .i64 1, .int .i64 9, .string ⟨#[]⟩] → Calls Tryd.prog 13 #[.agg #[.int .i64 3, .int .i64 0, .slice (some ⟨h, 0, none⟩) 1 1, .slice none 0 0], .int .i64 3, .slice (some ⟨g, 0, none⟩) 1 1] W fun e w' => e = .returned (.bool true) ∧ Below W.heap.size W w' := fun W hb h g kh kg => by
      have := exMay 5 (by unfold In64; omega) hRF (HBW.out.trans ((hbx.trans (hb.mono hbx.size)).mono HBW.out.size)) kh kg
      rw [exMay5] at this
      exact this
    have hr2 : ∀ W, Below X.heap.size X W → ∀ h g, Blk W h 37 #[.int .i64 1, .int .i64 6, .string ⟨#[]⟩] → Blk W g 39 #[.int .i64 0, .bool true, .int .i64 1, .int .i64 5, .string ⟨#[]⟩, .int .i64 1, .int .i64 9, .string ⟨#[]⟩] → Calls Tryd.prog 13 #[.agg #[.int .i64 3, .int .i64 0, .slice (some ⟨h, 0, none⟩) 1 1, .slice none 0 0], .int .i64 3, .slice (some ⟨g, 0, none⟩) 1 1] W fun e w' => e = .returned (.bool false) ∧ Below W.heap.size W w' := fun W hb h g kh kg => by
      have := exMay 6 (by unfold In64; omega) hRF (HBW.out.trans ((hbx.trans (hb.mono hbx.size)).mono HBW.out.size)) kh kg
      rw [exMay6] at this
      exact this
    have HRF1 := Lib.hid hr1; have HRF2 := Lib.hid hr2; have HBX := Lib.hid hbx
    have HFX := Lib.hid fun (W : World) (hb : Below X.heap.size X W) => hfx.below hb hfx.lt
    have HZ := Lib.hid fun (W : World) (hb : Below X.heap.size X W) => blk8 (kz.below hb kz.lt)
    clear hbz kz hbx hfx HB0 HKF hsn hr1 hr2 HBW hgz
    go_upto_region 4 with fail
    refine wp_region_noPanic ?_
    refine wp_region_held_drew (S := fun w7 => Below X.heap.size X w7) (by kernel_rfl) (below_drew (Below.refl _ _)) (fun hHeld => ?_)
    obtain ⟨X1, hV⟩ : ∃ q, X.drew = q := ⟨_, rfl⟩
    rw [hV] at hHeld ⊢
    clear hV
    refine wpAnyH_take (i := 0) (oi := { dst := some 13, op := Op.move (Operand.tmp 3), type := 52, pos := "law.go:19", after := #[], guard := none }) (v := ?_) rfl (by kernel_rfl) (by kernel_rfl) (by kernel_rfl) (fun _ _ _ => npA) (Or.inl ⟨by rfl, ?_⟩) (by assumption) ?_
    rotate_left
    · intro W hSw
      try dsimp only at hSw
      try clear hSw
      go_simp
      try with_reducible rfl
    try simp only [Act.put, List.setIfInBounds_toArray, List.set_cons_zero, List.set_cons_succ]
    refine wpAnyH_take (i := 2) (oi := { dst := some 15, op := Op.load 39 (Operand.tmp 2), type := 39, pos := "law.go:19", after := #[], guard := none }) (v := ?_) rfl (by kernel_rfl) (by kernel_rfl) (by kernel_rfl) (fun _ _ _ => npA) (Or.inl ⟨by rfl, ?_⟩) (by assumption) ?_
    rotate_left
    · intro W hSw
      try dsimp only at hSw
      obtain ⟨y0, y1, y2, y3, y4, y5, y6, y7⟩ := HZ.out W hSw
      try clear hSw
      go_simp
      try with_reducible rfl
    try simp only [Act.put, List.setIfInBounds_toArray, List.set_cons_zero, List.set_cons_succ]
    refine wpAnyH_ready (rs := [1, 3]) (by kernel_rfl) (by simp) ?_
    refine AllReadyH.cons (o := { dst := some 14, op := Op.call { callee := Callee.value (Operand.tmp 13), args := #[Operand.const (Value.int IntKind.i64 5)], argTypes := #[2] }, type := 26, pos := "law.go:19", after := #[{ on := 0, ground := Ground.data }], guard := none }) rfl (fun K hK => ?_) ?_
    · skip
      go_simp
      go_at_call 18
      refine (exLt 5 (HFX.out _ hHeld)).mono ?_
      rintro e9 LA1 ⟨h1, rfl, hl1, kl1, hb9⟩
      have hHeld1 := hHeld.trans (hb9.mono hHeld.size)
      have KL1 := Lib.hid kl1
      clear kl1 hl1 hb9
      show _
      try go_simp
      clear hHeld
      have hHeld := hHeld1
      clear hHeld1
      refine hK.out _ _ hHeld (fun _ => ?_)
      clear hK K
      try simp only [Act.put, List.setIfInBounds_toArray, List.set_cons_zero, List.set_cons_succ]
      refine wpAnyH_ready (rs := [3]) (by kernel_rfl) (by simp) ?_
      refine AllReadyH.cons (o := { dst := some 16, op := Op.buildSlice 34 1 #[(0, Operand.tmp 15)], type := 34, pos := "law.go:19", after := #[{ on := 2, ground := Ground.data }], guard := none }) rfl (fun K hK => ?_) ?_
      · skip
        go_simp
        have hHeld1 := hHeld.alloc hHeld.size (.cells #[.int .i64 0, .bool true, .int .i64 1, .int .i64 5, .string ⟨#[]⟩, .int .i64 1, .int .i64 9, .string ⟨#[]⟩] 39)
        have KR1 := Lib.hid (Blk.new LA1 39 #[.int .i64 0, .bool true, .int .i64 1, .int .i64 5, .string ⟨#[]⟩, .int .i64 1, .int .i64 9, .string ⟨#[]⟩])
        have KM1 := Lib.hid (KL1.out.alloc (.cells #[.int .i64 0, .bool true, .int .i64 1, .int .i64 5, .string ⟨#[]⟩, .int .i64 1, .int .i64 9, .string ⟨#[]⟩] 39))
        obtain ⟨gr1, hgr1⟩ : ∃ g, LA1.heap.size = g := ⟨_, rfl⟩
        obtain ⟨P1, hP1⟩ : ∃ q, LA1.alloc (.cells #[.int .i64 0, .bool true, .int .i64 1, .int .i64 5, .string ⟨#[]⟩, .int .i64 1, .int .i64 9, .string ⟨#[]⟩] 39) = q := ⟨_, rfl⟩
        rw [hP1] at hHeld1 KR1 KM1 ⊢
        rw [hgr1] at KR1 ⊢
        clear hP1 hgr1 KL1
        clear hHeld
        have hHeld := hHeld1
        clear hHeld1
        refine hK.out _ _ hHeld (fun _ => ?_)
        clear hK K
        try simp only [Act.put, List.setIfInBounds_toArray, List.set_cons_zero, List.set_cons_succ]
        refine wpAnyH_ready (rs := [4]) (by kernel_rfl) (by simp) ?_
        refine AllReadyH.cons (o := { dst := some 17, op := Op.call { callee := Callee.value (Operand.func 13), args := #[Operand.tmp 14, Operand.const (Value.int IntKind.i64 3), Operand.tmp 16], argTypes := #[26, 3, 34] }, type := 4, pos := "law.go:19", after := #[{ on := 1, ground := Ground.data }, { on := 3, ground := Ground.data }, { on := 1, ground := Ground.chain }], guard := none }) rfl (fun K hK => ?_) ?_
        · skip
          go_simp
          go_at_call 13
          refine (HRF1.out _ hHeld _ _ KM1.out KR1.out).mono ?_
          rintro e9 R1 ⟨rfl, hb9⟩
          have hHeld1 := hHeld.trans (hb9.mono hHeld.size)
          clear hb9 KM1 KR1
          show _
          try go_simp
          clear hHeld
          have hHeld := hHeld1
          clear hHeld1
          refine hK.out _ _ hHeld (fun _ => ?_)
          clear hK K
          try simp only [Act.put, List.setIfInBounds_toArray, List.set_cons_zero, List.set_cons_succ]
          refine wpAnyH_take (i := 5) (oi := { dst := some 18, op := Op.move (Operand.tmp 17), type := 4, pos := "law.go:19", after := #[{ on := 4, ground := Ground.data }, { on := 4, ground := Ground.chain }], guard := none }) (v := ?_) rfl (by kernel_rfl) (by kernel_rfl) (by kernel_rfl) (fun _ _ _ => npA) (Or.inl ⟨by rfl, ?_⟩) (by assumption) ?_
          rotate_left
          · intro W hSw
            try dsimp only at hSw
            try clear hSw
            go_simp
            try with_reducible rfl
          try simp only [Act.put, List.setIfInBounds_toArray, List.set_cons_zero, List.set_cons_succ]
          refine wpAnyH_take (i := 6) (oi := { dst := some 19, op := Op.move (Operand.tmp 3), type := 52, pos := "law.go:19", after := #[{ on := 5, ground := Ground.guard }], guard := some (5, true) }) (v := ?_) rfl (by kernel_rfl) (by kernel_rfl) (by kernel_rfl) (fun _ _ _ => npA) (Or.inl ⟨by rfl, ?_⟩) (by assumption) ?_
          rotate_left
          · intro W hSw
            try dsimp only at hSw
            try clear hSw
            go_simp
            try with_reducible rfl
          try simp only [Act.put, List.setIfInBounds_toArray, List.set_cons_zero, List.set_cons_succ]
          refine wpAnyH_take (i := 8) (oi := { dst := some 21, op := Op.load 39 (Operand.tmp 2), type := 39, pos := "law.go:19", after := #[{ on := 5, ground := Ground.guard }], guard := some (5, true) }) (v := ?_) rfl (by kernel_rfl) (by kernel_rfl) (by kernel_rfl) (fun _ _ _ => npA) (Or.inl ⟨by rfl, ?_⟩) (by assumption) ?_
          rotate_left
          · intro W hSw
            try dsimp only at hSw
            obtain ⟨y0, y1, y2, y3, y4, y5, y6, y7⟩ := HZ.out W hSw
            try clear hSw
            go_simp
            try with_reducible rfl
          try simp only [Act.put, List.setIfInBounds_toArray, List.set_cons_zero, List.set_cons_succ]
          refine wpAnyH_ready (rs := [7, 9]) (by kernel_rfl) (by simp) ?_
          refine AllReadyH.cons (o := { dst := some 20, op := Op.call { callee := Callee.value (Operand.tmp 19), args := #[Operand.const (Value.int IntKind.i64 6)], argTypes := #[2] }, type := 26, pos := "law.go:19", after := #[{ on := 6, ground := Ground.data }, { on := 5, ground := Ground.chain }, { on := 5, ground := Ground.guard }], guard := some (5, true) }) rfl (fun K hK => ?_) ?_
          · skip
            go_simp
            go_at_call 18
            refine (exLt 6 (HFX.out _ hHeld)).mono ?_
            rintro e9 LA2 ⟨h2, rfl, hl2, kl2, hb9⟩
            have hHeld1 := hHeld.trans (hb9.mono hHeld.size)
            have KL2 := Lib.hid kl2
            clear kl2 hl2 hb9
            show _
            try go_simp
            clear hHeld
            have hHeld := hHeld1
            clear hHeld1
            refine hK.out _ _ hHeld (fun _ => ?_)
            clear hK K
            try simp only [Act.put, List.setIfInBounds_toArray, List.set_cons_zero, List.set_cons_succ]
            refine wpAnyH_ready (rs := [9]) (by kernel_rfl) (by simp) ?_
            refine AllReadyH.cons (o := { dst := some 22, op := Op.buildSlice 34 1 #[(0, Operand.tmp 21)], type := 34, pos := "law.go:19", after := #[{ on := 8, ground := Ground.data }, { on := 5, ground := Ground.guard }], guard := some (5, true) }) rfl (fun K hK => ?_) ?_
            · skip
              go_simp
              have hHeld1 := hHeld.alloc hHeld.size (.cells #[.int .i64 0, .bool true, .int .i64 1, .int .i64 5, .string ⟨#[]⟩, .int .i64 1, .int .i64 9, .string ⟨#[]⟩] 39)
              have KR2 := Lib.hid (Blk.new LA2 39 #[.int .i64 0, .bool true, .int .i64 1, .int .i64 5, .string ⟨#[]⟩, .int .i64 1, .int .i64 9, .string ⟨#[]⟩])
              have KM2 := Lib.hid (KL2.out.alloc (.cells #[.int .i64 0, .bool true, .int .i64 1, .int .i64 5, .string ⟨#[]⟩, .int .i64 1, .int .i64 9, .string ⟨#[]⟩] 39))
              obtain ⟨gr2, hgr2⟩ : ∃ g, LA2.heap.size = g := ⟨_, rfl⟩
              obtain ⟨P2, hP2⟩ : ∃ q, LA2.alloc (.cells #[.int .i64 0, .bool true, .int .i64 1, .int .i64 5, .string ⟨#[]⟩, .int .i64 1, .int .i64 9, .string ⟨#[]⟩] 39) = q := ⟨_, rfl⟩
              rw [hP2] at hHeld1 KR2 KM2 ⊢
              rw [hgr2] at KR2 ⊢
              clear hP2 hgr2 KL2
              clear hHeld
              have hHeld := hHeld1
              clear hHeld1
              refine hK.out _ _ hHeld (fun _ => ?_)
              clear hK K
              try simp only [Act.put, List.setIfInBounds_toArray, List.set_cons_zero, List.set_cons_succ]
              refine wpAnyH_ready (rs := [10]) (by kernel_rfl) (by simp) ?_
              refine AllReadyH.cons (o := { dst := some 23, op := Op.call { callee := Callee.value (Operand.func 13), args := #[Operand.tmp 20, Operand.const (Value.int IntKind.i64 3), Operand.tmp 22], argTypes := #[26, 3, 34] }, type := 4, pos := "law.go:19", after := #[{ on := 7, ground := Ground.data }, { on := 9, ground := Ground.data }, { on := 7, ground := Ground.chain }, { on := 5, ground := Ground.guard }], guard := some (5, true) }) rfl (fun K hK => ?_) ?_
              · skip
                go_simp
                go_at_call 13
                refine (HRF2.out _ hHeld _ _ KM2.out KR2.out).mono ?_
                rintro e9 R2 ⟨rfl, hb9⟩
                have hHeld1 := hHeld.trans (hb9.mono hHeld.size)
                clear hb9 KM2 KR2
                show _
                try go_simp
                clear hHeld
                have hHeld := hHeld1
                clear hHeld1
                refine hK.out _ _ hHeld (fun _ => ?_)
                clear hK K
                try simp only [Act.put, List.setIfInBounds_toArray, List.set_cons_zero, List.set_cons_succ]
                refine wpAnyH_take (i := 11) (oi := { dst := some 24, op := Op.unOp UnOp.not 4 (Operand.tmp 23), type := 4, pos := "law.go:19", after := #[{ on := 10, ground := Ground.data }, { on := 5, ground := Ground.guard }], guard := some (5, true) }) (v := ?_) rfl (by kernel_rfl) (by kernel_rfl) (by kernel_rfl) (fun _ _ _ => npA) (Or.inl ⟨by rfl, ?_⟩) (by assumption) ?_
                rotate_left
                · intro W hSw
                  try dsimp only at hSw
                  try clear hSw
                  go_simp
                  try with_reducible rfl
                try simp only [Act.put, List.setIfInBounds_toArray, List.set_cons_zero, List.set_cons_succ]
                refine wpAnyH_take (i := 12) (oi := { dst := some 25, op := Op.pick (Operand.tmp 18) (Operand.tmp 24) (Operand.const (Value.bool false)), type := 4, pos := "law.go:19", after := #[{ on := 5, ground := Ground.data }, { on := 11, ground := Ground.data }], guard := none }) (v := ?_) rfl (by kernel_rfl) (by kernel_rfl) (by kernel_rfl) (fun _ _ _ => npA) (Or.inl ⟨by rfl, ?_⟩) (by assumption) ?_
                rotate_left
                · intro W hSw
                  try dsimp only at hSw
                  try clear hSw
                  go_simp
                  try with_reducible rfl
                try simp only [Act.put, List.setIfInBounds_toArray, List.set_cons_zero, List.set_cons_succ]
                refine wpAnyH_take (i := 13) (oi := { dst := some 26, op := Op.move (Operand.tmp 25), type := 4, pos := "law.go:19", after := #[{ on := 12, ground := Ground.data }, { on := 10, ground := Ground.chain }], guard := none }) (v := ?_) rfl (by kernel_rfl) (by kernel_rfl) (by kernel_rfl) (fun _ _ _ => npA) (Or.inl ⟨by rfl, ?_⟩) (by assumption) ?_
                rotate_left
                · intro W hSw
                  try dsimp only at hSw
                  try clear hSw
                  go_simp
                  try with_reducible rfl
                try simp only [Act.put, List.setIfInBounds_toArray, List.set_cons_zero, List.set_cons_succ]
                refine wpAnyH_take (i := 14) (oi := { dst := some 27, op := Op.load 39 (Operand.tmp 2), type := 39, pos := "law.go:19", after := #[{ on := 13, ground := Ground.guard }], guard := some (13, true) }) (v := ?_) rfl (by kernel_rfl) (by kernel_rfl) (by kernel_rfl) (fun _ _ _ => npA) (Or.inl ⟨by rfl, ?_⟩) (by assumption) ?_
                rotate_left
                · intro W hSw
                  try dsimp only at hSw
                  obtain ⟨y0, y1, y2, y3, y4, y5, y6, y7⟩ := HZ.out W hSw
                  try clear hSw
                  go_simp
                  try with_reducible rfl
                try simp only [Act.put, List.setIfInBounds_toArray, List.set_cons_zero, List.set_cons_succ]
                refine wpAnyH_ready (rs := [15]) (by kernel_rfl) (by simp) ?_
                refine AllReadyH.cons (o := { dst := some 28, op := Op.call { callee := Callee.value (Operand.func 11), args := #[Operand.tmp 27, Operand.const (Value.int IntKind.i64 3), Operand.const (Value.int IntKind.i64 1)], argTypes := #[39, 3, 3] }, type := 4, pos := "law.go:19", after := #[{ on := 14, ground := Ground.data }, { on := 13, ground := Ground.chain }, { on := 13, ground := Ground.guard }], guard := some (13, true) }) rfl (fun K hK => ?_) ?_
                · skip
                  go_simp
                  go_at_call 11
                  refine (HSND.out _).mono ?_
                  rintro e9 R3 ⟨rfl, hb9⟩
                  have hHeld1 := hHeld.trans (hb9.mono hHeld.size)
                  clear hb9
                  show _
                  try go_simp
                  clear hHeld
                  have hHeld := hHeld1
                  clear hHeld1
                  refine hK.out _ _ hHeld (fun _ => ?_)
                  clear hK K
                  try simp only [Act.put, List.setIfInBounds_toArray, List.set_cons_zero, List.set_cons_succ]
                  refine wpAnyH_take (i := 16) (oi := { dst := some 29, op := Op.pick (Operand.tmp 26) (Operand.tmp 28) (Operand.const (Value.bool false)), type := 4, pos := "law.go:19", after := #[{ on := 13, ground := Ground.data }, { on := 15, ground := Ground.data }], guard := none }) (v := ?_) rfl (by kernel_rfl) (by kernel_rfl) (by kernel_rfl) (fun _ _ _ => npA) (Or.inl ⟨by rfl, ?_⟩) (by assumption) ?_
                  rotate_left
                  · intro W hSw
                    try dsimp only at hSw
                    try clear hSw
                    go_simp
                    try with_reducible rfl
                  try simp only [Act.put, List.setIfInBounds_toArray, List.set_cons_zero, List.set_cons_succ]
                  refine wpAnyH_take (i := 17) (oi := { dst := some 0, op := Op.assign (Operand.tmp 29), type := 4, pos := "law.go:19", after := #[{ on := 16, ground := Ground.data }, { on := 15, ground := Ground.chain }, { on := 0, ground := Ground.phase }, { on := 1, ground := Ground.phase }, { on := 2, ground := Ground.phase }, { on := 3, ground := Ground.phase }, { on := 4, ground := Ground.phase }, { on := 5, ground := Ground.phase }, { on := 6, ground := Ground.phase }, { on := 7, ground := Ground.phase }, { on := 8, ground := Ground.phase }, { on := 9, ground := Ground.phase }, { on := 10, ground := Ground.phase }, { on := 11, ground := Ground.phase }, { on := 12, ground := Ground.phase }, { on := 13, ground := Ground.phase }, { on := 14, ground := Ground.phase }, { on := 15, ground := Ground.phase }, { on := 16, ground := Ground.phase }], guard := none }) (v := ?_) rfl (by kernel_rfl) (by kernel_rfl) (by kernel_rfl) (fun _ _ _ => npA) (Or.inl ⟨by rfl, ?_⟩) (by assumption) ?_
                  rotate_left
                  · intro W hSw
                    try dsimp only at hSw
                    try clear hSw
                    go_simp
                    try with_reducible rfl
                  try simp only [Act.put, List.setIfInBounds_toArray, List.set_cons_zero, List.set_cons_succ]
                  refine wpAnyH_done (by kernel_rfl) ?_ _
                  refine NoPanic.normal ?_
                  go_wp2_with fail
                  go_ret
                  exact ⟨by first | rfl | simp, HBX.out.trans (hHeld.mono HBX.out.size)⟩
                exact AllReadyH.nil
              exact AllReadyH.nil
            exact AllReadyH.nil
          refine AllReadyH.cons (o := { dst := some 22, op := Op.buildSlice 34 1 #[(0, Operand.tmp 21)], type := 34, pos := "law.go:19", after := #[{ on := 8, ground := Ground.data }, { on := 5, ground := Ground.guard }], guard := some (5, true) }) rfl (fun K hK => ?_) ?_
          · skip
            go_simp
            have hHeld1 := hHeld.alloc hHeld.size (.cells #[.int .i64 0, .bool true, .int .i64 1, .int .i64 5, .string ⟨#[]⟩, .int .i64 1, .int .i64 9, .string ⟨#[]⟩] 39)
            have KR2 := Lib.hid (Blk.new R1 39 #[.int .i64 0, .bool true, .int .i64 1, .int .i64 5, .string ⟨#[]⟩, .int .i64 1, .int .i64 9, .string ⟨#[]⟩])
            obtain ⟨gr2, hgr2⟩ : ∃ g, R1.heap.size = g := ⟨_, rfl⟩
            obtain ⟨Q2, hQ2⟩ : ∃ q, R1.alloc (.cells #[.int .i64 0, .bool true, .int .i64 1, .int .i64 5, .string ⟨#[]⟩, .int .i64 1, .int .i64 9, .string ⟨#[]⟩] 39) = q := ⟨_, rfl⟩
            rw [hQ2] at hHeld1 KR2 ⊢
            rw [hgr2] at KR2 ⊢
            clear hQ2 hgr2
            clear hHeld
            have hHeld := hHeld1
            clear hHeld1
            refine hK.out _ _ hHeld (fun _ => ?_)
            clear hK K
            try simp only [Act.put, List.setIfInBounds_toArray, List.set_cons_zero, List.set_cons_succ]
            refine wpAnyH_ready (rs := [7]) (by kernel_rfl) (by simp) ?_
            refine AllReadyH.cons (o := { dst := some 20, op := Op.call { callee := Callee.value (Operand.tmp 19), args := #[Operand.const (Value.int IntKind.i64 6)], argTypes := #[2] }, type := 26, pos := "law.go:19", after := #[{ on := 6, ground := Ground.data }, { on := 5, ground := Ground.chain }, { on := 5, ground := Ground.guard }], guard := some (5, true) }) rfl (fun K hK => ?_) ?_
            · skip
              go_simp
              go_at_call 18
              refine (exLt 6 (HFX.out _ hHeld)).mono ?_
              rintro e9 P2 ⟨h2, rfl, hl2, kl2, hb9⟩
              have hHeld1 := hHeld.trans (hb9.mono hHeld.size)
              have KL2 := Lib.hid kl2
              have KM2 := KL2
              have KR2b := Lib.hid (KR2.out.below hb9 KR2.out.lt)
              clear KR2 kl2 hl2 hb9 KL2
              have KR2 := KR2b
              clear KR2b
              show _
              try go_simp
              clear hHeld
              have hHeld := hHeld1
              clear hHeld1
              refine hK.out _ _ hHeld (fun _ => ?_)
              clear hK K
              try simp only [Act.put, List.setIfInBounds_toArray, List.set_cons_zero, List.set_cons_succ]
              refine wpAnyH_ready (rs := [10]) (by kernel_rfl) (by simp) ?_
              refine AllReadyH.cons (o := { dst := some 23, op := Op.call { callee := Callee.value (Operand.func 13), args := #[Operand.tmp 20, Operand.const (Value.int IntKind.i64 3), Operand.tmp 22], argTypes := #[26, 3, 34] }, type := 4, pos := "law.go:19", after := #[{ on := 7, ground := Ground.data }, { on := 9, ground := Ground.data }, { on := 7, ground := Ground.chain }, { on := 5, ground := Ground.guard }], guard := some (5, true) }) rfl (fun K hK => ?_) ?_
              · skip
                go_simp
                go_at_call 13
                refine (HRF2.out _ hHeld _ _ KM2.out KR2.out).mono ?_
                rintro e9 R2 ⟨rfl, hb9⟩
                have hHeld1 := hHeld.trans (hb9.mono hHeld.size)
                clear hb9 KM2 KR2
                show _
                try go_simp
                clear hHeld
                have hHeld := hHeld1
                clear hHeld1
                refine hK.out _ _ hHeld (fun _ => ?_)
                clear hK K
                try simp only [Act.put, List.setIfInBounds_toArray, List.set_cons_zero, List.set_cons_succ]
                refine wpAnyH_take (i := 11) (oi := { dst := some 24, op := Op.unOp UnOp.not 4 (Operand.tmp 23), type := 4, pos := "law.go:19", after := #[{ on := 10, ground := Ground.data }, { on := 5, ground := Ground.guard }], guard := some (5, true) }) (v := ?_) rfl (by kernel_rfl) (by kernel_rfl) (by kernel_rfl) (fun _ _ _ => npA) (Or.inl ⟨by rfl, ?_⟩) (by assumption) ?_
                rotate_left
                · intro W hSw
                  try dsimp only at hSw
                  try clear hSw
                  go_simp
                  try with_reducible rfl
                try simp only [Act.put, List.setIfInBounds_toArray, List.set_cons_zero, List.set_cons_succ]
                refine wpAnyH_take (i := 12) (oi := { dst := some 25, op := Op.pick (Operand.tmp 18) (Operand.tmp 24) (Operand.const (Value.bool false)), type := 4, pos := "law.go:19", after := #[{ on := 5, ground := Ground.data }, { on := 11, ground := Ground.data }], guard := none }) (v := ?_) rfl (by kernel_rfl) (by kernel_rfl) (by kernel_rfl) (fun _ _ _ => npA) (Or.inl ⟨by rfl, ?_⟩) (by assumption) ?_
                rotate_left
                · intro W hSw
                  try dsimp only at hSw
                  try clear hSw
                  go_simp
                  try with_reducible rfl
                try simp only [Act.put, List.setIfInBounds_toArray, List.set_cons_zero, List.set_cons_succ]
                refine wpAnyH_take (i := 13) (oi := { dst := some 26, op := Op.move (Operand.tmp 25), type := 4, pos := "law.go:19", after := #[{ on := 12, ground := Ground.data }, { on := 10, ground := Ground.chain }], guard := none }) (v := ?_) rfl (by kernel_rfl) (by kernel_rfl) (by kernel_rfl) (fun _ _ _ => npA) (Or.inl ⟨by rfl, ?_⟩) (by assumption) ?_
                rotate_left
                · intro W hSw
                  try dsimp only at hSw
                  try clear hSw
                  go_simp
                  try with_reducible rfl
                try simp only [Act.put, List.setIfInBounds_toArray, List.set_cons_zero, List.set_cons_succ]
                refine wpAnyH_take (i := 14) (oi := { dst := some 27, op := Op.load 39 (Operand.tmp 2), type := 39, pos := "law.go:19", after := #[{ on := 13, ground := Ground.guard }], guard := some (13, true) }) (v := ?_) rfl (by kernel_rfl) (by kernel_rfl) (by kernel_rfl) (fun _ _ _ => npA) (Or.inl ⟨by rfl, ?_⟩) (by assumption) ?_
                rotate_left
                · intro W hSw
                  try dsimp only at hSw
                  obtain ⟨y0, y1, y2, y3, y4, y5, y6, y7⟩ := HZ.out W hSw
                  try clear hSw
                  go_simp
                  try with_reducible rfl
                try simp only [Act.put, List.setIfInBounds_toArray, List.set_cons_zero, List.set_cons_succ]
                refine wpAnyH_ready (rs := [15]) (by kernel_rfl) (by simp) ?_
                refine AllReadyH.cons (o := { dst := some 28, op := Op.call { callee := Callee.value (Operand.func 11), args := #[Operand.tmp 27, Operand.const (Value.int IntKind.i64 3), Operand.const (Value.int IntKind.i64 1)], argTypes := #[39, 3, 3] }, type := 4, pos := "law.go:19", after := #[{ on := 14, ground := Ground.data }, { on := 13, ground := Ground.chain }, { on := 13, ground := Ground.guard }], guard := some (13, true) }) rfl (fun K hK => ?_) ?_
                · skip
                  go_simp
                  go_at_call 11
                  refine (HSND.out _).mono ?_
                  rintro e9 R3 ⟨rfl, hb9⟩
                  have hHeld1 := hHeld.trans (hb9.mono hHeld.size)
                  clear hb9
                  show _
                  try go_simp
                  clear hHeld
                  have hHeld := hHeld1
                  clear hHeld1
                  refine hK.out _ _ hHeld (fun _ => ?_)
                  clear hK K
                  try simp only [Act.put, List.setIfInBounds_toArray, List.set_cons_zero, List.set_cons_succ]
                  refine wpAnyH_take (i := 16) (oi := { dst := some 29, op := Op.pick (Operand.tmp 26) (Operand.tmp 28) (Operand.const (Value.bool false)), type := 4, pos := "law.go:19", after := #[{ on := 13, ground := Ground.data }, { on := 15, ground := Ground.data }], guard := none }) (v := ?_) rfl (by kernel_rfl) (by kernel_rfl) (by kernel_rfl) (fun _ _ _ => npA) (Or.inl ⟨by rfl, ?_⟩) (by assumption) ?_
                  rotate_left
                  · intro W hSw
                    try dsimp only at hSw
                    try clear hSw
                    go_simp
                    try with_reducible rfl
                  try simp only [Act.put, List.setIfInBounds_toArray, List.set_cons_zero, List.set_cons_succ]
                  refine wpAnyH_take (i := 17) (oi := { dst := some 0, op := Op.assign (Operand.tmp 29), type := 4, pos := "law.go:19", after := #[{ on := 16, ground := Ground.data }, { on := 15, ground := Ground.chain }, { on := 0, ground := Ground.phase }, { on := 1, ground := Ground.phase }, { on := 2, ground := Ground.phase }, { on := 3, ground := Ground.phase }, { on := 4, ground := Ground.phase }, { on := 5, ground := Ground.phase }, { on := 6, ground := Ground.phase }, { on := 7, ground := Ground.phase }, { on := 8, ground := Ground.phase }, { on := 9, ground := Ground.phase }, { on := 10, ground := Ground.phase }, { on := 11, ground := Ground.phase }, { on := 12, ground := Ground.phase }, { on := 13, ground := Ground.phase }, { on := 14, ground := Ground.phase }, { on := 15, ground := Ground.phase }, { on := 16, ground := Ground.phase }], guard := none }) (v := ?_) rfl (by kernel_rfl) (by kernel_rfl) (by kernel_rfl) (fun _ _ _ => npA) (Or.inl ⟨by rfl, ?_⟩) (by assumption) ?_
                  rotate_left
                  · intro W hSw
                    try dsimp only at hSw
                    try clear hSw
                    go_simp
                    try with_reducible rfl
                  try simp only [Act.put, List.setIfInBounds_toArray, List.set_cons_zero, List.set_cons_succ]
                  refine wpAnyH_done (by kernel_rfl) ?_ _
                  refine NoPanic.normal ?_
                  go_wp2_with fail
                  go_ret
                  exact ⟨by first | rfl | simp, HBX.out.trans (hHeld.mono HBX.out.size)⟩
                exact AllReadyH.nil
              exact AllReadyH.nil
            exact AllReadyH.nil
          exact AllReadyH.nil
        exact AllReadyH.nil
      exact AllReadyH.nil
    refine AllReadyH.cons (o := { dst := some 16, op := Op.buildSlice 34 1 #[(0, Operand.tmp 15)], type := 34, pos := "law.go:19", after := #[{ on := 2, ground := Ground.data }], guard := none }) rfl (fun K hK => ?_) ?_
    · skip
      go_simp
      have hHeld1 := hHeld.alloc hHeld.size (.cells #[.int .i64 0, .bool true, .int .i64 1, .int .i64 5, .string ⟨#[]⟩, .int .i64 1, .int .i64 9, .string ⟨#[]⟩] 39)
      have KR1 := Lib.hid (Blk.new X1 39 #[.int .i64 0, .bool true, .int .i64 1, .int .i64 5, .string ⟨#[]⟩, .int .i64 1, .int .i64 9, .string ⟨#[]⟩])
      obtain ⟨gr1, hgr1⟩ : ∃ g, X1.heap.size = g := ⟨_, rfl⟩
      obtain ⟨Q1, hQ1⟩ : ∃ q, X1.alloc (.cells #[.int .i64 0, .bool true, .int .i64 1, .int .i64 5, .string ⟨#[]⟩, .int .i64 1, .int .i64 9, .string ⟨#[]⟩] 39) = q := ⟨_, rfl⟩
      rw [hQ1] at hHeld1 KR1 ⊢
      rw [hgr1] at KR1 ⊢
      clear hQ1 hgr1
      clear hHeld
      have hHeld := hHeld1
      clear hHeld1
      refine hK.out _ _ hHeld (fun _ => ?_)
      clear hK K
      try simp only [Act.put, List.setIfInBounds_toArray, List.set_cons_zero, List.set_cons_succ]
      refine wpAnyH_ready (rs := [1]) (by kernel_rfl) (by simp) ?_
      refine AllReadyH.cons (o := { dst := some 14, op := Op.call { callee := Callee.value (Operand.tmp 13), args := #[Operand.const (Value.int IntKind.i64 5)], argTypes := #[2] }, type := 26, pos := "law.go:19", after := #[{ on := 0, ground := Ground.data }], guard := none }) rfl (fun K hK => ?_) ?_
      · skip
        go_simp
        go_at_call 18
        refine (exLt 5 (HFX.out _ hHeld)).mono ?_
        rintro e9 P1 ⟨h1, rfl, hl1, kl1, hb9⟩
        have hHeld1 := hHeld.trans (hb9.mono hHeld.size)
        have KL1 := Lib.hid kl1
        have KM1 := KL1
        have KR1b := Lib.hid (KR1.out.below hb9 KR1.out.lt)
        clear KR1 kl1 hl1 hb9 KL1
        have KR1 := KR1b
        clear KR1b
        show _
        try go_simp
        clear hHeld
        have hHeld := hHeld1
        clear hHeld1
        refine hK.out _ _ hHeld (fun _ => ?_)
        clear hK K
        try simp only [Act.put, List.setIfInBounds_toArray, List.set_cons_zero, List.set_cons_succ]
        refine wpAnyH_ready (rs := [4]) (by kernel_rfl) (by simp) ?_
        refine AllReadyH.cons (o := { dst := some 17, op := Op.call { callee := Callee.value (Operand.func 13), args := #[Operand.tmp 14, Operand.const (Value.int IntKind.i64 3), Operand.tmp 16], argTypes := #[26, 3, 34] }, type := 4, pos := "law.go:19", after := #[{ on := 1, ground := Ground.data }, { on := 3, ground := Ground.data }, { on := 1, ground := Ground.chain }], guard := none }) rfl (fun K hK => ?_) ?_
        · skip
          go_simp
          go_at_call 13
          refine (HRF1.out _ hHeld _ _ KM1.out KR1.out).mono ?_
          rintro e9 R1 ⟨rfl, hb9⟩
          have hHeld1 := hHeld.trans (hb9.mono hHeld.size)
          clear hb9 KM1 KR1
          show _
          try go_simp
          clear hHeld
          have hHeld := hHeld1
          clear hHeld1
          refine hK.out _ _ hHeld (fun _ => ?_)
          clear hK K
          try simp only [Act.put, List.setIfInBounds_toArray, List.set_cons_zero, List.set_cons_succ]
          refine wpAnyH_take (i := 5) (oi := { dst := some 18, op := Op.move (Operand.tmp 17), type := 4, pos := "law.go:19", after := #[{ on := 4, ground := Ground.data }, { on := 4, ground := Ground.chain }], guard := none }) (v := ?_) rfl (by kernel_rfl) (by kernel_rfl) (by kernel_rfl) (fun _ _ _ => npA) (Or.inl ⟨by rfl, ?_⟩) (by assumption) ?_
          rotate_left
          · intro W hSw
            try dsimp only at hSw
            try clear hSw
            go_simp
            try with_reducible rfl
          try simp only [Act.put, List.setIfInBounds_toArray, List.set_cons_zero, List.set_cons_succ]
          refine wpAnyH_take (i := 6) (oi := { dst := some 19, op := Op.move (Operand.tmp 3), type := 52, pos := "law.go:19", after := #[{ on := 5, ground := Ground.guard }], guard := some (5, true) }) (v := ?_) rfl (by kernel_rfl) (by kernel_rfl) (by kernel_rfl) (fun _ _ _ => npA) (Or.inl ⟨by rfl, ?_⟩) (by assumption) ?_
          rotate_left
          · intro W hSw
            try dsimp only at hSw
            try clear hSw
            go_simp
            try with_reducible rfl
          try simp only [Act.put, List.setIfInBounds_toArray, List.set_cons_zero, List.set_cons_succ]
          refine wpAnyH_take (i := 8) (oi := { dst := some 21, op := Op.load 39 (Operand.tmp 2), type := 39, pos := "law.go:19", after := #[{ on := 5, ground := Ground.guard }], guard := some (5, true) }) (v := ?_) rfl (by kernel_rfl) (by kernel_rfl) (by kernel_rfl) (fun _ _ _ => npA) (Or.inl ⟨by rfl, ?_⟩) (by assumption) ?_
          rotate_left
          · intro W hSw
            try dsimp only at hSw
            obtain ⟨y0, y1, y2, y3, y4, y5, y6, y7⟩ := HZ.out W hSw
            try clear hSw
            go_simp
            try with_reducible rfl
          try simp only [Act.put, List.setIfInBounds_toArray, List.set_cons_zero, List.set_cons_succ]
          refine wpAnyH_ready (rs := [7, 9]) (by kernel_rfl) (by simp) ?_
          refine AllReadyH.cons (o := { dst := some 20, op := Op.call { callee := Callee.value (Operand.tmp 19), args := #[Operand.const (Value.int IntKind.i64 6)], argTypes := #[2] }, type := 26, pos := "law.go:19", after := #[{ on := 6, ground := Ground.data }, { on := 5, ground := Ground.chain }, { on := 5, ground := Ground.guard }], guard := some (5, true) }) rfl (fun K hK => ?_) ?_
          · skip
            go_simp
            go_at_call 18
            refine (exLt 6 (HFX.out _ hHeld)).mono ?_
            rintro e9 LA2 ⟨h2, rfl, hl2, kl2, hb9⟩
            have hHeld1 := hHeld.trans (hb9.mono hHeld.size)
            have KL2 := Lib.hid kl2
            clear kl2 hl2 hb9
            show _
            try go_simp
            clear hHeld
            have hHeld := hHeld1
            clear hHeld1
            refine hK.out _ _ hHeld (fun _ => ?_)
            clear hK K
            try simp only [Act.put, List.setIfInBounds_toArray, List.set_cons_zero, List.set_cons_succ]
            refine wpAnyH_ready (rs := [9]) (by kernel_rfl) (by simp) ?_
            refine AllReadyH.cons (o := { dst := some 22, op := Op.buildSlice 34 1 #[(0, Operand.tmp 21)], type := 34, pos := "law.go:19", after := #[{ on := 8, ground := Ground.data }, { on := 5, ground := Ground.guard }], guard := some (5, true) }) rfl (fun K hK => ?_) ?_
            · skip
              go_simp
              have hHeld1 := hHeld.alloc hHeld.size (.cells #[.int .i64 0, .bool true, .int .i64 1, .int .i64 5, .string ⟨#[]⟩, .int .i64 1, .int .i64 9, .string ⟨#[]⟩] 39)
              have KR2 := Lib.hid (Blk.new LA2 39 #[.int .i64 0, .bool true, .int .i64 1, .int .i64 5, .string ⟨#[]⟩, .int .i64 1, .int .i64 9, .string ⟨#[]⟩])
              have KM2 := Lib.hid (KL2.out.alloc (.cells #[.int .i64 0, .bool true, .int .i64 1, .int .i64 5, .string ⟨#[]⟩, .int .i64 1, .int .i64 9, .string ⟨#[]⟩] 39))
              obtain ⟨gr2, hgr2⟩ : ∃ g, LA2.heap.size = g := ⟨_, rfl⟩
              obtain ⟨P2, hP2⟩ : ∃ q, LA2.alloc (.cells #[.int .i64 0, .bool true, .int .i64 1, .int .i64 5, .string ⟨#[]⟩, .int .i64 1, .int .i64 9, .string ⟨#[]⟩] 39) = q := ⟨_, rfl⟩
              rw [hP2] at hHeld1 KR2 KM2 ⊢
              rw [hgr2] at KR2 ⊢
              clear hP2 hgr2 KL2
              clear hHeld
              have hHeld := hHeld1
              clear hHeld1
              refine hK.out _ _ hHeld (fun _ => ?_)
              clear hK K
              try simp only [Act.put, List.setIfInBounds_toArray, List.set_cons_zero, List.set_cons_succ]
              refine wpAnyH_ready (rs := [10]) (by kernel_rfl) (by simp) ?_
              refine AllReadyH.cons (o := { dst := some 23, op := Op.call { callee := Callee.value (Operand.func 13), args := #[Operand.tmp 20, Operand.const (Value.int IntKind.i64 3), Operand.tmp 22], argTypes := #[26, 3, 34] }, type := 4, pos := "law.go:19", after := #[{ on := 7, ground := Ground.data }, { on := 9, ground := Ground.data }, { on := 7, ground := Ground.chain }, { on := 5, ground := Ground.guard }], guard := some (5, true) }) rfl (fun K hK => ?_) ?_
              · skip
                go_simp
                go_at_call 13
                refine (HRF2.out _ hHeld _ _ KM2.out KR2.out).mono ?_
                rintro e9 R2 ⟨rfl, hb9⟩
                have hHeld1 := hHeld.trans (hb9.mono hHeld.size)
                clear hb9 KM2 KR2
                show _
                try go_simp
                clear hHeld
                have hHeld := hHeld1
                clear hHeld1
                refine hK.out _ _ hHeld (fun _ => ?_)
                clear hK K
                try simp only [Act.put, List.setIfInBounds_toArray, List.set_cons_zero, List.set_cons_succ]
                refine wpAnyH_take (i := 11) (oi := { dst := some 24, op := Op.unOp UnOp.not 4 (Operand.tmp 23), type := 4, pos := "law.go:19", after := #[{ on := 10, ground := Ground.data }, { on := 5, ground := Ground.guard }], guard := some (5, true) }) (v := ?_) rfl (by kernel_rfl) (by kernel_rfl) (by kernel_rfl) (fun _ _ _ => npA) (Or.inl ⟨by rfl, ?_⟩) (by assumption) ?_
                rotate_left
                · intro W hSw
                  try dsimp only at hSw
                  try clear hSw
                  go_simp
                  try with_reducible rfl
                try simp only [Act.put, List.setIfInBounds_toArray, List.set_cons_zero, List.set_cons_succ]
                refine wpAnyH_take (i := 12) (oi := { dst := some 25, op := Op.pick (Operand.tmp 18) (Operand.tmp 24) (Operand.const (Value.bool false)), type := 4, pos := "law.go:19", after := #[{ on := 5, ground := Ground.data }, { on := 11, ground := Ground.data }], guard := none }) (v := ?_) rfl (by kernel_rfl) (by kernel_rfl) (by kernel_rfl) (fun _ _ _ => npA) (Or.inl ⟨by rfl, ?_⟩) (by assumption) ?_
                rotate_left
                · intro W hSw
                  try dsimp only at hSw
                  try clear hSw
                  go_simp
                  try with_reducible rfl
                try simp only [Act.put, List.setIfInBounds_toArray, List.set_cons_zero, List.set_cons_succ]
                refine wpAnyH_take (i := 13) (oi := { dst := some 26, op := Op.move (Operand.tmp 25), type := 4, pos := "law.go:19", after := #[{ on := 12, ground := Ground.data }, { on := 10, ground := Ground.chain }], guard := none }) (v := ?_) rfl (by kernel_rfl) (by kernel_rfl) (by kernel_rfl) (fun _ _ _ => npA) (Or.inl ⟨by rfl, ?_⟩) (by assumption) ?_
                rotate_left
                · intro W hSw
                  try dsimp only at hSw
                  try clear hSw
                  go_simp
                  try with_reducible rfl
                try simp only [Act.put, List.setIfInBounds_toArray, List.set_cons_zero, List.set_cons_succ]
                refine wpAnyH_take (i := 14) (oi := { dst := some 27, op := Op.load 39 (Operand.tmp 2), type := 39, pos := "law.go:19", after := #[{ on := 13, ground := Ground.guard }], guard := some (13, true) }) (v := ?_) rfl (by kernel_rfl) (by kernel_rfl) (by kernel_rfl) (fun _ _ _ => npA) (Or.inl ⟨by rfl, ?_⟩) (by assumption) ?_
                rotate_left
                · intro W hSw
                  try dsimp only at hSw
                  obtain ⟨y0, y1, y2, y3, y4, y5, y6, y7⟩ := HZ.out W hSw
                  try clear hSw
                  go_simp
                  try with_reducible rfl
                try simp only [Act.put, List.setIfInBounds_toArray, List.set_cons_zero, List.set_cons_succ]
                refine wpAnyH_ready (rs := [15]) (by kernel_rfl) (by simp) ?_
                refine AllReadyH.cons (o := { dst := some 28, op := Op.call { callee := Callee.value (Operand.func 11), args := #[Operand.tmp 27, Operand.const (Value.int IntKind.i64 3), Operand.const (Value.int IntKind.i64 1)], argTypes := #[39, 3, 3] }, type := 4, pos := "law.go:19", after := #[{ on := 14, ground := Ground.data }, { on := 13, ground := Ground.chain }, { on := 13, ground := Ground.guard }], guard := some (13, true) }) rfl (fun K hK => ?_) ?_
                · skip
                  go_simp
                  go_at_call 11
                  refine (HSND.out _).mono ?_
                  rintro e9 R3 ⟨rfl, hb9⟩
                  have hHeld1 := hHeld.trans (hb9.mono hHeld.size)
                  clear hb9
                  show _
                  try go_simp
                  clear hHeld
                  have hHeld := hHeld1
                  clear hHeld1
                  refine hK.out _ _ hHeld (fun _ => ?_)
                  clear hK K
                  try simp only [Act.put, List.setIfInBounds_toArray, List.set_cons_zero, List.set_cons_succ]
                  refine wpAnyH_take (i := 16) (oi := { dst := some 29, op := Op.pick (Operand.tmp 26) (Operand.tmp 28) (Operand.const (Value.bool false)), type := 4, pos := "law.go:19", after := #[{ on := 13, ground := Ground.data }, { on := 15, ground := Ground.data }], guard := none }) (v := ?_) rfl (by kernel_rfl) (by kernel_rfl) (by kernel_rfl) (fun _ _ _ => npA) (Or.inl ⟨by rfl, ?_⟩) (by assumption) ?_
                  rotate_left
                  · intro W hSw
                    try dsimp only at hSw
                    try clear hSw
                    go_simp
                    try with_reducible rfl
                  try simp only [Act.put, List.setIfInBounds_toArray, List.set_cons_zero, List.set_cons_succ]
                  refine wpAnyH_take (i := 17) (oi := { dst := some 0, op := Op.assign (Operand.tmp 29), type := 4, pos := "law.go:19", after := #[{ on := 16, ground := Ground.data }, { on := 15, ground := Ground.chain }, { on := 0, ground := Ground.phase }, { on := 1, ground := Ground.phase }, { on := 2, ground := Ground.phase }, { on := 3, ground := Ground.phase }, { on := 4, ground := Ground.phase }, { on := 5, ground := Ground.phase }, { on := 6, ground := Ground.phase }, { on := 7, ground := Ground.phase }, { on := 8, ground := Ground.phase }, { on := 9, ground := Ground.phase }, { on := 10, ground := Ground.phase }, { on := 11, ground := Ground.phase }, { on := 12, ground := Ground.phase }, { on := 13, ground := Ground.phase }, { on := 14, ground := Ground.phase }, { on := 15, ground := Ground.phase }, { on := 16, ground := Ground.phase }], guard := none }) (v := ?_) rfl (by kernel_rfl) (by kernel_rfl) (by kernel_rfl) (fun _ _ _ => npA) (Or.inl ⟨by rfl, ?_⟩) (by assumption) ?_
                  rotate_left
                  · intro W hSw
                    try dsimp only at hSw
                    try clear hSw
                    go_simp
                    try with_reducible rfl
                  try simp only [Act.put, List.setIfInBounds_toArray, List.set_cons_zero, List.set_cons_succ]
                  refine wpAnyH_done (by kernel_rfl) ?_ _
                  refine NoPanic.normal ?_
                  go_wp2_with fail
                  go_ret
                  exact ⟨by first | rfl | simp, HBX.out.trans (hHeld.mono HBX.out.size)⟩
                exact AllReadyH.nil
              exact AllReadyH.nil
            exact AllReadyH.nil
          refine AllReadyH.cons (o := { dst := some 22, op := Op.buildSlice 34 1 #[(0, Operand.tmp 21)], type := 34, pos := "law.go:19", after := #[{ on := 8, ground := Ground.data }, { on := 5, ground := Ground.guard }], guard := some (5, true) }) rfl (fun K hK => ?_) ?_
          · skip
            go_simp
            have hHeld1 := hHeld.alloc hHeld.size (.cells #[.int .i64 0, .bool true, .int .i64 1, .int .i64 5, .string ⟨#[]⟩, .int .i64 1, .int .i64 9, .string ⟨#[]⟩] 39)
            have KR2 := Lib.hid (Blk.new R1 39 #[.int .i64 0, .bool true, .int .i64 1, .int .i64 5, .string ⟨#[]⟩, .int .i64 1, .int .i64 9, .string ⟨#[]⟩])
            obtain ⟨gr2, hgr2⟩ : ∃ g, R1.heap.size = g := ⟨_, rfl⟩
            obtain ⟨Q2, hQ2⟩ : ∃ q, R1.alloc (.cells #[.int .i64 0, .bool true, .int .i64 1, .int .i64 5, .string ⟨#[]⟩, .int .i64 1, .int .i64 9, .string ⟨#[]⟩] 39) = q := ⟨_, rfl⟩
            rw [hQ2] at hHeld1 KR2 ⊢
            rw [hgr2] at KR2 ⊢
            clear hQ2 hgr2
            clear hHeld
            have hHeld := hHeld1
            clear hHeld1
            refine hK.out _ _ hHeld (fun _ => ?_)
            clear hK K
            try simp only [Act.put, List.setIfInBounds_toArray, List.set_cons_zero, List.set_cons_succ]
            refine wpAnyH_ready (rs := [7]) (by kernel_rfl) (by simp) ?_
            refine AllReadyH.cons (o := { dst := some 20, op := Op.call { callee := Callee.value (Operand.tmp 19), args := #[Operand.const (Value.int IntKind.i64 6)], argTypes := #[2] }, type := 26, pos := "law.go:19", after := #[{ on := 6, ground := Ground.data }, { on := 5, ground := Ground.chain }, { on := 5, ground := Ground.guard }], guard := some (5, true) }) rfl (fun K hK => ?_) ?_
            · skip
              go_simp
              go_at_call 18
              refine (exLt 6 (HFX.out _ hHeld)).mono ?_
              rintro e9 P2 ⟨h2, rfl, hl2, kl2, hb9⟩
              have hHeld1 := hHeld.trans (hb9.mono hHeld.size)
              have KL2 := Lib.hid kl2
              have KM2 := KL2
              have KR2b := Lib.hid (KR2.out.below hb9 KR2.out.lt)
              clear KR2 kl2 hl2 hb9 KL2
              have KR2 := KR2b
              clear KR2b
              show _
              try go_simp
              clear hHeld
              have hHeld := hHeld1
              clear hHeld1
              refine hK.out _ _ hHeld (fun _ => ?_)
              clear hK K
              try simp only [Act.put, List.setIfInBounds_toArray, List.set_cons_zero, List.set_cons_succ]
              refine wpAnyH_ready (rs := [10]) (by kernel_rfl) (by simp) ?_
              refine AllReadyH.cons (o := { dst := some 23, op := Op.call { callee := Callee.value (Operand.func 13), args := #[Operand.tmp 20, Operand.const (Value.int IntKind.i64 3), Operand.tmp 22], argTypes := #[26, 3, 34] }, type := 4, pos := "law.go:19", after := #[{ on := 7, ground := Ground.data }, { on := 9, ground := Ground.data }, { on := 7, ground := Ground.chain }, { on := 5, ground := Ground.guard }], guard := some (5, true) }) rfl (fun K hK => ?_) ?_
              · skip
                go_simp
                go_at_call 13
                refine (HRF2.out _ hHeld _ _ KM2.out KR2.out).mono ?_
                rintro e9 R2 ⟨rfl, hb9⟩
                have hHeld1 := hHeld.trans (hb9.mono hHeld.size)
                clear hb9 KM2 KR2
                show _
                try go_simp
                clear hHeld
                have hHeld := hHeld1
                clear hHeld1
                refine hK.out _ _ hHeld (fun _ => ?_)
                clear hK K
                try simp only [Act.put, List.setIfInBounds_toArray, List.set_cons_zero, List.set_cons_succ]
                refine wpAnyH_take (i := 11) (oi := { dst := some 24, op := Op.unOp UnOp.not 4 (Operand.tmp 23), type := 4, pos := "law.go:19", after := #[{ on := 10, ground := Ground.data }, { on := 5, ground := Ground.guard }], guard := some (5, true) }) (v := ?_) rfl (by kernel_rfl) (by kernel_rfl) (by kernel_rfl) (fun _ _ _ => npA) (Or.inl ⟨by rfl, ?_⟩) (by assumption) ?_
                rotate_left
                · intro W hSw
                  try dsimp only at hSw
                  try clear hSw
                  go_simp
                  try with_reducible rfl
                try simp only [Act.put, List.setIfInBounds_toArray, List.set_cons_zero, List.set_cons_succ]
                refine wpAnyH_take (i := 12) (oi := { dst := some 25, op := Op.pick (Operand.tmp 18) (Operand.tmp 24) (Operand.const (Value.bool false)), type := 4, pos := "law.go:19", after := #[{ on := 5, ground := Ground.data }, { on := 11, ground := Ground.data }], guard := none }) (v := ?_) rfl (by kernel_rfl) (by kernel_rfl) (by kernel_rfl) (fun _ _ _ => npA) (Or.inl ⟨by rfl, ?_⟩) (by assumption) ?_
                rotate_left
                · intro W hSw
                  try dsimp only at hSw
                  try clear hSw
                  go_simp
                  try with_reducible rfl
                try simp only [Act.put, List.setIfInBounds_toArray, List.set_cons_zero, List.set_cons_succ]
                refine wpAnyH_take (i := 13) (oi := { dst := some 26, op := Op.move (Operand.tmp 25), type := 4, pos := "law.go:19", after := #[{ on := 12, ground := Ground.data }, { on := 10, ground := Ground.chain }], guard := none }) (v := ?_) rfl (by kernel_rfl) (by kernel_rfl) (by kernel_rfl) (fun _ _ _ => npA) (Or.inl ⟨by rfl, ?_⟩) (by assumption) ?_
                rotate_left
                · intro W hSw
                  try dsimp only at hSw
                  try clear hSw
                  go_simp
                  try with_reducible rfl
                try simp only [Act.put, List.setIfInBounds_toArray, List.set_cons_zero, List.set_cons_succ]
                refine wpAnyH_take (i := 14) (oi := { dst := some 27, op := Op.load 39 (Operand.tmp 2), type := 39, pos := "law.go:19", after := #[{ on := 13, ground := Ground.guard }], guard := some (13, true) }) (v := ?_) rfl (by kernel_rfl) (by kernel_rfl) (by kernel_rfl) (fun _ _ _ => npA) (Or.inl ⟨by rfl, ?_⟩) (by assumption) ?_
                rotate_left
                · intro W hSw
                  try dsimp only at hSw
                  obtain ⟨y0, y1, y2, y3, y4, y5, y6, y7⟩ := HZ.out W hSw
                  try clear hSw
                  go_simp
                  try with_reducible rfl
                try simp only [Act.put, List.setIfInBounds_toArray, List.set_cons_zero, List.set_cons_succ]
                refine wpAnyH_ready (rs := [15]) (by kernel_rfl) (by simp) ?_
                refine AllReadyH.cons (o := { dst := some 28, op := Op.call { callee := Callee.value (Operand.func 11), args := #[Operand.tmp 27, Operand.const (Value.int IntKind.i64 3), Operand.const (Value.int IntKind.i64 1)], argTypes := #[39, 3, 3] }, type := 4, pos := "law.go:19", after := #[{ on := 14, ground := Ground.data }, { on := 13, ground := Ground.chain }, { on := 13, ground := Ground.guard }], guard := some (13, true) }) rfl (fun K hK => ?_) ?_
                · skip
                  go_simp
                  go_at_call 11
                  refine (HSND.out _).mono ?_
                  rintro e9 R3 ⟨rfl, hb9⟩
                  have hHeld1 := hHeld.trans (hb9.mono hHeld.size)
                  clear hb9
                  show _
                  try go_simp
                  clear hHeld
                  have hHeld := hHeld1
                  clear hHeld1
                  refine hK.out _ _ hHeld (fun _ => ?_)
                  clear hK K
                  try simp only [Act.put, List.setIfInBounds_toArray, List.set_cons_zero, List.set_cons_succ]
                  refine wpAnyH_take (i := 16) (oi := { dst := some 29, op := Op.pick (Operand.tmp 26) (Operand.tmp 28) (Operand.const (Value.bool false)), type := 4, pos := "law.go:19", after := #[{ on := 13, ground := Ground.data }, { on := 15, ground := Ground.data }], guard := none }) (v := ?_) rfl (by kernel_rfl) (by kernel_rfl) (by kernel_rfl) (fun _ _ _ => npA) (Or.inl ⟨by rfl, ?_⟩) (by assumption) ?_
                  rotate_left
                  · intro W hSw
                    try dsimp only at hSw
                    try clear hSw
                    go_simp
                    try with_reducible rfl
                  try simp only [Act.put, List.setIfInBounds_toArray, List.set_cons_zero, List.set_cons_succ]
                  refine wpAnyH_take (i := 17) (oi := { dst := some 0, op := Op.assign (Operand.tmp 29), type := 4, pos := "law.go:19", after := #[{ on := 16, ground := Ground.data }, { on := 15, ground := Ground.chain }, { on := 0, ground := Ground.phase }, { on := 1, ground := Ground.phase }, { on := 2, ground := Ground.phase }, { on := 3, ground := Ground.phase }, { on := 4, ground := Ground.phase }, { on := 5, ground := Ground.phase }, { on := 6, ground := Ground.phase }, { on := 7, ground := Ground.phase }, { on := 8, ground := Ground.phase }, { on := 9, ground := Ground.phase }, { on := 10, ground := Ground.phase }, { on := 11, ground := Ground.phase }, { on := 12, ground := Ground.phase }, { on := 13, ground := Ground.phase }, { on := 14, ground := Ground.phase }, { on := 15, ground := Ground.phase }, { on := 16, ground := Ground.phase }], guard := none }) (v := ?_) rfl (by kernel_rfl) (by kernel_rfl) (by kernel_rfl) (fun _ _ _ => npA) (Or.inl ⟨by rfl, ?_⟩) (by assumption) ?_
                  rotate_left
                  · intro W hSw
                    try dsimp only at hSw
                    try clear hSw
                    go_simp
                    try with_reducible rfl
                  try simp only [Act.put, List.setIfInBounds_toArray, List.set_cons_zero, List.set_cons_succ]
                  refine wpAnyH_done (by kernel_rfl) ?_ _
                  refine NoPanic.normal ?_
                  go_wp2_with fail
                  go_ret
                  exact ⟨by first | rfl | simp, HBX.out.trans (hHeld.mono HBX.out.size)⟩
                exact AllReadyH.nil
              exact AllReadyH.nil
            exact AllReadyH.nil
          exact AllReadyH.nil
        exact AllReadyH.nil
      exact AllReadyH.nil
    exact AllReadyH.nil
end Go.Proofs.YtmjpjllbfgkfbaaDoor
