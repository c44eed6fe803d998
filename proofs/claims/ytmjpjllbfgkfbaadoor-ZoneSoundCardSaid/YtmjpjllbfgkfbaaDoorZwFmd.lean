/- Contract of zone's isFormed. -/
import Derived.Deep.RegionHeld
import Derived.Deep.RegionHeld3
import Derived.Test.YtmjpjllbfgkfbaaDoorZwChk
import Derived.Test.YtmjpjllbfgkfbaaDoorJ8
namespace Go.Proofs.YtmjpjllbfgkfbaaDoor
open Go.RowKit
set_option linter.unusedVariables false
set_option linter.unusedSimpArgs false
set_option maxRecDepth 100000

theorem npZ {Q : Exit → Act → World → Prop} {c} {a a' : Act} {w : World} (h : NoPanic Q (.panic c) a w) : NoPanic Q (.panic c) a' w := (h : False).elim
theorem min257 (n k : Nat) (h : min n 257 = k) : (if (257 : Int) < (n : Int) then (257 : Int) else (n : Int)) = (k : Int) := by
  split <;> omega
set_option maxHeartbeats 8000000 in
theorem fmd_any : FmdC := by
  intro w b o n c n' c' m cs op col A A' S hN hS hs hm hn hn'
  obtain ⟨hlt, x0, x1, x2, x3⟩ := hN
  obtain ⟨k1, hk1⟩ : ∃ k, min n 257 = k := ⟨_, rfl⟩
  obtain ⟨k2, hk2⟩ : ∃ k, min n' 257 = k := ⟨_, rfl⟩
  have hE := fltE_ok m op col n n'
  rw [hk1, hk2] at hE
  have hmin1 := min257 n k1 hk1
  have hmin2 := min257 n' k2 hk2
  have hmv := fun W => run_make_vals k1 (by omega) W
  have hmp := fun W => run_make_preds k2 (by omega) W
  have HC := Lib.hid fun (W : World) (hb : Below w.heap.size w W) (gv gp : Nat) (hv : Reads W W.heap.size 3 (some ⟨gv, 0, none⟩) k1 (vs (List.replicate k1 (0, 0, [])))) (hp : Reads W W.heap.size 4 (some ⟨gp, 0, none⟩) k2 (zpd k2)) => Check_any (op := op) (col := col) (c := k1) (c' := k2) (cs := cs) (hs.next hb) ((hS.below hb).more hb.size) hv hp (by omega) (by omega) (by omega)
  obtain ⟨E, hEe⟩ : ∃ E, fltE m op col k1 k2 = E := ⟨_, rfl⟩
  rw [hEe] at HC hE
  obtain ⟨R, hR⟩ : ∃ R, decide (okZ m op col n n') = R := ⟨_, rfl⟩
  rw [hR]
  have HE : Hid ((E = 0 ∨ E = 11) ↔ R = true) := Lib.hid (by rw [← hR, decide_eq_true_iff]; exact hE)
  have HX := Lib.hid fun (W : World) (hb : Below w.heap.size w W) => (show W.cell? ⟨b, o, none⟩ = some (.int .i64 op) ∧ W.cell? ⟨b, o + 1, none⟩ = some (.int .i64 col) ∧ W.cell? ⟨b, o + 2, none⟩ = some (.slice A n c) ∧ W.cell? ⟨b, o + 3, none⟩ = some (.slice A' n' c') from ⟨(hb.cell (p := ⟨b, o, none⟩) hlt).trans x0, (hb.cell (p := ⟨b, o + 1, none⟩) hlt).trans x1, (hb.cell (p := ⟨b, o + 2, none⟩) hlt).trans x2, (hb.cell (p := ⟨b, o + 3, none⟩) hlt).trans x3⟩)
  clear hS hs hm hn hn' hlt x0 x1 x2 x3 hk1 hk2 hE hEe hR
  go_enter Tryd.func42, Tryd.ntmps42
  go_wp2_with fail
  refine wp_region_noPanic ?_
  refine wp_region_held_drew (S := fun w7 => Below w.heap.size w w7) (by kernel_rfl) (below_drew (Below.refl _ _)) (fun hHeld => ?_)
  obtain ⟨V, hV⟩ : ∃ q, w.drew = q := ⟨_, rfl⟩
  rw [hV] at hHeld ⊢
  clear hV
  refine wpAnyH_take (i := 0) (oi := { dst := some 6, op := Op.move (Operand.tmp 0), type := 22, pos := "zone.go:83", after := #[], guard := none }) (v := ?_) rfl (by kernel_rfl) (by kernel_rfl) (by kernel_rfl) (fun _ _ _ => npZ) (Or.inl ⟨by rfl, ?_⟩) (by assumption) ?_
  rotate_left
  · intro W hSw
    try dsimp only at hSw
    try clear hSw
    go_simp
    try with_reducible rfl
  try simp only [Act.put, List.setIfInBounds_toArray, List.set_cons_zero, List.set_cons_succ]
  refine wpAnyH_take (i := 1) (oi := { dst := some 7, op := Op.move (Operand.tmp 1), type := 50, pos := "zone.go:83", after := #[], guard := none }) (v := ?_) rfl (by kernel_rfl) (by kernel_rfl) (by kernel_rfl) (fun _ _ _ => npZ) (Or.inl ⟨by rfl, ?_⟩) (by assumption) ?_
  rotate_left
  · intro W hSw
    try dsimp only at hSw
    try clear hSw
    go_simp
    try with_reducible rfl
  try simp only [Act.put, List.setIfInBounds_toArray, List.set_cons_zero, List.set_cons_succ]
  refine wpAnyH_take (i := 2) (oi := { dst := some 8, op := Op.nilCheck (Operand.tmp 7), type := 0, pos := "zone.go:83", after := #[{ on := 1, ground := Ground.data }], guard := none }) (v := ?_) rfl (by kernel_rfl) (by kernel_rfl) (by kernel_rfl) (fun _ _ _ => npZ) (Or.inl ⟨by rfl, ?_⟩) (by assumption) ?_
  rotate_left
  · intro W hSw
    try dsimp only at hSw
    try clear hSw
    go_simp
    try with_reducible rfl
  try simp only [Act.put, List.setIfInBounds_toArray, List.set_cons_zero, List.set_cons_succ]
  refine wpAnyH_take (i := 3) (oi := { dst := some 9, op := Op.fieldAddr 26 (Operand.tmp 8) 0, type := 0, pos := "zone.go:83", after := #[{ on := 2, ground := Ground.data }], guard := none }) (v := ?_) rfl (by kernel_rfl) (by kernel_rfl) (by kernel_rfl) (fun _ _ _ => npZ) (Or.inl ⟨by rfl, ?_⟩) (by assumption) ?_
  rotate_left
  · intro W hSw
    try dsimp only at hSw
    try clear hSw
    go_simp
    try with_reducible rfl
  try simp only [Act.put, List.setIfInBounds_toArray, List.set_cons_zero, List.set_cons_succ]
  refine wpAnyH_take (i := 4) (oi := { dst := some 10, op := Op.load 3 (Operand.tmp 9), type := 3, pos := "zone.go:83", after := #[{ on := 3, ground := Ground.data }], guard := none }) (v := ?_) rfl (by kernel_rfl) (by kernel_rfl) (by kernel_rfl) (fun _ _ _ => npZ) (Or.inl ⟨by rfl, ?_⟩) (by assumption) ?_
  rotate_left
  · intro W hSw
    try dsimp only at hSw
    obtain ⟨y0, y1, y2, y3⟩ := HX.out W hSw
    try clear hSw
    go_simp
    try with_reducible rfl
  try simp only [Act.put, List.setIfInBounds_toArray, List.set_cons_zero, List.set_cons_succ]
  refine wpAnyH_take (i := 5) (oi := { dst := some 11, op := Op.move (Operand.tmp 1), type := 50, pos := "zone.go:83", after := #[], guard := none }) (v := ?_) rfl (by kernel_rfl) (by kernel_rfl) (by kernel_rfl) (fun _ _ _ => npZ) (Or.inl ⟨by rfl, ?_⟩) (by assumption) ?_
  rotate_left
  · intro W hSw
    try dsimp only at hSw
    try clear hSw
    go_simp
    try with_reducible rfl
  try simp only [Act.put, List.setIfInBounds_toArray, List.set_cons_zero, List.set_cons_succ]
  refine wpAnyH_take (i := 6) (oi := { dst := some 12, op := Op.nilCheck (Operand.tmp 11), type := 0, pos := "zone.go:83", after := #[{ on := 5, ground := Ground.data }], guard := none }) (v := ?_) rfl (by kernel_rfl) (by kernel_rfl) (by kernel_rfl) (fun _ _ _ => npZ) (Or.inl ⟨by rfl, ?_⟩) (by assumption) ?_
  rotate_left
  · intro W hSw
    try dsimp only at hSw
    try clear hSw
    go_simp
    try with_reducible rfl
  try simp only [Act.put, List.setIfInBounds_toArray, List.set_cons_zero, List.set_cons_succ]
  refine wpAnyH_take (i := 7) (oi := { dst := some 13, op := Op.fieldAddr 26 (Operand.tmp 12) 1, type := 0, pos := "zone.go:83", after := #[{ on := 6, ground := Ground.data }], guard := none }) (v := ?_) rfl (by kernel_rfl) (by kernel_rfl) (by kernel_rfl) (fun _ _ _ => npZ) (Or.inl ⟨by rfl, ?_⟩) (by assumption) ?_
  rotate_left
  · intro W hSw
    try dsimp only at hSw
    try clear hSw
    go_simp
    try with_reducible rfl
  try simp only [Act.put, List.setIfInBounds_toArray, List.set_cons_zero, List.set_cons_succ]
  refine wpAnyH_take (i := 8) (oi := { dst := some 14, op := Op.load 3 (Operand.tmp 13), type := 3, pos := "zone.go:83", after := #[{ on := 7, ground := Ground.data }], guard := none }) (v := ?_) rfl (by kernel_rfl) (by kernel_rfl) (by kernel_rfl) (fun _ _ _ => npZ) (Or.inl ⟨by rfl, ?_⟩) (by assumption) ?_
  rotate_left
  · intro W hSw
    try dsimp only at hSw
    obtain ⟨y0, y1, y2, y3⟩ := HX.out W hSw
    try clear hSw
    go_simp
    try with_reducible rfl
  try simp only [Act.put, List.setIfInBounds_toArray, List.set_cons_zero, List.set_cons_succ]
  refine wpAnyH_take (i := 9) (oi := { dst := some 15, op := Op.move (Operand.tmp 1), type := 50, pos := "zone.go:83", after := #[], guard := none }) (v := ?_) rfl (by kernel_rfl) (by kernel_rfl) (by kernel_rfl) (fun _ _ _ => npZ) (Or.inl ⟨by rfl, ?_⟩) (by assumption) ?_
  rotate_left
  · intro W hSw
    try dsimp only at hSw
    try clear hSw
    go_simp
    try with_reducible rfl
  try simp only [Act.put, List.setIfInBounds_toArray, List.set_cons_zero, List.set_cons_succ]
  refine wpAnyH_take (i := 10) (oi := { dst := some 16, op := Op.nilCheck (Operand.tmp 15), type := 0, pos := "zone.go:83", after := #[{ on := 9, ground := Ground.data }], guard := none }) (v := ?_) rfl (by kernel_rfl) (by kernel_rfl) (by kernel_rfl) (fun _ _ _ => npZ) (Or.inl ⟨by rfl, ?_⟩) (by assumption) ?_
  rotate_left
  · intro W hSw
    try dsimp only at hSw
    try clear hSw
    go_simp
    try with_reducible rfl
  try simp only [Act.put, List.setIfInBounds_toArray, List.set_cons_zero, List.set_cons_succ]
  refine wpAnyH_take (i := 11) (oi := { dst := some 17, op := Op.fieldAddr 26 (Operand.tmp 16) 2, type := 0, pos := "zone.go:83", after := #[{ on := 10, ground := Ground.data }], guard := none }) (v := ?_) rfl (by kernel_rfl) (by kernel_rfl) (by kernel_rfl) (fun _ _ _ => npZ) (Or.inl ⟨by rfl, ?_⟩) (by assumption) ?_
  rotate_left
  · intro W hSw
    try dsimp only at hSw
    try clear hSw
    go_simp
    try with_reducible rfl
  try simp only [Act.put, List.setIfInBounds_toArray, List.set_cons_zero, List.set_cons_succ]
  refine wpAnyH_take (i := 12) (oi := { dst := some 18, op := Op.load 23 (Operand.tmp 17), type := 23, pos := "zone.go:83", after := #[{ on := 11, ground := Ground.data }], guard := none }) (v := ?_) rfl (by kernel_rfl) (by kernel_rfl) (by kernel_rfl) (fun _ _ _ => npZ) (Or.inl ⟨by rfl, ?_⟩) (by assumption) ?_
  rotate_left
  · intro W hSw
    try dsimp only at hSw
    obtain ⟨y0, y1, y2, y3⟩ := HX.out W hSw
    try clear hSw
    go_simp
    try with_reducible rfl
  try simp only [Act.put, List.setIfInBounds_toArray, List.set_cons_zero, List.set_cons_succ]
  refine wpAnyH_take (i := 13) (oi := { dst := some 19, op := Op.call { callee := Callee.builtin Builtin.len, args := #[Operand.tmp 18], argTypes := #[23] }, type := 3, pos := "zone.go:83", after := #[{ on := 12, ground := Ground.data }], guard := none }) (v := ?_) rfl (by kernel_rfl) (by kernel_rfl) (by kernel_rfl) (fun _ _ _ => npZ) (Or.inl ⟨by rfl, ?_⟩) (by assumption) ?_
  rotate_left
  · intro W hSw
    try dsimp only at hSw
    try clear hSw
    go_simp
    try with_reducible rfl
  try simp only [Act.put, List.setIfInBounds_toArray, List.set_cons_zero, List.set_cons_succ]
  refine wpAnyH_take (i := 14) (oi := { dst := some 20, op := Op.call { callee := Callee.builtin Builtin.min, args := #[Operand.tmp 19, Operand.const (Value.int IntKind.i64 257)], argTypes := #[3, 3] }, type := 3, pos := "zone.go:83", after := #[{ on := 13, ground := Ground.data }], guard := none }) (v := ?_) rfl (by kernel_rfl) (by kernel_rfl) (by kernel_rfl) (fun _ _ _ => npZ) (Or.inl ⟨by rfl, ?_⟩) (by assumption) ?_
  rotate_left
  · intro W hSw
    try dsimp only at hSw
    try clear hSw
    go_simp
    try with_reducible rfl
  try simp only [Act.put, List.setIfInBounds_toArray, List.set_cons_zero, List.set_cons_succ]
  refine wpAnyH_take (i := 16) (oi := { dst := some 22, op := Op.move (Operand.tmp 1), type := 50, pos := "zone.go:83", after := #[], guard := none }) (v := ?_) rfl (by kernel_rfl) (by kernel_rfl) (by kernel_rfl) (fun _ _ _ => npZ) (Or.inl ⟨by rfl, ?_⟩) (by assumption) ?_
  rotate_left
  · intro W hSw
    try dsimp only at hSw
    try clear hSw
    go_simp
    try with_reducible rfl
  try simp only [Act.put, List.setIfInBounds_toArray, List.set_cons_zero, List.set_cons_succ]
  refine wpAnyH_take (i := 17) (oi := { dst := some 23, op := Op.nilCheck (Operand.tmp 22), type := 0, pos := "zone.go:83", after := #[{ on := 16, ground := Ground.data }], guard := none }) (v := ?_) rfl (by kernel_rfl) (by kernel_rfl) (by kernel_rfl) (fun _ _ _ => npZ) (Or.inl ⟨by rfl, ?_⟩) (by assumption) ?_
  rotate_left
  · intro W hSw
    try dsimp only at hSw
    try clear hSw
    go_simp
    try with_reducible rfl
  try simp only [Act.put, List.setIfInBounds_toArray, List.set_cons_zero, List.set_cons_succ]
  refine wpAnyH_take (i := 18) (oi := { dst := some 24, op := Op.fieldAddr 26 (Operand.tmp 23) 3, type := 0, pos := "zone.go:83", after := #[{ on := 17, ground := Ground.data }], guard := none }) (v := ?_) rfl (by kernel_rfl) (by kernel_rfl) (by kernel_rfl) (fun _ _ _ => npZ) (Or.inl ⟨by rfl, ?_⟩) (by assumption) ?_
  rotate_left
  · intro W hSw
    try dsimp only at hSw
    try clear hSw
    go_simp
    try with_reducible rfl
  try simp only [Act.put, List.setIfInBounds_toArray, List.set_cons_zero, List.set_cons_succ]
  refine wpAnyH_take (i := 19) (oi := { dst := some 25, op := Op.load 24 (Operand.tmp 24), type := 24, pos := "zone.go:83", after := #[{ on := 18, ground := Ground.data }], guard := none }) (v := ?_) rfl (by kernel_rfl) (by kernel_rfl) (by kernel_rfl) (fun _ _ _ => npZ) (Or.inl ⟨by rfl, ?_⟩) (by assumption) ?_
  rotate_left
  · intro W hSw
    try dsimp only at hSw
    obtain ⟨y0, y1, y2, y3⟩ := HX.out W hSw
    try clear hSw
    go_simp
    try with_reducible rfl
  try simp only [Act.put, List.setIfInBounds_toArray, List.set_cons_zero, List.set_cons_succ]
  refine wpAnyH_take (i := 20) (oi := { dst := some 26, op := Op.call { callee := Callee.builtin Builtin.len, args := #[Operand.tmp 25], argTypes := #[24] }, type := 3, pos := "zone.go:83", after := #[{ on := 19, ground := Ground.data }], guard := none }) (v := ?_) rfl (by kernel_rfl) (by kernel_rfl) (by kernel_rfl) (fun _ _ _ => npZ) (Or.inl ⟨by rfl, ?_⟩) (by assumption) ?_
  rotate_left
  · intro W hSw
    try dsimp only at hSw
    try clear hSw
    go_simp
    try with_reducible rfl
  try simp only [Act.put, List.setIfInBounds_toArray, List.set_cons_zero, List.set_cons_succ]
  refine wpAnyH_take (i := 21) (oi := { dst := some 27, op := Op.call { callee := Callee.builtin Builtin.min, args := #[Operand.tmp 26, Operand.const (Value.int IntKind.i64 257)], argTypes := #[3, 3] }, type := 3, pos := "zone.go:83", after := #[{ on := 20, ground := Ground.data }], guard := none }) (v := ?_) rfl (by kernel_rfl) (by kernel_rfl) (by kernel_rfl) (fun _ _ _ => npZ) (Or.inl ⟨by rfl, ?_⟩) (by assumption) ?_
  rotate_left
  · intro W hSw
    try dsimp only at hSw
    try clear hSw
    go_simp
    try with_reducible rfl
  try simp only [Act.put, List.setIfInBounds_toArray, List.set_cons_zero, List.set_cons_succ]
  refine wpAnyH_ready (rs := [15, 22]) (by kernel_rfl) (by simp) ?_
  refine AllReadyH.cons (o := { dst := some 21, op := Op.makeSlice 23 (Operand.tmp 20) (Operand.tmp 20), type := 23, pos := "zone.go:83", after := #[{ on := 14, ground := Ground.data }, { on := 14, ground := Ground.data }], guard := none }) rfl (fun K hK => ?_) ?_
  · skip
    go_simp
    have hHeld1 := hHeld.alloc hHeld.size (.cells (vs (List.replicate k1 (0, 0, []))).toArray 37)
    clear hHeld
    have hHeld := hHeld1
    clear hHeld1
    refine hK.out _ _ hHeld (fun _ => ?_)
    clear hK K
    try simp only [Act.put, List.setIfInBounds_toArray, List.set_cons_zero, List.set_cons_succ]
    refine wpAnyH_ready (rs := [22]) (by kernel_rfl) (by simp) ?_
    refine AllReadyH.cons (o := { dst := some 28, op := Op.makeSlice 24 (Operand.tmp 27) (Operand.tmp 27), type := 24, pos := "zone.go:83", after := #[{ on := 21, ground := Ground.data }, { on := 21, ground := Ground.data }], guard := none }) rfl (fun K hK => ?_) ?_
    · skip
      go_simp
      have hHeld1 := hHeld.alloc hHeld.size (.cells (zpd k2).toArray 26)
      clear hHeld
      have hHeld := hHeld1
      clear hHeld1
      refine hK.out _ _ hHeld (fun _ => ?_)
      clear hK K
      try simp only [Act.put, List.setIfInBounds_toArray, List.set_cons_zero, List.set_cons_succ]
      refine wpAnyH_take (i := 23) (oi := { dst := some 29, op := Op.build 26 #[(0, Operand.tmp 10), (1, Operand.tmp 14), (2, Operand.tmp 21), (3, Operand.tmp 28)], type := 26, pos := "zone.go:83", after := #[{ on := 4, ground := Ground.data }, { on := 8, ground := Ground.data }, { on := 15, ground := Ground.data }, { on := 22, ground := Ground.data }], guard := none }) (v := ?_) rfl (by kernel_rfl) (by kernel_rfl) (by kernel_rfl) (fun _ _ _ => npZ) (Or.inl ⟨by rfl, ?_⟩) (by assumption) ?_
      rotate_left
      · intro W hSw
        try dsimp only at hSw
        try clear hSw
        go_simp
        try with_reducible rfl
      try simp only [Act.put, List.setIfInBounds_toArray, List.set_cons_zero, List.set_cons_succ]
      refine wpAnyH_ready (rs := [24]) (by kernel_rfl) (by simp) ?_
      refine AllReadyH.cons (o := { dst := some 30, op := Op.call { callee := Callee.value (Operand.func 6), args := #[Operand.tmp 6, Operand.tmp 29], argTypes := #[22, 26] }, type := 30, pos := "zone.go:83", after := #[{ on := 0, ground := Ground.data }, { on := 23, ground := Ground.data }], guard := none }) rfl (fun K hK => ?_) ?_
      · skip
        have kv := reads_blkZ ((Blk.new V 37 (vs (List.replicate k1 (0, 0, []))).toArray).alloc (.cells (zpd k2).toArray 26)) (n := k1) (s := 3) (by rw [vs_length, List.length_replicate])
        have kp := reads_blkZ (Blk.new (V.alloc (.cells (vs (List.replicate k1 (0, 0, []))).toArray 37)) 26 (zpd k2).toArray) (n := k2) (s := 4) (zpd_length k2)
        simp only [World.size_alloc] at kv kp
        have HC2 := Lib.hid (HC.out ((V.alloc (.cells (vs (List.replicate k1 (0, 0, []))).toArray 37)).alloc (.cells (zpd k2).toArray 26)) hHeld _ _ (by simp only [World.size_alloc]; exact kv) (by simp only [World.size_alloc]; exact kp))
        clear kv kp
        go_simp
        go_at_call 6
        refine HC2.out.mono ?_
        rintro e9 V2 ⟨rfl, hb2⟩
        have hHeld1 := hHeld.trans (hb2.mono hHeld.size)
        clear hb2 HC2
        show _
        try go_simp
        clear hHeld
        have hHeld := hHeld1
        clear hHeld1
        refine hK.out _ _ hHeld (fun _ => ?_)
        clear hK K
        try simp only [Act.put, List.setIfInBounds_toArray, List.set_cons_zero, List.set_cons_succ]
        refine wpAnyH_take (i := 25) (oi := { dst := some 5, op := Op.assign (Operand.tmp 30), type := 30, pos := "zone.go:83", after := #[{ on := 24, ground := Ground.data }, { on := 24, ground := Ground.chain }, { on := 0, ground := Ground.phase }, { on := 1, ground := Ground.phase }, { on := 2, ground := Ground.phase }, { on := 3, ground := Ground.phase }, { on := 4, ground := Ground.phase }, { on := 5, ground := Ground.phase }, { on := 6, ground := Ground.phase }, { on := 7, ground := Ground.phase }, { on := 8, ground := Ground.phase }, { on := 9, ground := Ground.phase }, { on := 10, ground := Ground.phase }, { on := 11, ground := Ground.phase }, { on := 12, ground := Ground.phase }, { on := 13, ground := Ground.phase }, { on := 14, ground := Ground.phase }, { on := 15, ground := Ground.phase }, { on := 16, ground := Ground.phase }, { on := 17, ground := Ground.phase }, { on := 18, ground := Ground.phase }, { on := 19, ground := Ground.phase }, { on := 20, ground := Ground.phase }, { on := 21, ground := Ground.phase }, { on := 22, ground := Ground.phase }, { on := 23, ground := Ground.phase }, { on := 24, ground := Ground.phase }], guard := none }) (v := ?_) rfl (by kernel_rfl) (by kernel_rfl) (by kernel_rfl) (fun _ _ _ => npZ) (Or.inl ⟨by rfl, ?_⟩) (by assumption) ?_
        rotate_left
        · intro W hSw
          try dsimp only at hSw
          try clear hSw
          go_simp
          try with_reducible rfl
        try simp only [Act.put, List.setIfInBounds_toArray, List.set_cons_zero, List.set_cons_succ]
        refine wpAnyH_done (by kernel_rfl) ?_ _
        refine NoPanic.normal ?_
        have hBV := Lib.hid hHeld
        clear hHeld hmv hmp hmin1 hmin2 HC HX
        by_cases h0 : E = 0
        · have q0 : (E == 0) = true := by simpa using h0
          obtain rfl := HE.out.1 (.inl h0)
          clear h0 HE
          go_wp2_with fail
          go_ret
          exact ⟨by first | rfl | simp, hBV.out⟩
        · have q0 : (E == 0) = false := by simpa using h0
          by_cases h1 : E = 11
          · have q1 : (E == 11) = true := by simpa using h1
            obtain rfl := HE.out.1 (.inr h1)
            clear h0 h1 HE
            go_wp2_with fail
            go_ret
            exact ⟨by first | rfl | simp, hBV.out⟩
          · have q1 : (E == 11) = false := by simpa using h1
            obtain rfl : R = false := by cases R with | false => rfl | true => rcases HE.out.2 rfl with h | h; exact absurd h h0; exact absurd h h1
            clear h0 h1 HE
            go_wp2_with fail
            go_ret
            exact ⟨by first | rfl | simp, hBV.out⟩
      exact AllReadyH.nil
    exact AllReadyH.nil
  refine AllReadyH.cons (o := { dst := some 28, op := Op.makeSlice 24 (Operand.tmp 27) (Operand.tmp 27), type := 24, pos := "zone.go:83", after := #[{ on := 21, ground := Ground.data }, { on := 21, ground := Ground.data }], guard := none }) rfl (fun K hK => ?_) ?_
  · skip
    go_simp
    have hHeld1 := hHeld.alloc hHeld.size (.cells (zpd k2).toArray 26)
    clear hHeld
    have hHeld := hHeld1
    clear hHeld1
    refine hK.out _ _ hHeld (fun _ => ?_)
    clear hK K
    try simp only [Act.put, List.setIfInBounds_toArray, List.set_cons_zero, List.set_cons_succ]
    refine wpAnyH_ready (rs := [15]) (by kernel_rfl) (by simp) ?_
    refine AllReadyH.cons (o := { dst := some 21, op := Op.makeSlice 23 (Operand.tmp 20) (Operand.tmp 20), type := 23, pos := "zone.go:83", after := #[{ on := 14, ground := Ground.data }, { on := 14, ground := Ground.data }], guard := none }) rfl (fun K hK => ?_) ?_
    · skip
      go_simp
      have hHeld1 := hHeld.alloc hHeld.size (.cells (vs (List.replicate k1 (0, 0, []))).toArray 37)
      clear hHeld
      have hHeld := hHeld1
      clear hHeld1
      refine hK.out _ _ hHeld (fun _ => ?_)
      clear hK K
      try simp only [Act.put, List.setIfInBounds_toArray, List.set_cons_zero, List.set_cons_succ]
      refine wpAnyH_take (i := 23) (oi := { dst := some 29, op := Op.build 26 #[(0, Operand.tmp 10), (1, Operand.tmp 14), (2, Operand.tmp 21), (3, Operand.tmp 28)], type := 26, pos := "zone.go:83", after := #[{ on := 4, ground := Ground.data }, { on := 8, ground := Ground.data }, { on := 15, ground := Ground.data }, { on := 22, ground := Ground.data }], guard := none }) (v := ?_) rfl (by kernel_rfl) (by kernel_rfl) (by kernel_rfl) (fun _ _ _ => npZ) (Or.inl ⟨by rfl, ?_⟩) (by assumption) ?_
      rotate_left
      · intro W hSw
        try dsimp only at hSw
        try clear hSw
        go_simp
        try with_reducible rfl
      try simp only [Act.put, List.setIfInBounds_toArray, List.set_cons_zero, List.set_cons_succ]
      refine wpAnyH_ready (rs := [24]) (by kernel_rfl) (by simp) ?_
      refine AllReadyH.cons (o := { dst := some 30, op := Op.call { callee := Callee.value (Operand.func 6), args := #[Operand.tmp 6, Operand.tmp 29], argTypes := #[22, 26] }, type := 30, pos := "zone.go:83", after := #[{ on := 0, ground := Ground.data }, { on := 23, ground := Ground.data }], guard := none }) rfl (fun K hK => ?_) ?_
      · skip
        have kv := reads_blkZ (Blk.new (V.alloc (.cells (zpd k2).toArray 26)) 37 (vs (List.replicate k1 (0, 0, []))).toArray) (n := k1) (s := 3) (by rw [vs_length, List.length_replicate])
        have kp := reads_blkZ ((Blk.new V 26 (zpd k2).toArray).alloc (.cells (vs (List.replicate k1 (0, 0, []))).toArray 37)) (n := k2) (s := 4) (zpd_length k2)
        simp only [World.size_alloc] at kv kp
        have HC2 := Lib.hid (HC.out ((V.alloc (.cells (zpd k2).toArray 26)).alloc (.cells (vs (List.replicate k1 (0, 0, []))).toArray 37)) hHeld _ _ (by simp only [World.size_alloc]; exact kv) (by simp only [World.size_alloc]; exact kp))
        clear kv kp
        go_simp
        go_at_call 6
        refine HC2.out.mono ?_
        rintro e9 V2 ⟨rfl, hb2⟩
        have hHeld1 := hHeld.trans (hb2.mono hHeld.size)
        clear hb2 HC2
        show _
        try go_simp
        clear hHeld
        have hHeld := hHeld1
        clear hHeld1
        refine hK.out _ _ hHeld (fun _ => ?_)
        clear hK K
        try simp only [Act.put, List.setIfInBounds_toArray, List.set_cons_zero, List.set_cons_succ]
        refine wpAnyH_take (i := 25) (oi := { dst := some 5, op := Op.assign (Operand.tmp 30), type := 30, pos := "zone.go:83", after := #[{ on := 24, ground := Ground.data }, { on := 24, ground := Ground.chain }, { on := 0, ground := Ground.phase }, { on := 1, ground := Ground.phase }, { on := 2, ground := Ground.phase }, { on := 3, ground := Ground.phase }, { on := 4, ground := Ground.phase }, { on := 5, ground := Ground.phase }, { on := 6, ground := Ground.phase }, { on := 7, ground := Ground.phase }, { on := 8, ground := Ground.phase }, { on := 9, ground := Ground.phase }, { on := 10, ground := Ground.phase }, { on := 11, ground := Ground.phase }, { on := 12, ground := Ground.phase }, { on := 13, ground := Ground.phase }, { on := 14, ground := Ground.phase }, { on := 15, ground := Ground.phase }, { on := 16, ground := Ground.phase }, { on := 17, ground := Ground.phase }, { on := 18, ground := Ground.phase }, { on := 19, ground := Ground.phase }, { on := 20, ground := Ground.phase }, { on := 21, ground := Ground.phase }, { on := 22, ground := Ground.phase }, { on := 23, ground := Ground.phase }, { on := 24, ground := Ground.phase }], guard := none }) (v := ?_) rfl (by kernel_rfl) (by kernel_rfl) (by kernel_rfl) (fun _ _ _ => npZ) (Or.inl ⟨by rfl, ?_⟩) (by assumption) ?_
        rotate_left
        · intro W hSw
          try dsimp only at hSw
          try clear hSw
          go_simp
          try with_reducible rfl
        try simp only [Act.put, List.setIfInBounds_toArray, List.set_cons_zero, List.set_cons_succ]
        refine wpAnyH_done (by kernel_rfl) ?_ _
        refine NoPanic.normal ?_
        have hBV := Lib.hid hHeld
        clear hHeld hmv hmp hmin1 hmin2 HC HX
        by_cases h0 : E = 0
        · have q0 : (E == 0) = true := by simpa using h0
          obtain rfl := HE.out.1 (.inl h0)
          clear h0 HE
          go_wp2_with fail
          go_ret
          exact ⟨by first | rfl | simp, hBV.out⟩
        · have q0 : (E == 0) = false := by simpa using h0
          by_cases h1 : E = 11
          · have q1 : (E == 11) = true := by simpa using h1
            obtain rfl := HE.out.1 (.inr h1)
            clear h0 h1 HE
            go_wp2_with fail
            go_ret
            exact ⟨by first | rfl | simp, hBV.out⟩
          · have q1 : (E == 11) = false := by simpa using h1
            obtain rfl : R = false := by cases R with | false => rfl | true => rcases HE.out.2 rfl with h | h; exact absurd h h0; exact absurd h h1
            clear h0 h1 HE
            go_wp2_with fail
            go_ret
            exact ⟨by first | rfl | simp, hBV.out⟩
      exact AllReadyH.nil
    exact AllReadyH.nil
  exact AllReadyH.nil
end Go.Proofs.YtmjpjllbfgkfbaaDoor
