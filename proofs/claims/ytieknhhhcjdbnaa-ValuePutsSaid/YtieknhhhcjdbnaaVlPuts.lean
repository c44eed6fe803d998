/- The walk of the statement ValuePuts: any value, schema and rows have the forms that the document says. -/
import Derived.Lib.QuietBelow
import Derived.OrdersHeld
import Derived.Deep.RegionHeld3
import Derived.Test.YtieknhhhcjdbnaaVlChecks
import Derived.Test.YtieknhhhcjdbnaaJ30
import Derived.Test.YtieknhhhcjdbnaaVlPutS
import Derived.Test.YtieknhhhcjdbnaaJ32
import Derived.Test.YtieknhhhcjdbnaaVlPutR
import Derived.Test.YtieknhhhcjdbnaaJ40
import Derived.Test.YtieknhhhcjdbnaaVlRefPutR
import Derived.Test.YtieknhhhcjdbnaaVlGreat
import Derived.Test.YtieknhhhcjdbnaaJ45
namespace Go.Proofs.Ytieknhhhcjdbnaa
open Go.RowKit
set_option linter.unusedVariables false
set_option linter.unusedSimpArgs false
set_option maxRecDepth 100000

theorem np {Q : Exit → Act → World → Prop} {c} {a a' : Act} {w : World} (h : NoPanic Q (.panic c) a w) : NoPanic Q (.panic c) a' w := (h : False).elim
set_option maxHeartbeats 8000000 in
theorem putsV_main (A A2 A3 : Option Addr) (n c n2 c2 c3 : Nat) (l : List Nat) (v : Vl) (s : List Cl) (rows : List (List Vl)) (w : World) (hl : Reads w w.heap.size 1 A n (bs l)) (hs : Reads w w.heap.size 3 A2 n2 (cls s)) (hr : VV w A3 rows)
    (hi : ∀ r ∈ rows, ∀ v ∈ r, In64 v.2.1) (hv : In64 v.2.1) (hn : n ≤ 100) (hz : v.2.2.length ≤ 100) (hn2 : n2 ≤ 200) (hrl : rows.length ≤ 9223372036854775807) (hg : grR rows 50 50 100 = false) :
    Calls Try.prog 5 #[.slice A n c, vW v, .slice A2 n2 c2, .slice A3 rows.length c3] w fun e w' => e = .returned (.bool true) ∧ Below w.heap.size w w' := by
  obtain ⟨i0, hi0, hz0, hz1, hz2⟩ := info_parts info_u8
  have HMF := fun fn first cap W => hmfP fn first cap W
  have HG := Lib.hid fun (W : World) (hW : VV W A3 rows) => greatR_any A3 c3 50 50 100 rows W hW hrl (by omega) (by omega) (by omega) false hg.symm
  obtain ⟨g1, g2⟩ := grR_false hg
  have htm : Tame rows := ⟨by omega, fun r hr => ⟨by have := (g2 r hr).1; omega, fun v hv => by have := (g2 r hr).2 v hv; omega⟩⟩
  have hP1 := fun A c W (hr : Reads W W.heap.size 1 A n (bs l)) => vlPut_any A n c l v W hr (by omega) hv (by omega)
  have hP2 := fun W => refVlPut_any v W hv (by omega)
  have hVl : (vB v).length ≤ 200 := by
    unfold vB
    split
    · have := (vb_length (zg v.2.1)).2; simp; omega
    · split
      · have := blbT_length (s := v.2.2); simp; omega
      · simp
  have hRl : (rwB rows).length ≤ 70011000010 := by
    have := rwF_le htm rows.length rows.length
    rwa [List.take_of_length_le (Nat.le_refl _)] at this
  have hSl : (scB s).length ≤ 700 := by
    have e1 : s.length = n2 := by have := hs.1; rw [cls_length] at this; omega
    rw [scF_all, scF_length]; omega
  have hln : l.length = n := by have := hl.1; rw [bs_length] at this; omega
  have hP3 := fun A c W (hr : Reads W W.heap.size 1 A n (bs l)) (hv : VV W A3 rows) => putR_any A n c l A3 c3 rows W hr (by omega) hv htm hi
  have hP4 := fun W (hv : VV W A3 rows) => refPutR_any A3 c3 rows W hv htm hi
  have hP5 := fun W (h : Reads W W.heap.size 3 A2 n2 (cls s)) => putS_any A2 n2 c2 s W h (by omega)
  have hP6 := fun W (h : Reads W W.heap.size 3 A2 n2 (cls s)) => refPutS_any A2 n2 c2 s W h (by omega)
  obtain ⟨V, hV⟩ : ∃ V, vB v = V := ⟨_, rfl⟩
  obtain ⟨RB, hRB⟩ : ∃ V, rwB rows = V := ⟨_, rfl⟩
  obtain ⟨SB, hSB⟩ : ∃ V, scB s = V := ⟨_, rfl⟩
  obtain ⟨m1, hm1⟩ : ∃ m, (l ++ V).length = m := ⟨_, rfl⟩
  obtain ⟨m2, hm2⟩ : ∃ m, V.length = m := ⟨_, rfl⟩
  obtain ⟨m3, hm3⟩ : ∃ m, (l ++ RB).length = m := ⟨_, rfl⟩
  obtain ⟨m4, hm4⟩ : ∃ m, RB.length = m := ⟨_, rfl⟩
  obtain ⟨m5, hm5⟩ : ∃ m, SB.length = m := ⟨_, rfl⟩
  have e12 : m1 = n + m2 := by rw [← hm1, List.length_append, hln, hm2]
  have e34 : m3 = n + m4 := by rw [← hm3, List.length_append, hln, hm4]
  rw [hV] at hP1 hP2 hVl
  rw [hRB] at hP3 hP4 hRl
  rw [hSB] at hP5 hP6 hSl
  rw [hm1] at hP1; rw [hm2] at hP2 hVl; rw [hm3] at hP3; rw [hm4] at hP4 hRl; rw [hm5] at hP5 hP6 hSl
  have hq1 : m1 ≤ 140737488355328 := by omega
  have hq3 : m3 ≤ 140737488355328 := by omega
  have hq2 : n + m2 ≤ 140737488355300 := by omega
  have hq4 : n + m4 ≤ 140737488355300 := by omega
  obtain ⟨v0, v1, z⟩ := v
  have hz : z.length ≤ 100 := hz
  rw [show vW (v0, v1, z) = .agg #[.int .i64 v0, .int .i64 v1, .string ⟨z.toArray⟩] from rfl] at hP1 hP2
  rw [show vW (v0, v1, z) = .agg #[.int .i64 v0, .int .i64 v1, .string ⟨z.toArray⟩] from rfl]
  obtain ⟨rl, hrl'⟩ : ∃ rl, rows.length = rl := ⟨_, rfl⟩
  rw [hrl'] at HG hrl hP3 hP4 ⊢
  have HTM := Lib.hid htm
  have P1 := Lib.hid hP1; have P2 := Lib.hid hP2; have P3 := Lib.hid hP3; have P4 := Lib.hid hP4; have P5 := Lib.hid hP5; have P6 := Lib.hid hP6
  have Q1 := Lib.hid hq1; have Q2 := Lib.hid hq2; have Q3 := Lib.hid hq3; have Q4 := Lib.hid hq4; have Q5 := Lib.hid hSl
  have HAW := Lib.hid fun W => awakeV_any cmpC_any schemaC_any W
  clear hrl' htm hP1 hP2 hP3 hP4 hP5 hP6 hV hRB hSB hm1 hm2 hm3 hm4 hm5 e12 e34 hq1 hq2 hq3 hq4 hVl hRl hSl hln g1 g2 hv hi
  have HB : Hid (Below w.heap.size w ((w.alloc (.cells #[.slice A n c] 36)).alloc (.cells #[.int .i64 v0, .int .i64 v1, .string ⟨z.toArray⟩] 23))) :=
    Lib.hid (((Below.refl _ _).alloc (Nat.le_refl _) _).alloc (by simp) _)
  have K0 := Lib.hid ((Blk.new w 36 #[.slice A n c]).alloc (.cells #[.int .i64 v0, .int .i64 v1, .string ⟨z.toArray⟩] 23))
  have k1 := Blk.new (w.alloc (.cells #[.slice A n c] 36)) 23 #[.int .i64 v0, .int .i64 v1, .string ⟨z.toArray⟩]
  rw [World.size_alloc] at k1
  have K1 := Lib.hid k1
  have HGW := Lib.hid (HG.out _ (hr.next HB.out))
  have d1 : ¬ 100 < n := by omega
  have d2 : ¬ 100 < z.length := by omega
  have d3 : ¬ 200 < n2 := by omega
  have HL := Lib.hid hl; have HS := Lib.hid hs; have HR := Lib.hid hr
  clear k1 hl hs hr hg HG
  go_enter Try.func5, Try.ntmps5
  go_wp2_with fail
  refine HGW.out.mono ?_
  rintro e w' ⟨rfl, hww⟩
  rw [← hww]
  clear hww w'
  go_wp2_with fail
  obtain ⟨w0, hw0⟩ : ∃ q, q = (w.alloc (.cells #[.slice A n c] 36)).alloc (.cells #[.int .i64 v0, .int .i64 v1, .string ⟨z.toArray⟩] 23) := ⟨_, rfl⟩
  rw [← hw0]
  rw [← hw0] at HB K0 K1
  clear hw0 HGW d1 d2 d3
  have C0 : Hid (∀ W : World, Below w0.heap.size w0 W → W.cell? ⟨w.heap.size, 0, none⟩ = some (.slice A n c)) := Lib.hid fun W h => (K0.out.below h K0.out.lt).cell 0
  have C1 : Hid (∀ W : World, Below w0.heap.size w0 W → W.cell? ⟨w.heap.size + 1, 0, none⟩ = some (.int .i64 v0) ∧ W.cell? ⟨w.heap.size + 1, 1, none⟩ = some (.int .i64 v1) ∧ W.cell? ⟨w.heap.size + 1, 2, none⟩ = some (.string ⟨z.toArray⟩)) := Lib.hid fun W h => blk3 (K1.out.below h K1.out.lt)
  have HL0 : Hid (∀ W : World, Below w0.heap.size w0 W → Reads W W.heap.size 1 A n (bs l)) := Lib.hid fun W h => (HL.out.next HB.out).next h
  have HS0 : Hid (∀ W : World, Below w0.heap.size w0 W → Reads W W.heap.size 3 A2 n2 (cls s)) := Lib.hid fun W h => (HS.out.next HB.out).next h
  have HR0 : Hid (∀ W : World, Below w0.heap.size w0 W → VV W A3 rows) := Lib.hid fun W h => (HR.out.next HB.out).next h
  have HAL : Hid (∀ W : World, Below w0.heap.size w0 W → Below w0.heap.size w0 (W.alloc (.cells #[] 5))) := Lib.hid fun W h => h.alloc h.size _
  have HNE : Hid (∀ W : World, Below w0.heap.size w0 W → (W.alloc (.cells #[] 5)).ownsRow W.heap.size 5 1 (.slice (some ⟨W.heap.size, 0, none⟩) 0 0) 0 []) := Lib.hid fun W h => own_new W #[] 0 5 [] (by unfold maxLen; omega) rfl rfl
  refine wp_region_noPanic ?_
  refine wp_region_held_drew (S := fun w' => Below w0.heap.size w0 w') (by kernel_rfl) (below_drew (Below.refl _ _)) (fun hHeld => ?_)
  refine wpAnyH_take (i := 1) (oi := { dst := some 31, op := Op.load 36 (Operand.tmp 4), type := 36, pos := "law.go:43", after := #[], guard := none }) (v := ?_) rfl (by kernel_rfl) (by kernel_rfl) (by kernel_rfl) (fun _ _ _ => np) (Or.inl ⟨by rfl, ?_⟩) (by assumption) ?_
  rotate_left
  · intro W hSw
    try dsimp only at hSw
    have hc := C0.out W hSw
    clear hSw
    go_simp
    try with_reducible rfl
  try simp only [Act.put, List.setIfInBounds_toArray, List.set_cons_zero, List.set_cons_succ]
  refine wpAnyH_take (i := 3) (oi := { dst := some 33, op := Op.load 23 (Operand.tmp 5), type := 23, pos := "law.go:43", after := #[], guard := none }) (v := ?_) rfl (by kernel_rfl) (by kernel_rfl) (by kernel_rfl) (fun _ _ _ => np) (Or.inl ⟨by rfl, ?_⟩) (by assumption) ?_
  rotate_left
  · intro W hSw
    try dsimp only at hSw
    obtain ⟨hc0, hc1, hc2⟩ := C1.out W hSw
    clear hSw
    go_simp
    try with_reducible rfl
  try simp only [Act.put, List.setIfInBounds_toArray, List.set_cons_zero, List.set_cons_succ]
  refine wpAnyH_take (i := 5) (oi := { dst := some 35, op := Op.move (Operand.tmp 9), type := 39, pos := "law.go:43", after := #[], guard := none }) (v := ?_) rfl (by kernel_rfl) (by kernel_rfl) (by kernel_rfl) (fun _ _ _ => np) (Or.inl ⟨by rfl, ?_⟩) (by assumption) ?_
  rotate_left
  · intro W hSw
    try dsimp only at hSw
    clear hSw
    go_simp
    try with_reducible rfl
  try simp only [Act.put, List.setIfInBounds_toArray, List.set_cons_zero, List.set_cons_succ]
  refine wpAnyH_take (i := 6) (oi := { dst := some 36, op := Op.load 23 (Operand.tmp 5), type := 23, pos := "law.go:43", after := #[], guard := none }) (v := ?_) rfl (by kernel_rfl) (by kernel_rfl) (by kernel_rfl) (fun _ _ _ => np) (Or.inl ⟨by rfl, ?_⟩) (by assumption) ?_
  rotate_left
  · intro W hSw
    try dsimp only at hSw
    obtain ⟨hc0, hc1, hc2⟩ := C1.out W hSw
    clear hSw
    go_simp
    try with_reducible rfl
  try simp only [Act.put, List.setIfInBounds_toArray, List.set_cons_zero, List.set_cons_succ]
  refine wpAnyH_ready (rs := [0]) (by kernel_rfl) (by simp) ?_
  refine AllReadyH.cons (o := { dst := some 30, op := Op.buildSlice 36 0 #[], type := 36, pos := "law.go:43", after := #[], guard := none }) rfl (fun K hK => ?_) AllReadyH.nil
  go_simp
  have hHeld1 := HAL.out _ hHeld
  have hown1 := HNE.out _ hHeld
  clear hHeld
  have hHeld := hHeld1
  clear hHeld1
  refine hK.out _ _ hHeld (fun _ => ?_)
  clear hK K
  try simp only [Act.put, List.setIfInBounds_toArray, List.set_cons_zero, List.set_cons_succ]
  refine wpAnyH_ready (rs := [2]) (by kernel_rfl) (by simp) ?_
  refine AllReadyH.cons (o := { dst := some 32, op := Op.call { callee := Callee.builtin Builtin.append, args := #[Operand.tmp 30, Operand.tmp 31], argTypes := #[36, 36] }, type := 36, pos := "law.go:43", after := #[{ on := 0, ground := Ground.data }, { on := 1, ground := Ground.data }], guard := none }) rfl (fun K hK => ?_) AllReadyH.nil
  refine step_append_any _ rfl (.tmp 30) (.tmp 31) _ rfl w0.heap.size 5 i0 _ 1 1 Try.underlying36 hi0 hz0 hz1 hz2 rfl (by omega) _ 0 [] (by simp [Act.eval]; first | done | rfl) (own_base hown1 (by first | exact Nat.le_refl _ | exact HSZ1.out)) _ A n c (bs l) (by simp [Act.eval]; first | done | rfl) (HL0.out _ hHeld) (bs_one _) (by unfold maxLen; omega) (by omega) hHeld.size ?_
  intro u1 w1 hown1a hg1 hat1
  have hHeld1 := hHeld.grown hg1 hHeld.size (fun j hj => (own_base hown1 (by first | exact Nat.le_refl _ | exact HSZ1.out)).lt j hj |>.1)
  simp only [Nat.zero_add, List.nil_append] at hown1a
  obtain ⟨B1, d1, rfl, _, _, r1⟩ := own_slice hown1a
  clear hown1 hown1a hg1 hat1
  clear hHeld
  have hHeld := hHeld1
  clear hHeld1
  refine hK.out _ _ hHeld (fun _ => ?_)
  clear hK K
  try simp only [Act.put, List.setIfInBounds_toArray, List.set_cons_zero, List.set_cons_succ]
  refine wpAnyH_ready (rs := [4]) (by kernel_rfl) (by simp) ?_
  refine AllReadyH.cons (o := { dst := some 34, op := Op.call { callee := Callee.value (Operand.func 17), args := #[Operand.tmp 32, Operand.tmp 33], argTypes := #[36, 23] }, type := 36, pos := "law.go:43", after := #[{ on := 2, ground := Ground.data }, { on := 3, ground := Ground.data }, { on := 2, ground := Ground.chain }], guard := none }) rfl (fun K hK => ?_) AllReadyH.nil
  go_simp
  go_at_call 17
  refine (P1.out _ _ _ r1).mono ?_
  intro e w2 hN2
  obtain ⟨B2, d2, rfl, _, r2, hb2⟩ := hN2.opened
  have hHeld1 := hHeld.trans (hb2.mono hHeld.size)
  clear hN2 hb2
  clear hHeld
  have hHeld := hHeld1
  clear hHeld1
  go_wp2_with fail
  refine hK.out _ _ hHeld (fun _ => ?_)
  clear hK K
  try simp only [Act.put, List.setIfInBounds_toArray, List.set_cons_zero, List.set_cons_succ]
  refine wpAnyH_ready (rs := [7]) (by kernel_rfl) (by simp) ?_
  refine AllReadyH.cons (o := { dst := some 37, op := Op.call { callee := Callee.value (Operand.func 18), args := #[Operand.tmp 36], argTypes := #[23] }, type := 36, pos := "law.go:43", after := #[{ on := 6, ground := Ground.data }, { on := 4, ground := Ground.chain }], guard := none }) rfl (fun K hK => ?_) AllReadyH.nil
  go_simp
  go_at_call 18
  refine (P2.out _).mono ?_
  intro e w3 hN3
  obtain ⟨B3, d3, rfl, _, r3, hb3⟩ := hN3.opened
  have hHeld1 := hHeld.trans (hb3.mono hHeld.size)
  have r2a := r2.next hb3
  clear r2
  clear hN3 hb3
  clear hHeld
  have hHeld := hHeld1
  clear hHeld1
  go_wp2_with fail
  refine hK.out _ _ hHeld (fun _ => ?_)
  clear hK K
  try simp only [Act.put, List.setIfInBounds_toArray, List.set_cons_zero, List.set_cons_succ]
  refine wpAnyH_ready (rs := [8]) (by kernel_rfl) (by simp) ?_
  refine AllReadyH.cons (o := { dst := some 38, op := Op.call { callee := Callee.value (Operand.tmp 35), args := #[Operand.tmp 37], argTypes := #[36] }, type := 36, pos := "law.go:43", after := #[{ on := 5, ground := Ground.data }, { on := 7, ground := Ground.data }, { on := 7, ground := Ground.chain }], guard := none }) rfl (fun K hK => ?_) AllReadyH.nil
  go_simp
  go_at_call 15
  refine (frontV_any ⟨w.heap.size, 0, none⟩ A _ n c m2 _ (bs l) (bs V) _ (C0.out _ hHeld) (HL0.out _ hHeld) (bs_one _) r3 (bs_one _) Q2.out).mono ?_
  intro e w4 hN4
  obtain ⟨B4, d4, rfl, _, r4, hb4⟩ := hN4.opened
  have hHeld1 := hHeld.trans (hb4.mono hHeld.size)
  have r2b := r2a.next hb4
  clear r2a
  clear hN4 hb4
  clear hHeld
  have hHeld := hHeld1
  clear hHeld1
  go_wp2_with fail
  refine hK.out _ _ hHeld (fun _ => ?_)
  clear hK K
  try simp only [Act.put, List.setIfInBounds_toArray, List.set_cons_zero, List.set_cons_succ]
  rw [← bs_append] at r4
  refine wpAnyH_ready (rs := [9]) (by kernel_rfl) (by simp) ?_
  refine AllReadyH.cons (o := { dst := some 39, op := Op.call { callee := Callee.value (Operand.func 16), args := #[Operand.tmp 34, Operand.tmp 38], argTypes := #[36, 36] }, type := 4, pos := "law.go:43", after := #[{ on := 4, ground := Ground.data }, { on := 8, ground := Ground.data }, { on := 8, ground := Ground.chain }], guard := none }) rfl (fun K hK => ?_) AllReadyH.nil
  go_simp
  go_at_call 16
  refine (same_true _ _ _ _ _ _ (l ++ V) _ r2b r4 (Q1.out)).mono ?_
  rintro e w5 ⟨rfl, hd5⟩
  have hHeld1 := hd5.below hHeld
  clear r2b r4 hd5
  clear hHeld
  have hHeld := hHeld1
  clear hHeld1
  go_wp2_with fail
  refine hK.out _ _ hHeld (fun _ => ?_)
  clear hK K
  try simp only [Act.put, List.setIfInBounds_toArray, List.set_cons_zero, List.set_cons_succ]
  refine wpAnyH_take (i := 10) (oi := { dst := some 40, op := Op.move (Operand.tmp 39), type := 4, pos := "law.go:43", after := #[{ on := 9, ground := Ground.data }, { on := 9, ground := Ground.chain }], guard := none }) (v := ?_) rfl (by kernel_rfl) (by kernel_rfl) (by kernel_rfl) (fun _ _ _ => np) (Or.inl ⟨by rfl, ?_⟩) (by assumption) ?_
  rotate_left
  · intro W hSw
    try dsimp only at hSw
    clear hSw
    go_simp
    try with_reducible rfl
  try simp only [Act.put, List.setIfInBounds_toArray, List.set_cons_zero, List.set_cons_succ]
  refine wpAnyH_take (i := 11) (oi := { dst := some 41, op := Op.move (Operand.tmp 2), type := 24, pos := "law.go:43", after := #[{ on := 10, ground := Ground.guard }], guard := some (10, true) }) (v := ?_) rfl (by kernel_rfl) (by kernel_rfl) (by kernel_rfl) (fun _ _ _ => np) (Or.inl ⟨by rfl, ?_⟩) (by assumption) ?_
  rotate_left
  · intro W hSw
    try dsimp only at hSw
    clear hSw
    go_simp
    try with_reducible rfl
  try simp only [Act.put, List.setIfInBounds_toArray, List.set_cons_zero, List.set_cons_succ]
  refine wpAnyH_take (i := 13) (oi := { dst := some 43, op := Op.move (Operand.tmp 2), type := 24, pos := "law.go:43", after := #[{ on := 10, ground := Ground.guard }], guard := some (10, true) }) (v := ?_) rfl (by kernel_rfl) (by kernel_rfl) (by kernel_rfl) (fun _ _ _ => np) (Or.inl ⟨by rfl, ?_⟩) (by assumption) ?_
  rotate_left
  · intro W hSw
    try dsimp only at hSw
    clear hSw
    go_simp
    try with_reducible rfl
  try simp only [Act.put, List.setIfInBounds_toArray, List.set_cons_zero, List.set_cons_succ]
  refine wpAnyH_ready (rs := [12]) (by kernel_rfl) (by simp) ?_
  refine AllReadyH.cons (o := { dst := some 42, op := Op.call { callee := Callee.value (Operand.func 19), args := #[Operand.tmp 41], argTypes := #[24] }, type := 36, pos := "law.go:43", after := #[{ on := 11, ground := Ground.data }, { on := 10, ground := Ground.chain }, { on := 10, ground := Ground.guard }], guard := some (10, true) }) rfl (fun K hK => ?_) AllReadyH.nil
  go_simp
  go_at_call 19
  refine (P5.out _ (HS0.out _ hHeld)).mono ?_
  intro e w6 hN6
  obtain ⟨B6, d6, rfl, _, r6, hb6⟩ := hN6.opened
  have hHeld1 := hHeld.trans (hb6.mono hHeld.size)
  clear hN6 hb6
  clear hHeld
  have hHeld := hHeld1
  clear hHeld1
  go_wp2_with fail
  refine hK.out _ _ hHeld (fun _ => ?_)
  clear hK K
  try simp only [Act.put, List.setIfInBounds_toArray, List.set_cons_zero, List.set_cons_succ]
  refine wpAnyH_ready (rs := [14]) (by kernel_rfl) (by simp) ?_
  refine AllReadyH.cons (o := { dst := some 44, op := Op.call { callee := Callee.value (Operand.func 20), args := #[Operand.tmp 43], argTypes := #[24] }, type := 36, pos := "law.go:43", after := #[{ on := 13, ground := Ground.data }, { on := 12, ground := Ground.chain }, { on := 10, ground := Ground.guard }], guard := some (10, true) }) rfl (fun K hK => ?_) AllReadyH.nil
  go_simp
  go_at_call 20
  refine (P6.out _ (HS0.out _ hHeld)).mono ?_
  intro e w7 hN7
  obtain ⟨B7, d7, rfl, _, r7, hb7⟩ := hN7.opened
  have hHeld1 := hHeld.trans (hb7.mono hHeld.size)
  have r6a := r6.next hb7
  clear r6
  clear hN7 hb7
  clear hHeld
  have hHeld := hHeld1
  clear hHeld1
  go_wp2_with fail
  refine hK.out _ _ hHeld (fun _ => ?_)
  clear hK K
  try simp only [Act.put, List.setIfInBounds_toArray, List.set_cons_zero, List.set_cons_succ]
  refine wpAnyH_ready (rs := [15]) (by kernel_rfl) (by simp) ?_
  refine AllReadyH.cons (o := { dst := some 45, op := Op.call { callee := Callee.value (Operand.func 16), args := #[Operand.tmp 42, Operand.tmp 44], argTypes := #[36, 36] }, type := 4, pos := "law.go:43", after := #[{ on := 12, ground := Ground.data }, { on := 14, ground := Ground.data }, { on := 14, ground := Ground.chain }, { on := 10, ground := Ground.guard }], guard := some (10, true) }) rfl (fun K hK => ?_) AllReadyH.nil
  go_simp
  go_at_call 16
  refine (same_true _ _ _ _ _ _ (SB) _ r6a r7 (by have := Q5.out; omega)).mono ?_
  rintro e w8 ⟨rfl, hd8⟩
  have hHeld1 := hd8.below hHeld
  clear r6a r7 hd8
  clear hHeld
  have hHeld := hHeld1
  clear hHeld1
  go_wp2_with fail
  refine hK.out _ _ hHeld (fun _ => ?_)
  clear hK K
  try simp only [Act.put, List.setIfInBounds_toArray, List.set_cons_zero, List.set_cons_succ]
  refine wpAnyH_take (i := 16) (oi := { dst := some 46, op := Op.pick (Operand.tmp 40) (Operand.tmp 45) (Operand.const (Value.bool false)), type := 4, pos := "law.go:43", after := #[{ on := 10, ground := Ground.data }, { on := 15, ground := Ground.data }], guard := none }) (v := ?_) rfl (by kernel_rfl) (by kernel_rfl) (by kernel_rfl) (fun _ _ _ => np) (Or.inl ⟨by rfl, ?_⟩) (by assumption) ?_
  rotate_left
  · intro W hSw
    try dsimp only at hSw
    clear hSw
    go_simp
    try with_reducible rfl
  try simp only [Act.put, List.setIfInBounds_toArray, List.set_cons_zero, List.set_cons_succ]
  refine wpAnyH_take (i := 17) (oi := { dst := some 47, op := Op.move (Operand.tmp 46), type := 4, pos := "law.go:43", after := #[{ on := 16, ground := Ground.data }, { on := 15, ground := Ground.chain }], guard := none }) (v := ?_) rfl (by kernel_rfl) (by kernel_rfl) (by kernel_rfl) (fun _ _ _ => np) (Or.inl ⟨by rfl, ?_⟩) (by assumption) ?_
  rotate_left
  · intro W hSw
    try dsimp only at hSw
    clear hSw
    go_simp
    try with_reducible rfl
  try simp only [Act.put, List.setIfInBounds_toArray, List.set_cons_zero, List.set_cons_succ]
  refine wpAnyH_take (i := 19) (oi := { dst := some 49, op := Op.load 36 (Operand.tmp 4), type := 36, pos := "law.go:43", after := #[{ on := 17, ground := Ground.guard }], guard := some (17, true) }) (v := ?_) rfl (by kernel_rfl) (by kernel_rfl) (by kernel_rfl) (fun _ _ _ => np) (Or.inl ⟨by rfl, ?_⟩) (by assumption) ?_
  rotate_left
  · intro W hSw
    try dsimp only at hSw
    have hc := C0.out W hSw
    clear hSw
    go_simp
    try with_reducible rfl
  try simp only [Act.put, List.setIfInBounds_toArray, List.set_cons_zero, List.set_cons_succ]
  refine wpAnyH_take (i := 21) (oi := { dst := some 51, op := Op.move (Operand.tmp 3), type := 37, pos := "law.go:43", after := #[{ on := 17, ground := Ground.guard }], guard := some (17, true) }) (v := ?_) rfl (by kernel_rfl) (by kernel_rfl) (by kernel_rfl) (fun _ _ _ => np) (Or.inl ⟨by rfl, ?_⟩) (by assumption) ?_
  rotate_left
  · intro W hSw
    try dsimp only at hSw
    clear hSw
    go_simp
    try with_reducible rfl
  try simp only [Act.put, List.setIfInBounds_toArray, List.set_cons_zero, List.set_cons_succ]
  refine wpAnyH_take (i := 23) (oi := { dst := some 53, op := Op.move (Operand.tmp 9), type := 39, pos := "law.go:43", after := #[{ on := 17, ground := Ground.guard }], guard := some (17, true) }) (v := ?_) rfl (by kernel_rfl) (by kernel_rfl) (by kernel_rfl) (fun _ _ _ => np) (Or.inl ⟨by rfl, ?_⟩) (by assumption) ?_
  rotate_left
  · intro W hSw
    try dsimp only at hSw
    clear hSw
    go_simp
    try with_reducible rfl
  try simp only [Act.put, List.setIfInBounds_toArray, List.set_cons_zero, List.set_cons_succ]
  refine wpAnyH_take (i := 24) (oi := { dst := some 54, op := Op.move (Operand.tmp 3), type := 37, pos := "law.go:43", after := #[{ on := 17, ground := Ground.guard }], guard := some (17, true) }) (v := ?_) rfl (by kernel_rfl) (by kernel_rfl) (by kernel_rfl) (fun _ _ _ => np) (Or.inl ⟨by rfl, ?_⟩) (by assumption) ?_
  rotate_left
  · intro W hSw
    try dsimp only at hSw
    clear hSw
    go_simp
    try with_reducible rfl
  try simp only [Act.put, List.setIfInBounds_toArray, List.set_cons_zero, List.set_cons_succ]
  have HSZ9 := Lib.hid hHeld.size
  refine wpAnyH_ready (rs := [18]) (by kernel_rfl) (by simp) ?_
  refine AllReadyH.cons (o := { dst := some 48, op := Op.buildSlice 36 0 #[], type := 36, pos := "law.go:43", after := #[{ on := 17, ground := Ground.guard }], guard := some (17, true) }) rfl (fun K hK => ?_) AllReadyH.nil
  go_simp
  have hHeld1 := HAL.out _ hHeld
  have hown9 := HNE.out _ hHeld
  clear hHeld
  have hHeld := hHeld1
  clear hHeld1
  refine hK.out _ _ hHeld (fun _ => ?_)
  clear hK K
  try simp only [Act.put, List.setIfInBounds_toArray, List.set_cons_zero, List.set_cons_succ]
  refine wpAnyH_ready (rs := [20]) (by kernel_rfl) (by simp) ?_
  refine AllReadyH.cons (o := { dst := some 50, op := Op.call { callee := Callee.builtin Builtin.append, args := #[Operand.tmp 48, Operand.tmp 49], argTypes := #[36, 36] }, type := 36, pos := "law.go:43", after := #[{ on := 18, ground := Ground.data }, { on := 19, ground := Ground.data }, { on := 17, ground := Ground.chain }, { on := 17, ground := Ground.guard }], guard := some (17, true) }) rfl (fun K hK => ?_) AllReadyH.nil
  rw [if_pos (by rfl)]
  refine wp_append_any _ (.tmp 48) (.tmp 49) _ rfl w0.heap.size 5 i0 _ 1 1 Try.underlying36 hi0 hz0 hz1 hz2 rfl (by omega) _ 0 [] (by simp [Act.eval]; first | done | rfl) (own_base hown9 (by first | exact Nat.le_refl _ | exact HSZ9.out)) _ A n c (bs l) (by simp [Act.eval]; first | done | rfl) (HL0.out _ hHeld) (bs_one _) (by unfold maxLen; omega) (by omega) hHeld.size ?_
  intro u9 w9 hown9a hg9 hat9
  have hHeld1 := hHeld.grown hg9 hHeld.size (fun j hj => (own_base hown9 (by first | exact Nat.le_refl _ | exact HSZ9.out)).lt j hj |>.1)
  simp only [Nat.zero_add, List.nil_append] at hown9a
  obtain ⟨B9, d9, rfl, _, _, r9⟩ := own_slice hown9a
  clear hown9 hown9a hg9 hat9
  clear hHeld
  have hHeld := hHeld1
  clear hHeld1
  refine hK.out _ _ hHeld (fun _ => ?_)
  clear hK K
  try simp only [Act.put, List.setIfInBounds_toArray, List.set_cons_zero, List.set_cons_succ]
  refine wpAnyH_ready (rs := [22]) (by kernel_rfl) (by simp) ?_
  refine AllReadyH.cons (o := { dst := some 52, op := Op.call { callee := Callee.value (Operand.func 21), args := #[Operand.tmp 50, Operand.tmp 51], argTypes := #[36, 37] }, type := 36, pos := "law.go:43", after := #[{ on := 20, ground := Ground.data }, { on := 21, ground := Ground.data }, { on := 20, ground := Ground.chain }, { on := 17, ground := Ground.guard }], guard := some (17, true) }) rfl (fun K hK => ?_) AllReadyH.nil
  go_simp
  go_at_call 21
  refine (P3.out _ _ _ r9 (HR0.out _ hHeld)).mono ?_
  intro e w10 hN10
  obtain ⟨B10, d10, rfl, _, r10, hb10⟩ := hN10.opened
  have hHeld1 := hHeld.trans (hb10.mono hHeld.size)
  clear hN10 hb10
  clear hHeld
  have hHeld := hHeld1
  clear hHeld1
  go_wp2_with fail
  refine hK.out _ _ hHeld (fun _ => ?_)
  clear hK K
  try simp only [Act.put, List.setIfInBounds_toArray, List.set_cons_zero, List.set_cons_succ]
  refine wpAnyH_ready (rs := [25]) (by kernel_rfl) (by simp) ?_
  refine AllReadyH.cons (o := { dst := some 55, op := Op.call { callee := Callee.value (Operand.func 22), args := #[Operand.tmp 54], argTypes := #[37] }, type := 36, pos := "law.go:43", after := #[{ on := 24, ground := Ground.data }, { on := 22, ground := Ground.chain }, { on := 17, ground := Ground.guard }], guard := some (17, true) }) rfl (fun K hK => ?_) AllReadyH.nil
  go_simp
  go_at_call 22
  refine (P4.out _ (HR0.out _ hHeld)).mono ?_
  intro e w11 hN11
  obtain ⟨B11, d11, rfl, _, r11, hb11⟩ := hN11.opened
  have hHeld1 := hHeld.trans (hb11.mono hHeld.size)
  have r10a := r10.next hb11
  clear r10
  clear hN11 hb11
  clear hHeld
  have hHeld := hHeld1
  clear hHeld1
  go_wp2_with fail
  refine hK.out _ _ hHeld (fun _ => ?_)
  clear hK K
  try simp only [Act.put, List.setIfInBounds_toArray, List.set_cons_zero, List.set_cons_succ]
  refine wpAnyH_ready (rs := [26]) (by kernel_rfl) (by simp) ?_
  refine AllReadyH.cons (o := { dst := some 56, op := Op.call { callee := Callee.value (Operand.tmp 53), args := #[Operand.tmp 55], argTypes := #[36] }, type := 36, pos := "law.go:43", after := #[{ on := 23, ground := Ground.data }, { on := 25, ground := Ground.data }, { on := 25, ground := Ground.chain }, { on := 17, ground := Ground.guard }], guard := some (17, true) }) rfl (fun K hK => ?_) AllReadyH.nil
  go_simp
  go_at_call 15
  refine (frontV_any ⟨w.heap.size, 0, none⟩ A _ n c m4 _ (bs l) (bs RB) _ (C0.out _ hHeld) (HL0.out _ hHeld) (bs_one _) r11 (bs_one _) Q4.out).mono ?_
  intro e w12 hN12
  obtain ⟨B12, d12, rfl, _, r12, hb12⟩ := hN12.opened
  have hHeld1 := hHeld.trans (hb12.mono hHeld.size)
  have r10b := r10a.next hb12
  clear r10a
  clear hN12 hb12
  clear hHeld
  have hHeld := hHeld1
  clear hHeld1
  go_wp2_with fail
  refine hK.out _ _ hHeld (fun _ => ?_)
  clear hK K
  try simp only [Act.put, List.setIfInBounds_toArray, List.set_cons_zero, List.set_cons_succ]
  rw [← bs_append] at r12
  refine wpAnyH_ready (rs := [27]) (by kernel_rfl) (by simp) ?_
  refine AllReadyH.cons (o := { dst := some 57, op := Op.call { callee := Callee.value (Operand.func 16), args := #[Operand.tmp 52, Operand.tmp 56], argTypes := #[36, 36] }, type := 4, pos := "law.go:43", after := #[{ on := 22, ground := Ground.data }, { on := 26, ground := Ground.data }, { on := 26, ground := Ground.chain }, { on := 17, ground := Ground.guard }], guard := some (17, true) }) rfl (fun K hK => ?_) AllReadyH.nil
  go_simp
  go_at_call 16
  refine (same_true _ _ _ _ _ _ (l ++ RB) _ r10b r12 (Q3.out)).mono ?_
  rintro e w13 ⟨rfl, hd13⟩
  have hHeld1 := hd13.below hHeld
  clear r10b r12 hd13
  clear hHeld
  have hHeld := hHeld1
  clear hHeld1
  go_wp2_with fail
  refine hK.out _ _ hHeld (fun _ => ?_)
  clear hK K
  try simp only [Act.put, List.setIfInBounds_toArray, List.set_cons_zero, List.set_cons_succ]
  refine wpAnyH_take (i := 28) (oi := { dst := some 58, op := Op.pick (Operand.tmp 47) (Operand.tmp 57) (Operand.const (Value.bool false)), type := 4, pos := "law.go:43", after := #[{ on := 17, ground := Ground.data }, { on := 27, ground := Ground.data }], guard := none }) (v := ?_) rfl (by kernel_rfl) (by kernel_rfl) (by kernel_rfl) (fun _ _ _ => np) (Or.inl ⟨by rfl, ?_⟩) (by assumption) ?_
  rotate_left
  · intro W hSw
    try dsimp only at hSw
    clear hSw
    go_simp
    try with_reducible rfl
  try simp only [Act.put, List.setIfInBounds_toArray, List.set_cons_zero, List.set_cons_succ]
  refine wpAnyH_take (i := 29) (oi := { dst := some 59, op := Op.move (Operand.tmp 58), type := 4, pos := "law.go:43", after := #[{ on := 28, ground := Ground.data }, { on := 27, ground := Ground.chain }], guard := none }) (v := ?_) rfl (by kernel_rfl) (by kernel_rfl) (by kernel_rfl) (fun _ _ _ => np) (Or.inl ⟨by rfl, ?_⟩) (by assumption) ?_
  rotate_left
  · intro W hSw
    try dsimp only at hSw
    clear hSw
    go_simp
    try with_reducible rfl
  try simp only [Act.put, List.setIfInBounds_toArray, List.set_cons_zero, List.set_cons_succ]
  refine wpAnyH_ready (rs := [30]) (by kernel_rfl) (by simp) ?_
  refine AllReadyH.cons (o := { dst := some 60, op := Op.call { callee := Callee.value (Operand.func 6), args := #[], argTypes := #[] }, type := 4, pos := "law.go:43", after := #[{ on := 29, ground := Ground.chain }, { on := 29, ground := Ground.guard }], guard := some (29, true) }) rfl (fun K hK => ?_) AllReadyH.nil
  go_simp
  go_at_call 6
  refine (HAW.out _).mono ?_
  rintro e w14 ⟨rfl, hb14⟩
  have hHeld1 := hHeld.trans (hb14.mono hHeld.size)
  clear hb14
  clear hHeld
  have hHeld := hHeld1
  clear hHeld1
  go_wp2_with fail
  refine hK.out _ _ hHeld (fun _ => ?_)
  clear hK K
  try simp only [Act.put, List.setIfInBounds_toArray, List.set_cons_zero, List.set_cons_succ]
  refine wpAnyH_take (i := 31) (oi := { dst := some 61, op := Op.pick (Operand.tmp 59) (Operand.tmp 60) (Operand.const (Value.bool false)), type := 4, pos := "law.go:43", after := #[{ on := 29, ground := Ground.data }, { on := 30, ground := Ground.data }], guard := none }) (v := ?_) rfl (by kernel_rfl) (by kernel_rfl) (by kernel_rfl) (fun _ _ _ => np) (Or.inl ⟨by rfl, ?_⟩) (by assumption) ?_
  rotate_left
  · intro W hSw
    try dsimp only at hSw
    clear hSw
    go_simp
    try with_reducible rfl
  try simp only [Act.put, List.setIfInBounds_toArray, List.set_cons_zero, List.set_cons_succ]
  refine wpAnyH_take (i := 32) (oi := { dst := some 8, op := Op.assign (Operand.tmp 61), type := 4, pos := "law.go:43", after := #[{ on := 31, ground := Ground.data }, { on := 30, ground := Ground.chain }, { on := 0, ground := Ground.phase }, { on := 1, ground := Ground.phase }, { on := 2, ground := Ground.phase }, { on := 3, ground := Ground.phase }, { on := 4, ground := Ground.phase }, { on := 5, ground := Ground.phase }, { on := 6, ground := Ground.phase }, { on := 7, ground := Ground.phase }, { on := 8, ground := Ground.phase }, { on := 9, ground := Ground.phase }, { on := 10, ground := Ground.phase }, { on := 11, ground := Ground.phase }, { on := 12, ground := Ground.phase }, { on := 13, ground := Ground.phase }, { on := 14, ground := Ground.phase }, { on := 15, ground := Ground.phase }, { on := 16, ground := Ground.phase }, { on := 17, ground := Ground.phase }, { on := 18, ground := Ground.phase }, { on := 19, ground := Ground.phase }, { on := 20, ground := Ground.phase }, { on := 21, ground := Ground.phase }, { on := 22, ground := Ground.phase }, { on := 23, ground := Ground.phase }, { on := 24, ground := Ground.phase }, { on := 25, ground := Ground.phase }, { on := 26, ground := Ground.phase }, { on := 27, ground := Ground.phase }, { on := 28, ground := Ground.phase }, { on := 29, ground := Ground.phase }, { on := 30, ground := Ground.phase }, { on := 31, ground := Ground.phase }], guard := none }) (v := ?_) rfl (by kernel_rfl) (by kernel_rfl) (by kernel_rfl) (fun _ _ _ => np) (Or.inl ⟨by rfl, ?_⟩) (by assumption) ?_
  rotate_left
  · intro W hSw
    try dsimp only at hSw
    clear hSw
    go_simp
    try with_reducible rfl
  try simp only [Act.put, List.setIfInBounds_toArray, List.set_cons_zero, List.set_cons_succ]
  refine wpAnyH_done (by kernel_rfl) ?_ _
  refine NoPanic.normal ?_
  go_wp2_with fail
  go_ret
  exact ⟨rfl, HB.out.trans (hHeld.mono HB.out.size)⟩
theorem putsV_else (A A2 A3 : Option Addr) (n c n2 c2 c3 : Nat) (v : Vl) (rows : List (List Vl)) (w : World) (hr : VV w A3 rows) (hrl : rows.length ≤ 9223372036854775807)
    (h : 100 < n ∨ 100 < v.2.2.length ∨ 200 < n2 ∨ grR rows 50 50 100 = true) :
    Calls Try.prog 5 #[.slice A n c, vW v, .slice A2 n2 c2, .slice A3 rows.length c3] w fun e w' => e = .returned (.bool true) ∧ Below w.heap.size w w' := by
  have HAW := Lib.hid fun W => awakeV_any cmpC_any schemaC_any W
  obtain ⟨g, hg⟩ : ∃ g, grR rows 50 50 100 = g := ⟨_, rfl⟩
  have HG := Lib.hid fun (W : World) (hW : VV W A3 rows) => greatR_any A3 c3 50 50 100 rows W hW hrl (by omega) (by omega) (by omega) g hg.symm
  rw [hg] at h
  obtain ⟨v0, v1, z⟩ := v
  have h : 100 < n ∨ 100 < z.length ∨ 200 < n2 ∨ g = true := h
  rw [show vW (v0, v1, z) = .agg #[.int .i64 v0, .int .i64 v1, .string ⟨z.toArray⟩] from rfl]
  obtain ⟨rl, hrl'⟩ : ∃ rl, rows.length = rl := ⟨_, rfl⟩
  rw [hrl'] at HG hrl ⊢
  have HB : Hid (Below w.heap.size w ((w.alloc (.cells #[.slice A n c] 36)).alloc (.cells #[.int .i64 v0, .int .i64 v1, .string ⟨z.toArray⟩] 23))) :=
    Lib.hid (((Below.refl _ _).alloc (Nat.le_refl _) _).alloc (by simp) _)
  have HGW := Lib.hid (HG.out _ (hr.next HB.out))
  clear HG hr hg hrl'
  by_cases h1 : 100 < n
  case' pos => clear h
  case' neg =>
    have h := h.resolve_left h1
    by_cases h2 : 100 < z.length
    case' pos => clear h
    case' neg =>
      have h := h.resolve_left h2
      by_cases h3 : 200 < n2
      case' pos => clear h
      case' neg =>
        have h := h.resolve_left h3
        subst h
  all_goals
    go_enter Try.func5, Try.ntmps5
    go_wp2_with fail
    try
      (refine HGW.out.mono ?_
       rintro e w' ⟨rfl, hww⟩
       rw [← hww]
       clear hww w'
       go_wp2_with fail)
    refine (HAW.out _).mono ?_
    rintro e w1 ⟨rfl, hb1⟩
    go_wp2_with fail
    go_ret
    exact ⟨rfl, HB.out.trans (hb1.mono HB.out.size)⟩
theorem putsV_any (A A2 A3 : Option Addr) (n c n2 c2 c3 : Nat) (l : List Nat) (v : Vl) (s : List Cl) (rows : List (List Vl)) (w : World) (hl : Reads w w.heap.size 1 A n (bs l)) (hs : Reads w w.heap.size 3 A2 n2 (cls s)) (hr : VV w A3 rows)
    (hi : ∀ r ∈ rows, ∀ v ∈ r, In64 v.1 ∧ In64 v.2.1) (hv : In64 v.2.1) (hrl : rows.length ≤ 9223372036854775807) :
    Calls Try.prog 5 #[.slice A n c, vW v, .slice A2 n2 c2, .slice A3 rows.length c3] w fun e w' => e = .returned (.bool true) ∧ Below w.heap.size w w' := by
  by_cases h : 100 < n ∨ 100 < v.2.2.length ∨ 200 < n2 ∨ grR rows 50 50 100 = true
  · exact putsV_else A A2 A3 n c n2 c2 c3 v rows w hr hrl h
  · refine putsV_main A A2 A3 n c n2 c2 c3 l v s rows w hl hs hr (fun r hr v hv => (hi r hr v hv).2) hv (by omega) (by omega) (by omega) hrl ?_
    cases e : grR rows 50 50 100 with
    | false => rfl
    | true => exact absurd (.inr (.inr (.inr e))) h
end Go.Proofs.Ytieknhhhcjdbnaa
