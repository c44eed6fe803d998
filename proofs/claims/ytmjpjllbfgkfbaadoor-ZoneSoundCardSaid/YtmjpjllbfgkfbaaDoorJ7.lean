/- Texts joined: ZwTru ZwChos. -/
import Derived.Deep.QuietTactic
import Derived.Test.YtmjpjllbfgkfbaaDoorZwJoin
/- Rows of truths that may be: read, sliced. No condition. -/
namespace Go.Proofs.YtmjpjllbfgkfbaaDoor
open Go.RowKit
set_option linter.unusedVariables false
set_option linter.unusedSimpArgs false
set_option maxRecDepth 100000

theorem addT_zero (a : Addr) : a.add 0 = a := by unfold Addr.add; simp
theorem mapT_add_zero (A : Option Addr) : A.map (·.add 0) = A := by cases A <;> simp [addT_zero]
/-- Truths as cells. -/
def bs3 (l : List Tr3) : List Value := l.flatMap fun t => [.bool t.1, .bool t.2.1, .bool t.2.2]
theorem bs3_nil : bs3 [] = [] := rfl
theorem bs3_cons (t : Tr3) (l : List Tr3) : bs3 (t :: l) = [.bool t.1, .bool t.2.1, .bool t.2.2] ++ bs3 l := by simp [bs3]
theorem bs3_append (a b : List Tr3) : bs3 (a ++ b) = bs3 a ++ bs3 b := by simp [bs3]
theorem bs3_length : ∀ l : List Tr3, (bs3 l).length = l.length * 3
  | [] => rfl
  | t :: l => by rw [bs3_cons, List.length_append, bs3_length l, List.length_cons]; simp; omega
theorem bs3_drop : ∀ (l : List Tr3) (k : Nat), (bs3 l).drop (k * 3) = bs3 (l.drop k)
  | l, 0 => by simp
  | [], k + 1 => by simp [bs3]
  | t :: l, k + 1 => by
    rw [bs3_cons, show (k + 1) * 3 = 3 + k * 3 by omega, ← List.drop_drop]
    show (bs3 l).drop (k * 3) = _
    rw [bs3_drop l k]; rfl
theorem bs3_one (l : List Tr3) : ∀ v ∈ bs3 l, v.oneCell' = true := by
  intro v hv
  unfold bs3 at hv
  obtain ⟨t, _, ht⟩ := List.mem_flatMap.1 hv
  simp only [List.mem_cons, List.not_mem_nil, or_false] at ht
  rcases ht with rfl | rfl | rfl <;> rfl
theorem tru_add (a : Addr) (i j : Nat) : (a.add i).add j = a.add (i + j) := Go.Deep.add_add ..
/-- The rest of a slice. -/
theorem Reads.rest {w : World} {B s n c p : Nat} {A : Option Addr} {xs : List Value} (h : Reads w B s A n xs) (hp : p ≤ n) (hc : n ≤ c) : Reads w B s (if c = p then A else A.map (·.add (p * s))) (n - p) (xs.drop (p * s)) := by
  refine ⟨by rw [List.length_drop, h.1, Nat.sub_mul], fun hn => ?_⟩
  rw [if_neg (by omega)]
  obtain ⟨ad, rfl, hb, hx⟩ := h.2 (by omega)
  refine ⟨ad.add (p * s), rfl, by rw [block_of_add]; exact hb, fun j u hu => ?_⟩
  rw [List.getElem?_drop] at hu
  rw [tru_add]
  exact hx _ _ hu
theorem Reads.tru {w : World} {B n : Nat} {A : Option Addr} {l : List Tr3} (h : Reads w B 3 A n (bs3 l)) {k : Nat} {t : Tr3} (ht : l[k]? = some t) :
    ∃ b o, A = some ⟨b, o, none⟩ ∧ b < B ∧ w.cell? ⟨b, o + k * 3, none⟩ = some (.bool t.1) ∧ w.cell? ⟨b, o + k * 3 + 1, none⟩ = some (.bool t.2.1) ∧ w.cell? ⟨b, o + k * 3 + 2, none⟩ = some (.bool t.2.2) := by
  have hl : (bs3 l).length = n * 3 := h.1
  rw [bs3_length] at hl
  have hk : k < l.length := (List.getElem?_eq_some_iff.1 ht).1
  obtain ⟨⟨b, o, sp⟩, rfl, hb, hc⟩ := h.2 (by omega)
  have hd : (bs3 l).drop (k * 3) = [.bool t.1, .bool t.2.1, .bool t.2.2] ++ bs3 (l.drop (k + 1)) := by
    rw [bs3_drop, List.drop_eq_getElem_cons hk, bs3_cons, (List.getElem?_eq_some_iff.1 ht).2]
  have e0 : (bs3 l)[k * 3]? = some (.bool t.1) := by have := congrArg (·[0]?) hd; simpa [List.getElem?_drop] using this
  have e1 : (bs3 l)[k * 3 + 1]? = some (.bool t.2.1) := by have := congrArg (·[1]?) hd; simpa [List.getElem?_drop] using this
  have e2 : (bs3 l)[k * 3 + 2]? = some (.bool t.2.2) := by have := congrArg (·[2]?) hd; simpa [List.getElem?_drop] using this
  have d0 := hc _ _ e0
  have d1 := hc _ _ e1
  have d2 := hc _ _ e2
  obtain rfl : sp = none := by
    have hl0 : 0 < (bs3 l).length := by rw [bs3_length]; omega
    simpa [Addr.add] using World.cell?_spot (hc 0 _ (List.getElem?_eq_getElem hl0))
  rw [plain_add] at d0 d1 d2
  exact ⟨b, o, rfl, hb, d0, by rw [Nat.add_assoc]; exact d1, by rw [Nat.add_assoc]; exact d2⟩
theorem elem_tru : Tryd.prog.elem 67 = 66 := by kernel_rfl
theorem info_tru : (Tryd.prog.info? 66).map (·.size) = some 3 := by kernel_rfl
theorem sizeOf_tru (W : World) : (sizeOf 66).run Tryd.prog W = .ok 3 W := by
  have h := info_tru
  cases hi : Tryd.prog.info? 66 with
  | none => rw [hi] at h; cases h
  | some i =>
    rw [hi] at h
    injection h with h
    simp [sizeOf, typeInfo, hi, h]
theorem sliceT_front (A : Option Addr) (n c p : Nat) (hp : p ≤ c) (W : World) : (Instr.sliceAt 67 (.slice A n c) none (some (.int .i64 (p : Int))) none).run Tryd.prog W = .ok (.slice A p c) W := by
  rw [run_sliceAt_slice W 67 _ _ _ _ (by rw [elem_tru]; exact Tryd.underlying67), run_slice_h W 67 A n c (by rw [elem_tru]; exact Tryd.underlying67) .i64 (p : Int) (by omega) (by omega), elem_tru, sizeOf_tru]
  have h : (if c = 0 then A else A.map (·.add 0)) = A := by rw [mapT_add_zero]; simp
  simp [Result.andThen, sliced, mapT_add_zero]
theorem sliceT_rest (A : Option Addr) (n c p : Nat) (hp : p ≤ n) (W : World) : (Instr.sliceAt 67 (.slice A n c) (some (.int .i64 (p : Int))) none none).run Tryd.prog W = .ok (.slice (if c = p then A else A.map (·.add (p * 3))) (n - p) (c - p)) W := by
  rw [run_sliceAt_slice W 67 _ _ _ _ (by rw [elem_tru]; exact Tryd.underlying67), run_slice_l W 67 A n c (by rw [elem_tru]; exact Tryd.underlying67) .i64 (p : Int) (by omega) (by omega), elem_tru, sizeOf_tru]
  simp [Result.andThen, sliced]
theorem sliceT_tail (A : Option Addr) (n c : Nat) (hp : 1 ≤ n) (W : World) : (Instr.sliceAt 67 (.slice A n c) (some (.int .i64 1)) none none).run Tryd.prog W = .ok (.slice (if c = 1 then A else A.map (·.add 3)) (n - 1) (c - 1)) W := sliceT_rest A n c 1 hp W
theorem neq3_no (a b c : Bool) (w : World) : (binOp .neq 66 (.agg #[.bool a, .bool b, .bool c]) (.agg #[.bool a, .bool b, .bool c])).run Tryd.prog w = .ok (.bool false) w := by
  cases a <;> cases b <;> cases c <;> kernel_rfl
theorem neq3_yes (a b c d e f : Bool) (h : ¬ ((a, b, c) : Tr3) = (d, e, f)) (w : World) : (binOp .neq 66 (.agg #[.bool a, .bool b, .bool c]) (.agg #[.bool d, .bool e, .bool f])).run Tryd.prog w = .ok (.bool true) w := by
  cases a <;> cases b <;> cases c <;> cases d <;> cases e <;> cases f <;> first | exact absurd rfl h | kernel_rfl
end Go.Proofs.YtmjpjllbfgkfbaaDoor

/- Contract of zone's chosen: what comes of each choice of the parts' truths. -/
namespace Go.Proofs.YtmjpjllbfgkfbaaDoor
open Go.RowKit
set_option linter.unusedVariables false
set_option linter.unusedSimpArgs false
set_option maxRecDepth 100000

section
variable {w : World} {A : Option Addr} {n c : Nat}
set_option maxHeartbeats 4000000 in
theorem chosen_min (t : Tr3) (ts : List Tr3) (hr : Reads w w.heap.size 3 A n (bs3 (t :: ts))) (hc : n ≤ c) (hn : n ≤ 65536) : Calls Tryd.prog 43 #[.slice A n c, .func (.func 44) #[] #[]] w fun e w' => e = .returned (tW (ts.foldl (jn3 10) t)) ∧ Below w.heap.size w w' := by
  have hl : n = ts.length + 1 := by have := hr.1; rw [bs3_length, List.length_cons] at this; omega
  obtain ⟨⟨R0, R1, R2⟩, hR⟩ : ∃ q, ts.foldl (jn3 10) t = q := ⟨_, rfl⟩
  rw [hR]
  have HT := Lib.hid (show Reads w w.heap.size 3 (if c = 1 then A else A.map (·.add 3)) (n - 1) (bs3 ts) from by
    have h := hr.rest (p := 1) (by omega) hc
    rw [bs3_drop] at h
    exact h)
  have HJ := Lib.hid fun (o x : Tr3) (W : World) => joined_min (w := W) o x
  obtain ⟨b, o, rfl, hb0, v0, v1, v2⟩ := hr.tru (show (t :: ts)[0]? = some t from rfl)
  rw [Nat.zero_mul, Nat.add_zero] at v0 v1 v2
  have HQ0 : Hid ((ts.drop 0).foldl (jn3 10) t = (R0, R1, R2)) := Lib.hid (by simpa using hR)
  clear hR hr
  obtain ⟨t0, t1, t2⟩ := t
  have hsl := fun W => sliceT_tail (some ⟨b, o, none⟩) n c (by omega) W
  obtain ⟨A2, hA2⟩ : ∃ q, (if c = 1 then some (⟨b, o, none⟩ : Addr) else (some (⟨b, o, none⟩ : Addr)).map (·.add 3)) = q := ⟨_, rfl⟩
  rw [hA2] at HT hsl
  obtain ⟨m, hm⟩ : ∃ m, n - 1 = m := ⟨_, rfl⟩
  rw [hm] at HT hsl
  have hml : m = ts.length := by omega
  have hn1 : 1 ≤ n := by omega
  have hmn : m ≤ 65536 := by omega
  have K4 := (Blk.new w 66 #[.bool false, .bool false, .bool false]).alloc (.cells #[.bool t0, .bool t1, .bool t2] 66)
  have K5 := Blk.new (w.alloc (.cells #[.bool false, .bool false, .bool false] 66)) 66 #[.bool t0, .bool t1, .bool t2]
  have HB := ((Below.refl w.heap.size w).alloc (Nat.le_refl _) (.cells #[.bool false, .bool false, .bool false] 66)).alloc (by simp) (.cells #[.bool t0, .bool t1, .bool t2] 66)
  rw [World.size_alloc] at K5
  have a0 : (w.alloc (.cells #[.bool false, .bool false, .bool false] 66)).cell? ⟨b, o, none⟩ = some (.bool t0) := (((Below.refl w.heap.size w).alloc (Nat.le_refl _) _).cell (p := ⟨b, o, none⟩) hb0).trans v0
  have a1 : (w.alloc (.cells #[.bool false, .bool false, .bool false] 66)).cell? ⟨b, o + 1, none⟩ = some (.bool t1) := (((Below.refl w.heap.size w).alloc (Nat.le_refl _) _).cell (p := ⟨b, o + 1, none⟩) hb0).trans v1
  have a2 : (w.alloc (.cells #[.bool false, .bool false, .bool false] 66)).cell? ⟨b, o + 2, none⟩ = some (.bool t2) := (((Below.refl w.heap.size w).alloc (Nat.le_refl _) _).cell (p := ⟨b, o + 2, none⟩) hb0).trans v2
  have HML := Lib.hid hml
  clear hA2 hm hml hl v0 v1 v2
  go_enter Tryd.func43, Tryd.ntmps43
  go_wp2_with fail
  clear a0 a1 a2
  go_loopw [14] (fun i wr => ∃ (k : Nat) (q : Tr3), k ≤ m ∧ i = .int .i64 (k : Int) ∧ Hid ((ts.drop k).foldl (jn3 10) q = (R0, R1, R2)) ∧ Below w.heap.size w wr ∧ Blk wr w.heap.size 66 #[.bool false, .bool false, .bool false] ∧ Blk wr (w.heap.size + 1) 66 (cs3 q)) (fun i _ => m - (intOf i).toNat)
  case atStart => exact ⟨0, (t0, t1, t2), Nat.zero_le _, rfl, HQ0, HB, K4, K5⟩
  case round =>
    clear HQ0 HB K4 K5
    obtain ⟨k, ⟨q0, q1, q2⟩, hk, rfl, HQ, hb, h4, h5⟩ := hrel
    by_cases hlt : k < m
    · obtain ⟨⟨x0, x1, x2⟩, hx⟩ : ∃ x, ts[k]? = some x := ⟨_, List.getElem?_eq_getElem (by rw [← HML.out]; exact hlt)⟩
      have hd : ts.drop k = (x0, x1, x2) :: ts.drop (k + 1) := by rw [List.drop_eq_getElem_cons (List.getElem?_eq_some_iff.1 hx).1, (List.getElem?_eq_some_iff.1 hx).2]
      have hq := HQ.out
      rw [hd, List.foldl_cons] at hq
      have HQ2 := Lib.hid hq
      obtain ⟨b', o', rfl, hb', y0, y1, y2⟩ := (HT.out.below hb).tru hx
      have k7 := Blk.new wr 66 #[.bool x0, .bool x1, .bool x2]
      have k5 := h5.alloc (.cells #[.bool x0, .bool x1, .bool x2] 66)
      have k4 := h4.alloc (.cells #[.bool x0, .bool x1, .bool x2] 66)
      have hbx := hb.alloc hb.size (.cells #[.bool x0, .bool x1, .bool x2] 66)
      obtain ⟨s0, s1, s2⟩ := blk3 k7
      obtain ⟨r0, r1, r2⟩ := blk3 (show Blk _ _ _ #[.bool q0, .bool q1, .bool q2] from k5)
      have HK4 := Lib.hid k4; have HK5 := Lib.hid k5; have HBX := Lib.hid hbx
      clear hq hd hx HQ hb h4 h5 k4 k5 k7 hbx
      by_cases he : ((x0, x1, x2) : Tr3) = (q0, q1, q2)
      · injection he with e0 he
        injection he with e1 e2
        subst e0 e1 e2
        have hne := neq3_no x0 x1 x2
        have HQ3 := Lib.hid (show (ts.drop (k + 1)).foldl (jn3 10) (x0, x1, x2) = (R0, R1, R2) by rw [← HQ2.out, jn3_same])
        clear HQ2
        go_wp2_with fail
        go_round
        case rel => exact ⟨k + 1, (x0, x1, x2), by omega, by go_num, HQ3, HBX.out, HK4.out, HK5.out⟩
        case measure => simp [intOf]; omega
      · have hne := neq3_yes x0 x1 x2 q0 q1 q2 he
        have hj := fun W => HJ.out (q0, q1, q2) (x0, x1, x2) W
        obtain ⟨⟨p0, p1, p2⟩, hp⟩ : ∃ p, jn3 10 (q0, q1, q2) (x0, x1, x2) = p := ⟨_, rfl⟩
        rw [hp] at hj HQ2
        simp only [tW] at hj
        have HJ2 := Lib.hid hj
        clear he hj hp
        go_wp2_with fail
        refine (HJ2.out _).mono ?_
        rintro e w2 ⟨rfl, hb2⟩
        have k4 := HK4.out.below hb2 HK4.out.lt
        have k5 := HK5.out.below hb2 HK5.out.lt
        have hbx := HBX.out.trans (hb2.mono HBX.out.size)
        clear r0 r1 r2 s0 s1 s2
        obtain ⟨r0, r1, r2⟩ := blk3 (show Blk _ _ _ #[.bool q0, .bool q1, .bool q2] from k5)
        have z0 := k5.frozen 0; have z1 := k5.frozen 1; have z2 := k5.frozen 2
        obtain ⟨f1, f2⟩ := store3 (show Blk _ _ _ #[.bool q0, .bool q1, .bool q2] from k5) hbx (by omega) (.bool p0) (.bool p1) (.bool p2)
        have f3 := ((k4.far (p := ⟨w.heap.size + 1, 0, none⟩) (show w.heap.size ≠ w.heap.size + 1 by omega) (.bool p0)).far (p := ⟨w.heap.size + 1, 1, none⟩) (show w.heap.size ≠ w.heap.size + 1 by omega) (.bool p1)).far (p := ⟨w.heap.size + 1, 2, none⟩) (show w.heap.size ≠ w.heap.size + 1 by omega) (.bool p2)
        have F1 := Lib.hid f1; have F2 := Lib.hid f2; have F3 := Lib.hid f3
        clear f1 f2 f3 k4 k5 hbx hb2 HK4 HK5 HBX
        go_wp2_with fail
        go_round
        case rel => exact ⟨k + 1, (p0, p1, p2), by omega, by go_num, HQ2, F2.out, F3.out, F1.out⟩
        case measure => simp [intOf]; omega
    · obtain rfl : k = m := by omega
      have hq := HQ.out
      rw [List.drop_eq_nil_of_le (by rw [← HML.out]; exact Nat.le_refl _), List.foldl_nil] at hq
      injection hq with e0 hq
      injection hq with e1 e2
      subst e0 e1 e2
      obtain ⟨r0, r1, r2⟩ := blk3 (show Blk _ _ _ #[.bool q0, .bool q1, .bool q2] from h5)
      obtain ⟨s0, s1, s2⟩ := blk3 h4
      have z0 := h4.frozen 0; have z1 := h4.frozen 1; have z2 := h4.frozen 2
      obtain ⟨f1, f2⟩ := store3 h4 hb (by omega) (.bool q0) (.bool q1) (.bool q2)
      have F1 := Lib.hid f1; have F2 := Lib.hid f2
      clear f1 f2 h4 h5 hb HQ
      go_wp2_with fail
      exact bodyPost_ret (v := .agg #[.bool q0, .bool q1, .bool q2]) (results_cell_row rfl _ _ _ _ _ _ _ (by rfl) F1.out Tryd.underlying66 rfl (by kernel_rfl)) rfl ⟨rfl, F2.out⟩
set_option maxHeartbeats 4000000 in
theorem chosen_max (t : Tr3) (ts : List Tr3) (hr : Reads w w.heap.size 3 A n (bs3 (t :: ts))) (hc : n ≤ c) (hn : n ≤ 65536) : Calls Tryd.prog 43 #[.slice A n c, .func (.func 45) #[] #[]] w fun e w' => e = .returned (tW (ts.foldl (jn3 11) t)) ∧ Below w.heap.size w w' := by
  have hl : n = ts.length + 1 := by have := hr.1; rw [bs3_length, List.length_cons] at this; omega
  obtain ⟨⟨R0, R1, R2⟩, hR⟩ : ∃ q, ts.foldl (jn3 11) t = q := ⟨_, rfl⟩
  rw [hR]
  have HT := Lib.hid (show Reads w w.heap.size 3 (if c = 1 then A else A.map (·.add 3)) (n - 1) (bs3 ts) from by
    have h := hr.rest (p := 1) (by omega) hc
    rw [bs3_drop] at h
    exact h)
  have HJ := Lib.hid fun (o x : Tr3) (W : World) => joined_max (w := W) o x
  obtain ⟨b, o, rfl, hb0, v0, v1, v2⟩ := hr.tru (show (t :: ts)[0]? = some t from rfl)
  rw [Nat.zero_mul, Nat.add_zero] at v0 v1 v2
  have HQ0 : Hid ((ts.drop 0).foldl (jn3 11) t = (R0, R1, R2)) := Lib.hid (by simpa using hR)
  clear hR hr
  obtain ⟨t0, t1, t2⟩ := t
  have hsl := fun W => sliceT_tail (some ⟨b, o, none⟩) n c (by omega) W
  obtain ⟨A2, hA2⟩ : ∃ q, (if c = 1 then some (⟨b, o, none⟩ : Addr) else (some (⟨b, o, none⟩ : Addr)).map (·.add 3)) = q := ⟨_, rfl⟩
  rw [hA2] at HT hsl
  obtain ⟨m, hm⟩ : ∃ m, n - 1 = m := ⟨_, rfl⟩
  rw [hm] at HT hsl
  have hml : m = ts.length := by omega
  have hn1 : 1 ≤ n := by omega
  have hmn : m ≤ 65536 := by omega
  have K4 := (Blk.new w 66 #[.bool false, .bool false, .bool false]).alloc (.cells #[.bool t0, .bool t1, .bool t2] 66)
  have K5 := Blk.new (w.alloc (.cells #[.bool false, .bool false, .bool false] 66)) 66 #[.bool t0, .bool t1, .bool t2]
  have HB := ((Below.refl w.heap.size w).alloc (Nat.le_refl _) (.cells #[.bool false, .bool false, .bool false] 66)).alloc (by simp) (.cells #[.bool t0, .bool t1, .bool t2] 66)
  rw [World.size_alloc] at K5
  have a0 : (w.alloc (.cells #[.bool false, .bool false, .bool false] 66)).cell? ⟨b, o, none⟩ = some (.bool t0) := (((Below.refl w.heap.size w).alloc (Nat.le_refl _) _).cell (p := ⟨b, o, none⟩) hb0).trans v0
  have a1 : (w.alloc (.cells #[.bool false, .bool false, .bool false] 66)).cell? ⟨b, o + 1, none⟩ = some (.bool t1) := (((Below.refl w.heap.size w).alloc (Nat.le_refl _) _).cell (p := ⟨b, o + 1, none⟩) hb0).trans v1
  have a2 : (w.alloc (.cells #[.bool false, .bool false, .bool false] 66)).cell? ⟨b, o + 2, none⟩ = some (.bool t2) := (((Below.refl w.heap.size w).alloc (Nat.le_refl _) _).cell (p := ⟨b, o + 2, none⟩) hb0).trans v2
  have HML := Lib.hid hml
  clear hA2 hm hml hl v0 v1 v2
  go_enter Tryd.func43, Tryd.ntmps43
  go_wp2_with fail
  clear a0 a1 a2
  go_loopw [14] (fun i wr => ∃ (k : Nat) (q : Tr3), k ≤ m ∧ i = .int .i64 (k : Int) ∧ Hid ((ts.drop k).foldl (jn3 11) q = (R0, R1, R2)) ∧ Below w.heap.size w wr ∧ Blk wr w.heap.size 66 #[.bool false, .bool false, .bool false] ∧ Blk wr (w.heap.size + 1) 66 (cs3 q)) (fun i _ => m - (intOf i).toNat)
  case atStart => exact ⟨0, (t0, t1, t2), Nat.zero_le _, rfl, HQ0, HB, K4, K5⟩
  case round =>
    clear HQ0 HB K4 K5
    obtain ⟨k, ⟨q0, q1, q2⟩, hk, rfl, HQ, hb, h4, h5⟩ := hrel
    by_cases hlt : k < m
    · obtain ⟨⟨x0, x1, x2⟩, hx⟩ : ∃ x, ts[k]? = some x := ⟨_, List.getElem?_eq_getElem (by rw [← HML.out]; exact hlt)⟩
      have hd : ts.drop k = (x0, x1, x2) :: ts.drop (k + 1) := by rw [List.drop_eq_getElem_cons (List.getElem?_eq_some_iff.1 hx).1, (List.getElem?_eq_some_iff.1 hx).2]
      have hq := HQ.out
      rw [hd, List.foldl_cons] at hq
      have HQ2 := Lib.hid hq
      obtain ⟨b', o', rfl, hb', y0, y1, y2⟩ := (HT.out.below hb).tru hx
      have k7 := Blk.new wr 66 #[.bool x0, .bool x1, .bool x2]
      have k5 := h5.alloc (.cells #[.bool x0, .bool x1, .bool x2] 66)
      have k4 := h4.alloc (.cells #[.bool x0, .bool x1, .bool x2] 66)
      have hbx := hb.alloc hb.size (.cells #[.bool x0, .bool x1, .bool x2] 66)
      obtain ⟨s0, s1, s2⟩ := blk3 k7
      obtain ⟨r0, r1, r2⟩ := blk3 (show Blk _ _ _ #[.bool q0, .bool q1, .bool q2] from k5)
      have HK4 := Lib.hid k4; have HK5 := Lib.hid k5; have HBX := Lib.hid hbx
      clear hq hd hx HQ hb h4 h5 k4 k5 k7 hbx
      by_cases he : ((x0, x1, x2) : Tr3) = (q0, q1, q2)
      · injection he with e0 he
        injection he with e1 e2
        subst e0 e1 e2
        have hne := neq3_no x0 x1 x2
        have HQ3 := Lib.hid (show (ts.drop (k + 1)).foldl (jn3 11) (x0, x1, x2) = (R0, R1, R2) by rw [← HQ2.out, jn3_same])
        clear HQ2
        go_wp2_with fail
        go_round
        case rel => exact ⟨k + 1, (x0, x1, x2), by omega, by go_num, HQ3, HBX.out, HK4.out, HK5.out⟩
        case measure => simp [intOf]; omega
      · have hne := neq3_yes x0 x1 x2 q0 q1 q2 he
        have hj := fun W => HJ.out (q0, q1, q2) (x0, x1, x2) W
        obtain ⟨⟨p0, p1, p2⟩, hp⟩ : ∃ p, jn3 11 (q0, q1, q2) (x0, x1, x2) = p := ⟨_, rfl⟩
        rw [hp] at hj HQ2
        simp only [tW] at hj
        have HJ2 := Lib.hid hj
        clear he hj hp
        go_wp2_with fail
        refine (HJ2.out _).mono ?_
        rintro e w2 ⟨rfl, hb2⟩
        have k4 := HK4.out.below hb2 HK4.out.lt
        have k5 := HK5.out.below hb2 HK5.out.lt
        have hbx := HBX.out.trans (hb2.mono HBX.out.size)
        clear r0 r1 r2 s0 s1 s2
        obtain ⟨r0, r1, r2⟩ := blk3 (show Blk _ _ _ #[.bool q0, .bool q1, .bool q2] from k5)
        have z0 := k5.frozen 0; have z1 := k5.frozen 1; have z2 := k5.frozen 2
        obtain ⟨f1, f2⟩ := store3 (show Blk _ _ _ #[.bool q0, .bool q1, .bool q2] from k5) hbx (by omega) (.bool p0) (.bool p1) (.bool p2)
        have f3 := ((k4.far (p := ⟨w.heap.size + 1, 0, none⟩) (show w.heap.size ≠ w.heap.size + 1 by omega) (.bool p0)).far (p := ⟨w.heap.size + 1, 1, none⟩) (show w.heap.size ≠ w.heap.size + 1 by omega) (.bool p1)).far (p := ⟨w.heap.size + 1, 2, none⟩) (show w.heap.size ≠ w.heap.size + 1 by omega) (.bool p2)
        have F1 := Lib.hid f1; have F2 := Lib.hid f2; have F3 := Lib.hid f3
        clear f1 f2 f3 k4 k5 hbx hb2 HK4 HK5 HBX
        go_wp2_with fail
        go_round
        case rel => exact ⟨k + 1, (p0, p1, p2), by omega, by go_num, HQ2, F2.out, F3.out, F1.out⟩
        case measure => simp [intOf]; omega
    · obtain rfl : k = m := by omega
      have hq := HQ.out
      rw [List.drop_eq_nil_of_le (by rw [← HML.out]; exact Nat.le_refl _), List.foldl_nil] at hq
      injection hq with e0 hq
      injection hq with e1 e2
      subst e0 e1 e2
      obtain ⟨r0, r1, r2⟩ := blk3 (show Blk _ _ _ #[.bool q0, .bool q1, .bool q2] from h5)
      obtain ⟨s0, s1, s2⟩ := blk3 h4
      have z0 := h4.frozen 0; have z1 := h4.frozen 1; have z2 := h4.frozen 2
      obtain ⟨f1, f2⟩ := store3 h4 hb (by omega) (.bool q0) (.bool q1) (.bool q2)
      have F1 := Lib.hid f1; have F2 := Lib.hid f2
      clear f1 f2 h4 h5 hb HQ
      go_wp2_with fail
      exact bodyPost_ret (v := .agg #[.bool q0, .bool q1, .bool q2]) (results_cell_row rfl _ _ _ _ _ _ _ (by rfl) F1.out Tryd.underlying66 rfl (by kernel_rfl)) rfl ⟨rfl, F2.out⟩
end
end Go.Proofs.YtmjpjllbfgkfbaaDoor
