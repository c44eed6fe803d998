import Derived.Test.YtpgdlmnhomnblaaGreatDoorJ1
import Derived.Deep.QuietTactic
import Derived.BigQuiet
import Derived.Test.YtpgdlmnhomnblaaGreatDoorJ6
import Derived.Test.YtpgdlmnhomnblaaGreatDoorJ9
import Derived.Test.YtpgdlmnhomnblaaGreatDoorJ7
import Derived.Lib.Strings
import Derived.Lib.Slices
import Derived.Lib.Small
import Derived.Lib.Walk
import Derived.Lib.BitFns
import Derived.Test.YtpgdlmnhomnblaaGreatDoorJ4
import Derived.Test.YtpgdlmnhomnblaaGreatDoorJ3
import Derived.Test.YtpgdlmnhomnblaaGreatDoorJ8
namespace Go.Proofs.YtpgdlmnhomnblaaGreatDoor
open Go.RowKit
set_option linter.unusedVariables false
set_option linter.unusedSimpArgs false
set_option maxRecDepth 100000
def ns (l : List Nat) : List Value := l.map fun b : Nat => Value.int .i64 (b : Int)
def zs (l : List Int) : List Value := l.map (Value.int .i64)
theorem zs_length (l : List Int) : (zs l).length = l.length := by simp [zs]
theorem zs_at {l : List Int} {k : Nat} {u : Value} (h : (zs l)[k]? = some u) : ∃ b, l[k]? = some b ∧ u = .int .i64 b := by
  unfold zs at h
  rw [List.getElem?_map] at h
  cases hb : l[k]? with
  | none => rw [hb] at h; cases h
  | some b => rw [hb] at h; injection h with h; exact ⟨b, rfl, h.symm⟩
end Go.Proofs.YtpgdlmnhomnblaaGreatDoor
namespace Go.Proofs.YtpgdlmnhomnblaaGreatDoor
open Go.RowKit
set_option linter.unusedVariables false
set_option linter.unusedSimpArgs false
set_option maxRecDepth 100000
theorem info_i64 : (Tryz.prog.info? 2).map (fun i => (i.zero, i.size, i.bytes)) = some (some (.int .i64 0), 1, 8) := by kernel_rfl
theorem run_make_i64 (n c : Nat) (hnc : n ≤ c) (hc : c ≤ 17592186044416) (w : World) :
    (Instr.makeSlice 142 (.int .i64 (n : Int)) (.int .i64 (c : Int))).run Tryz.prog w = .ok (.slice (some ⟨w.heap.size, 0, none⟩) n c) (w.alloc (.cells (madeCells #[.int .i64 0] c) 2)) := by
  obtain ⟨i, hi, hz0, hz1, hz2⟩ := info_parts info_i64
  have hr := run_make (P := Tryz.prog) w 142 2 i _ Tryz.underlying142 hi hz0 .i64 .i64 n c (by omega) (by omega) (by rw [hz2]; omega) (by omega)
  rw [hz1] at hr
  simpa [Value.cells] using hr
def NewLE (w : World) (l : List Int) (x : Int) (e : Ending) (w' : World) : Prop :=
  ∃ v, e = .returned (.tuple #[v, .int .i64 x]) ∧ w'.ownsRow w.heap.size 2 1 v l.length (zs l) ∧ Below w.heap.size w w'
theorem NewLE.opened {w w' : World} {l : List Int} {x : Int} {e : Ending} (h : NewLE w l x e w') : ∃ A c, e = .returned (.tuple #[.slice A l.length c, .int .i64 x]) ∧ l.length ≤ c ∧ c ≤ maxLen ∧ Reads w' w'.heap.size 1 A l.length (zs l) ∧ Below w.heap.size w w' := by
  obtain ⟨v, rfl, hown, hb⟩ := h
  obtain ⟨A, c, rfl, hc, hm, hr⟩ := own_slice hown
  exact ⟨A, c, rfl, hc, hm, hr, hb⟩
theorem zs_get {l : List Int} {k : Nat} {z : Int} (h : l[k]? = some z) : (zs l)[k]? = some (.int .i64 z) := by unfold zs; rw [List.getElem?_map, h]; rfl
theorem zs_append (l m : List Int) : zs (l ++ m) = zs l ++ zs m := by simp [zs]
theorem zs_snoc (l : List Int) (z : Int) : zs l ++ [Value.int .i64 z] = zs (l ++ [z]) := by simp [zs]
end Go.Proofs.YtpgdlmnhomnblaaGreatDoor
namespace Go.Proofs.YtpgdlmnhomnblaaGreatDoor
open Go.RowKit
set_option linter.unusedVariables false
set_option linter.unusedSimpArgs false
set_option maxRecDepth 100000
set_option maxHeartbeats 400000 in
theorem eachN_any (A : Option Addr) (n c : Nat) (o : List Vl) (w : World) (hr : Reads w w.heap.size 3 A n (vs o)) (hn : n ≤ 65536) :
    Calls Tryz.prog 107 #[.slice A n c, .func (.func 75) #[] #[]] w
      fun e w' => ∃ v, e = .returned v ∧ w'.ownsRow w.heap.size 2 1 v n (zs (nums o)) ∧ Below w.heap.size w w' := by
  have e1 : o.length = n := by have := hr.1; rw [vs_length] at this; omega
  have hpl : (zs (nums o)).length = n := by rw [zs_length, nums_length, e1]
  have hmk := fun W => run_make_i64 n n (Nat.le_refl _) (by omega) W
  rw [← fillW_zero (zs (nums o)) (.int .i64 0) n hpl] at hmk
  have hF0 := Blk.new w 2 (fillW (zs (nums o)) (.int .i64 0) 0)
  have hb0 : Below w.heap.size w (w.alloc (.cells (fillW (zs (nums o)) (.int .i64 0) 0) 2)) := (Below.refl _ _).alloc (Nat.le_refl _) _
  have HPL := Lib.hid hpl; have HE := Lib.hid e1
  have HC := Lib.hid fun (v : Vl) (W : World) => numberOf_any v W
  clear hpl e1
  go_enter Tryz.func107, Tryz.ntmps107
  go_wp2_with fail
  clear hmk
  go_loopw [13] (fun s wr => ∃ k : Nat, k ≤ n ∧ s = .int .i64 (k : Int) ∧ Blk wr w.heap.size 2 (fillW (zs (nums o)) (.int .i64 0) k) ∧ Below w.heap.size w wr) (fun i _ => n - (intOf i).toNat)
  case atStart => exact ⟨0, by omega, rfl, hF0, hb0⟩
  case round =>
    clear hF0 hb0
    obtain ⟨k, hk, rfl, hF, hb⟩ := hrel
    by_cases hlt : k < n
    · obtain ⟨⟨v0, v1, z⟩, hv⟩ : ∃ v, o[k]? = some v := ⟨_, List.getElem?_eq_getElem (by rw [HE.out]; exact hlt)⟩
      obtain ⟨b, of, rfl, hb1, x0, x1, x2⟩ := (hr.below hb).val hv
      have HV : Hid ((zs (nums o))[k]? = some (.int .i64 v1)) := Lib.hid (zs_get (by simp [nums, hv]))
      have hFl := hF.lt
      have hc := fun W => HC.out (v0, v1, z) W
      unfold vW at hc
      have HCC := Lib.hid hc
      clear hv hc
      go_wp2_with fail
      refine (HCC.out _).mono ?_
      rintro e w2 ⟨rfl, hb2⟩
      have hb3 : Below wr.heap.size wr w2 := ((Below.refl _ _).alloc (Nat.le_refl _) _).trans (hb2.mono (by simp))
      have hF2 := hF.below hb3 hFl
      have hb02 := hb.trans (hb3.mono hb.size)
      have hc := hF2.cell k
      rw [fillW_old _ _ k (by rw [HPL.out]; omega)] at hc
      have hf := hF2.frozen k
      clear hF hb hb2 hb3 x0 x1 x2
      go_wp2_with fail
      go_round
      case rel =>
        refine ⟨k + 1, by omega, by go_num, ?_, hb02.setCell (Nat.le_refl _) _⟩
        have h1 := hF2.set_ k (.int .i64 v1)
        rw [fillW_next _ _ k _ HV.out] at h1
        exact h1
      case measure => simp [intOf]; omega
    · obtain rfl : k = n := by omega
      rw [fillW_all _ _ k HPL.out] at hF
      go_wp2_with fail
      go_ret
      exact ⟨_, rfl, own_whole hF (Nat.le_refl _) HPL.out (by unfold maxLen; omega), hb⟩
set_option maxHeartbeats 400000 in
theorem eachT_any (A : Option Addr) (n c : Nat) (o : List Vl) (w : World) (hr : Reads w w.heap.size 3 A n (vs o)) (hn : n ≤ 65536) :
    Calls Tryz.prog 135 #[.slice A n c, .func (.func 88) #[] #[]] w
      fun e w' => ∃ v, e = .returned v ∧ w'.ownsRow w.heap.size 9 1 v n (ts (txts o)) ∧ Below w.heap.size w w' := by
  have e1 : o.length = n := by have := hr.1; rw [vs_length] at this; omega
  have hpl : (ts (txts o)).length = n := by rw [ts_length, txts_length, e1]
  have hmk := fun W => run_make_str n n (Nat.le_refl _) (by omega) W
  rw [← fillW_zero (ts (txts o)) (.string ⟨#[]⟩) n hpl] at hmk
  have hF0 := Blk.new w 9 (fillW (ts (txts o)) (.string ⟨#[]⟩) 0)
  have hb0 : Below w.heap.size w (w.alloc (.cells (fillW (ts (txts o)) (.string ⟨#[]⟩) 0) 9)) := (Below.refl _ _).alloc (Nat.le_refl _) _
  have HPL := Lib.hid hpl; have HE := Lib.hid e1
  have HC := Lib.hid fun (v : Vl) (W : World) => textOf_any v W
  clear hpl e1
  go_enter Tryz.func135, Tryz.ntmps135
  go_wp2_with fail
  clear hmk
  go_loopw [13] (fun s wr => ∃ k : Nat, k ≤ n ∧ s = .int .i64 (k : Int) ∧ Blk wr w.heap.size 9 (fillW (ts (txts o)) (.string ⟨#[]⟩) k) ∧ Below w.heap.size w wr) (fun i _ => n - (intOf i).toNat)
  case atStart => exact ⟨0, by omega, rfl, hF0, hb0⟩
  case round =>
    clear hF0 hb0
    obtain ⟨k, hk, rfl, hF, hb⟩ := hrel
    by_cases hlt : k < n
    · obtain ⟨⟨v0, v1, z⟩, hv⟩ : ∃ v, o[k]? = some v := ⟨_, List.getElem?_eq_getElem (by rw [HE.out]; exact hlt)⟩
      obtain ⟨b, of, rfl, hb1, x0, x1, x2⟩ := (hr.below hb).val hv
      have HV : Hid ((ts (txts o))[k]? = some (.string ⟨z.toArray⟩)) := Lib.hid (ts_get (by simp [txts, hv]))
      have hFl := hF.lt
      have hc := fun W => HC.out (v0, v1, z) W
      unfold vW at hc
      have HCC := Lib.hid hc
      clear hv hc
      go_wp2_with fail
      refine (HCC.out _).mono ?_
      rintro e w2 ⟨rfl, hb2⟩
      have hb3 : Below wr.heap.size wr w2 := ((Below.refl _ _).alloc (Nat.le_refl _) _).trans (hb2.mono (by simp))
      have hF2 := hF.below hb3 hFl
      have hb02 := hb.trans (hb3.mono hb.size)
      have hc := hF2.cell k
      rw [fillW_old _ _ k (by rw [HPL.out]; omega)] at hc
      have hf := hF2.frozen k
      clear hF hb hb2 hb3 x0 x1 x2
      go_wp2_with fail
      go_round
      case rel =>
        refine ⟨k + 1, by omega, by go_num, ?_, hb02.setCell (Nat.le_refl _) _⟩
        have h1 := hF2.set_ k (.string ⟨z.toArray⟩)
        rw [fillW_next _ _ k _ HV.out] at h1
        exact h1
      case measure => simp [intOf]; omega
    · obtain rfl : k = n := by omega
      rw [fillW_all _ _ k HPL.out] at hF
      go_wp2_with fail
      go_ret
      exact ⟨_, rfl, own_whole hF (Nat.le_refl _) HPL.out (by unfold maxLen; omega), hb⟩
end Go.Proofs.YtpgdlmnhomnblaaGreatDoor
namespace Go.Proofs.YtpgdlmnhomnblaaGreatDoor
open Go.RowKit
set_option linter.unusedVariables false
set_option linter.unusedSimpArgs false
set_option maxRecDepth 100000
theorem blen_shift (k v : Nat) (h : 2 ^ k ≤ v) : blen v = blen (v / 2 ^ k) + k := by
  induction k generalizing v with
  | zero => simp
  | succ k ih =>
    have h2 : 2 ^ k ≤ v / 2 := by rw [Nat.pow_succ] at h; omega
    have := Nat.two_pow_pos k
    rw [blen_half v (by omega), ih _ h2, Nat.div_div_eq_div_mul, Nat.pow_succ, Nat.mul_comm 2]; omega
theorem size_len8tab : Lib.len8tab.size = 256 := by decide +kernel
theorem len8tab_fin : ∀ b : Fin 256, (Lib.len8tab[b.val]'(by rw [size_len8tab]; exact b.isLt)).toNat = blen b.val := by decide +kernel
theorem len8tab_at (x : Int) (n : Nat) (h0 : x.toNat = n) (h1 : n < 256) (hx : x.toNat < Lib.len8tab.size) (m : Nat) (hm : m ≤ 56) : wrap64 (wrap64 ((Lib.len8tab[x.toNat]'hx).toNat : Int)) = (blen n : Int) ∧ wrap64 ((m : Int) + wrap64 ((Lib.len8tab[x.toNat]'hx).toNat : Int)) = ((blen n + m : Nat) : Int) := by
  subst h0
  have h := len8tab_fin ⟨x.toNat, h1⟩
  simp only at h
  rw [h]
  have h8 : blen x.toNat ≤ 8 := (blen_le _ 8).2 (by omega)
  unfold wrap64
  omega
set_option maxHeartbeats 4000000 in
theorem len64_int (x : Int) (w : World) (h0 : 0 ≤ x) (h : x ≤ 18446744073709551615) :
    Calls Tryz.prog 171 #[.int .u64 x] w fun e w' => e = .returned (.int .i64 (blen x.toNat : Int)) ∧ w = w' := by
  have hs := size_len8tab
  go_enter Tryz.func171, Tryz.ntmps171
  go_wp2
  all_goals (go_ret; refine ⟨ret_of (congrArg (Value.int IntKind.i64) ?_), rfl⟩)
  all_goals first
    | (refine (len8tab_at _ (x.toNat / 2 ^ 56) (by omega) (by omega) _ 56 (by omega)).2.trans ?_; rw [← blen_shift 56 _ (by omega)])
    | (refine (len8tab_at _ (x.toNat / 2 ^ 48) (by omega) (by omega) _ 48 (by omega)).2.trans ?_; rw [← blen_shift 48 _ (by omega)])
    | (refine (len8tab_at _ (x.toNat / 2 ^ 40) (by omega) (by omega) _ 40 (by omega)).2.trans ?_; rw [← blen_shift 40 _ (by omega)])
    | (refine (len8tab_at _ (x.toNat / 2 ^ 32) (by omega) (by omega) _ 32 (by omega)).2.trans ?_; rw [← blen_shift 32 _ (by omega)])
    | (refine (len8tab_at _ (x.toNat / 2 ^ 24) (by omega) (by omega) _ 24 (by omega)).2.trans ?_; rw [← blen_shift 24 _ (by omega)])
    | (refine (len8tab_at _ (x.toNat / 2 ^ 16) (by omega) (by omega) _ 16 (by omega)).2.trans ?_; rw [← blen_shift 16 _ (by omega)])
    | (refine (len8tab_at _ (x.toNat / 2 ^ 8) (by omega) (by omega) _ 8 (by omega)).2.trans ?_; rw [← blen_shift 8 _ (by omega)])
    | exact (len8tab_at _ _ rfl (by omega) _ 0 (by omega)).1
theorem len64_any (x : Nat) (w : World) (h : x < 18446744073709551616) :
    Calls Tryz.prog 171 #[.int .u64 (x : Int)] w fun e w' => e = .returned (.int .i64 (blen x : Int)) ∧ w = w' :=
  len64_int x w (by omega) (by omega)
end Go.Proofs.YtpgdlmnhomnblaaGreatDoor
namespace Go.Proofs.YtpgdlmnhomnblaaGreatDoor
open Go.RowKit
set_option linter.unusedVariables false
set_option linter.unusedSimpArgs false
set_option maxRecDepth 100000
theorem zig_any (n : Int) (w : World) (h1 : -9223372036854775808 ≤ n) (h2 : n ≤ 9223372036854775807) : Calls Tryz.prog 112 #[.int .i64 n] w fun e w' => e = .returned (.int .u64 (zigI n)) ∧ w = w' := by
  by_cases h : 0 ≤ n
  · have HZ := Lib.hid (zig_low n h h2)
    go_enter Tryz.func112, Tryz.ntmps112
    go_wp2_with fail
    go_ret
    exact ⟨ret_of (congrArg (Value.int .u64) HZ.out), rfl⟩
  · have HZ := Lib.hid (zig_high n h h1)
    go_enter Tryz.func112, Tryz.ntmps112
    go_wp2_with fail
    go_ret
    exact ⟨ret_of (congrArg (Value.int .u64) HZ.out), rfl⟩
end Go.Proofs.YtpgdlmnhomnblaaGreatDoor
namespace Go.Proofs.YtpgdlmnhomnblaaGreatDoor
open Go.RowKit
set_option linter.unusedVariables false
set_option linter.unusedSimpArgs false
set_option maxRecDepth 100000
theorem zigN_any (z : Int) (w : World) (h : In64 z) : Calls Tryz.prog 112 #[.int .i64 z] w fun e w' => e = .returned (.int .u64 (zg z : Int)) ∧ w = w' := by
  rw [← (zg_int h).1]; exact zig_any z w h.1 h.2
end Go.Proofs.YtpgdlmnhomnblaaGreatDoor
namespace Go.Proofs.YtpgdlmnhomnblaaGreatDoor
open Go.RowKit
set_option linter.unusedVariables false
set_option linter.unusedSimpArgs false
set_option maxRecDepth 100000
theorem plSize_any (v : Nat) (w : World) (hv : v < 18446744073709551616) : Calls Tryz.prog 160 #[.int .u64 (v : Int)] w fun e w' => e = .returned (.int .i64 ((vb v).length : Int)) ∧ w = w' := by
  have hor : bits .or .u64 (v : Int) 1 = ((v ||| 1 : Nat) : Int) := by
    rw [show (1 : Int) = ((1 : Nat) : Int) from rfl, u64_or_nat _ _ hv (by omega)]
  have hb := blen_one v
  have hs := vb_size v hv
  have h64 : blen (v ||| 1) ≤ 64 := blen_lt64 _ (Nat.or_lt_two_pow (n := 64) (by simpa using hv) (by decide))
  have h1 : (((blen (v ||| 1) + 7 - 1) / 7 : Nat) : Int) = ((vb v).length : Int) := by rw [hs, hb]; omega
  have HL := Lib.hid h1
  clear hb hs h1
  go_enter Tryz.func160, Tryz.ntmps160
  go_wp2_with fail
  refine (len64_any (v ||| 1) w (Nat.or_lt_two_pow (n := 64) (by simpa using hv) (by decide))).mono ?_
  rintro e w' ⟨rfl, rfl⟩
  go_wp2_with fail
  go_ret
  refine ⟨ret_of (congrArg (Value.int .i64) ?_), rfl⟩
  rw [← HL.out]; omega
set_option maxHeartbeats 400000 in
theorem plen_any (A : Option Addr) (n c : Nat) (l : List Int) (B : Nat) (w : World) (hr : Reads w B 1 A n (zs l)) (hl : ∀ z ∈ l, In64 z) (hn : n ≤ 14073748835532) :
    Calls Tryz.prog 110 #[.slice A n c] w fun e w' => e = .returned (.int .i64 ((pl l).length : Int)) ∧ w = w' := by
  have e1 : l.length = n := by have := hr.1; rw [zs_length] at this; omega
  have E1 := Lib.hid e1; have HLL := Lib.hid hl
  clear e1 hl
  go_enter Tryz.func110, Tryz.ntmps110
  go_wp2_with fail
  go_loop [3, 8] (fun s i => ∃ k q : Nat, k ≤ n ∧ i = .int .i64 (k : Int) ∧ s = .int .i64 (q : Int) ∧ Hid (q = (pl (l.take k)).length) ∧ q ≤ 10 * k) (fun _ i => n - (intOf i).toNat)
  case atStart => exact ⟨0, 0, by omega, rfl, rfl, Lib.hid (by simp [pl]), by omega⟩
  case round =>
    obtain ⟨k, q, hk, rfl, rfl, hq, hqk⟩ := hrel
    by_cases hlt : k < n
    · obtain ⟨ad, u, rfl, _, hu, hc⟩ := hr.at_ hlt
      obtain ⟨z, hz, rfl⟩ := zs_at hu
      have hz64 := HLL.out z (List.mem_of_getElem? hz)
      have hzg := (zg_int hz64).2
      have hvl := vb_length (zg z)
      have HZ := Lib.hid hz
      clear hu hz
      go_wp2_with fail
      refine (zigN_any z w hz64).mono ?_
      rintro e w' ⟨rfl, rfl⟩
      go_wp2_with fail
      refine (plSize_any (zg z) w hzg).mono ?_
      rintro e w' ⟨rfl, rfl⟩
      go_wp2_with fail
      go_round
      case rel => exact ⟨k + 1, q + (vb (zg z)).length, by omega, by go_num, by go_num, Lib.hid (by rw [pl_step HZ.out, List.length_append, hq.out]), by omega⟩
      case measure => simp [intOf]; omega
    · go_wp2_with fail
      go_ret
      obtain rfl : k = n := by omega
      refine ⟨ret_of (congrArg (Value.int .i64) ?_), rfl⟩
      rw [hq.out, List.take_of_length_le (by rw [E1.out]; omega)]
end Go.Proofs.YtpgdlmnhomnblaaGreatDoor
namespace Go.Proofs.YtpgdlmnhomnblaaGreatDoor
open Go.RowKit
set_option linter.unusedVariables false
set_option linter.unusedSimpArgs false
set_option maxRecDepth 100000
theorem copied_any (A : Option Addr) (n c more : Nat) (xs : List Value) (w : World) (hr : Reads w w.heap.size 1 A n xs) (h1 : ∀ u ∈ xs, u.oneCell' = true) (hb : n + more ≤ 140737488355328) :
    Calls Tryz.prog 161 #[.slice A n c, .int .i64 (more : Int)] w fun e w' => ∃ v, e = .returned v ∧ w'.ownsRow w.heap.size 5 1 v n xs ∧ Below w.heap.size w w' := by
  obtain ⟨i0, hi0, hz0, hz1, hz2⟩ := info_parts info_u8
  have hmk : ∀ W : World, (Instr.makeSlice 66 (.int .i64 0) (.int .i64 ((n : Int) + (more : Int)))).run Tryz.prog W = .ok (.slice (some ⟨W.heap.size, 0, none⟩) 0 (n + more)) (W.alloc (.cells (madeCells #[.int .u8 0] (n + more)) 5)) := fun W => run_make_u8 (n + more) (by omega) W
  have hown0 : (w.alloc (.cells (madeCells #[.int .u8 0] (n + more)) 5)).ownsRow w.heap.size 5 1 (.slice (some ⟨w.heap.size, 0, none⟩) 0 (n + more)) 0 [] :=
    World.ownsRow_made w _ _ (Nat.le_refl _) (by unfold maxLen; omega) (by rw [size_madeCells]; omega)
  go_enter Tryz.func161, Tryz.ntmps161
  go_wp2_with (at_builtin
               refine wpList_append_any _ rfl (.tmp 9) (.tmp 10) _ rfl w.heap.size 5 i0 _ 1 1 Tryz.underlying66 hi0 hz0 hz1 hz2 rfl (by omega) (.slice (some ⟨w.heap.size, 0, none⟩) 0 (n + more)) 0 [] rfl
                 hown0 w.heap.size A n c xs rfl (hr.alloc (Nat.le_refl _) _) h1 (by unfold maxLen; omega) (by omega) (by simp) ?_
               intro v1 w1 hown1 hg1 hat1)
  go_ret
  exact ⟨v1, rfl, by simpa using hown1, ((Below.refl _ _).alloc (Nat.le_refl _) _).grown hg1 (by simp) (fun k hk => by simp [Value.ownBlock] at hk; omega)⟩
end Go.Proofs.YtpgdlmnhomnblaaGreatDoor
namespace Go.Proofs.YtpgdlmnhomnblaaGreatDoor
open Go.RowKit
set_option linter.unusedVariables false
set_option linter.unusedSimpArgs false
set_option maxRecDepth 100000
set_option maxHeartbeats 400000 in
theorem putVar_any (A : Option Addr) (n c v : Nat) (xs : List Value) (w : World) (hv : v < 18446744073709551616) (hr : Reads w w.heap.size 1 A n xs) (h1 : ∀ u ∈ xs, u.oneCell' = true) (hb : n ≤ 140737488355300) :
    Calls Tryz.prog 111 #[.slice A n c, .int .u64 (v : Int)] w (New w (xs ++ bs (vb v)) (n + (vb v).length)) := by
  obtain ⟨i0, hi0, hz0, hz1, hz2⟩ := info_parts info_u8
  go_enter Tryz.func111, Tryz.ntmps111
  go_wp2_with (go_at_call 161; refine (copied_any A n c 10 xs w hr h1 (by omega)).mono ?_; rintro e w1 ⟨u0, rfl, hown0, hb0⟩)
  go_loopw [5, 1] (fun out v1 wr => ∃ (pre : List Nat) (v' : Nat), pre ++ vb v' = vb v ∧ v' < 18446744073709551616 ∧ v1 = .int .u64 (v' : Int) ∧ wr.ownsRow w.heap.size 5 1 out (n + pre.length) (xs ++ bs pre) ∧ Below w.heap.size w wr)
    (fun _ v1 _ => (intOf v1).toNat)
  case atStart => exact ⟨[], v, rfl, hv, rfl, by simpa [bs] using hown0, hb0⟩
  case round =>
    obtain ⟨pre, v', hpre, hv', rfl, hown, hbl⟩ := hrel
    have hpl := congrArg List.length hpre
    have hl := vb_length v
    simp only [List.length_append] at hpl
    have hplen : pre.length ≤ 10 := by omega
    have Hpre := Lib.hid hpre
    clear hpre hpl
    have hsz := hbl.size
    by_cases hlt : 127 < v'
    · go_wp2_with (at_builtin
                   refine wpList_append_any _ rfl (.tmp 12) (.tmp 16) _ rfl w.heap.size 5 i0 _ 1 1 Tryz.underlying66 hi0 hz0 hz1 hz2 rfl (by omega) u5 (n + pre.length) (xs ++ bs pre) rfl
                     (hown.alloc _) (wr.heap.size + 1) (some ⟨wr.heap.size, 0, none⟩) 1 1 [.int .u8 (bits .or .u8 ((v' : Int) % 256) 128)] rfl (Reads.new wr _ _) (one_int _ _) (by unfold maxLen; omega) (by omega) (by simp; omega) ?_
                   intro v2 w2 hown2 hg2 hat2)
      have hbit : bits .or .u8 ((v' : Int) % 256) 128 = ((128 + v' % 128 : Nat) : Int) := by
        rw [show ((v' : Int) % 256) = ((v' % 256 : Nat) : Int) from rfl, show (128 : Int) = ((128 : Nat) : Int) from rfl, u8_or_nat _ _ (by omega) (by omega), bit7 _ (by omega)]
        congr 2; omega
      rw [bs_snoc xs pre _ _ hbit] at hown2
      have hvb := vb_big v' (by omega) hv'
      refine ⟨⟨pre ++ [128 + v' % 128], v' / 128, ?_, by omega, rfl, by simpa [Nat.add_assoc] using hown2, below_app hbl hown hsz hg2⟩, ?_⟩
      · rw [List.append_assoc, ← Hpre.out, hvb]; rfl
      · simp [intOf]; omega
    · go_wp2_with (at_builtin
                   refine wpList_append_any _ rfl (.tmp 18) (.tmp 21) _ rfl w.heap.size 5 i0 _ 1 1 Tryz.underlying66 hi0 hz0 hz1 hz2 rfl (by omega) u5 (n + pre.length) (xs ++ bs pre) rfl
                     (hown.alloc _) (wr.heap.size + 1) (some ⟨wr.heap.size, 0, none⟩) 1 1 [.int .u8 (v' : Int)] rfl (Reads.new wr _ _) (one_int _ _) (by unfold maxLen; omega) (by omega) (by simp; omega) ?_
                   intro v2 w2 hown2 hg2 hat2)
      go_ret
      have hvb := vb_small v' (by omega)
      have hpre := Hpre.out
      rw [hvb] at hpre
      rw [bs_snoc xs pre v' _ rfl, hpre] at hown2
      refine ⟨v2, rfl, ?_, below_app hbl hown hsz hg2⟩
      rw [← hpre] at hown2 ⊢
      simpa [Nat.add_assoc] using hown2
end Go.Proofs.YtpgdlmnhomnblaaGreatDoor
namespace Go.Proofs.YtpgdlmnhomnblaaGreatDoor
open Go.RowKit
set_option linter.unusedVariables false
set_option linter.unusedSimpArgs false
set_option maxRecDepth 100000
set_option maxHeartbeats 1000000 in
theorem plPut_any (A : Option Addr) (n c : Nat) (l : List Int) (w : World) (hr : Reads w w.heap.size 1 A n (zs l)) (hl : ∀ z ∈ l, In64 z) (hn : n ≤ 65536) :
    Calls Tryz.prog 73 #[.slice A n c] w (NewE w (pl l) 0) := by
  obtain ⟨i0, hi0, hz0, hz1, hz2⟩ := info_parts info_u8
  have e1 : l.length = n := by have := hr.1; rw [zs_length] at this; omega
  have hpl := pl_length l
  rw [e1] at hpl
  have hmk := fun W => run_make_u8 (pl l).length (by omega) W
  have hown0 : (w.alloc (.cells (madeCells #[.int .u8 0] (pl l).length) 5)).ownsRow w.heap.size 5 1 (.slice (some ⟨w.heap.size, 0, none⟩) 0 (pl l).length) 0 (bs []) :=
    World.ownsRow_made w _ _ (Nat.le_refl _) (by unfold maxLen; omega) (by rw [size_madeCells]; omega)
  have hb0 : Below w.heap.size w (w.alloc (.cells (madeCells #[.int .u8 0] (pl l).length) 5)) := (Below.refl _ _).alloc (Nat.le_refl _) _
  have E1 := Lib.hid e1; have HLL := Lib.hid hl
  clear e1 hl
  go_enter Tryz.func73, Tryz.ntmps73
  go_wp2_with fail
  refine (plen_any A n c l _ w hr HLL.out (by omega)).mono ?_
  rintro e w' ⟨rfl, rfl⟩
  go_wp2_with fail
  clear hmk
  go_loopw [4, 15] (fun out i wr => ∃ k : Nat, k ≤ n ∧ i = .int .i64 (k : Int) ∧ wr.ownsRow w.heap.size 5 1 out (pl (l.take k)).length (bs (pl (l.take k))) ∧ Below w.heap.size w wr) (fun _ i _ => n - (intOf i).toNat)
  case atStart => exact ⟨0, by omega, rfl, hown0, hb0⟩
  case round =>
    clear hown0 hb0
    obtain ⟨k, hk, rfl, hown, hb⟩ := hrel
    by_cases hlt : k < n
    · obtain ⟨ad, u, rfl, _, hu, hc⟩ := (hr.below hb).at_ hlt
      obtain ⟨z, hz, rfl⟩ := zs_at hu
      have hz64 := HLL.out z (List.mem_of_getElem? hz)
      have hzg := (zg_int hz64).2
      have hvl := vb_length (zg z)
      have hpk := pl_length (l.take k)
      have htk : (l.take k).length ≤ k := List.length_take_le _ _
      have HS := Lib.hid (pl_step hz)
      clear hu hz
      go_wp2_with fail
      refine (zigN_any z wr hz64).mono ?_
      rintro e w' ⟨rfl, rfl⟩
      go_wp2_with fail
      refine (putVar_any none 0 0 (zg z) [] wr hzg Reads.none_ (by simp) (by omega)).mono ?_
      intro e2 w2 hN2
      obtain ⟨A2, c2, rfl, _, hr2, hb2⟩ := hN2.opened
      rw [Nat.zero_add, List.nil_append] at hr2
      clear hN2
      have hown2 := own_below hown hb2
      have hb02 := hb.trans (hb2.mono hb.size)
      simp only [Nat.zero_add]
      go_wp2_with (at_builtin
                   refine wpList_append_any _ rfl (.tmp 19) (.tmp 22) _ rfl w.heap.size 5 i0 _ 1 1 Tryz.underlying66 hi0 hz0 hz1 hz2 rfl (by omega) u4 (pl (l.take k)).length (bs (pl (l.take k))) rfl
                     hown2 w2.heap.size A2 (vb (zg z)).length c2 (bs (vb (zg z))) rfl hr2 (bs_one _) (by unfold maxLen; omega) (by omega) hb02.size ?_
                   intro v3 w3 hown3 hg3 hat3)
      go_round
      case rel =>
        refine ⟨k + 1, by omega, by go_num, ?_, hb02.grown hg3 hb02.size (fun j hj => (hown2.lt j hj).1)⟩
        rw [HS.out, List.length_append, bs_append]
        exact hown3
      case measure => simp [intOf]; omega
    · go_wp2_with fail
      go_ret2
      obtain rfl : k = n := by omega
      rw [List.take_of_length_le (by rw [E1.out]; omega)] at hown
      exact ⟨_, rfl, hown, hb⟩
end Go.Proofs.YtpgdlmnhomnblaaGreatDoor
