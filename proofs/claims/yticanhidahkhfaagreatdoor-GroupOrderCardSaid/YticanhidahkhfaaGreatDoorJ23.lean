import Derived.Test.YticanhidahkhfaaGreatDoorJ2
import Derived.StillTailTactics
import Derived.Test.YticanhidahkhfaaGreatDoorJ16
import Derived.Test.YticanhidahkhfaaGreatDoorJ21
import Derived.Test.YticanhidahkhfaaGreatDoorJ7
namespace Go.Proofs.YticanhidahkhfaaGreatDoor
open Go.RowKit
set_option linter.unusedVariables false
set_option linter.unusedSimpArgs false
set_option maxRecDepth 100000
theorem fix_byte (b : List Nat) (at_ v : Nat) (h : b[at_]? = some v) : fixS b at_ none 1 = (v, at_ + 1, none) := by
  obtain ⟨hl, rfl⟩ := List.getElem?_eq_some_iff.1 h
  unfold fixS
  simp only
  rw [if_neg (by omega), if_neg (by omega)]
  have e : (b.drop at_).take (1 : Int).toNat = [b[at_]] := by
    rw [List.drop_eq_getElem_cons hl]; rfl
  rw [e]
  rfl
theorem fix_small (b : List Nat) (at_ : Nat) (x : Option (Int × Nat)) (hb : ∀ v ∈ b, v < 256) : (fixS b at_ x 1).1 < 256 := by
  cases x with
  | some y => show (0 : Nat) < 256; omega
  | none =>
    cases h : b[at_]? with
    | none =>
      have := List.getElem?_eq_none_iff.1 h
      unfold fixS
      simp only
      rw [if_neg (by omega), if_pos (by omega)]
      show (0 : Nat) < 256
      omega
    | some v => rw [fix_byte b at_ v h]; exact hb v (List.mem_of_getElem? h)
end Go.Proofs.YticanhidahkhfaaGreatDoor
namespace Go.Proofs.YticanhidahkhfaaGreatDoor
open Go.RowKit
set_option linter.unusedVariables false
set_option linter.unusedSimpArgs false
set_option maxRecDepth 100000
theorem dg_lay (w have_ take : Nat) (ht : have_ + take ≤ w) : ∀ (i n X Y : Nat), X < 2 ^ (w * i + have_) → Y < 2 ^ take → i < n →
    ∃ d, (dg w n X)[i]? = some d ∧ d < 2 ^ have_ ∧ dg w n (X + 2 ^ (w * i + have_) * Y) = (dg w n X).set i (d + 2 ^ have_ * Y) := by
  intro i
  induction i with
  | zero =>
    intro n X Y hX hY hi
    obtain ⟨n, rfl⟩ : ∃ m, n = m + 1 := ⟨n - 1, by omega⟩
    simp only [Nat.mul_zero, Nat.zero_add] at hX ⊢
    have h1 : X + 2 ^ have_ * Y < 2 ^ w := by
      have h2 : 2 ^ have_ * Y + 2 ^ have_ ≤ 2 ^ have_ * 2 ^ take := by rw [← Nat.mul_succ]; exact Nat.mul_le_mul_left _ hY
      rw [← Nat.pow_add] at h2
      have h3 : 2 ^ (have_ + take) ≤ 2 ^ w := Nat.pow_le_pow_right (by omega) ht
      omega
    have h0 : X < 2 ^ w := by have := Nat.zero_le (2 ^ have_ * Y); omega
    refine ⟨X, ?_, hX, ?_⟩
    · rw [dg_succ, Nat.mod_eq_of_lt h0]; rfl
    · rw [dg_succ, dg_succ, Nat.mod_eq_of_lt h1, Nat.mod_eq_of_lt h0, Nat.div_eq_of_lt h1, Nat.div_eq_of_lt h0]; rfl
  | succ i ih =>
    intro n X Y hX hY hi
    obtain ⟨n, rfl⟩ : ∃ m, n = m + 1 := ⟨n - 1, by omega⟩
    have e : 2 ^ (w * (i + 1) + have_) = 2 ^ w * 2 ^ (w * i + have_) := by rw [← Nat.pow_add, Nat.mul_succ]; congr 1; omega
    rw [e] at hX ⊢
    obtain ⟨d, h1, h2, h3⟩ := ih n (X / 2 ^ w) Y (Nat.div_lt_of_lt_mul hX) hY (by omega)
    refine ⟨d, ?_, h2, ?_⟩
    · rw [dg_succ]; exact h1
    · rw [dg_succ, dg_succ, Nat.mul_assoc, Nat.add_mul_mod_self_left, Nat.add_mul_div_left _ _ (Nat.two_pow_pos w), h3]; rfl
def unpackedS (b : List Nat) (n w : Nat) : List Nat × Nat := if pk 8 b < 2 ^ (w * n) then (dg w n (pk 8 b), 0) else ([], 4)
def New64E (w : World) (l : List Nat) (x : Nat) (e : Ending) (w' : World) : Prop :=
  ∃ v, e = .returned (.tuple #[v, .int .i64 (x : Int)]) ∧ w'.ownsRow w.heap.size 109 1 v l.length (us l) ∧ Below w.heap.size w w'
theorem un_val (d c take hv : Nat) (hd : d < 2 ^ hv) (hc : c < 256) (ht : take ≤ 8) (hh : hv + take ≤ 64) :
    bits .or .u64 (d : Int) (IntKind.u64.wrap (bits .and .u64 (IntKind.u64.wrap (c : Int)) (IntKind.u64.wrap (IntKind.u64.wrap (2 ^ take) - 1)) * 2 ^ hv)) = ((d + 2 ^ hv * (c % 2 ^ take) : Nat) : Int) := by
  have p1 : (2 : Nat) ^ take ≤ 2 ^ 8 := Nat.pow_le_pow_right (by omega) ht
  have p0 := Nat.two_pow_pos take
  have e1 : IntKind.u64.wrap (2 ^ take : Int) = ((2 ^ take : Nat) : Int) := by
    rw [show (2 ^ take : Int) = ((2 ^ take : Nat) : Int) by push_cast; rfl, IntKind.wrap_u64]; omega
  have e2 : IntKind.u64.wrap (((2 ^ take : Nat) : Int) - 1) = ((2 ^ take - 1 : Nat) : Int) := by
    rw [IntKind.wrap_u64]; omega
  have e3 : IntKind.u64.wrap (c : Int) = (c : Int) := by rw [IntKind.wrap_u64]; omega
  have hm : c % 2 ^ take < 2 ^ take := Nat.mod_lt _ p0
  have p2 : (2 : Nat) ^ (hv + take) ≤ 2 ^ 64 := Nat.pow_le_pow_right (by omega) hh
  have p3 : 2 ^ hv * (c % 2 ^ take) + 2 ^ hv ≤ 2 ^ (hv + take) := by rw [Nat.pow_add, ← Nat.mul_succ]; exact Nat.mul_le_mul_left _ hm
  rw [e1, e2, e3, u64_and_nat _ _ (by omega) (by omega), Nat.and_two_pow_sub_one_eq_mod]
  have e4 : IntKind.u64.wrap (((c % 2 ^ take : Nat) : Int) * 2 ^ hv) = ((2 ^ hv * (c % 2 ^ take) : Nat) : Int) := by
    rw [show ((c % 2 ^ take : Nat) : Int) * 2 ^ hv = ((2 ^ hv * (c % 2 ^ take) : Nat) : Int) by push_cast; rw [Int.mul_comm], IntKind.wrap_u64]; omega
  rw [e4, u64_or_nat _ _ (by omega) (by omega), Nat.or_comm, ← Nat.two_pow_add_eq_or_of_lt hd, Nat.add_comm]
theorem us_set (l : List Nat) (i b : Nat) : (us l).toArray.setIfInBounds i (.int .u64 (b : Int)) = (us (l.set i b)).toArray := by
  simp [us, List.map_set]
theorem un_step {w : World} {g : Nat} {t : TypeId} {W n V i hv c take rest d : Nat} (h : Blk w g t (us (dg W n (V % 2 ^ (W * i + hv)))).toArray) (hc : c = V / 2 ^ (W * i + hv) % 2 ^ rest) (ht : take ≤ rest) (hr : rest ≤ 8) (hd : d < 2 ^ hv) (hh : hv + take ≤ 64)
    (hset : dg W n (V % 2 ^ (W * i + hv) + 2 ^ (W * i + hv) * (V / 2 ^ (W * i + hv) % 2 ^ take)) = (dg W n (V % 2 ^ (W * i + hv))).set i (d + 2 ^ hv * (V / 2 ^ (W * i + hv) % 2 ^ take))) :
    Blk (w.setCell ⟨g, i, none⟩ (.int .u64 (bits .or .u64 (d : Int) (IntKind.u64.wrap (bits .and .u64 (IntKind.u64.wrap (c : Int)) (IntKind.u64.wrap (IntKind.u64.wrap (2 ^ take) - 1)) * 2 ^ hv))))).drew g t (us (dg W n (V % 2 ^ (W * i + (hv + take))))).toArray := by
  have hcl : c < 256 := by rw [hc]; exact Nat.lt_of_lt_of_le (Nat.mod_lt _ (Nat.two_pow_pos rest)) (Nat.pow_le_pow_right (j := 8) (by omega) hr)
  have hcm : c % 2 ^ take = V / 2 ^ (W * i + hv) % 2 ^ take := by rw [hc, Nat.mod_mod_of_dvd _ (Nat.pow_dvd_pow 2 ht)]
  have h1 := h.set_ i (.int .u64 ((d + 2 ^ hv * (c % 2 ^ take) : Nat) : Int))
  rw [us_set, hcm, ← hset, ← Nat.mod_mul, ← Nat.pow_add, Nat.add_assoc] at h1
  rw [un_val d c take hv hd hcl (by omega) hh, hcm]
  exact h1.drew
theorem own_of_blk {w : World} {g base : Nat} {t : TypeId} {cs : List Value} {n m : Nat} (h : Blk w g t cs.toArray) (hb : base ≤ g) (hn : m = n) (hl : cs.length = n) (hm : n ≤ maxLen) (hm2 : m = n) :
    w.ownsRow base t 1 (.slice (some ⟨g, 0, none⟩) n n) m cs := by
  subst hn
  exact ⟨by omega, .inr ⟨g, m, cs.toArray, rfl, hb, h, Nat.le_refl _, hm, by simp [hl], by rw [List.take_of_length_le (by simp; omega)]⟩⟩
set_option maxHeartbeats 2000000 in
theorem unpacked_any (A : Option Addr) (m c : Nat) (b : List Nat) (n wd' : Nat) (w : World) (hr : Reads w w.heap.size 1 A m (bs b)) (hb : ∀ x ∈ b, x < 256) (hw : wd' ≤ 64) (hn : n ≤ 65536) (hm : b.length = sz n wd') :
    Calls Tryz.prog 280 #[.slice A m c, .int .i64 (n : Int), .int .i64 (wd' : Int)] w (New64E w (unpackedS b n wd').1 (unpackedS b n wd').2) := by
  have e1 : b.length = m := by have := hr.1; rw [bs_length] at this; omega
  have hs := sz_small n wd' hn hw
  have hsz : sz n wd' ≤ 524289 := by unfold sz; omega
  have hmk : ∀ W : World, (Instr.makeSlice 257 (.int .i64 (n : Int)) (.int .i64 (n : Int))).run Tryz.prog W = .ok (.slice (some ⟨W.heap.size, 0, none⟩) n n) (W.alloc (.cells (madeCells #[.int .u64 0] n) 109)) := fun W => run_make_u64 n n (Nat.le_refl _) (by omega) W
  have hcells : (madeCells #[.int .u64 0] n : Array Value) = (us (dg wd' n 0)).toArray := by
    apply Array.ext'
    rw [toList_madeCells_one]
    simp [us, dg_of_zero]
  obtain ⟨V, hV⟩ : ∃ V, V = pk 8 b := ⟨_, rfl⟩
  have hms : m = sz n wd' := by omega
  have E1 := Lib.hid e1; clear e1 hm
  have HB := Lib.hid hb; clear hb
  have HV := Lib.hid hV; clear hV
  have HC := Lib.hid hcells; clear hcells
  have HMS := Lib.hid hms; clear hms
  have hm2 : m ≤ 524289 := by have := HMS.out; omega
  go_enter Tryz.func280, Tryz.ntmps280
  go_wp2_with fail
  go_step3
  go_wp2_with fail
  go_step3
  go_wp2_with fail
  clear hmk
  go_loopg [9, 10, 19] m (fun g s9 s10 s19 wr => ∃ k i hv B : Nat, k + g = m ∧ s19 = .int .i64 (k : Int) ∧ s9 = .int .i64 (i : Int) ∧ s10 = .int .i64 (hv : Int) ∧ Hid (B = wd' * i + hv) ∧ Hid (i < n ∧ hv < wd' ∧ B = 8 * k ∨ B = n * wd' ∧ hv = 0 ∧ n * wd' ≤ 8 * k) ∧
    Hid (V % 2 ^ (8 * k) = V % 2 ^ B) ∧ Blk wr w.heap.size 109 (us (dg wd' n (V % 2 ^ B))).toArray ∧ Below w.heap.size w wr)
  case atStart =>
    refine ⟨0, 0, 0, 0, by omega, rfl, rfl, rfl, Lib.hid (by omega), Lib.hid ?_, Lib.hid rfl, ?_, (Below.refl _ _).alloc (Nat.le_refl _) _⟩
    · rcases Nat.eq_zero_or_pos (n * wd') with h0 | h0
      · exact .inr ⟨h0.symm, rfl, by omega⟩
      · exact .inl ⟨Nat.pos_of_mul_pos_right h0, Nat.pos_of_mul_pos_left h0, rfl⟩
    · rw [HC.out, Nat.pow_zero, Nat.mod_one]
      exact Blk.new w _ _
  case round =>
    obtain ⟨k, i, hv, B, hkg, rfl, rfl, rfl, hB, hway, hlow, hblk, hbl⟩ := hrel
    cases gk with
    | zero =>
      obtain rfl : k = m := by omega
      go_wp2_with fail
      rw [Exit.noGoto_ret]
      go_ret2
      have hV := HV.out
      have hms := HMS.out
      have hBn : B = n * wd' := by
        rcases hway.out with ⟨h1, h2, h3⟩ | ⟨h1, _, _⟩
        · have h4 := hB.out
          have h5 : wd' * i + wd' ≤ wd' * n := by rw [← Nat.mul_succ]; exact Nat.mul_le_mul_left _ h1
          have h6 := sz_le n wd'
          omega
        · exact h1
      have hVl : V < 2 ^ (8 * k) := by rw [hV, ← E1.out]; exact pk_lt 8 b HB.out
      have hl := hlow.out
      rw [Nat.mod_eq_of_lt hVl] at hl
      have hlt : V < 2 ^ (wd' * n) := by rw [hl, hBn, Nat.mul_comm]; exact Nat.mod_lt _ (Nat.two_pow_pos _)
      unfold unpackedS
      rw [← hV, if_pos hlt]
      rw [← hl] at hblk
      exact ⟨_, rfl, own_of_blk hblk (Nat.le_refl _) (by rw [dg_length]) (by simp [us_length, dg_length]) (by unfold maxLen; omega) (by rw [dg_length]), hbl⟩
    | succ g =>
      have hlt : k < m := by omega
      have hrk := hr.below hbl
      obtain ⟨ad, u, rfl, _, hu, hc⟩ := hrk.at_ hlt
      obtain ⟨c0, hb, rfl⟩ := bs_at hu
      have HB0 := Lib.hid hb
      clear hb hu
      have hc256 : c0 < 256 := HB.out c0 (List.mem_of_getElem? HB0.out)
      go_wp2_with fail
      go_loopg [9, 10, 12, 13, 14] (n - i) (fun g2 s9 s10 s12 s13 s14 wy => ∃ i hv c rest : Nat, Hid (n = i + g2) ∧ s9 = .int .i64 (i : Int) ∧ s10 = .int .i64 (hv : Int) ∧ s12 = .int .u8 (c : Int) ∧ s13 = .int .i64 (rest : Int) ∧ rest ≤ 8 ∧ Hid (8 * k + 8 = wd' * i + hv + rest) ∧
        Hid (c = V / 2 ^ (wd' * i + hv) % 2 ^ rest) ∧ Hid (i < n ∧ hv < wd' ∨ i = n ∧ hv = 0) ∧ Blk wy w.heap.size 109 (us (dg wd' n (V % 2 ^ (wd' * i + hv)))).toArray ∧ Below w.heap.size w wy)
      case atStart =>
        have hk1 : i < n ∧ hv < wd' ∧ B = 8 * k := by
          rcases hway.out with h1 | ⟨_, _, h3⟩
          · exact h1
          · have := HMS.out; unfold sz at this; omega
        obtain ⟨h1, h2, h3⟩ := hk1
        have hBo := hB.out
        have hk3 : wd' * i + hv = 8 * k := by omega
        refine ⟨i, hv, c0, 8, Lib.hid (by omega), rfl, rfl, rfl, rfl, Nat.le_refl _, Lib.hid (by omega), Lib.hid ?_, Lib.hid (.inl ⟨h1, h2⟩), by rw [hk3, ← h3]; exact hblk, hbl⟩
        have hd := digit_at 8 b HB.out k c0 k 0 HB0.out (by omega)
        rw [Nat.pow_zero, Nat.div_one, ← HV.out] at hd
        rw [hk3]
        exact hd
      case round =>
        clear hblk hbl hrk hc hway hlow hB
        clear B hv i
        obtain ⟨i, hv, c1, rest, hni, rfl, rfl, rfl, rfl, hrest, hpos, hc1, hway, hblk, hbl⟩ := hrel
        cases gk with
        | zero =>
          have hin : ¬ i < n := by have := hni.out; omega
          have hi : i = n ∧ hv = 0 := by rcases hway.out with h1 | h1 <;> omega
          obtain ⟨h1, rfl⟩ := hi
          subst h1
          by_cases hc0 : c1 = 0
          · subst hc0
            go_wp2_with fail
            go_roundg g
            case measure => omega
            case rel =>
              refine ⟨k + 1, i, 0, wd' * i + 0, by omega, by go_num, rfl, rfl, Lib.hid rfl, Lib.hid (.inr ⟨by rw [Nat.mul_comm]; omega, rfl, by have := hpos.out; rw [Nat.mul_comm]; omega⟩), Lib.hid ?_, hblk, hbl⟩
              rw [show 8 * (k + 1) = wd' * i + 0 + rest by have := hpos.out; omega, Nat.pow_add, Nat.mod_mul, ← hc1.out, Nat.mul_zero, Nat.add_zero]
          · have hc0' : ((c1 : Int) != 0) = true := by simp; omega
            have hc0'' : ((c1 : Int) == 0) = false := by simp; omega
            go_wp2_with fail
            try rw [Exit.noGoto_ret]
            go_ret2
            have hlt : ¬ pk 8 b < 2 ^ (wd' * i) := by
              intro h
              rw [← HV.out] at h
              have := hc1.out
              rw [Nat.add_zero, Nat.div_eq_of_lt h, Nat.zero_mod] at this
              exact hc0 this
            unfold unpackedS
            rw [if_neg hlt]
            exact ⟨_, rfl, own_nil _ _ _ _, hbl⟩
        | succ g2 =>
          have hin : i < n := by have := hni.out; omega
          have hhv : hv < wd' := by rcases hway.out with h1 | h1 <;> omega
          have hcell0 : ∃ d, (dg wd' n (V % 2 ^ (wd' * i + hv)))[i]? = some d := ⟨_, List.getElem?_eq_getElem (by rw [dg_length]; exact hin)⟩
          obtain ⟨d, hd⟩ := hcell0
          have hcell : wr.cell? ⟨w.heap.size, i, none⟩ = some (.int .u64 (d : Int)) := by rw [hblk.cell]; simp [us, hd]
          have hfz := hblk.frozen i
          have HD := Lib.hid hd; clear hd
          by_cases hshort : rest < wd' - hv
          · have hmin : min (rest : Int) ((wd' : Int) - (hv : Int)) = (rest : Int) := by omega
            go_wp2_with fail
            go_still_tail 14, (by kernel_rfl)
            go_wp2_with fail
            go_roundg g
            case measure => omega
            case rel =>
              obtain ⟨d', hd1, hd2, hset⟩ := dg_lay wd' hv rest (by omega) i n (V % 2 ^ (wd' * i + hv)) (V / 2 ^ (wd' * i + hv) % 2 ^ rest) (Nat.mod_lt _ (Nat.two_pow_pos _)) (Nat.mod_lt _ (Nat.two_pow_pos _)) hin
              obtain rfl : d' = d := by have := HD.out; rw [hd1] at this; exact Option.some.inj this
              refine ⟨k + 1, i, hv + rest, wd' * i + (hv + rest), by omega, by go_num, rfl, by go_num, Lib.hid rfl, Lib.hid (.inl ⟨hin, by omega, by have := hpos.out; omega⟩), Lib.hid ?_, un_step hblk hc1.out (Nat.le_refl _) hrest hd2 (by omega) hset, (hbl.setCell (Nat.le_refl _) _).drew⟩
              rw [show 8 * (k + 1) = wd' * i + (hv + rest) by have := hpos.out; omega]
          · have hmin : min (rest : Int) ((wd' : Int) - (hv : Int)) = (wd' : Int) - (hv : Int) := by omega
            go_wp2_with fail
            go_still_tail 14, (by kernel_rfl)
            go_wp2_with fail
            go_roundg g2
            case measure => omega
            case rel =>
              obtain ⟨d', hd1, hd2, hset⟩ := dg_lay wd' hv (wd' - hv) (by omega) i n (V % 2 ^ (wd' * i + hv)) (V / 2 ^ (wd' * i + hv) % 2 ^ (wd' - hv)) (Nat.mod_lt _ (Nat.two_pow_pos _)) (Nat.mod_lt _ (Nat.two_pow_pos _)) hin
              obtain rfl : d' = d := by have := HD.out; rw [hd1] at this; exact Option.some.inj this
              refine ⟨i + 1, 0, c1 / 2 ^ (wd' - hv), rest - (wd' - hv), Lib.hid (by have := hni.out; omega), by go_num, rfl, ?_, ?_, by omega, Lib.hid ?_, Lib.hid ?_, Lib.hid ?_, ?_, ?_⟩
              · exact congrArg (Value.int .u8) (by simp)
              · exact congrArg (Value.int .i64) (by omega)
              · have := hpos.out; rw [Nat.mul_succ]; omega
              · have e := hc1.out
                obtain ⟨r, hr'⟩ : ∃ r, rest = (wd' - hv) + r := ⟨rest - (wd' - hv), by omega⟩
                rw [hr', Nat.pow_add 2 (wd' - hv) r] at e
                rw [e, Nat.mod_mul_right_div_self, Nat.div_div_eq_div_mul, ← Nat.pow_add, show wd' * i + hv + (wd' - hv) = wd' * (i + 1) + 0 by rw [Nat.mul_succ]; omega, show rest - (wd' - hv) = r by omega]
              · rcases Nat.lt_or_ge (i + 1) n with h1 | h1
                · exact .inl ⟨h1, by omega⟩
                · exact .inr ⟨by omega, rfl⟩
              · rw [show wd' * (i + 1) + 0 = wd' * i + (hv + (wd' - hv)) by rw [Nat.mul_succ]; omega]
                exact un_step hblk hc1.out (by omega) hrest hd2 (by omega) hset
              · exact (hbl.setCell (Nat.le_refl _) _).drew
end Go.Proofs.YticanhidahkhfaaGreatDoor
namespace Go.Proofs.YticanhidahkhfaaGreatDoor
open Go.RowKit
set_option linter.unusedVariables false
set_option linter.unusedSimpArgs false
set_option maxRecDepth 100000
def unpackE (b : List Nat) (n w : Int) : Nat :=
  if szI n w < 0 then 1 else if (b.length : Int) < szI n w then 2 else if szI n w < (b.length : Int) then 3 else if pk 8 b < 2 ^ (w.toNat * n.toNat) then 0 else 4
def unpackS (b : List Nat) (n w : Int) : List Nat := if unpackE b n w = 0 then dg w.toNat n.toNat (pk 8 b) else []
theorem unpackE_0 {b : List Nat} {n w : Int} (h : unpackE b n w = 0) : 0 ≤ n ∧ n ≤ 65536 ∧ 0 ≤ w ∧ w ≤ 64 ∧ b.length = sz n.toNat w.toNat ∧ pk 8 b < 2 ^ (w.toNat * n.toNat) := by
  unfold unpackE szI at h
  by_cases h1 : 0 ≤ n ∧ n ≤ 65536 ∧ 0 ≤ w ∧ w ≤ 64
  · simp only [if_pos h1] at h
    rw [if_neg (by omega)] at h
    by_cases h2 : (b.length : Int) < (sz n.toNat w.toNat : Int)
    · rw [if_pos h2] at h; omega
    · rw [if_neg h2] at h
      by_cases h3 : (sz n.toNat w.toNat : Int) < (b.length : Int)
      · rw [if_pos h3] at h; omega
      · rw [if_neg h3] at h
        by_cases h4 : pk 8 b < 2 ^ (w.toNat * n.toNat)
        · exact ⟨by omega, by omega, by omega, by omega, by omega, h4⟩
        · rw [if_neg h4] at h; omega
  · simp only [if_neg h1] at h
    rw [if_pos (by omega)] at h; omega
set_option maxHeartbeats 1000000 in
theorem unpack_any (A : Option Addr) (m c : Nat) (b : List Nat) (n wi : Int) (w : World) (hr : Reads w w.heap.size 1 A m (bs b)) (hb : ∀ x ∈ b, x < 256) (hm : m ≤ 140737488355328)
    (hn : -9223372036854775808 ≤ n ∧ n ≤ 9223372036854775807) (hw : -9223372036854775808 ≤ wi ∧ wi ≤ 9223372036854775807) :
    Calls Tryz.prog 265 #[.slice A m c, .int .i64 n, .int .i64 wi] w (New64E w (unpackS b n wi) (unpackE b n wi)) := by
  have e1 : b.length = m := by have := hr.1; rw [bs_length] at this; omega
  obtain ⟨z, hz⟩ : ∃ z, z = szI n wi := ⟨_, rfl⟩
  have hzr : -1 ≤ z ∧ z ≤ 524289 := by
    rw [hz]; unfold szI
    by_cases h1 : 0 ≤ n ∧ n ≤ 65536 ∧ 0 ≤ wi ∧ wi ≤ 64
    · rw [if_pos h1]
      have := sz_small n.toNat wi.toNat (by omega) (by omega)
      unfold sz; omega
    · rw [if_neg h1]; omega
  have HZ := Lib.hid hz
  have HE : Hid (unpackE b n wi = if z < 0 then 1 else if (b.length : Int) < z then 2 else if z < (b.length : Int) then 3 else if pk 8 b < 2 ^ (wi.toNat * n.toNat) then 0 else 4) := by rw [hz]; exact Lib.hid rfl
  have HS : Hid (unpackS b n wi = if unpackE b n wi = 0 then dg wi.toNat n.toNat (pk 8 b) else []) := Lib.hid rfl
  clear hz
  have E1 := Lib.hid e1
  by_cases h1 : z < 0
  · clear e1
    go_enter Tryz.func265, Tryz.ntmps265
    go_wp2_with (go_at_call 263; refine (size_any n wi _ hn hw).mono ?_; rintro e w' ⟨rfl, rfl⟩; rw [← HZ.out])
    go_ret2
    have hE : unpackE b n wi = 1 := by rw [HE.out, if_pos h1]
    rw [HS.out, hE, if_neg (by omega)]
    exact ⟨.slice none 0 0, rfl, own_nil _ _ _ _, Below.refl _ _⟩
  · by_cases h2 : (m : Int) < z
    · clear e1
      go_enter Tryz.func265, Tryz.ntmps265
      go_wp2_with (go_at_call 263; refine (size_any n wi _ hn hw).mono ?_; rintro e w' ⟨rfl, rfl⟩; rw [← HZ.out])
      go_ret2
      have hE : unpackE b n wi = 2 := by rw [HE.out, E1.out, if_neg (show ¬ z < 0 by omega), if_pos h2]
      rw [HS.out, hE, if_neg (by omega)]
      exact ⟨.slice none 0 0, rfl, own_nil _ _ _ _, Below.refl _ _⟩
    · by_cases h3 : z < (m : Int)
      · clear e1
        go_enter Tryz.func265, Tryz.ntmps265
        go_wp2_with (go_at_call 263; refine (size_any n wi _ hn hw).mono ?_; rintro e w' ⟨rfl, rfl⟩; rw [← HZ.out])
        go_ret2
        have hE : unpackE b n wi = 3 := by rw [HE.out, E1.out, if_neg (show ¬ z < 0 by omega), if_neg (show ¬ (m : Int) < z by omega), if_pos h3]
        rw [HS.out, hE, if_neg (by omega)]
        exact ⟨.slice none 0 0, rfl, own_nil _ _ _ _, Below.refl _ _⟩
      · have h4 : 0 ≤ n ∧ n ≤ 65536 ∧ 0 ≤ wi ∧ wi ≤ 64 := by
          have hz := HZ.out
          unfold szI at hz
          by_cases h : 0 ≤ n ∧ n ≤ 65536 ∧ 0 ≤ wi ∧ wi ≤ 64
          · exact h
          · rw [if_neg h] at hz; omega
        have hz : z = (sz n.toNat wi.toNat : Int) := by rw [HZ.out]; unfold szI; rw [if_pos h4]
        obtain ⟨h5, h6, h7, h8⟩ := h4
        obtain ⟨n, rfl⟩ := Int.eq_ofNat_of_zero_le h5
        obtain ⟨wN, rfl⟩ := Int.eq_ofNat_of_zero_le h7
        simp only [Int.toNat_natCast] at hz
        have hb2 : b.length = sz n wN := by omega
        have HL := Lib.hid (And.intro hz hb2); clear hz hb2 e1
        go_enter Tryz.func265, Tryz.ntmps265
        go_wp2_with (first
          | (go_at_call 263; refine (size_any (n : Int) (wN : Int) _ hn hw).mono ?_; rintro e w' ⟨rfl, rfl⟩; rw [← HZ.out])
          | (go_at_call 280; refine (unpacked_any A m c b n wN _ hr hb (by omega) (by omega) HL.out.2).mono ?_; rintro e w' ⟨v, rfl, hown, hbl⟩))
        go_ret2
        have hE : unpackE b (n : Int) (wN : Int) = (unpackedS b n wN).2 := by
          rw [HE.out, E1.out, if_neg (show ¬ z < 0 by omega), if_neg (show ¬ (m : Int) < z by omega), if_neg (show ¬ z < (m : Int) by omega)]
          unfold unpackedS
          simp only [Int.toNat_natCast]
          split <;> rfl
        have hS : unpackS b (n : Int) (wN : Int) = (unpackedS b n wN).1 := by
          rw [HS.out, hE]
          unfold unpackedS
          simp only [Int.toNat_natCast]
          split <;> rfl
        rw [hE, hS]
        exact ⟨v, rfl, hown, hbl⟩
end Go.Proofs.YticanhidahkhfaaGreatDoor
namespace Go.Proofs.YticanhidahkhfaaGreatDoor
open Go.RowKit
set_option linter.unusedVariables false
set_option linter.unusedSimpArgs false
set_option maxRecDepth 100000
theorem unpackE_pack (l : List Nat) (k : Nat) (hl : l.length ≤ 65536) (hk : k ≤ 64) (hd : wd l ≤ k) : unpackE (packB k l) (l.length : Int) (k : Int) = 0 ∧ unpackS (packB k l) (l.length : Int) (k : Int) = l := by
  have hlt := (wd_le l k).1 hd
  have hz : szI (l.length : Int) (k : Int) = (sz l.length k : Int) := by unfold szI; rw [if_pos (by omega)]; simp
  have hE : unpackE (packB k l) (l.length : Int) (k : Int) = 0 := by
    unfold unpackE
    rw [hz, packB_length, if_neg (by omega), if_neg (by omega), if_neg (by omega), pk_packB k l hlt]
    simp only [Int.toNat_natCast]
    rw [if_pos (pk_lt k l hlt)]
  refine ⟨hE, ?_⟩
  unfold unpackS
  rw [if_pos hE]
  simp only [Int.toNat_natCast]
  exact unpack_pack k l hlt
theorem pack_again (b : List Nat) (n w : Int) (hb : ∀ x ∈ b, x < 256) (h : unpackE b n w = 0) : packE (unpackS b n w) w = 0 ∧ packS (unpackS b n w) w = b ∧ (unpackS b n w).length = n.toNat ∧ (∀ a ∈ unpackS b n w, a < 18446744073709551616) ∧ 0 ≤ n ∧ n ≤ 65536 ∧ 0 ≤ w ∧ w ≤ 64 := by
  obtain ⟨h1, h2, h3, h4, h5, h6⟩ := unpackE_0 h
  have hS : unpackS b n w = dg w.toNat n.toNat (pk 8 b) := by unfold unpackS; rw [if_pos h]
  have hlt : ∀ a ∈ dg w.toNat n.toNat (pk 8 b), a < 2 ^ w.toNat := dg_lt _ _ _
  have hwd : wd (dg w.toNat n.toNat (pk 8 b)) ≤ w.toNat := (wd_le _ _).2 hlt
  obtain ⟨h7, h8⟩ := packE_ok (dg w.toNat n.toNat (pk 8 b)) w.toNat (by rw [dg_length]; omega) (by omega) hwd
  rw [Int.toNat_of_nonneg h3] at h7 h8
  rw [hS]
  refine ⟨h7, ?_, dg_length _ _ _, fun a ha => ?_, h1, h2, h3, h4⟩
  · rw [h8, pack_unpack w.toNat n.toNat b hb h5 h6]
  · exact Nat.lt_of_lt_of_le (hlt a ha) (Nat.pow_le_pow_right (j := 64) (by omega) (by omega))
end Go.Proofs.YticanhidahkhfaaGreatDoor
namespace Go.Proofs.YticanhidahkhfaaGreatDoor
open Go.RowKit
set_option linter.unusedVariables false
set_option linter.unusedSimpArgs false
set_option maxRecDepth 100000
theorem unpackS_lt (t : List Nat) (n w : Int) : (∀ a ∈ unpackS t n w, a < 18446744073709551616) ∧ (unpackS t n w).length ≤ 65536 := by
  unfold unpackS
  by_cases h : unpackE t n w = 0
  · obtain ⟨h1, h2, h3, h4, _, _⟩ := unpackE_0 h
    rw [if_pos h]
    refine ⟨fun a ha => Nat.lt_of_lt_of_le (dg_lt _ _ _ a ha) (Nat.pow_le_pow_right (j := 64) (by omega) (by omega)), ?_⟩
    rw [dg_length]; omega
  · rw [if_neg h]; simp
def rbS (b : List Nat) (at_ : Nat) (x : Option (Int × Nat)) (n : Int) : List Nat × Nat × Option (Int × Nat) :=
  let f := fixS b at_ x 1
  let x2 := if 64 < f.1 then failS f.2.1 f.2.2 5 else f.2.2
  let t := takeS b f.2.1 x2 ((b.length : Int) - f.2.1)
  let x4 := failS t.2.1 t.2.2 (unpackE t.1 n f.1)
  (unpackS t.1 n f.1, t.2.1, if wd (unpackS t.1 n f.1) = f.1 then x4 else failS t.2.1 x4 4)
theorem rb_lt (b : List Nat) (at_ : Nat) (x : Option (Int × Nat)) (n : Int) : (∀ a ∈ (rbS b at_ x n).1, a < 18446744073709551616) ∧ (rbS b at_ x n).1.length ≤ 65536 := unpackS_lt _ _ _
theorem rb_some (b : List Nat) (at_ : Nat) (y : Int × Nat) (n : Int) : (rbS b at_ (some y) n).2 = (at_, some y) := by
  unfold rbS fixS takeS failS
  simp
theorem rb_short (b : List Nat) (at_ : Nat) (n : Int) (h : at_ = b.length) : (rbS b at_ none n).2 = (at_, some (2, at_)) := by
  subst h
  unfold rbS fixS takeS failS
  simp
theorem rb_byte (b : List Nat) (at_ v : Nat) (n : Int) (h : b[at_]? = some v) :
    rbS b at_ none n =
      let x2 := if 64 < v then some ((5 : Int), at_ + 1) else none
      let t := takeS b (at_ + 1) x2 ((b.length : Int) - (at_ + 1 : Nat))
      let x4 := failS t.2.1 t.2.2 (unpackE t.1 n v)
      (unpackS t.1 n v, t.2.1, if wd (unpackS t.1 n v) = v then x4 else failS t.2.1 x4 4) := by
  unfold rbS
  rw [fix_byte b at_ v h]
  rfl
theorem rb_wide (b : List Nat) (at_ v : Nat) (n : Int) (h : b[at_]? = some v) (hv : 64 < v) : (rbS b at_ none n).2 = (at_ + 1, some (5, at_ + 1)) := by
  rw [rb_byte b at_ v n h, if_pos hv]
  unfold takeS failS
  simp
theorem take_rest (b : List Nat) (at_ : Nat) (h : at_ ≤ b.length) : takeS b at_ none ((b.length : Int) - (at_ : Nat)) = (b.drop at_, b.length, none) := by
  unfold takeS
  simp only
  rw [if_neg (by omega), if_neg (by omega), List.take_of_length_le (by rw [List.length_drop]; omega)]
  congr 2
  omega
theorem rb_rest (b : List Nat) (at_ v : Nat) (n : Int) (h : b[at_]? = some v) (hv : ¬ 64 < v) :
    rbS b at_ none n = (unpackS (b.drop (at_ + 1)) n v, b.length, if wd (unpackS (b.drop (at_ + 1)) n v) = v then failS b.length none (unpackE (b.drop (at_ + 1)) n v) else failS b.length (failS b.length none (unpackE (b.drop (at_ + 1)) n v)) 4) := by
  have hl := (List.getElem?_eq_some_iff.1 h).1
  rw [rb_byte b at_ v n h, if_neg hv]
  simp only
  rw [take_rest b (at_ + 1) (by omega)]
def rbE (b : List Nat) (at_ : Nat) (n : Int) : Int :=
  match b[at_]? with
  | none => 2
  | some v => if 64 < v then 5 else if unpackE (b.drop (at_ + 1)) n v = 0 then (if wd (unpackS (b.drop (at_ + 1)) n v) = v then 0 else 4) else (unpackE (b.drop (at_ + 1)) n v : Int)
theorem rb_end (b : List Nat) (at_ : Nat) (n : Int) (hat : at_ ≤ b.length) : (endS b (rbS b at_ none n).2.1 (rbS b at_ none n).2.2).1 = rbE b at_ n := by
  unfold rbE
  cases h : b[at_]? with
  | none =>
    have hl : at_ = b.length := by have := List.getElem?_eq_none_iff.1 h; omega
    rw [rb_short b at_ n hl, endS_some _ _ _ (by simp)]
  | some v =>
    simp only
    by_cases hv : 64 < v
    · rw [rb_wide b at_ v n h hv, endS_some _ _ _ (by simp), if_pos hv]
    · rw [rb_rest b at_ v n h hv, if_neg hv]
      simp only
      by_cases hE : unpackE (b.drop (at_ + 1)) n v = 0
      · rw [hE, if_pos rfl]
        by_cases hw : wd (unpackS (b.drop (at_ + 1)) n v) = v
        · rw [if_pos hw, if_pos hw]
          simp only [failS]
          rw [if_pos (by simp), endS_none, if_neg (by omega)]
        · rw [if_neg hw, if_neg hw]
          simp only [failS]
          rw [if_pos (by simp)]
          simp only
          rw [if_neg (by omega), endS_some _ _ _ (by simp)]
      · have hE' : ((unpackE (b.drop (at_ + 1)) n v : Nat) : Int) ≠ 0 := by omega
        rw [if_neg hE]
        have hf : failS b.length none (unpackE (b.drop (at_ + 1)) n v : Int) = some ((unpackE (b.drop (at_ + 1)) n v : Int), b.length) := by
          simp only [failS]; rw [if_neg hE']
        rw [hf]
        have hf2 : failS b.length (some ((unpackE (b.drop (at_ + 1)) n v : Int), b.length)) 4 = some ((unpackE (b.drop (at_ + 1)) n v : Int), b.length) := rfl
        rw [hf2]
        split <;> exact endS_some _ _ _ hE'
theorem rb_take (b : List Nat) (at_ : Nat) (n : Int) (h : rbE b at_ n = 0) : ∃ v, b[at_]? = some v ∧ v ≤ 64 ∧ unpackE (b.drop (at_ + 1)) n v = 0 ∧ wd (unpackS (b.drop (at_ + 1)) n v) = v ∧ (rbS b at_ none n).1 = unpackS (b.drop (at_ + 1)) n v := by
  unfold rbE at h
  cases hb : b[at_]? with
  | none => rw [hb] at h; simp at h
  | some v =>
    rw [hb] at h
    simp only at h
    by_cases hv : 64 < v
    · rw [if_pos hv] at h; omega
    · rw [if_neg hv] at h
      by_cases hE : unpackE (b.drop (at_ + 1)) n v = 0
      · rw [if_pos hE] at h
        by_cases hw : wd (unpackS (b.drop (at_ + 1)) n v) = v
        · exact ⟨v, rfl, by omega, hE, hw, by rw [rb_rest b at_ v n hb hv]⟩
        · rw [if_neg hw] at h; omega
      · rw [if_neg hE] at h; omega
def dst (b : List Nat) (k : Nat) : Nat × Option (Int × Nat) :=
  if k = 0 then (0, none) else if k = 1 then vst b 1 else (rbS b (vst b 1).1 (vst b 1).2 ((k : Int) - 1)).2
def dL (b : List Nat) (k : Nat) : List Int :=
  if k = 0 then [] else zagI (vv b 0 : Int) :: (if k = 1 then [] else (rbS b (vst b 1).1 (vst b 1).2 ((k : Int) - 1)).1.map fun v : Nat => zagI (v : Int))
def dE (b : List Nat) (k : Int) : Int := if k < 0 ∨ 65536 < k then 1 else (endS b (dst b k.toNat).1 (dst b k.toNat).2).1
def dG (b : List Nat) (k : Int) : List Int := if dE b k = 0 then sms 0 (dL b k.toNat) else []
theorem dE_bad {b : List Nat} {k : Int} (h : k < 0 ∨ 65536 < k) : dE b k = 1 ∧ dG b k = [] := by
  have hE : dE b k = 1 := by unfold dE; rw [if_pos h]
  exact ⟨hE, by unfold dG; rw [if_neg (by omega)]⟩
theorem dE_zero (b : List Nat) : dE b 0 = if 0 < b.length then 3 else 0 := by
  unfold dE dst
  rw [if_neg (by omega), show (0 : Int).toNat = 0 from rfl, if_pos rfl, endS_none]
theorem dE_err (b : List Nat) (k : Nat) (y : Int × Nat) (hk : 1 ≤ k ∧ k ≤ 65536) (h : (vst b 1).2 = some y) : dE b (k : Int) = y.1 := by
  have hy := vst_ok b 1 y h
  unfold dE dst
  rw [if_neg (by omega), Int.toNat_natCast, if_neg (by omega)]
  by_cases h1 : k = 1
  · rw [if_pos h1, h, endS_some _ _ _ hy]
  · rw [if_neg h1, h, rb_some, endS_some _ _ _ hy]
theorem dE_one (b : List Nat) (h : (vst b 1).2 = none) : dE b 1 = if (vst b 1).1 < b.length then 3 else 0 := by
  unfold dE dst
  rw [if_neg (by omega), show (1 : Int).toNat = 1 from rfl, if_neg (by omega), if_pos rfl, h, endS_none]
theorem vst_place (b : List Nat) (hb : ∀ x ∈ b, x < 256) (h : (vst b 1).2 = none) : (vst b 1).1 ≤ b.length := (put_prefix b hb 1 h).1
theorem dE_more (b : List Nat) (hb : ∀ x ∈ b, x < 256) (k : Nat) (hk : 2 ≤ k ∧ k ≤ 65536) (h : (vst b 1).2 = none) : dE b (k : Int) = rbE b (vst b 1).1 ((k : Int) - 1) := by
  unfold dE dst
  rw [if_neg (by omega), Int.toNat_natCast, if_neg (by omega), if_neg (by omega), h, rb_end _ _ _ (vst_place b hb h)]
theorem dL_in {b : List Nat} (hb : ∀ x ∈ b, x < 256) (k : Nat) : ∀ z ∈ dL b k, In64 z := by
  intro z hz
  unfold dL at hz
  split at hz
  · simp at hz
  · rcases List.mem_cons.1 hz with rfl | hz
    · exact zagI_in (vv_lt hb 0)
    · split at hz
      · simp at hz
      · obtain ⟨v, hv, rfl⟩ := List.mem_map.1 hz
        exact zagI_in ((rb_lt _ _ _ _).1 v hv)
theorem dL_length (b : List Nat) (k : Nat) : (dL b k).length ≤ 65537 := by
  unfold dL
  split
  · simp
  · rw [List.length_cons]
    split
    · simp
    · rw [List.length_map]; have := (rb_lt b (vst b 1).1 (vst b 1).2 ((k : Int) - 1)).2; omega
theorem dG_length (b : List Nat) (k : Int) : (dG b k).length ≤ 65537 := by
  unfold dG
  split
  · rw [sms_length]; exact dL_length _ _
  · simp
end Go.Proofs.YticanhidahkhfaaGreatDoor
