import Derived.Lib.Tables
import Derived.Test.YtpgdlmnhomnblaaGreatDoorJ8
import Derived.Laws.CopyOwn
import Derived.Test.YtpgdlmnhomnblaaGreatDoorJ1
import Derived.Test.YtpgdlmnhomnblaaGreatDoorJ6
import Derived.Test.YtpgdlmnhomnblaaGreatDoorJ4
namespace Go.Proofs.YtpgdlmnhomnblaaGreatDoor
open Go.RowKit
set_option linter.unusedVariables false
set_option linter.unusedSimpArgs false
set_option maxRecDepth 100000
theorem size_pop8tab : Lib.pop8tab.size = 256 := by decide +kernel
theorem pop8tab_fin : ∀ x : Fin 256, (Lib.pop8tab[x.val]'(by rw [size_pop8tab]; exact x.isLt)).toNat = pc x.val := by decide +kernel
theorem pop8tab_at (x : Nat) (hx : x < Lib.pop8tab.size) : wrap64 ((Lib.pop8tab[x]'hx).toNat : Int) = (pc x : Int) := by
  have h := pop8tab_fin ⟨x, by rwa [size_pop8tab] at hx⟩
  simp only at h
  rw [h]
  have := pc_le x
  unfold wrap64
  omega
theorem ones_any (x : Nat) (w : World) (h : x < 256) : Calls Tryz.prog 104 #[.int .u8 (x : Int)] w fun e w' => e = .returned (.int .i64 (pc x : Int)) ∧ w = w' := by
  have hs := size_pop8tab
  go_enter Tryz.func104, Tryz.ntmps104
  go_wp2_with fail
  go_ret
  exact ⟨ret_of (congrArg (Value.int IntKind.i64) (pop8tab_at x _)), rfl⟩
def rk (l : List Nat) (i : Int) : Nat := cnt (bit l) i.toNat
section
variable {w : World} {B g h n : Nat} {l : List Nat}
set_option maxHeartbeats 1000000 in
theorem Rank_any (s : SetIn w B g h n l) (i : Int) : Calls Tryz.prog 62 #[.pointer (some ⟨g, 0, none⟩), .int .i64 i] w fun e w' => e = .returned (.int .i64 (rk l i : Int)) ∧ w = w' := by
  obtain ⟨c0, c1⟩ := s.cells
  have hl := s.size.2
  have hn := s.le
  by_cases h0 : i ≤ 0
  · have hr : rk l i = 0 := by unfold rk; rw [show i.toNat = 0 by omega]; rfl
    have HR := Lib.hid hr
    clear hr
    go_enter Tryz.func62, Tryz.ntmps62
    go_wp2_with fail
    go_ret
    exact ⟨ret_of (congrArg (Value.int IntKind.i64) (by rw [HR.out]; rfl)), rfl⟩
  · obtain ⟨k, rfl⟩ : ∃ k : Nat, i = (k : Int) := ⟨i.toNat, by omega⟩
    have hd : decide ((k : Int) ≤ 0) = false := by simpa using h0
    obtain ⟨m, hm⟩ : ∃ m : Nat, m = min k n := ⟨_, rfl⟩
    obtain ⟨kq, hkq⟩ : ∃ kq : Nat, kq = m / 8 := ⟨_, rfl⟩
    obtain ⟨k8, hk8⟩ : ∃ k8 : Nat, k8 = m % 8 := ⟨_, rfl⟩
    have rq : (m : Int) / 8 = (kq : Int) := by omega
    have r8 : (m : Int) % 8 = (k8 : Int) := by omega
    have hkql : kq ≤ l.length := by have := s.size.1; unfold siz at this; omega
    have hmn : m ≤ n := by omega
    have hm9 : m ≤ 65536 := by omega
    have hk9 : kq ≤ 8192 := by omega
    have hk89 : k8 < 8 := by omega
    have HM := Lib.hid (And.intro hm (And.intro hkq hk8))
    have hRK : rk l (k : Int) = cnt (bit l) m := by
      unfold rk
      rw [Int.toNat_natCast, hm]
      by_cases hkn : k ≤ n
      · rw [Nat.min_eq_left hkn]
      · rw [Nat.min_eq_right (by omega), cnt_over s.ok.left k (by omega)]
    have HRK := Lib.hid hRK
    have hmin : (k ≤ n ∧ m = k) ∨ (¬ k ≤ n ∧ m = n) := by omega
    clear hm hkq hk8 hRK
    have hcase : ∀ N : Nat, N ≤ kq → cnt (bit l) (8 * N) ≤ 65536 := fun N hN => by have := cnt_le (bit l) (8 * N); omega
    have HC := Lib.hid hcase
    clear hcase
    rcases hmin with ⟨hkn, hmk⟩ | ⟨hkn, hmk⟩
    all_goals
      subst hmk
      go_enter Tryz.func62, Tryz.ntmps62
      go_wp2_with fail
      go_loop [5, 7, 29] (fun c b i => ∃ t ct : Nat, t ≤ kq ∧ ct ≤ 65536 ∧ i = .int .i64 (t : Int) ∧ c = .int .i64 (ct : Int) ∧ Hid (ct = cnt (bit l) (8 * t))) (fun _ _ i => kq - (intOf i).toNat)
      case atStart => exact ⟨0, 0, by omega, by omega, rfl, rfl, Lib.hid rfl⟩
      case round =>
        obtain ⟨t, ct, ht, hct9, rfl, rfl, hct⟩ := hrel
        by_cases hlt : t < kq
        · have cb := s.byte (show t < l.length by omega)
          have hx := getD_byte s.ok.byte t
          obtain ⟨x, hx0⟩ : ∃ x, x = l.getD t 0 := ⟨_, rfl⟩
          rw [← hx0] at cb hx
          have HX := Lib.hid hx0
          have hpl := pc_le x
          clear hx0
          go_wp2_with fail
          refine (ones_any x _ hx).mono ?_
          rintro e w' ⟨rfl, rfl⟩
          go_wp2_with fail
          go_round
          case rel =>
            have hs := rank_step l t
            rw [← hct.out, ← HX.out] at hs
            exact ⟨t + 1, ct + pc x, by omega, by have := HC.out (t + 1) hlt; omega, by go_num, by go_num, Lib.hid hs.symm⟩
          case measure => simp [intOf]; omega
        · obtain rfl : t = kq := by omega
          by_cases h8 : 0 < k8
          · have hd8 : decide (0 < (k8 : Int)) = true := by simpa using h8
            have hHM := HM.out
            have hsz := s.size.1
            have hkl : t < l.length := by unfold siz at hsz; omega
            have cb := s.byte hkl
            have hx := getD_byte s.ok.byte t
            have hrr := rank_rest l m (by rw [← hHM.2.1]; exact hx) (by omega)
            rw [← hHM.2.1, ← hHM.2.2, ← hct.out] at hrr
            obtain ⟨x, hx0⟩ : ∃ x, x = l.getD t 0 := ⟨_, rfl⟩
            rw [← hx0] at cb hx hrr
            obtain ⟨r, hr⟩ : ∃ r : Nat, r = 8 - k8 := ⟨_, rfl⟩
            rw [← hr] at hrr
            have rr : (8 : Int) - (k8 : Int) = (r : Int) := by omega
            have hr8 : r ≤ 8 := by omega
            have hsh : (x : Int) * 2 ^ r % 256 = ((x * 2 ^ r % 256 : Nat) : Int) := by push_cast; rfl
            obtain ⟨y, hy⟩ : ∃ y, y = x * 2 ^ r % 256 := ⟨_, rfl⟩
            rw [← hy] at hrr hsh
            have hy8 : y < 256 := by omega
            have hpl := pc_le y
            have HRR := Lib.hid hrr
            clear hrr hr hx0 hHM hsz hy
            go_wp2_with fail
            refine (ones_any y _ hy8).mono ?_
            rintro e w' ⟨rfl, rfl⟩
            go_wp2_with fail
            go_ret
            exact ⟨ret_of (congrArg (Value.int IntKind.i64) (by rw [HRK.out, HRR.out]; rfl)), rfl⟩
          · go_wp2_with fail
            go_ret
            refine ⟨ret_of (congrArg (Value.int IntKind.i64) ?_), rfl⟩
            rw [HRK.out, hct.out]
            congr 2
            have := HM.out
            omega
theorem Count_any (s : SetIn w B g h n l) : Calls Tryz.prog 38 #[.pointer (some ⟨g, 0, none⟩)] w fun e w' => e = .returned (.int .i64 (cnt (bit l) n : Int)) ∧ w = w' := by
  have hr := Rank_any s (n : Int)
  rw [show rk l (n : Int) = cnt (bit l) n by unfold rk; rw [Int.toNat_natCast]] at hr
  go_enter Tryz.func38, Tryz.ntmps38
  go_wp2_with fail
  refine (Len_any s).mono ?_
  rintro e w' ⟨rfl, rfl⟩
  go_wp2_with fail
  refine hr.mono ?_
  clear hr
  rintro e w' ⟨rfl, rfl⟩
  go_wp2_with fail
  go_ret
  exact ⟨rfl, rfl⟩
end
end Go.Proofs.YtpgdlmnhomnblaaGreatDoor
namespace Go.Proofs.YtpgdlmnhomnblaaGreatDoor
open Go.RowKit
set_option linter.unusedVariables false
set_option linter.unusedSimpArgs false
theorem grown_setRow (w : World) (g : Nat) (cs : Array Value) : w.grownBy (w.setRow g cs) (some g) :=
  ⟨rfl, rfl, rfl, by simp [World.setRow], fun k hk hne => setRow_other w g k cs (fun e => hne (by rw [e]))⟩
theorem wpList_copy_whole {P : Program} {w : World} {ops : Array Oper} {rest : List Oper} {o : Oper} {a : Act} {Q : Exit → Act → World → Prop} (hgd : o.guard = none) (d s : Operand) (dT sT : TypeId)
    (ho : o.op = .call { callee := .builtin .copy, args := #[d, s], argTypes := #[dT, sT] }) (elem : TypeId) (hu : P.underlying dT = some (.slice elem)) (hsz : (P.info? elem).map (·.size) = some 1)
    (g n dCap sCap B : Nat) (A : Option Addr) (t : TypeId) (cur : Array Value) (xs : List Value) (hd : a.eval d = .slice (some ⟨g, 0, none⟩) n dCap) (hs : a.eval s = .slice A n sCap)
    (hg : Blk w g t cur) (hcur : cur.size = n) (hr : Reads w B 1 A n xs) (h1 : ∀ v ∈ xs, v.oneCell' = true)
    (h : ∀ w', Hid (Blk w' g t xs.toArray) → w.grownBy w' (some g) → wpList P ops Q rest (a.put o.dst (goInt n)) w') :
    wpList P ops Q (o :: rest) a w := by
  have hl : xs.length = n := by simpa using hr.1
  rcases Nat.eq_zero_or_pos n with h0 | h0
  · subst h0
    refine wpList_copy_nothing hgd d s dT sT ho elem hu hsz _ _ _ _ _ _ hd hs rfl ?_
    refine h w ?_ (World.grownBy.refl w _)
    obtain rfl : xs = [] := List.eq_nil_of_length_eq_zero hl
    obtain rfl : cur = #[] := Array.eq_empty_of_size_eq_zero hcur
    exact hg
  · obtain ⟨ad, rfl, _, hc⟩ := hr.2 h0
    refine wpList_copy_own hgd d s dT sT ho elem hu hsz g 0 n dCap ad n sCap hd hs cur t hg xs (by rw [hl]; exact (Nat.min_self n).symm) hc (by omega) h1 ?_
    have e : (cur.toList.take 0 ++ (xs ++ cur.toList.drop (0 + xs.length))).toArray = xs.toArray := by
      rw [List.drop_of_length_le (by simp; omega)]; simp
    rw [e, hl]
    exact h _ (setRow_heap w g _ _ t _ hg) (grown_setRow w g _)
end Go.Proofs.YtpgdlmnhomnblaaGreatDoor
namespace Go.Proofs.YtpgdlmnhomnblaaGreatDoor
open Go.RowKit
set_option linter.unusedVariables false
set_option linter.unusedSimpArgs false
set_option maxRecDepth 100000
theorem size_u8 : (Tryz.prog.info? 5).map (·.size) = some 1 := by kernel_rfl
def NewB (w : World) (l : List Nat) (e : Ending) (w' : World) : Prop := ∃ q, e = .returned (.slice (some ⟨q, 0, none⟩) l.length l.length) ∧ Blk w' q 5 (bs l).toArray ∧ w.heap.size ≤ q ∧ Below w.heap.size w w'
section
variable {w : World} {B g h n : Nat} {l : List Nat}
theorem Bytes_any (s : SetIn w B g h n l) : Calls Tryz.prog 53 #[.pointer (some ⟨g, 0, none⟩)] w (NewB w l) := by
  obtain ⟨c0, c1⟩ := s.cells
  have hl := s.size.2
  have hmk := run_make_u8n l.length (by omega)
  have hlen : (bs (List.replicate l.length 0)).toArray.size = l.length := by simp [bs]
  have hlt := s.obj.lt
  have HZ := Lib.hid hlen
  clear hlen
  go_enter Tryz.func53, Tryz.ntmps53
  go_wp2_with (with_reducible
    refine wpList_copy_whole rfl (.tmp 12) (.tmp 16) _ _ rfl 5 Tryz.underlying66 size_u8 w.heap.size l.length l.length l.length (w.heap.size + 1) (some ⟨h, 0, none⟩) 5 _ (bs l) rfl rfl (Blk.new w _ _) HZ.out ((s.alloc _).reads.more (by simp)) (bs_one l) ?_
    intro w2 H2 hg2)
  go_ret
  refine ⟨w.heap.size, rfl, H2.out, Nat.le_refl _, ((Below.refl _ _).alloc (Nat.le_refl _) _).grown hg2 (by simp) (fun k hk => by simp at hk; omega)⟩
end
end Go.Proofs.YtpgdlmnhomnblaaGreatDoor
namespace Go.Proofs.YtpgdlmnhomnblaaGreatDoor
open Go.RowKit
set_option linter.unusedVariables false
set_option linter.unusedSimpArgs false
section
variable (f : Nat → Bool) (kd : Int) (is : List Int) (ts : List Tx)
end
end Go.Proofs.YtpgdlmnhomnblaaGreatDoor
namespace Go.Proofs.YtpgdlmnhomnblaaGreatDoor
open Go.RowKit
set_option linter.unusedVariables false
set_option linter.unusedSimpArgs false
def oth (l : List Vl) : List Vl := l.filter fun v => !nul v
theorem oth_append (a b : List Vl) : oth (a ++ b) = oth a ++ oth b := by simp [oth]
theorem oth_one (v : Vl) : oth [v] = if nul v = true then [] else [v] := by unfold oth; cases h : nul v <;> simp [h]
theorem oth_step {l : List Vl} {k : Nat} {v : Vl} (h : l[k]? = some v) : oth (l.take (k + 1)) = oth (l.take k) ++ if nul v = true then [] else [v] := by rw [take_snoc h, oth_append, oth_one]
theorem oth_length_le (l : List Vl) : (oth l).length ≤ l.length := List.length_filter_le _ _
theorem oth_mem {l : List Vl} {v : Vl} (h : v ∈ oth l) : v ∈ l ∧ nul v = false := by
  unfold oth at h
  rw [List.mem_filter] at h
  exact ⟨h.1, by simpa using h.2⟩
theorem ints_oth (l : List Vl) : ints (oth l) = ints l := by
  induction l with
  | nil => rfl
  | cons v l ih =>
    have e : ∀ x : List Vl, ints (v :: x) = ints [v] ++ ints x := fun x => by rw [← ints_append]; rfl
    have e2 : oth (v :: l) = oth [v] ++ oth l := by rw [← oth_append]; rfl
    rw [e2, ints_append, ih, e l, oth_one]
    cases h : nul v with
    | true =>
      have : v.1 = 0 := by simpa [nul] using h
      rw [if_pos rfl, ints_one, if_neg (by omega)]; rfl
    | false => rfl
theorem wrds_oth (l : List Vl) : wrds (oth l) = wrds l := by
  induction l with
  | nil => rfl
  | cons v l ih =>
    have e : ∀ x : List Vl, wrds (v :: x) = wrds [v] ++ wrds x := fun x => by rw [← wrds_append]; rfl
    have e2 : oth (v :: l) = oth [v] ++ oth l := by rw [← oth_append]; rfl
    rw [e2, wrds_append, ih, e l, oth_one]
    cases h : nul v with
    | true =>
      have : v.1 = 0 := by simpa [nul] using h
      rw [if_pos rfl, wrds_one, if_neg (by omega)]; rfl
    | false => rfl
theorem frm_oth (way : Nat) (l : List Vl) : frm way (oth l) = frm way l := by unfold frm; rw [ints_oth, wrds_oth]
theorem oth_kind {kd : Int} {l : List Vl} (h : ∀ v ∈ l, rgt kd v = true) : ∀ v ∈ oth l, v.1 = kd := by
  intro v hv
  obtain ⟨h1, h2⟩ := oth_mem hv
  rcases rgt_kind (h v h1) with e | ⟨e, e2, _⟩ | ⟨e, e2, _⟩
  · rw [e] at h2; cases h2
  · omega
  · omega
def nums (o : List Vl) : List Int := o.map fun v => v.2.1
def txts (o : List Vl) : List Tx := o.map fun v => v.2.2
theorem nums_length (o : List Vl) : (nums o).length = o.length := by simp [nums]
theorem txts_length (o : List Vl) : (txts o).length = o.length := by simp [txts]
theorem nums_ints {o : List Vl} (h : ∀ v ∈ o, v.1 = 1) : nums o = ints o := by
  induction o with
  | nil => rfl
  | cons v o ih =>
    have e : ints (v :: o) = ints [v] ++ ints o := by rw [← ints_append]; rfl
    rw [e, ints_one, if_pos (h v (by simp)), ← ih fun x hx => h x (by simp [hx])]; rfl
theorem txts_wrds {o : List Vl} (h : ∀ v ∈ o, v.1 = 2) : txts o = wrds o := by
  induction o with
  | nil => rfl
  | cons v o ih =>
    have e : wrds (v :: o) = wrds [v] ++ wrds o := by rw [← wrds_append]; rfl
    rw [e, wrds_one, if_pos (h v (by simp)), ← ih fun x hx => h x (by simp [hx])]; rfl
def stK (f : Nat → Bool) (k n : Nat) : List Nat := (sel f k).foldl mark (List.replicate (siz n) 0)
theorem stK_all (f : Nat → Bool) (n : Nat) : stK f n n = setB f n := rfl
theorem stK_mark {f : Nat → Bool} {k : Nat} (n : Nat) (h : f k = true) : stK f (k + 1) n = mark (stK f k n) k := by
  unfold stK
  rw [sel, h]
  simp
theorem stK_skip {f : Nat → Bool} {k : Nat} (n : Nat) (h : f k = false) : stK f (k + 1) n = stK f k n := by
  unfold stK
  rw [sel, h]
  simp
theorem stK_bit (f : Nat → Bool) {k n : Nat} (h : k < n) : bit (stK f k n) k = false := by
  have hp : ∀ p ∈ sel f k, p < n := fun p hp => by have := (sel_mem f k p).1 hp; omega
  rw [stK, (marks_ok (sel f k) _ (OkS.new n) hp).2, bit_zeros, Bool.or_false]
  have : ¬ k ∈ sel f k := fun e => by have := (sel_mem f k k).1 e; omega
  simp [this]
end Go.Proofs.YtpgdlmnhomnblaaGreatDoor
namespace Go.Proofs.YtpgdlmnhomnblaaGreatDoor
open Go.RowKit
set_option linter.unusedVariables false
set_option linter.unusedSimpArgs false
set_option maxRecDepth 100000
theorem info_val : (Tryz.prog.info? 51).map (fun i => (i.zero, i.size, i.bytes)) = some (some (.agg #[.int .i64 0, .int .i64 0, .string ⟨#[]⟩]), 3, 32) := by kernel_rfl
theorem made_vs (n : Nat) : madeCells #[.int .i64 0, .int .i64 0, .string ⟨#[]⟩] (n * 3) = (vs (List.replicate n (0, 0, []))).toArray := by
  apply Array.ext'
  apply List.ext_getElem?
  intro j
  have hl : (vs (List.replicate n ((0 : Int), (0 : Int), ([] : Tx)))).length = n * 3 := by rw [vs_length, List.length_replicate]
  by_cases hj : j < n * 3
  · have hy : (List.replicate n ((0 : Int), (0 : Int), ([] : Tx)))[j / 3]? = some (0, 0, []) := by rw [List.getElem?_replicate, if_pos (by omega)]
    obtain ⟨h1, h2, h3⟩ := vs_at hy
    have hr : j % 3 = 0 ∧ j = j / 3 * 3 ∨ j % 3 = 1 ∧ j = j / 3 * 3 + 1 ∨ j % 3 = 2 ∧ j = j / 3 * 3 + 2 := by omega
    rcases hr with ⟨e, e'⟩ | ⟨e, e'⟩ | ⟨e, e'⟩
    · rw [← e'] at h1; rw [List.toList_toArray, h1]; simp [madeCells, hj, e]
    · rw [← e'] at h2; rw [List.toList_toArray, h2]; simp [madeCells, hj, e]
    · rw [← e'] at h3; rw [List.toList_toArray, h3]; simp [madeCells, hj, e]
  · rw [List.getElem?_eq_none (by simp [madeCells]; omega), List.getElem?_eq_none (by rw [List.toList_toArray]; omega)]
theorem run_make_vals (n : Nat) (hn : n ≤ 8796093022208) (w : World) :
    (Instr.makeSlice 49 (.int .i64 (n : Int)) (.int .i64 (n : Int))).run Tryz.prog w = .ok (.slice (some ⟨w.heap.size, 0, none⟩) n n) (w.alloc (.cells (vs (List.replicate n (0, 0, []))).toArray 51)) := by
  obtain ⟨i, hi, hz0, hz1, hz2⟩ := info_parts info_val
  have hr := run_make (P := Tryz.prog) w 49 51 i _ Tryz.underlying49 hi hz0 .i64 .i64 n n (by omega) (by omega) (by rw [hz2]; omega) (by omega)
  rw [hz1] at hr
  simp only [Int.toNat_natCast, Value.cells] at hr
  rw [made_vs] at hr
  exact hr
def fillV (o : List (Int × Int × Tx)) (k : Nat) : Array Value := (vs (o.take k ++ List.replicate (o.length - k) (0, 0, []))).toArray
theorem fillV_zero (o : List (Int × Int × Tx)) (n : Nat) (h : o.length = n) : fillV o 0 = (vs (List.replicate n (0, 0, []))).toArray := by unfold fillV; simp [h]
theorem fillV_all (o : List (Int × Int × Tx)) (n : Nat) (h : o.length = n) : fillV o n = (vs o).toArray := by
  unfold fillV
  rw [List.take_of_length_le (by omega), h, Nat.sub_self]; simp
theorem vs_set : ∀ (l : List (Int × Int × Tx)) (k : Nat) (v : Int × Int × Tx), (((vs l).set (k * 3) (.int .i64 v.1)).set (k * 3 + 1) (.int .i64 v.2.1)).set (k * 3 + 2) (.string ⟨v.2.2.toArray⟩) = vs (l.set k v)
  | [], k, v => by simp [vs]
  | x :: l, 0, v => by simp [vs_cons, vc]
  | x :: l, k + 1, v => by
    have ih := vs_set l k v
    rw [List.set_cons_succ, vs_cons, vs_cons, ← ih, show (k + 1) * 3 = k * 3 + 3 by omega]
    simp [vc]
theorem fillV_next (o : List (Int × Int × Tx)) (k : Nat) (v : Int × Int × Tx) (h : o[k]? = some v) :
    (((fillV o k).setIfInBounds (k * 3) (.int .i64 v.1)).setIfInBounds (k * 3 + 1) (.int .i64 v.2.1)).setIfInBounds (k * 3 + 2) (.string ⟨v.2.2.toArray⟩) = fillV o (k + 1) := by
  have hk : k < o.length := (List.getElem?_eq_some_iff.1 h).1
  unfold fillV
  rw [List.setIfInBounds_toArray, List.setIfInBounds_toArray, List.setIfInBounds_toArray, vs_set]
  congr 2
  apply List.ext_getElem?
  intro i
  rw [List.getElem?_set]
  by_cases hi : k = i
  · subst hi
    rw [if_pos rfl, if_pos (by simp; omega), List.getElem?_append_left (by simp; omega), List.getElem?_take, if_pos (by omega), h]
  · rw [if_neg hi]
    by_cases h2 : i < k
    · rw [List.getElem?_append_left (by simp; omega), List.getElem?_append_left (by simp; omega), List.getElem?_take, List.getElem?_take, if_pos h2, if_pos (by omega)]
    · rw [List.getElem?_append_right (by simp; omega), List.getElem?_append_right (by simp; omega), List.getElem?_replicate, List.getElem?_replicate]
      simp only [List.length_take]
      by_cases h3 : i < o.length
      · rw [if_pos (by omega), if_pos (by omega)]
      · rw [if_neg (by omega), if_neg (by omega)]
theorem Blk.val {w : World} {h k : Nat} {t : TypeId} {o : List (Int × Int × Tx)} {v : Int × Int × Tx} (hb : Blk w h t (fillV o k)) (hv : o[k]? = some v) :
    Blk (((w.setCell ⟨h, k * 3, none⟩ (.int .i64 v.1)).setCell ⟨h, k * 3 + 1, none⟩ (.int .i64 v.2.1)).setCell ⟨h, k * 3 + 2, none⟩ (.string ⟨v.2.2.toArray⟩)) h t (fillV o (k + 1)) := by
  have := ((hb.set_ (k * 3) (.int .i64 v.1)).set_ (k * 3 + 1) (.int .i64 v.2.1)).set_ (k * 3 + 2) (.string ⟨v.2.2.toArray⟩)
  rwa [fillV_next o k v hv] at this
theorem fillV_old (o : List (Int × Int × Tx)) (k j : Nat) (h : k ≤ j) (hj : j < o.length) : (fillV o k)[j * 3]? = some (.int .i64 0) ∧ (fillV o k)[j * 3 + 1]? = some (.int .i64 0) ∧ (fillV o k)[j * 3 + 2]? = some (.string ⟨#[]⟩) := by
  have hy : (o.take k ++ List.replicate (o.length - k) ((0 : Int), (0 : Int), ([] : Tx)))[j]? = some (0, 0, []) := by
    rw [List.getElem?_append_right (by rw [List.length_take]; omega), List.getElem?_replicate, if_pos (by rw [List.length_take]; omega)]
  obtain ⟨h1, h2, h3⟩ := vs_at hy
  unfold fillV
  rw [List.getElem?_toArray, List.getElem?_toArray, List.getElem?_toArray]
  exact ⟨h1, h2, h3⟩
theorem own_whole3 {w : World} {B h n : Nat} {t : TypeId} {o : List (Int × Int × Tx)} (hb : Blk w h t (vs o).toArray) (hB : B ≤ h) (hn : o.length = n) (hm : n ≤ maxLen) :
    w.ownsRow B t 3 (.slice (some ⟨h, 0, none⟩) n n) n (vs o) := by
  have hl := vs_length o
  exact ⟨by omega, .inr ⟨h, n, (vs o).toArray, rfl, hB, hb, Nat.le_refl _, hm, by simp; omega, by simp; rw [List.take_of_length_le (by omega)]⟩⟩
end Go.Proofs.YtpgdlmnhomnblaaGreatDoor
namespace Go.Proofs.YtpgdlmnhomnblaaGreatDoor
open Go.RowKit
set_option linter.unusedVariables false
set_option linter.unusedSimpArgs false
set_option maxRecDepth 100000
def fillW (xs : List Value) (z : Value) (k : Nat) : Array Value := (xs.take k ++ List.replicate (xs.length - k) z).toArray
theorem fillW_zero (xs : List Value) (z : Value) (n : Nat) (h : xs.length = n) : fillW xs z 0 = madeCells #[z] n := by
  apply Array.ext'
  rw [toList_madeCells_one]
  simp [fillW, h]
theorem fillW_all (xs : List Value) (z : Value) (n : Nat) (h : xs.length = n) : fillW xs z n = xs.toArray := by
  unfold fillW
  rw [List.take_of_length_le (by omega), h, Nat.sub_self]
  simp
theorem fillW_old (xs : List Value) (z : Value) (k : Nat) (h : k < xs.length) : (fillW xs z k)[k]? = some z := by
  unfold fillW
  rw [List.getElem?_toArray, List.getElem?_append_right (by rw [List.length_take]; omega), List.getElem?_replicate, if_pos (by rw [List.length_take]; omega)]
theorem fillW_next (xs : List Value) (z : Value) (k : Nat) (v : Value) (h : xs[k]? = some v) : (fillW xs z k).setIfInBounds k v = fillW xs z (k + 1) := by
  have hk : k < xs.length := (List.getElem?_eq_some_iff.1 h).1
  unfold fillW
  rw [List.setIfInBounds_toArray]
  congr 1
  apply List.ext_getElem?
  intro i
  rw [List.getElem?_set]
  by_cases hi : k = i
  · subst hi
    rw [if_pos rfl, if_pos (by simp; omega), List.getElem?_append_left (by simp; omega), List.getElem?_take, if_pos (by omega), h]
  · rw [if_neg hi]
    by_cases h2 : i < k
    · rw [List.getElem?_append_left (by simp; omega), List.getElem?_append_left (by simp; omega), List.getElem?_take, List.getElem?_take, if_pos h2, if_pos (by omega)]
    · rw [List.getElem?_append_right (by simp; omega), List.getElem?_append_right (by simp; omega), List.getElem?_replicate, List.getElem?_replicate]
      simp only [List.length_take]
      by_cases h3 : i < xs.length
      · rw [if_pos (by omega), if_pos (by omega)]
      · rw [if_neg (by omega), if_neg (by omega)]
theorem own_whole {w : World} {B h n : Nat} {t : TypeId} {xs : List Value} (hb : Blk w h t xs.toArray) (hB : B ≤ h) (hn : xs.length = n) (hm : n ≤ maxLen) :
    w.ownsRow B t 1 (.slice (some ⟨h, 0, none⟩) n n) n xs :=
  ⟨by omega, .inr ⟨h, n, xs.toArray, rfl, hB, hb, Nat.le_refl _, hm, by simp; omega, by simp; rw [List.take_of_length_le (by omega)]⟩⟩
end Go.Proofs.YtpgdlmnhomnblaaGreatDoor
namespace Go.Proofs.YtpgdlmnhomnblaaGreatDoor
open Go.RowKit
set_option linter.unusedVariables false
set_option linter.unusedSimpArgs false
set_option maxRecDepth 100000
theorem reads_one3 (w : World) (v : Vl) (t : TypeId) : Reads (w.alloc (.cells #[.int .i64 v.1, .int .i64 v.2.1, .string ⟨v.2.2.toArray⟩] t)) (w.heap.size + 1) 3 (some ⟨w.heap.size, 0, none⟩) 1 (vc v) :=
  ⟨by simp [vc], fun _ => ⟨_, rfl, by simp, fun j z hz => by
    have hb := (Blk.new w t #[.int .i64 v.1, .int .i64 v.2.1, .string ⟨v.2.2.toArray⟩]).cell j
    rw [plain_add, Nat.zero_add, hb]
    simpa [vc] using hz⟩⟩
structure ApartC (w wr : World) (g h n : Nat) (l : List Vl) (k : Nat) (v : Value) : Prop where
  set : SetIn wr w.heap.size g h n (stK (non l) k n)
  row : wr.ownsRow w.heap.size 51 3 v (oth (l.take k)).length (vs (oth (l.take k)))
  ng : v.ownBlock ≠ some g
  nh : v.ownBlock ≠ some h
  below : Below w.heap.size w wr
set_option maxHeartbeats 1000000 in
theorem apart_any (A : Option Addr) (n c : Nat) (l : List Vl) (w : World) (hr : Reads w w.heap.size 3 A n (vs l)) (hn : n ≤ 65536) :
    Calls Tryz.prog 43 #[.slice A n c] w fun e w' => ∃ g h v, e = .returned (.tuple #[.pointer (some ⟨g, 0, none⟩), v]) ∧ SetIn w' w.heap.size g h n (setB (non l) n) ∧ w'.ownsRow w.heap.size 51 3 v (oth l).length (vs (oth l)) ∧ Below w.heap.size w w' := by
  obtain ⟨i0, hi0, hz0, hz1, hz2⟩ := info_parts info_val
  have e1 : l.length = n := by have := hr.1; rw [vs_length] at this; omega
  have HE := Lib.hid e1
  clear e1
  go_enter Tryz.func43, Tryz.ntmps43
  go_wp2_with fail
  refine (New_any n w hn).mono ?_
  rintro e w1 ⟨g, h, rfl, hS1, hb1⟩
  have hA : ApartC w w1 g h n l 0 (.slice none 0 0) := ⟨hS1, own_nil _ _ _ _, by simp [Value.ownBlock], by simp [Value.ownBlock], hb1⟩
  clear hS1 hb1
  go_wp2_with fail
  go_loopw [5, 13] (fun s5 s13 wr => ∃ k : Nat, k ≤ n ∧ s13 = .int .i64 (k : Int) ∧ ApartC w wr g h n l k s5) (fun _ i _ => n - (intOf i).toNat)
  case atStart => exact ⟨0, Nat.zero_le _, rfl, hA⟩
  case round =>
    clear hA
    obtain ⟨k, hk, rfl, hA⟩ := hrel
    by_cases hlt : k < n
    · obtain ⟨⟨v0, v1, z⟩, hv⟩ : ∃ v, l[k]? = some v := ⟨_, List.getElem?_eq_getElem (by rw [HE.out]; exact hlt)⟩
      obtain ⟨b, o, rfl, hb0, x0, x1, x2⟩ := (hr.below hA.below).val hv
      by_cases h0 : v0 = 0
      · subst h0
        have hnon : non l k = true := by rw [non_at hv]; rfl
        have hot := oth_step hv
        rw [if_pos (by rfl), List.append_nil] at hot
        have hst := stK_mark n hnon
        have hcm := canM_new (n := n) (l := stK (non l) k n) hlt (stK_bit (non l) hlt)
        rw [← hst] at hcm
        have HM := Lib.hid fun (W : World) (hS : SetIn W w.heap.size g h n (stK (non l) k n)) => Mark_any hS (k : Int)
        unfold MarkD at HM
        rw [hcm.1, hcm.2] at HM
        have HO := Lib.hid hot
        clear hot hst hcm hnon hv
        go_wp2_with fail
        refine (HM.out _ (hA.set.alloc _)).mono ?_
        rintro e w2 ⟨rfl, hS2, hg2⟩
        have hA2 : ApartC w w2 g h n l (k + 1) u5 := by
          refine ⟨hS2, ?_, hA.ng, hA.nh, (hA.below.alloc hA.below.size _).grown hg2 (by have := hA.below.size; simp; omega) (fun j hj => by injection hj with hj; have := hA.set.bh; omega)⟩
          rw [HO.out]
          exact (hA.row.alloc _).kept hg2 (.inr hA.nh)
        clear hA hS2 hg2
        go_wp2_with fail
        go_round
        case rel => exact ⟨k + 1, by omega, by go_num, hA2⟩
        case measure => simp [intOf]; omega
      · have hnon : non l k = false := by rw [non_at hv]; simp [nul, h0]
        have hot := oth_step hv
        rw [if_neg (by simp [nul, h0])] at hot
        have hst := stK_skip n hnon
        have hol : (oth (l.take k)).length ≤ k := by have := oth_length_le (l.take k); rw [List.length_take] at this; omega
        have hsz := hA.below.size
        have HO := Lib.hid hot
        have HS := Lib.hid hst
        have q : (v0 == 0) = false := by simp [h0]
        obtain ⟨L, hL⟩ : ∃ L, oth (l.take k) = L := ⟨_, rfl⟩
        have hrow := hA.row
        rw [hL] at hrow hol HO
        have rv := fun W => reads_one3 W (v0, v1, z) 51
        simp only at rv
        clear hot hst hnon hv h0 hL
        go_wp2_with (at_builtin
                     refine wpList_append_any _ rfl (.tmp 24) (.tmp 26) _ rfl w.heap.size 51 i0 _ 3 32 Tryz.underlying49 hi0 hz0 hz1 hz2 rfl (by omega) u5 L.length (vs L) rfl
                       ((hrow.alloc _).alloc _) (wr.heap.size + 1 + 1) (some ⟨wr.heap.size + 1, 0, none⟩) 1 1 (vc (v0, v1, z)) rfl (by have := rv (wr.alloc (.cells #[.int .i64 v0, .int .i64 v1, .string ⟨z.toArray⟩] 51)); simpa using this) (vc_cell _) (by unfold maxLen; omega) (by omega) (by simp; omega) ?_
                     intro v3 w3 hown3 hg3 hat3)
        have hglt := hA.set.obj.lt
        have hhlt := hA.set.row.lt
        have hA3 : ApartC w w3 g h n l (k + 1) v3 := by
          refine ⟨?_, ?_, ?_, ?_, ((hA.below.alloc hsz _).alloc (by simp; omega) _).grown hg3 (by simp; omega) (fun j hj => (hrow.lt j hj).1)⟩
          · rw [HS.out]
            exact ((hA.set.alloc _).alloc _).grown hg3 (fun e => hA.ng e.symm) (fun e => hA.nh e.symm)
          · rw [HO.out, vs_append, vs_one, List.length_append]
            exact hown3
          · rcases hat3 with e | e
            · rw [e]; exact hA.ng
            · rw [e]; simp; omega
          · rcases hat3 with e | e
            · rw [e]; exact hA.nh
            · rw [e]; simp; omega
        go_round
        case rel => exact ⟨k + 1, by omega, by go_num, hA3⟩
        case measure => simp [intOf]; omega
    · obtain rfl : k = n := by omega
      go_wp2_with fail
      go_ret2
      have hS := hA.set
      have hR := hA.row
      rw [stK_all] at hS
      rw [List.take_of_length_le (by rw [HE.out]; exact Nat.le_refl _)] at hR
      exact ⟨g, h, _, rfl, hS, hR, hA.below⟩
def begB (S : List Nat) (n : Nat) : List Nat := if cnt (bit S) n = 0 then [0] else 1 :: S
theorem begB_head (l : List Vl) : begB (setB (non l) l.length) l.length = headB l := by
  unfold begB headB
  rw [cnt_congr _ (setB_ok (non l) l.length).2]
set_option maxHeartbeats 400000 in
theorem putNothing_any {w : World} {B g h n : Nat} {S : List Nat} (s : SetIn w B g h n S) :
    Calls Tryz.prog 46 #[.pointer (some ⟨g, 0, none⟩)] w (New w (bs (begB S n)) (begB S n).length) := by
  obtain ⟨i0, hi0, hz0, hz1, hz2⟩ := info_parts info_u8
  have HC := Lib.hid (Count_any s)
  have hsl := s.size.2
  by_cases h0 : cnt (bit S) n = 0
  · have hB : begB S n = [0] := by unfold begB; rw [if_pos h0]
    rw [hB]
    rw [h0] at HC
    clear hB h0
    go_enter Tryz.func46, Tryz.ntmps46
    go_wp2_with fail
    refine HC.out.mono ?_
    rintro e w' ⟨rfl, rfl⟩
    go_wp2_with fail
    go_ret
    exact ⟨_, rfl, own_whole (Blk.new w _ _) (Nat.le_refl _) rfl (by unfold maxLen; omega), (Below.refl _ _).alloc (Nat.le_refl _) _⟩
  · have hB : begB S n = [1] ++ S := by unfold begB; rw [if_neg h0]; rfl
    obtain ⟨m, hm⟩ : ∃ m, cnt (bit S) n = m := ⟨_, rfl⟩
    rw [hm] at HC h0
    have q : ((m : Int) == 0) = false := by simp [h0]
    have HB := Lib.hid hB
    have hb1 : Below w.heap.size w (w.alloc (.cells #[.int .u8 1] 5)) := (Below.refl _ _).alloc (Nat.le_refl _) _
    have hbk := Blk.new w 5 #[.int .u8 1]
    have HY := Lib.hid (Bytes_any (s.alloc (.cells #[.int .u8 1] 5)))
    clear hm h0 hB
    go_enter Tryz.func46, Tryz.ntmps46
    go_wp2_with fail
    refine HC.out.mono ?_
    rintro e w' ⟨rfl, rfl⟩
    go_wp2_with fail
    refine HY.out.mono ?_
    rintro e w2 ⟨qb, rfl, hq, hq2, hb2⟩
    have hown := own_whole (B := w.heap.size) (xs := bs [1]) (n := 1) (hbk.below hb2 (by simp)) (Nat.le_refl _) rfl (by unfold maxLen; omega)
    have hb02 := hb1.trans (hb2.mono (by simp))
    have hrd := reads_blk hq w2.heap.size S.length (bs S) hq.lt (bs_length S) (by simp [bs_length, List.take_of_length_le])
    clear hb2 hbk
    go_wp2_with (at_builtin
                 refine wpList_append_any _ rfl (.tmp 7) (.tmp 9) _ rfl w.heap.size 5 i0 _ 1 1 Tryz.underlying66 hi0 hz0 hz1 hz2 rfl (by omega) (.slice (some ⟨w.heap.size, 0, none⟩) 1 1) 1 (bs [1]) rfl
                   hown w2.heap.size (some ⟨qb, 0, none⟩) S.length S.length (bs S) rfl hrd (bs_one S) (by unfold maxLen; omega) (by omega) hb02.size ?_
                 intro v3 w3 hown3 hg3 hat3)
    go_ret
    rw [HB.out]
    rw [← bs_append] at hown3
    refine ⟨_, rfl, ?_, hb02.grown hg3 hb02.size (fun j hj => (hown.lt j hj).1)⟩
    rw [List.length_append]
    exact hown3
end Go.Proofs.YtpgdlmnhomnblaaGreatDoor
