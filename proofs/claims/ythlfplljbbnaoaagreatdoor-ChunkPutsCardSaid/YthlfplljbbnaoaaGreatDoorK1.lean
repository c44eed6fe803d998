/- Texts joined: CkRefOf Thr OwnNew BmRefB RefPVar RefZig RefZigN PlRefPut RnRefRuns RnRefPut DlRef BitB RefWid RefBits RefPack. -/
import Derived.Test.YthlfplljbbnaoaaGreatDoorJ5
import Derived.Test.YthlfplljbbnaoaaGreatDoorJ8
import Derived.Test.YthlfplljbbnaoaaGreatDoorJ1
import Derived.Deep.LoopGhost
import Derived.Test.YthlfplljbbnaoaaGreatDoorJ31
import Derived.Test.YthlfplljbbnaoaaGreatDoorJ2
import Derived.Test.YthlfplljbbnaoaaGreatDoorJ4
import Derived.Test.YthlfplljbbnaoaaGreatDoorJ13
import Derived.Test.YthlfplljbbnaoaaGreatDoorJ9
import Derived.BigQuiet
import Derived.Test.YthlfplljbbnaoaaGreatDoorJ25
import Derived.Deep.RegionLaw
import Derived.Test.YthlfplljbbnaoaaGreatDoorJ6
import Derived.Test.YthlfplljbbnaoaaGreatDoorJ14
import Derived.Test.YthlfplljbbnaoaaGreatDoorJ18
/- Contracts of the document's side of a chunk: is a way one of a kind; may a value stand in a column. Nothing that was there changes. -/
namespace Go.Proofs.YthlfplljbbnaoaaGreatDoor
open Go.RowKit
set_option linter.unusedVariables false
set_option linter.unusedSimpArgs false
set_option maxRecDepth 100000

theorem refOf_any (way kd : Int) (w : World) : Calls Tryz.prog 22 #[.int .i64 way, .int .i64 kd] w fun e w' => e = .returned (.bool (ofW way kd)) ∧ w = w' := by
  obtain ⟨r, hr⟩ : ∃ r, ofW way kd = r := ⟨_, rfl⟩
  rw [hr]
  unfold ofW at hr
  go_enter Tryz.func22, Tryz.ntmps22
  by_cases h1 : kd = 1
  · subst h1
    by_cases h2 : 0 ≤ way
    · by_cases h3 : way ≤ 4
      · obtain rfl : r = true := by rw [← hr]; simp; omega
        clear hr
        go_wp2_with fail
        go_ret
        exact ⟨rfl, rfl⟩
      · obtain rfl : r = false := by rw [← hr]; simp; omega
        clear hr
        go_wp2_with fail
        go_ret
        exact ⟨rfl, rfl⟩
    · obtain rfl : r = false := by rw [← hr]; simp; omega
      clear hr
      go_wp2_with fail
      go_ret
      exact ⟨rfl, rfl⟩
  · by_cases h2 : kd = 2
    · subst h2
      by_cases h3 : way = 5
      · subst h3
        obtain rfl : r = true := by rw [← hr]; simp
        clear hr
        go_wp2_with fail
        go_ret
        exact ⟨rfl, rfl⟩
      · have q : (way == 5) = false := by simp [h3]
        obtain rfl : r = false := by rw [← hr]; simp; omega
        clear hr
        go_wp2_with fail
        go_ret
        exact ⟨rfl, rfl⟩
    · obtain rfl : r = false := by rw [← hr]; simp; omega
      clear hr
      go_wp2_with fail
      go_ret
      exact ⟨rfl, rfl⟩
/-- A value handed over. -/
def vA (v : Int × Int × Tx) : Value := .agg (vc v).toArray
theorem refRight_any (v : Int × Int × Tx) (kd : Int) (w : World) : Calls Tryz.prog 61 #[vA v, .int .i64 kd] w fun e w' => e = .returned (.bool (rgt kd v)) ∧ Below w.heap.size w w' := by
  obtain ⟨r, hr⟩ : ∃ r, rgt kd v = r := ⟨_, rfl⟩
  obtain ⟨v0, v1, z⟩ := v
  rw [hr]
  unfold rgt at hr
  have hv : vA (v0, v1, z) = .agg #[.int .i64 v0, .int .i64 v1, .string ⟨z.toArray⟩] := rfl
  rw [hv]
  clear hv
  go_enter Tryz.func61, Tryz.ntmps61
  have hB : Below w.heap.size w (w.alloc (.cells #[.int .i64 v0, .int .i64 v1, .string ⟨z.toArray⟩] 42)) := (Below.refl _ _).alloc (Nat.le_refl _) _
  have qz : z = [] ∧ z.isEmpty = true ∨ z ≠ [] ∧ z.isEmpty = false := by cases z <;> simp
  by_cases h0 : v0 = 0
  · subst h0
    by_cases h1 : v1 = 0
    · subst h1
      rcases qz with ⟨hz, q⟩ | ⟨hz, q⟩
      · obtain rfl : r = true := by rw [← hr]; simp [hz]
        clear hr hz
        go_wp2_with fail
        go_ret
        exact ⟨rfl, hB⟩
      · obtain rfl : r = false := by rw [← hr]; simp [hz]
        clear hr hz
        go_wp2_with fail
        go_ret
        exact ⟨rfl, hB⟩
    · obtain rfl : r = false := by rw [← hr]; simp [h1]
      clear hr qz
      go_wp2_with fail
      go_ret
      exact ⟨rfl, hB⟩
  · by_cases hk : v0 = kd
    · subst hk
      by_cases h1 : v0 = 1
      · subst h1
        rcases qz with ⟨hz, q⟩ | ⟨hz, q⟩
        · obtain rfl : r = true := by rw [← hr]; simp [hz]
          clear hr hz
          go_wp2_with fail
          go_ret
          exact ⟨rfl, hB⟩
        · obtain rfl : r = false := by rw [← hr]; simp [hz]
          clear hr hz
          go_wp2_with fail
          go_ret
          exact ⟨rfl, hB⟩
      · by_cases h2 : v0 = 2
        · subst h2
          by_cases h3 : v1 = 0
          · subst h3
            obtain rfl : r = true := by rw [← hr]; simp
            clear hr qz
            go_wp2_with fail
            go_ret
            exact ⟨rfl, hB⟩
          · have q : (v1 == 0) = false := by simp [h3]
            obtain rfl : r = false := by rw [← hr]; simp [h3]
            clear hr qz
            go_wp2_with fail
            go_ret
            exact ⟨rfl, hB⟩
        · obtain rfl : r = false := by rw [← hr]; simp [h0, h1, h2]
          clear hr qz
          go_wp2_with fail
          go_ret
          exact ⟨rfl, hB⟩
    · obtain rfl : r = false := by rw [← hr]; simp [h0, hk]
      clear hr qz
      go_wp2_with fail
      go_ret
      exact ⟨rfl, hB⟩
end Go.Proofs.YthlfplljbbnaoaaGreatDoor

/- Three rows of the call's own, each of which grows while the others stand. No program. -/
namespace Go.Proofs.YthlfplljbbnaoaaGreatDoor
open Go.RowKit
set_option linter.unusedVariables false
set_option linter.unusedSimpArgs false

/-- Two rows lie in blocks of their own. -/
def Apt (va vb : Value) : Prop := vb.ownBlock = none ∨ vb.ownBlock ≠ va.ownBlock
theorem Apt.symm {va vb : Value} (h : Apt va vb) : Apt vb va := by
  cases ha : va.ownBlock with
  | none => exact .inl ha
  | some q =>
    refine .inr fun e => ?_
    rcases h with h | h
    · rw [h, ha] at e; cases e
    · exact h e.symm
theorem Apt.grown {w : World} {B : Nat} {t : TypeId} {va vb va' : Value} {m : Nat} {ys : List Value} {o : Obj} (h : Apt va vb) (hb : w.ownsRow B t 1 vb m ys) (hat : va'.ownBlock = va.ownBlock ∨ va'.ownBlock = some (w.alloc o).heap.size) : Apt va' vb := by
  rcases hat with hat | hat
  · unfold Apt; rw [hat]; exact h
  · cases hv : vb.ownBlock with
    | none => exact .inl hv
    | some q =>
      refine .inr fun e => ?_
      rw [hat, hv] at e
      injection e with e
      have := (hb.lt q hv).2
      simp at e
      omega
/-- Three rows from block 'B' on. -/
structure Thr (w : World) (B : Nat) (ta tb tc : TypeId) (va vb vc : Value) (n m k : Nat) (xs ys zs : List Value) : Prop where
  a : w.ownsRow B ta 1 va n xs
  b : w.ownsRow B tb 1 vb m ys
  c : w.ownsRow B tc 1 vc k zs
  ab : Apt va vb
  ac : Apt va vc
  bc : Apt vb vc
theorem Thr.nil (w : World) (B : Nat) (ta tb tc : TypeId) : Thr w B ta tb tc (.slice none 0 0) (.slice none 0 0) (.slice none 0 0) 0 0 0 [] [] [] :=
  ⟨own_nil _ _ _ _, own_nil _ _ _ _, own_nil _ _ _ _, .inl rfl, .inl rfl, .inl rfl⟩
theorem Thr.rot {w : World} {B : Nat} {ta tb tc : TypeId} {va vb vc : Value} {n m k : Nat} {xs ys zs : List Value} (h : Thr w B ta tb tc va vb vc n m k xs ys zs) : Thr w B tb tc ta vb vc va m k n ys zs xs :=
  ⟨h.b, h.c, h.a, h.bc, h.ab.symm, h.ac.symm⟩
/-- The first one has grown. -/
theorem Thr.grown {w w' : World} {B : Nat} {ta tb tc : TypeId} {va vb vc va' : Value} {n m k n' : Nat} {xs ys zs xs' : List Value} {o : Obj} (h : Thr w B ta tb tc va vb vc n m k xs ys zs)
    (hown : w'.ownsRow B ta 1 va' n' xs') (hg : (w.alloc o).grownBy w' va.ownBlock) (hat : va'.ownBlock = va.ownBlock ∨ va'.ownBlock = some (w.alloc o).heap.size) : Thr w' B ta tb tc va' vb vc n' m k xs' ys zs :=
  ⟨hown, (h.b.alloc o).kept hg h.ab, (h.c.alloc o).kept hg h.ac, h.ab.grown h.b hat, h.ac.grown h.c hat, h.bc⟩
end Go.Proofs.YthlfplljbbnaoaaGreatDoor

/- A row that was just made whole is the call's own. No program. -/
namespace Go.Proofs.YthlfplljbbnaoaaGreatDoor
open Go.RowKit
set_option linter.unusedVariables false
set_option linter.unusedSimpArgs false
set_option maxRecDepth 100000

theorem own_new (w : World) (cs : Array Value) (n : Nat) (t : TypeId) (xs : List Value) (hm : n ≤ maxLen) (hs : cs.size = n) (hx : cs.toList = xs) :
    (w.alloc (.cells cs t)).ownsRow w.heap.size t 1 (.slice (some ⟨w.heap.size, 0, none⟩) n n) n xs := by
  subst hx
  exact ⟨by simp [hs], .inr ⟨w.heap.size, n, cs, rfl, Nat.le_refl _, heap_alloc_new w _, Nat.le_refl _, hm, by omega, by rw [Nat.mul_one, ← hs, ← Array.length_toList, List.take_length]⟩⟩

end Go.Proofs.YthlfplljbbnaoaaGreatDoor

/- Contract of the document's Bytes of marks. -/
namespace Go.Proofs.YthlfplljbbnaoaaGreatDoor
open Go.RowKit
set_option linter.unusedVariables false
set_option linter.unusedSimpArgs false
set_option maxRecDepth 100000

theorem mod_step (x j : Nat) : x % 2 ^ (j + 1) = x % 2 ^ j + (if x.testBit j then 2 ^ j else 0) := by
  rw [Nat.pow_succ, Nat.mod_mul, Nat.testBit_eq_decide_div_mod_eq]
  have : x / 2 ^ j % 2 = 0 ∨ x / 2 ^ j % 2 = 1 := by omega
  rcases this with h | h <;> simp [h]
theorem take_snoc' (l : List Nat) (t : Nat) (h : t < l.length) : l.take (t + 1) = l.take t ++ [l.getD t 0] := by
  rw [List.take_succ_eq_append_getElem h, List.getD_eq_getElem?_getD, List.getElem?_eq_getElem h]; rfl
set_option maxHeartbeats 1000000 in
theorem refBytes_any (A : Option Addr) (n c : Nat) (L : List Nat) (w : World) (hr : Reads w w.heap.size 1 A n (bl (bit L) n)) (hn : n ≤ 65536) (hok : OkS n L) :
    Calls Tryz.prog 62 #[.slice A n c] w (New w (bs L) L.length) := by
  obtain ⟨i0, hi0, hz0, hz1, hz2⟩ := info_parts info_u8
  have hlen := hok.len
  have HLEN := Lib.hid hlen
  have hl9 : L.length ≤ 8192 := by unfold siz at hlen; omega
  clear hlen
  go_enter Tryz.func62, Tryz.ntmps62
  go_wp2_with fail
  go_loopg [3, 4, 5, 6, 7] L.length (fun gk s3 s4 s5 s6 s7 wr => ∃ t I : Nat, t + gk = L.length ∧ s4 = .int .i64 (I : Int) ∧ Hid (I = 8 * t) ∧ wr.ownsRow w.heap.size 5 1 s3 t (bs (L.take t)) ∧ Below w.heap.size w wr)
  case atStart => exact ⟨0, 0, by omega, rfl, Lib.hid rfl, World.ownsRow_nil _ _ _ _, Below.refl _ _⟩
  case round =>
    obtain ⟨t, I, htg, rfl, hI, hown, hb⟩ := hrel
    have hI9 : I ≤ 65536 := by have := hI.out; omega
    cases gk with
    | zero =>
      obtain rfl : t = L.length := by omega
      have hd : decide ((I : Int) < (n : Int)) = false := by have h1 := hI.out; have h2 := HLEN.out; unfold siz at h2; simp; omega
      have hd' : ¬ I < n := by simpa using hd
      go_wp2_with fail
      go_ret
      refine ⟨_, rfl, ?_, hb⟩
      rwa [List.take_length] at hown
    | succ g1 =>
      have hlt : t < L.length := by omega
      have hd : I < n := by have h1 := hI.out; have h2 := HLEN.out; unfold siz at h2; omega
      have hx := getD_byte hok.byte t
      have hts := take_snoc' L t hlt
      have hbit : ∀ j, j < 8 → bit L (I + j) = (L.getD t 0).testBit j := fun j hj => by rw [hI.out]; exact bit_at L t j hj
      have hover : ∀ j, j ≤ 8 → n = I + j → L.getD t 0 % 2 ^ j = L.getD t 0 := fun j hj hnj => by
        apply Nat.mod_eq_of_lt
        apply Nat.lt_pow_two_of_testBit
        intro i hi
        by_cases h8 : i < 8
        · rw [← hbit i h8]
          cases e : bit L (I + i) with
          | false => rfl
          | true => have := hok.left _ e; omega
        · exact Nat.testBit_lt_two_pow (by have : 2 ^ 8 ≤ 2 ^ i := Nat.pow_le_pow_right (by omega) (by omega); omega)
      obtain ⟨x, hx0⟩ : ∃ x, x = L.getD t 0 := ⟨_, rfl⟩
      rw [← hx0] at hx hts
      simp only [← hx0] at hbit hover
      have HTS := Lib.hid hts
      have HBIT := Lib.hid hbit
      have HOV := Lib.hid hover
      clear hx0 hts hbit hover
      go_wp2_with fail
      go_loopg [5, 6, 7] 8 (fun gk s5 s6 s7 wx => ∃ j y W K : Nat, j + gk = 8 ∧ K ≤ n ∧ s7 = .int .i64 (K : Int) ∧ s5 = .int .i64 (y : Int) ∧ s6 = .int .i64 (W : Int) ∧ Hid (y = x % 2 ^ j ∧ W = 2 ^ j ∧ K = I + j) ∧ W ≤ 256 ∧ y < 256 ∧ wx = wr)
      case atStart => exact ⟨0, 0, 1, I, by omega, by omega, rfl, rfl, rfl, Lib.hid ⟨by simp [Nat.mod_one], rfl, rfl⟩, by omega, by omega, rfl⟩
      case round =>
        obtain ⟨j, y, W, K, hjg, hKn, rfl, rfl, rfl, hyW, hW9, hy9, rfl⟩ := hrel
        have hKI := hyW.out.2.2
        have hzw := hb.size
        by_cases hgo : j < 8 ∧ K < n
        · obtain ⟨hj8, hKn2⟩ := hgo
          obtain ⟨ad, rfl, _, hc⟩ := bl_cell ((hr.below hb).more hb.size) hKn2
          rw [hKI, HBIT.out j hj8, ← hKI] at hc
          have hd8 : decide ((K : Int) < (I : Int) + 8) = true := by simp; omega
          have hms := mod_step x j
          rw [← hyW.out.1, ← hyW.out.2.1] at hms
          have hW2 : W ≤ 128 := by rw [hyW.out.2.1]; exact show 2 ^ j ≤ 2 ^ 7 from Nat.pow_le_pow_right (by omega) (by omega)
          have hmx : x % 2 ^ (j + 1) ≤ x := Nat.mod_le _ _
          have hW3 : 2 * W = 2 ^ (j + 1) := by rw [hyW.out.2.1, Nat.pow_succ, Nat.mul_comm]
          cases hf : x.testBit j with
          | true =>
            rw [hf] at hc hms
            have hyl : y + W < 256 := by simp at hms; omega
            have HM := Lib.hid (And.intro hms (And.intro hW3 hKI))
            clear hf hms hKI hmx hW3
            go_wp2_with fail
            go_roundg (7 - j)
            case measure => omega
            case rel => exact ⟨j + 1, y + W, 2 * W, K + 1, by omega, by omega, by go_num, by go_num, by go_num, Lib.hid ⟨HM.out.1.symm, HM.out.2.1, by rw [HM.out.2.2, Nat.add_assoc]⟩, by omega, by omega, rfl⟩
          | false =>
            rw [hf] at hc hms
            have HM := Lib.hid (And.intro hms (And.intro hW3 hKI))
            clear hf hms hKI hmx hW3
            go_wp2_with fail
            go_roundg (7 - j)
            case measure => omega
            case rel => exact ⟨j + 1, y, 2 * W, K + 1, by omega, by omega, by go_num, by go_num, by go_num, Lib.hid ⟨by rw [HM.out.1]; simp, HM.out.2.1, by rw [HM.out.2.2, Nat.add_assoc]⟩, by omega, by omega, rfl⟩
        · have hxy : y = x := by
            rw [hyW.out.1]
            by_cases hj8 : j = 8
            · subst hj8; exact Nat.mod_eq_of_lt hx
            · exact HOV.out j (by omega) (by omega)
          have HX := Lib.hid hxy
          have hI8 : I + 8 ≤ 65544 := by omega
          by_cases hj8 : j = 8
          · have hd8 : decide ((K : Int) < (I : Int) + 8) = false := by simp; omega
            clear hKI hgo hxy hj8
            go_wp2_with (at_builtin
                         refine wpList_append_any _ rfl (.tmp 36) (.tmp 39) _ rfl w.heap.size 5 i0 _ 1 1 Tryz.underlying25 hi0 hz0 hz1 hz2 rfl (by omega) u3 t (bs (L.take t)) rfl
                           (hown.alloc _) (wr.heap.size + 1) (some ⟨wr.heap.size, 0, none⟩) 1 1 [.int .u8 (y : Int)] rfl (Reads.new wr _ _) (one_int _ _) (by unfold maxLen; omega) (by omega) (by simp; omega) ?_
                         intro v2 w2 hown2 hg2 hat2)
            have hs := bs_snoc [] (L.take t) y _ rfl
            simp only [List.nil_append] at hs
            rw [hs, HX.out, ← HTS.out] at hown2
            clear hs
            go_roundg g1
            case measure => omega
            case rel => exact ⟨t + 1, I + 8, by omega, by go_num, Lib.hid (by rw [hI.out]; omega), hown2, below_app hb hown hzw hg2⟩
          · have hd8 : decide ((K : Int) < (I : Int) + 8) = true := by simp; omega
            have hdn : ¬ K < n := by omega
            clear hKI hgo hxy
            go_wp2_with (at_builtin
                         refine wpList_append_any _ rfl (.tmp 36) (.tmp 39) _ rfl w.heap.size 5 i0 _ 1 1 Tryz.underlying25 hi0 hz0 hz1 hz2 rfl (by omega) u3 t (bs (L.take t)) rfl
                           (hown.alloc _) (wr.heap.size + 1) (some ⟨wr.heap.size, 0, none⟩) 1 1 [.int .u8 (y : Int)] rfl (Reads.new wr _ _) (one_int _ _) (by unfold maxLen; omega) (by omega) (by simp; omega) ?_
                         intro v2 w2 hown2 hg2 hat2)
            have hs := bs_snoc [] (L.take t) y _ rfl
            simp only [List.nil_append] at hs
            rw [hs, HX.out, ← HTS.out] at hown2
            clear hs
            go_roundg g1
            case measure => omega
            case rel => exact ⟨t + 1, I + 8, by omega, by go_num, Lib.hid (by rw [hI.out]; omega), hown2, below_app hb hown hzw hg2⟩
end Go.Proofs.YthlfplljbbnaoaaGreatDoor

/- The document's answer for a short number that is put. -/
namespace Go.Proofs.YthlfplljbbnaoaaGreatDoor
open Go.RowKit
set_option linter.unusedVariables false
set_option linter.unusedSimpArgs false
set_option maxRecDepth 100000

set_option maxHeartbeats 400000 in
theorem refVar_any (v : Nat) : ∀ (w : World), v < 18446744073709551616 → Calls Tryz.prog 122 #[.int .u64 (v : Int)] w (New w (bs (vb v)) (vb v).length) := by
  induction v using Nat.strongRecOn with
  | ind v ih =>
    intro w hv
    obtain ⟨i0, hi0, hz0, hz1, hz2⟩ := info_parts info_u8
    by_cases h : v < 128
    · clear ih
      have HV := Lib.hid (vb_small v h)
      go_enter Tryz.func122, Tryz.ntmps122
      go_wp2_with fail
      go_ret
      rw [HV.out]
      exact ⟨_, rfl, own_new w _ 1 _ _ (by unfold maxLen; omega) rfl (by simp [bs]), (Below.refl _ _).alloc (Nat.le_refl _) _⟩
    · have H := Lib.hid (ih (v / 128) (by omega)); clear ih
      have HV := Lib.hid (vb_big v h hv)
      have hl := vb_length (v / 128)
      have hown0 := own_new w #[.int .u8 (128 + (v : Int) % 128)] 1 5 (bs [128 + v % 128]) (by unfold maxLen; omega) rfl (by simp [bs])
      have Hown0 := Lib.hid hown0
      clear hown0
      go_enter Tryz.func122, Tryz.ntmps122
      go_wp2_with (first
        | (go_at_call 122; refine (H.out _ (by omega)).mono ?_; rintro e w1 ⟨v1, rfl, hown1, hb1⟩; obtain ⟨A1, c1, rfl, hc1, hc1', hr1⟩ := own_slice hown1)
        | (at_builtin
           refine wpList_append_any _ rfl (.tmp 12) (.tmp 15) _ rfl w.heap.size 5 i0 _ 1 1 Tryz.underlying25 hi0 hz0 hz1 hz2 rfl (by omega) (.slice (some ⟨w.heap.size, 0, none⟩) 1 1) 1 (bs [128 + v % 128]) rfl
             (own_below Hown0.out hb1) w1.heap.size A1 (vb (v / 128)).length c1 (bs (vb (v / 128))) rfl hr1 (bs_one _) (by unfold maxLen; omega) (by omega) (by have := hb1.size; simp at this; omega) ?_
           intro v2 w2 hown2 hg2 hat2))
      go_ret
      rw [HV.out]
      refine ⟨v2, rfl, ?_, ?_⟩
      · simpa [bs, Nat.add_comm] using hown2
      · exact (((Below.refl _ _).alloc (Nat.le_refl _) _).trans (hb1.mono (by simp))).grown hg2 (by have := hb1.size; simp at this; omega) (fun k hk => by simp [Value.ownBlock] at hk; omega)

end Go.Proofs.YthlfplljbbnaoaaGreatDoor

/- The document's Zig. -/
namespace Go.Proofs.YthlfplljbbnaoaaGreatDoor
open Go.RowKit
set_option linter.unusedVariables false
set_option linter.unusedSimpArgs false
set_option maxRecDepth 100000

theorem refZig_any (n : Int) (w : World) (h1 : -9223372036854775808 ≤ n) (h2 : n ≤ 9223372036854775807) : Calls Tryz.prog 123 #[.int .i64 n] w fun e w' => e = .returned (.int .u64 (zigI n)) ∧ w = w' := by
  by_cases h : 0 ≤ n
  · have HZ := Lib.hid (show 2 * n = zigI n by unfold zigI; rw [if_pos h])
    go_enter Tryz.func123, Tryz.ntmps123
    go_wp2_with fail
    go_ret
    exact ⟨ret_of (congrArg (Value.int .u64) HZ.out), rfl⟩
  · go_enter Tryz.func123, Tryz.ntmps123
    go_wp2_with fail
    go_ret
    refine ⟨ret_of (congrArg (Value.int .u64) ?_), rfl⟩
    unfold zigI
    rw [if_neg (by omega)]
    omega
end Go.Proofs.YthlfplljbbnaoaaGreatDoor

/- Contract of the document's Zig, told by natural numbers. -/
namespace Go.Proofs.YthlfplljbbnaoaaGreatDoor
open Go.RowKit
set_option linter.unusedVariables false
set_option linter.unusedSimpArgs false
set_option maxRecDepth 100000

theorem refZigN_any (z : Int) (w : World) (h : In64 z) : Calls Tryz.prog 123 #[.int .i64 z] w fun e w' => e = .returned (.int .u64 (zg z : Int)) ∧ w = w' := by
  rw [← (zg_int h).1]; exact refZig_any z w h.1 h.2
end Go.Proofs.YthlfplljbbnaoaaGreatDoor

/- The document's plain form. -/
namespace Go.Proofs.YthlfplljbbnaoaaGreatDoor
open Go.RowKit
set_option linter.unusedVariables false
set_option linter.unusedSimpArgs false
set_option maxRecDepth 100000

set_option maxHeartbeats 1000000 in
theorem refPlPut_any (A : Option Addr) (n c : Nat) (l : List Int) (w : World) (hr : Reads w w.heap.size 1 A n (zs l)) (hl : ∀ z ∈ l, In64 z) (hn : n ≤ 65536) :
    Calls Tryz.prog 63 #[.slice A n c] w (New w (bs (pl l)) (pl l).length) := by
  obtain ⟨i0, hi0, hz0, hz1, hz2⟩ := info_parts info_u8
  have e1 : l.length = n := by have := hr.1; rw [zs_length] at this; omega
  have E1 := Lib.hid e1; have HLL := Lib.hid hl
  clear e1 hl
  go_enter Tryz.func63, Tryz.ntmps63
  go_wp2_with fail
  go_loopw [3, 4] (fun out i wr => ∃ k : Nat, k ≤ n ∧ i = .int .i64 (k : Int) ∧ wr.ownsRow w.heap.size 5 1 out (pl (l.take k)).length (bs (pl (l.take k))) ∧ Below w.heap.size w wr) (fun _ i _ => n - (intOf i).toNat)
  case atStart => exact ⟨0, by omega, rfl, own_nil _ _ _ _, Below.refl _ _⟩
  case round =>
    obtain ⟨k, hk, rfl, hown, hb⟩ := hrel
    by_cases hlt : k < n
    · obtain ⟨ad, u, rfl, _, hu, hc⟩ := (hr.below hb).at_ hlt
      obtain ⟨z, hz, rfl⟩ := zs_at hu
      have hz64 := HLL.out z (List.mem_of_getElem? hz)
      have hzg := (zg_int hz64).2
      have hvl := vb_length (zg z)
      have hpk := pl_length (l.take k)
      have htk : (l.take k).length ≤ k := List.length_take_le _ _
      have HS := Lib.hid (pl_step hz)
      clear hu hz
      go_wp2_with fail
      refine (refZigN_any z wr hz64).mono ?_
      rintro e w' ⟨rfl, rfl⟩
      go_wp2_with fail
      refine (refVar_any (zg z) wr hzg).mono ?_
      intro e2 w2 hN2
      obtain ⟨A2, c2, rfl, _, hr2, hb2⟩ := hN2.opened
      clear hN2
      have hown2 := own_below hown hb2
      have hb02 := hb.trans (hb2.mono hb.size)
      go_wp2_with (at_builtin
                   refine wpList_append_any _ rfl (.tmp 11) (.tmp 17) _ rfl w.heap.size 5 i0 _ 1 1 Tryz.underlying25 hi0 hz0 hz1 hz2 rfl (by omega) u3 (pl (l.take k)).length (bs (pl (l.take k))) rfl
                     hown2 w2.heap.size A2 (vb (zg z)).length c2 (bs (vb (zg z))) rfl hr2 (bs_one _) (by unfold maxLen; omega) (by omega) hb02.size ?_
                   intro v3 w3 hown3 hg3 hat3)
      go_round
      case rel =>
        refine ⟨k + 1, by omega, by go_num, ?_, hb02.grown hg3 hb02.size (fun j hj => (hown2.lt j hj).1)⟩
        rw [HS.out, List.length_append, bs_append]
        exact hown3
      case measure => simp [intOf]; omega
    · go_wp2_with fail
      go_ret
      obtain rfl : k = n := by omega
      rw [List.take_of_length_le (by rw [E1.out]; omega)] at hown
      exact ⟨_, rfl, hown, hb⟩
end Go.Proofs.YthlfplljbbnaoaaGreatDoor

/- The document's runs of numbers. -/
namespace Go.Proofs.YthlfplljbbnaoaaGreatDoor
open Go.RowKit
set_option linter.unusedVariables false
set_option linter.unusedSimpArgs false
set_option maxRecDepth 100000

theorem info_run : (Tryz.prog.info? 154).map (fun i => (i.zero, i.size, i.bytes)) = some (some (.agg #[.int .i64 0, .int .i64 0]), 2, 16) := by kernel_rfl
theorem reads_two (w : World) (u v : Value) (t : TypeId) : Reads (w.alloc (.cells #[u, v] t)) (w.heap.size + 1) 2 (some ⟨w.heap.size, 0, none⟩) 1 [u, v] :=
  ⟨by simp, fun _ => ⟨_, rfl, by simp, fun j z hz => by
    have hb := (Blk.new w t #[u, v]).cell j
    rw [plain_add, Nat.zero_add, hb]
    simpa using hz⟩⟩
set_option maxHeartbeats 1000000 in
theorem refRuns_any (A : Option Addr) (n c : Nat) (l : List Int) (w : World) (hr : Reads w w.heap.size 1 A n (zs l)) (hn : n ≤ 65536) :
    Calls Tryz.prog 124 #[.slice A n c] w fun e w' => ∃ v, e = .returned v ∧ w'.ownsRow w.heap.size 154 2 v (rc l) (rv (runs l)) ∧ Below w.heap.size w w' := by
  obtain ⟨i0, hi0, hz0, hz1, hz2⟩ := info_parts info_run
  have e1 : l.length = n := by have := hr.1; rw [zs_length] at this; omega
  have E1 := Lib.hid e1
  clear e1
  go_enter Tryz.func124, Tryz.ntmps124
  go_wp2_with fail
  go_loopw [3, 4] (fun out i wr => ∃ (k : Nat) (r : List (Int × Nat)), k ≤ n ∧ i = .int .i64 (k : Int) ∧ Hid (r = runs (l.take k)) ∧ r.length ≤ k ∧ wr.ownsRow w.heap.size 154 2 out r.length (rv r) ∧ Below w.heap.size w wr) (fun _ i _ => n - (intOf i).toNat)
  case atStart => exact ⟨0, [], by omega, rfl, Lib.hid rfl, Nat.le_refl _, own_nil _ _ _ _, Below.refl _ _⟩
  case round =>
    obtain ⟨k, r, hk, rfl, hR, hrk, hown, hb⟩ := hrel
    by_cases hlt : k < n
    · obtain ⟨ad, u, rfl, hadl, hu, hc⟩ := (hr.below hb).at_ hlt
      obtain ⟨x, hx, rfl⟩ := zs_at hu
      have HX := Lib.hid (take_snoc hx)
      clear hu hx
      rcases List.eq_nil_or_concat r with rfl | ⟨r', q, hrq⟩
      · have HN : Hid (Hid ([] ++ [(x, 1)] = runs (l.take (k + 1)))) := by
          have := runs_new (l := l.take k) (x := x) (by rw [← hR.out]; simp)
          rw [HX.out, this, ← hR.out]
          exact Lib.hid (Lib.hid rfl)
        obtain ⟨A0, c0, rfl, _, _, _⟩ := own_slice hown
        go_wp2_with fail
        go_quiet (fail)
        have hownq : ((wr.drewN nq).alloc (.cells #[.int .i64 x, .int .i64 1] 154)).ownsRow w.heap.size 154 2 (.slice A0 0 c0) 0 (rv []) := World.ownsRow.alloc (w := wr.drewN nq) hown _
        have hbq : Below w.heap.size w (wr.drewN nq) := (Drawn.one wr nq).below hb
        have hsz := hb.size
        clear hadl
        go_wp2_with (at_builtin
                     refine wpList_append_any _ rfl (.tmp 38) (.tmp 44) _ rfl w.heap.size 154 i0 _ 2 16 Tryz.underlying151 hi0 hz0 hz1 hz2 rfl (by omega) (.slice A0 0 c0) 0 (rv []) rfl
                       hownq (wr.heap.size + 1) (some ⟨wr.heap.size, 0, none⟩) 1 1 [.int .i64 x, .int .i64 1] rfl (reads_two _ _ _ _) (by simp [Value.oneCell']) (by unfold maxLen; omega) (by omega) (by simp; omega) ?_
                     intro v3 w3 hown3 hg3 hat3)
        go_round
        case rel =>
          refine ⟨k + 1, [] ++ [(x, 1)], by omega, by go_num, HN.out, by simp; try omega, ?_, (hbq.alloc hbq.size _).grown hg3 (by simp; omega) (fun j hj => (hownq.lt j hj).1)⟩
          rw [rv_append, List.length_append]
          exact hown3
        case measure => simp [intOf]; omega
      · rw [List.concat_eq_append] at hrq
        subst hrq
        obtain ⟨y, m⟩ := q
        have hrl : (r' ++ [(y, m)]).length = r'.length + 1 := by simp
        rw [hrl] at hown hrk
        obtain ⟨g, cap, rfl, hgB⟩ : ∃ g cap, u3 = .slice (some ⟨g, 0, none⟩) (r'.length + 1) cap ∧ w.heap.size ≤ g := by
          rcases hown.2 with ⟨_, h0⟩ | ⟨g, cap, cur, rfl, h1, _⟩
          · omega
          · exact ⟨g, cap, rfl, h1⟩
        have hat := rv_at (r := r' ++ [(y, m)]) (k := r'.length) (x := y) (m := m) (by simp)
        have c1 := hown.cellAt (r'.length * 2) (by omega)
        have c2 := hown.cellAt (r'.length * 2 + 1) (by omega)
        rw [hat.1] at c1
        rw [hat.2] at c2
        have f2 := hown.frozenAt (r'.length * 2 + 1)
        obtain ⟨q, hq⟩ : ∃ q, r'.length = q := ⟨_, rfl⟩
        rw [hq] at hown hrk c1 c2 f2 hrl ⊢
        have hw1 : IntKind.i64.wrap (q : Int) = (q : Int) := IntWalk.i64_in _ (by omega)
        have HQ := Lib.hid hq
        clear hat hq
        by_cases hxy : y = x
        · subst hxy
          have hst := hown.stored (q * 2 + 1) (.int .i64 ((m + 1 : Nat) : Int))
          rw [← HQ.out, rv_last, HQ.out] at hst
          have HN := Lib.hid (runs_more (l := l.take k) (x := y) hR.out.symm)
          have hm : m ≤ 65536 := by
            have := (run_at (l := l.take k) (k := q) (x := y) (n := m) (by rw [← hR.out, ← HQ.out]; simp)).2.1
            rw [List.length_take] at this
            omega
          rw [show ((m + 1 : Nat) : Int) = (m : Int) + 1 by omega] at hst
          have HST := Lib.hid hst
          clear hst
          go_wp2_with fail
          go_quiet (fail)
          go_wp2_with fail
          refine ⟨⟨k + 1, r' ++ [(y, m + 1)], by omega, by go_num, Lib.hid (by rw [HX.out, HN.out]), by rw [List.length_append, HQ.out, List.length_singleton]; omega, ?_, ((Drawn.one wr nq).below hb).setCell (p := ⟨g, q * 2 + 1, none⟩) hgB _⟩, by simp [intOf]; omega⟩
          rw [List.length_append, HQ.out, List.length_singleton]
          exact HST.out.1
        · have g2 : (y == x) = false := by simp [hxy]
          have HN : Hid (Hid ((r' ++ [(y, m)]) ++ [(x, 1)] = runs (l.take (k + 1)))) := by
            have := runs_new (l := l.take k) (x := x) (by rw [← hR.out]; simpa using hxy)
            rw [HX.out, this, ← hR.out]
            exact Lib.hid (Lib.hid rfl)
          go_wp2_with fail
          go_quiet (fail)
          have hownq : ((wr.drewN nq).alloc (.cells #[.int .i64 x, .int .i64 1] 154)).ownsRow w.heap.size 154 2 (.slice (some ⟨g, 0, none⟩) (q + 1) cap) (q + 1) (rv (r' ++ [(y, m)])) := World.ownsRow.alloc (w := wr.drewN nq) hown _
          have hbq : Below w.heap.size w (wr.drewN nq) := (Drawn.one wr nq).below hb
          have hsz := hb.size
          clear hadl
          go_wp2_with (at_builtin
                       refine wpList_append_any _ rfl (.tmp 38) (.tmp 44) _ rfl w.heap.size 154 i0 _ 2 16 Tryz.underlying151 hi0 hz0 hz1 hz2 rfl (by omega) (.slice (some ⟨g, 0, none⟩) (q + 1) cap) (q + 1) (rv (r' ++ [(y, m)])) rfl
                         hownq (wr.heap.size + 1) (some ⟨wr.heap.size, 0, none⟩) 1 1 [.int .i64 x, .int .i64 1] rfl (reads_two _ _ _ _) (by simp [Value.oneCell']) (by unfold maxLen; omega) (by omega) (by simp; omega) ?_
                       intro v3 w3 hown3 hg3 hat3)
          go_round
          case rel =>
            refine ⟨k + 1, (r' ++ [(y, m)]) ++ [(x, 1)], by omega, by go_num, HN.out, by rw [List.length_append, hrl, List.length_singleton]; omega, ?_, (hbq.alloc hbq.size _).grown hg3 (by simp; omega) (fun j hj => (hownq.lt j hj).1)⟩
            rw [rv_append, List.length_append, hrl]
            exact hown3
          case measure => simp [intOf]; omega
    · obtain rfl : k = n := by omega
      go_wp2_with fail
      go_ret
      rw [hR.out, List.take_of_length_le (by rw [E1.out]; omega)] at hown
      exact ⟨_, rfl, hown, hb⟩
end Go.Proofs.YthlfplljbbnaoaaGreatDoor

/- The document's form of runs. -/
namespace Go.Proofs.YthlfplljbbnaoaaGreatDoor
open Go.RowKit
set_option linter.unusedVariables false
set_option linter.unusedSimpArgs false
set_option maxRecDepth 100000

theorem refZigR_any (z : Int) (w : World) (h : In64 z) : Calls Tryz.prog 123 #[.int .i64 z] w fun e w' => e = .returned (.int .u64 (zg z : Int)) ∧ w = w' := by
  rw [← (zg_int h).1]; exact refZig_any z w h.1 h.2
theorem reads_plain2 {w : World} {B size n k : Nat} {A : Option Addr} {xs : List Value} {u : Value} (h : Reads w B size A n xs) (hn : 0 < n) (hu : xs[k]? = some u) : ∃ b off, A = some ⟨b, off, none⟩ ∧ b < B ∧ ∀ j u, xs[j]? = some u → w.cell? ⟨b, off + j, none⟩ = some u := by
  obtain ⟨⟨b, off, sp⟩, rfl, hb, hc⟩ := h.2 hn
  have hl : 0 < xs.length := by have := (List.getElem?_eq_some_iff.1 hu).1; omega
  have h0 := hc 0 _ (List.getElem?_eq_getElem hl)
  have hsp : sp = none := by simpa [Addr.add] using World.cell?_spot h0
  subst hsp
  exact ⟨b, off, rfl, hb, fun j u hu => by have := hc j u hu; rwa [plain_add] at this⟩
set_option maxHeartbeats 1000000 in
theorem refRnPut_any (A : Option Addr) (n c : Nat) (l : List Int) (w : World) (hr : Reads w w.heap.size 1 A n (zs l)) (hl : ∀ z ∈ l, In64 z) (hn : n ≤ 65536) :
    Calls Tryz.prog 64 #[.slice A n c] w (New w (bs (rf (runs l))) (rf (runs l)).length) := by
  obtain ⟨i0, hi0, hz0, hz1, hz2⟩ := info_parts info_u8
  have e1 : l.length = n := by have := hr.1; rw [zs_length] at this; omega
  have hrc := rc_le l
  rw [e1] at hrc
  have E1 := Lib.hid e1; have HLL := Lib.hid hl
  clear e1 hl
  go_enter Tryz.func64, Tryz.ntmps64
  go_wp2_with fail
  refine (refRuns_any A n c l w hr hn).mono ?_
  rintro e w1 ⟨v1, rfl, hown1, hb1⟩
  obtain ⟨A1, c1, rfl, _, _, hr1⟩ := own_slice hown1
  have hs1 := hb1.size
  have HR1 := Lib.hid hr1
  clear hown1 hr1
  go_wp2_with fail
  go_loopw [3, 5] (fun out i wr => ∃ k : Nat, k ≤ rc l ∧ i = .int .i64 (k : Int) ∧ wr.ownsRow w1.heap.size 5 1 out (rf ((runs l).take k)).length (bs (rf ((runs l).take k))) ∧ Below w1.heap.size w1 wr) (fun _ i _ => rc l - (intOf i).toNat)
  case atStart => exact ⟨0, by omega, rfl, own_nil _ _ _ _, Below.refl _ _⟩
  case round =>
    obtain ⟨k, hk, rfl, hown, hb⟩ := hrel
    by_cases hlt : k < rc l
    · obtain ⟨x, m, hat⟩ : ∃ x m, (runs l)[k]? = some (x, m) := ⟨_, _, List.getElem?_eq_getElem hlt⟩
      obtain ⟨hm0, hle, hall, _⟩ := run_at hat
      rw [E1.out] at hle
      have hx64 : In64 x := HLL.out x (List.mem_of_getElem? (hall 0 hm0))
      have hxg := (zg_int hx64).2
      obtain ⟨hv1, hv2⟩ := rv_at hat
      obtain ⟨b, off, rfl, hbB, hcell⟩ := reads_plain2 HR1.out (by omega) hv1
      have hcm : ∀ W : World, Below w1.heap.size w1 W → W.cell? ⟨b, off + k * 2 + 1, none⟩ = some (.int .i64 (m : Int)) ∧ W.cell? ⟨b, off + k * 2, none⟩ = some (.int .i64 x) := fun W hW =>
        ⟨(hW.cell (p := ⟨b, off + k * 2 + 1, none⟩) hbB).trans (hcell _ _ hv2), (hW.cell (p := ⟨b, off + k * 2, none⟩) hbB).trans (hcell _ _ hv1)⟩
      have HCM := Lib.hid hcm
      obtain ⟨cm1, _⟩ := hcm wr hb
      have hm1 : (m : Int) - 1 = ((m - 1 : Nat) : Int) := by omega
      have hw1 : IntKind.i64.wrap ((m - 1 : Nat) : Int) = ((m - 1 : Nat) : Int) := IntWalk.i64_in _ (by omega)
      have hw2 : IntKind.u64.wrap ((m - 1 : Nat) : Int) = ((m - 1 : Nat) : Int) := IntWalk.u64_in _ (by omega)
      have hv64 : m - 1 < 18446744073709551616 := by omega
      have hvm := vb_length (m - 1)
      have hvx := vb_length (zg x)
      have hrl := rf_length ((runs l).take k)
      have htk : ((runs l).take k).length ≤ k := List.length_take_le _ _
      have HS := Lib.hid (rf_step hat)
      clear hv1 hv2 hcell hall hat hcm hle
      go_wp2_with fail
      refine (refVar_any (m - 1) wr hv64).mono ?_
      intro e2 w2 hN2
      obtain ⟨A2, c2, rfl, _, hr2, hb2⟩ := hN2.opened
      clear hN2
      have hown2 := own_below hown hb2
      have hb02 := hb.trans (hb2.mono hb.size)
      go_wp2_with (at_builtin
                   refine wpList_append_any _ rfl (.tmp 14) (.tmp 22) _ rfl w1.heap.size 5 i0 _ 1 1 Tryz.underlying25 hi0 hz0 hz1 hz2 rfl (by omega) u3 (rf ((runs l).take k)).length (bs (rf ((runs l).take k))) rfl
                     hown2 w2.heap.size A2 (vb (m - 1)).length c2 (bs (vb (m - 1))) rfl hr2 (bs_one _) (by unfold maxLen; omega) (by omega) hb02.size ?_
                   intro v3 w3 hown3 hg3 hat3
                   obtain ⟨A3, c3, rfl, _, _, _⟩ := own_slice hown3
                   have hb03 := hb02.grown hg3 hb02.size (fun j hj => (hown2.lt j hj).1)
                   obtain ⟨_, cx3⟩ := HCM.out w3 hb03)
      rw [← bs_append, ← List.length_append] at hown3
      have hyl : (rf ((runs l).take k) ++ vb (m - 1)).length ≤ 20 * k + 10 := by rw [List.length_append]; omega
      refine (refZigR_any x w3 hx64).mono ?_
      rintro e w' ⟨rfl, rfl⟩
      go_wp2_with fail
      refine (refVar_any (zg x) w3 hxg).mono ?_
      intro e4 w4 hN4
      obtain ⟨A4, c4, rfl, _, hr4, hb4⟩ := hN4.opened
      clear hN4
      have hown4 := own_below hown3 hb4
      have hb04 := hb03.trans (hb4.mono hb03.size)
      rw [List.length_append] at hown4 hyl
      go_wp2_with (at_builtin
                   refine wpList_append_any _ rfl (.tmp 24) (.tmp 31) _ rfl w1.heap.size 5 i0 _ 1 1 Tryz.underlying25 hi0 hz0 hz1 hz2 rfl (by omega) (.slice A3 ((rf ((runs l).take k)).length + (vb (m - 1)).length) c3) ((rf ((runs l).take k)).length + (vb (m - 1)).length) (bs (rf ((runs l).take k) ++ vb (m - 1))) rfl
                     hown4 w4.heap.size A4 (vb (zg x)).length c4 (bs (vb (zg x))) rfl hr4 (bs_one _) (by unfold maxLen; omega) (by omega) hb04.size ?_
                   intro v5 w5 hown5 hg5 hat5)
      go_round
      case rel =>
        refine ⟨k + 1, by omega, by go_num, ?_, hb04.grown hg5 hb04.size (fun j hj => (hown4.lt j hj).1)⟩
        rw [HS.out, ← List.append_assoc, List.length_append, List.length_append, bs_append (_ ++ _)]
        exact hown5
      case measure => simp [intOf]; omega
    · obtain rfl : k = rc l := by omega
      go_wp2_with fail
      go_ret
      rw [show (runs l).take (rc l) = runs l from List.take_of_length_le (Nat.le_refl _)] at hown
      exact ⟨_, rfl, own_base hown hs1, hb1.trans (hb.mono hs1)⟩
end Go.Proofs.YthlfplljbbnaoaaGreatDoor

/- The document's steps. -/
namespace Go.Proofs.YthlfplljbbnaoaaGreatDoor
open Go.RowKit
set_option linter.unusedVariables false
set_option linter.unusedSimpArgs false
set_option maxRecDepth 100000

theorem stp_take (l : List Int) (k : Nat) (z : Int) (h : l[k]? = some z) : (stp 0 l).take (k + 1) = (stp 0 l).take k ++ [wrap64 (z - ahd 0 l k)] := by
  rw [List.take_add_one, stp_at l 0 k z h]; rfl
set_option maxHeartbeats 2000000 in
theorem refSteps_any (A : Option Addr) (n c : Nat) (l : List Int) (w : World) (hr : Reads w w.heap.size 1 A n (zs l)) (hl : ∀ z ∈ l, In64 z) (hnc : n ≤ c) (hn : n ≤ 65536) :
    Calls Tryz.prog 125 #[.slice A n c] w fun e w' => ∃ v, e = .returned v ∧ w'.ownsRow w.heap.size 2 1 v n (zs (stp 0 l)) ∧ Below w.heap.size w w' := by
  obtain ⟨i1, hi1, hy0, hy1, hy2⟩ := info_parts info_i64
  have e1 : l.length = n := by have := hr.1; rw [zs_length] at this; omega
  have E1 := Lib.hid e1; have HL := Lib.hid hl
  clear e1 hl
  go_enter Tryz.func125, Tryz.ntmps125
  go_wp2_with fail
  go_loopw [3, 4] (fun out i wr => ∃ k : Nat, k ≤ n ∧ i = .int .i64 (k : Int) ∧ wr.ownsRow w.heap.size 2 1 out k (zs ((stp 0 l).take k)) ∧ Below w.heap.size w wr) (fun _ i _ => n - (intOf i).toNat)
  case atStart => exact ⟨0, by omega, rfl, own_nil _ _ _ _, Below.refl _ _⟩
  case round =>
    obtain ⟨k, hk, rfl, hown, hb⟩ := hrel
    have hrb := hr.below hb
    by_cases hlt : k < n
    · obtain ⟨ad, u, rfl, _, hu, hc⟩ := hrb.at_ hlt
      obtain ⟨z, hz, rfl⟩ := zs_at hu
      have HS := Lib.hid (stp_take l k z hz)
      have HIN := Lib.hid (HL.out z (List.mem_of_getElem? hz))
      have hsz := hb.size
      rcases Nat.eq_zero_or_pos k with h0 | h0
      · subst h0
        have hc0 : wr.cell? ad = some (.int .i64 z) := by simpa [Addr.add] using hc
        clear hu hz hc
        go_wp2_with (at_builtin
                     refine wpList_append_any _ rfl (.tmp 13) (.tmp 17) _ rfl w.heap.size 2 i1 _ 1 8 Tryz.underlying87 hi1 hy0 hy1 hy2 rfl (by omega) u3 0 (zs ((stp 0 l).take 0)) rfl
                       (hown.alloc _) (wr.heap.size + 1) (some ⟨wr.heap.size, 0, none⟩) 1 1 [.int .i64 z] rfl (Reads.new wr _ _) (one_int _ _) (by unfold maxLen; omega) (by omega) (by simp; omega) ?_
                     intro v4 w4 hown4 hg4 hat4)
        go_round
        case rel =>
          refine ⟨1, by omega, by go_num, ?_, below_app hb hown hsz hg4⟩
          rw [show (1 : Nat) = 0 + 1 from rfl, HS.out, ← zs_snoc, show z - ahd 0 l 0 = z by rw [ahd_zero]; omega, w64_id HIN.out]
          exact hown4
        case measure => simp [intOf]; omega
      · obtain ⟨j, hj⟩ : ∃ j, k = j + 1 := ⟨k - 1, by omega⟩
        obtain ⟨ad', u', e', _, hu', hp⟩ := hrb.at_ (show j < n by omega)
        injection e' with e'
        subst e'
        obtain ⟨y, hy, rfl⟩ := zs_at hu'
        have HA := Lib.hid (ahd_succ (p := 0) hy)
        clear hu hz hu' hy
        have q0 : ((k : Int) == 0) = false := by simp; omega
        have f1 : (k : Int) - 1 = (j : Int) := by omega
        have f2 : IntKind.i64.wrap (j : Int) = (j : Int) := IntWalk.i64_in _ (by omega)
        have f3 : j < n := by omega
        rw [← hj] at HA
        have HJ := Lib.hid hj
        clear hj
        go_wp2_with fail
        go_region_law (first
          | (refine step_append_any _ rfl (.tmp 19) (.tmp 30) _ rfl w.heap.size 2 i1 _ 1 8 Tryz.underlying87 hi1 hy0 hy1 hy2 rfl (by omega) u3 k (zs ((stp 0 l).take k)) (by simp [Act.eval, Act.put])
              ((show wr.drew.ownsRow _ _ _ _ _ _ from hown).alloc _) (wr.heap.size + 1) (some ⟨wr.heap.size, 0, none⟩) 1 1 [.int .i64 (IntKind.i64.wrap (z - y))] (by simp [Act.eval, Act.put]) (by exact (Reads.new wr (.int .i64 (IntKind.i64.wrap (z - y))) 2).drew) (one_int _ _) (by unfold maxLen; omega) (by omega) (by simp; omega) ?_
             intro v4 w4 hown4 hg4 hat4))
        all_goals
          go_wp2_with fail
          go_round
          case rel =>
            refine ⟨k + 1, by omega, by go_num, ?_, below_app hb hown hsz (show (wr.alloc _).grownBy w4 _ from ⟨hg4.os, hg4.tape, hg4.output, hg4.size, hg4.block⟩)⟩
            rw [HS.out, ← zs_snoc, HA.out, ← IntWalk.i64_left]
            exact hown4
          case measure => simp [intOf]; omega
    · go_wp2_with fail
      go_ret
      obtain rfl : k = n := by omega
      rw [List.take_of_length_le (by rw [stp_length, E1.out]; omega)] at hown
      exact ⟨_, rfl, hown, hb⟩
end Go.Proofs.YthlfplljbbnaoaaGreatDoor

/- Plain facts on a number's bits. No program. -/
namespace Go.Proofs.YthlfplljbbnaoaaGreatDoor
open Go.RowKit
set_option linter.unusedVariables false
set_option linter.unusedSimpArgs false
set_option maxRecDepth 100000

def bitB (v k : Nat) : Bool := decide (v / 2 ^ k % 2 = 1)
theorem bitB_digit (w : Nat) (l : List Nat) (h : ∀ a ∈ l, a < 2 ^ w) (i k v : Nat) (hi : l[i]? = some v) (hk : k < w) : bitB v k = bitB (pk w l) (i * w + k) := by
  obtain ⟨hl, rfl⟩ := List.getElem?_eq_some_iff.1 hi
  unfold bitB
  rw [Nat.mul_comm i w, pk_bit w l h i k hl hk]
theorem bitB_val (V j : Nat) : V / 2 ^ j % 2 = if bitB V j = true then 1 else 0 := by
  unfold bitB
  by_cases h : V / 2 ^ j % 2 = 1
  · simp [h]
  · simp [h]; omega
end Go.Proofs.YthlfplljbbnaoaaGreatDoor

/- The document's least width of numbers. No condition beside the list's length. -/
namespace Go.Proofs.YthlfplljbbnaoaaGreatDoor
open Go.RowKit
set_option linter.unusedVariables false
set_option linter.unusedSimpArgs false
set_option maxRecDepth 100000

theorem refWidth_any (A : Option Addr) (n c : Nat) (l : List Nat) (w : World) (hr : Reads w w.heap.size 1 A n (us l)) (hl : ∀ a ∈ l, a < 18446744073709551616) (hn : n ≤ 140737488355328) :
    Calls Tryz.prog 126 #[.slice A n c] w fun e w' => e = .returned (.int .i64 (wd l : Int)) ∧ w = w' := by
  have e1 : l.length = n := by have := hr.1; rw [us_length] at this; omega
  have hd64 : ∀ k, wd (l.take k) ≤ 64 := fun k => (wd_le _ 64).2 (by intro a ha; have := hl a (List.mem_of_mem_take ha); omega)
  have E1 := Lib.hid e1; clear e1
  have HD := Lib.hid hd64; clear hd64
  have HL := Lib.hid hl; clear hl
  go_enter Tryz.func126, Tryz.ntmps126
  go_wp2_with fail
  go_loop [3, 4] (fun s3 s4 => ∃ k m : Nat, k ≤ n ∧ s4 = .int .i64 (k : Int) ∧ s3 = .int .i64 (m : Int) ∧ Hid (m = wd (l.take k))) (fun _ i => n - (intOf i).toNat)
  case atStart => exact ⟨0, 0, Nat.zero_le _, rfl, rfl, Lib.hid rfl⟩
  case round =>
    obtain ⟨k, m, hk, rfl, rfl, hm⟩ := hrel
    have hm64 : m ≤ 64 := by rw [hm.out]; exact HD.out k
    by_cases hlt : k < n
    · obtain ⟨ad, u, rfl, _, hu, hc⟩ := hr.at_ hlt
      obtain ⟨b, hb, rfl⟩ := us_at hu
      have HB := Lib.hid hb
      clear hb hu
      have hb64 : b < 18446744073709551616 := HL.out b (List.mem_of_getElem? HB.out)
      go_wp2_with fail
      go_loop [5, 6] (fun s5 s6 => ∃ j v : Nat, s5 = .int .i64 (j : Int) ∧ s6 = .int .u64 (v : Int) ∧ j ≤ 64 ∧ v < 18446744073709551616 ∧ Hid (j + blen v = blen b)) (fun _ i => (intOf i).toNat)
      case atStart => exact ⟨0, b, rfl, rfl, by omega, hb64, Lib.hid (by omega)⟩
      case round =>
        obtain ⟨j, v, rfl, rfl, hj, hv64, hjv⟩ := hrel
        by_cases h0 : 0 < v
        · have hbh := blen_half v h0
          have hbb := blen_lt64 b hb64
          have hj63 : j < 64 := by have := hjv.out; omega
          have HBH := Lib.hid hbh; clear hbh hbb
          go_wp2_with fail
          go_round
          case rel => exact ⟨j + 1, v / 2, by go_num, rfl, by omega, by omega, Lib.hid (by have := hjv.out; have := HBH.out; omega)⟩
          case measure => simp [intOf]; omega
        · obtain rfl : v = 0 := by omega
          go_wp2_with fail
          go_round
          case rel =>
            refine ⟨k + 1, max m j, by omega, by go_num, by go_num, Lib.hid ?_⟩
            have e : l.take (k + 1) = l.take k ++ [b] := by rw [List.take_add_one, HB.out]; rfl
            rw [e, wd_snoc, ← hm.out]
            have := hjv.out
            have h00 : blen 0 = 0 := rfl
            congr 1
          case measure => simp [intOf]; omega
    · obtain rfl : k = n := by omega
      go_wp2_with fail
      go_ret
      refine ⟨ret_of (congrArg (Value.int .i64) ?_), rfl⟩
      rw [hm.out, List.take_of_length_le (by rw [E1.out]; omega)]
end Go.Proofs.YthlfplljbbnaoaaGreatDoor

/- Contracts of the document's answers for layer 2: bit, Size. No condition beside the list's length. -/
namespace Go.Proofs.YthlfplljbbnaoaaGreatDoor
open Go.RowKit
set_option linter.unusedVariables false
set_option linter.unusedSimpArgs false
set_option maxRecDepth 100000

theorem bit_any (v : Nat) (kI : Int) (k : Nat) (hk : kI = (k : Int)) (w : World) (hv : v < 18446744073709551616) (h64 : k < 64) :
    Calls Tryz.prog 160 #[.int .u64 (v : Int), .int .i64 kI] w fun e w' => e = .returned (.bool (bitB v k)) ∧ w = w' := by
  subst hk
  go_enter Tryz.func160, Tryz.ntmps160
  go_wp2_with fail
  go_ret
  refine ⟨ret_of (congrArg Value.bool ?_), rfl⟩
  have e : (v : Int) / 2 ^ k = ((v / 2 ^ k : Nat) : Int) := by push_cast; rfl
  unfold bitB
  rw [e]
  generalize v / 2 ^ k = y
  rw [Int.tmod_eq_emod_of_nonneg (by omega), Bool.eq_iff_iff]
  simp
  omega

theorem refSize_any (n w : Int) (W : World) (hn : -9223372036854775808 ≤ n ∧ n ≤ 9223372036854775807) (hw : -9223372036854775808 ≤ w ∧ w ≤ 9223372036854775807) :
    Calls Tryz.prog 159 #[.int .i64 n, .int .i64 w] W fun e w' => e = .returned (.int .i64 (szI n w)) ∧ W = w' := by
  by_cases h : 0 ≤ n ∧ n ≤ 65536 ∧ 0 ≤ w ∧ w ≤ 64
  · have hz : szI n w = (sz n.toNat w.toNat : Int) := by unfold szI; rw [if_pos h]
    have HZ := Lib.hid hz; clear hz
    obtain ⟨h1, h2, h3, h4⟩ := h
    obtain ⟨n, rfl⟩ := Int.eq_ofNat_of_zero_le h1
    obtain ⟨w, rfl⟩ := Int.eq_ofNat_of_zero_le h3
    have hs := sz_small n w (by omega) (by omega)
    have hs2 : (n : Int) * (w : Int) ≤ 4194304 := by rw [← Int.natCast_mul]; omega
    have hs3 : 0 ≤ (n : Int) * (w : Int) := by rw [← Int.natCast_mul]; omega
    by_cases h8 : 8 * ((n : Int) * (w : Int) / 8) < (n : Int) * (w : Int)
    all_goals
      go_enter Tryz.func159, Tryz.ntmps159
      go_wp2_with fail
      go_ret
      refine ⟨ret_of (congrArg (Value.int .i64) ?_), rfl⟩
      rw [HZ.out]
      unfold sz
      simp
      omega
  · have hz : szI n w = -1 := by unfold szI; rw [if_neg h]
    have HZ := Lib.hid hz; clear hz
    by_cases h1 : n < 0
    · clear h
      go_enter Tryz.func159, Tryz.ntmps159
      go_wp2_with fail
      go_ret
      exact ⟨ret_of (congrArg (Value.int .i64) HZ.out.symm), rfl⟩
    · by_cases h2 : 65536 < n
      · clear h
        go_enter Tryz.func159, Tryz.ntmps159
        go_wp2_with fail
        go_ret
        exact ⟨ret_of (congrArg (Value.int .i64) HZ.out.symm), rfl⟩
      · by_cases h3 : w < 0
        · clear h
          go_enter Tryz.func159, Tryz.ntmps159
          go_wp2_with fail
          go_ret
          exact ⟨ret_of (congrArg (Value.int .i64) HZ.out.symm), rfl⟩
        · have h4 : 64 < w := by omega
          clear h
          go_enter Tryz.func159, Tryz.ntmps159
          go_wp2_with fail
          go_ret
          exact ⟨ret_of (congrArg (Value.int .i64) HZ.out.symm), rfl⟩
end Go.Proofs.YthlfplljbbnaoaaGreatDoor

/- Contract of the document's Pack: the bytes, or the error's number. No condition beside the list's length. -/
namespace Go.Proofs.YthlfplljbbnaoaaGreatDoor
open Go.RowKit
set_option linter.unusedVariables false
set_option linter.unusedSimpArgs false
set_option maxRecDepth 100000

theorem info_boolP : (Tryz.prog.info? 4).map (fun i => (i.zero, i.size, i.bytes)) = some (some (.bool false), 1, 1) := by kernel_rfl
/-- The lowest bits of a number, as values. -/
def bitL (m V : Nat) : List Value := (List.range m).map fun j => Value.bool (bitB V j)
theorem bitL_snoc (m V : Nat) : bitL (m + 1) V = bitL m V ++ [Value.bool (bitB V m)] := by simp [bitL, List.range_succ]
theorem bitL_length (m V : Nat) : (bitL m V).length = m := by simp [bitL]
theorem bitL_at (m V j : Nat) (h : j < m) : (bitL m V)[j]? = some (Value.bool (bitB V j)) := by simp [bitL, h]
theorem one_boolP (b : Bool) : ∀ u ∈ [Value.bool b], u.oneCell' = true := by intro u hu; simp at hu; rw [hu]; rfl
set_option maxHeartbeats 2000000 in
theorem refPack_ok (A : Option Addr) (n c : Nat) (l : List Nat) (wd' : Nat) (w : World) (hr : Reads w w.heap.size 1 A n (us l)) (hl : ∀ a ∈ l, a < 18446744073709551616) (hn : n ≤ 65536) (hw : wd' ≤ 64) (hd : wd l ≤ wd') :
    Calls Tryz.prog 127 #[.slice A n c, .int .i64 (wd' : Int)] w (NewE w (packB wd' l) 0) := by
  obtain ⟨i0, hi0, hz0, hz1, hz2⟩ := info_parts info_u8
  obtain ⟨ib, hib, hx0, hx1, hx2⟩ := info_parts info_boolP
  have e1 : l.length = n := by have := hr.1; rw [us_length] at this; omega
  have hs := sz_small n wd' hn hw
  have hsz : sz n wd' ≤ 524289 := by unfold sz; omega
  have hz : szI (n : Int) (wd' : Int) = (sz n wd' : Int) := by unfold szI; rw [if_pos (by omega)]; simp
  have hlw := (wd_le l wd').1 hd
  have hNlt : pk wd' l < 2 ^ (n * wd') := by have := pk_lt wd' l hlw; rw [e1, Nat.mul_comm] at this; exact this
  have hPB : packB wd' l = dg 8 (sz n wd') (pk wd' l) := by unfold packB; rw [e1]
  have hdI : decide (wd' < wd l) = false := decide_eq_false (by omega)
  have hszB : decide ((sz n wd' : Int) < 0) = false := decide_eq_false (by omega)
  obtain ⟨N, hN⟩ : ∃ N, N = pk wd' l := ⟨_, rfl⟩
  have HP := Lib.hid (And.intro hPB (And.intro hNlt (And.intro hN e1)))
  have HLW := Lib.hid hlw
  have HL := Lib.hid hl
  have HZ := Lib.hid hz
  clear hPB hNlt hN hlw hz
  go_enter Tryz.func127, Tryz.ntmps127
  go_wp2_with fail
  refine (refSize_any (n : Int) (wd' : Int) _ (by omega) (by omega)).mono ?_
  rintro e w' ⟨rfl, rfl⟩
  rw [HZ.out]
  go_wp2_with fail
  refine (refWidth_any A n c l _ hr hl (by omega)).mono ?_
  rintro e w' ⟨rfl, rfl⟩
  clear hl e1
  go_wp2_with fail
  go_loopg [7, 8, 9] n (fun g s7 s8 s9 wr => ∃ i : Nat, i + g = n ∧ s8 = .int .i64 (i : Int) ∧ wr.ownsRow w.heap.size 4 1 s7 (i * wd') (bitL (i * wd') N) ∧ Below w.heap.size w wr)
  case atStart => exact ⟨0, by omega, rfl, by rw [Nat.zero_mul]; exact own_nil _ _ _ _, Below.refl _ _⟩
  case round =>
    obtain ⟨i, hig, rfl, hown, hbl⟩ := hrel
    cases gk with
    | succ g =>
      have hlt : i < n := by omega
      have hrk := hr.below hbl
      obtain ⟨ad, u, rfl, had, hu, hc⟩ := hrk.at_ hlt
      obtain ⟨v0, hb, rfl⟩ := us_at hu
      have HB := Lib.hid hb
      clear hb hu
      have hv64 : v0 < 18446744073709551616 := HL.out v0 (List.mem_of_getElem? HB.out)
      have hiw : (i + 1) * wd' ≤ n * wd' := Nat.mul_le_mul_right _ (by omega)
      have hiw2 : (i + 1) * wd' = i * wd' + wd' := Nat.succ_mul _ _
      have HI := Lib.hid hiw2; clear hiw2
      go_wp2_with fail
      go_loopg [7, 9] wd' (fun g2 s7 s9 wy => ∃ k : Nat, k + g2 = wd' ∧ s9 = .int .i64 (k : Int) ∧ wy.ownsRow w.heap.size 4 1 s7 (i * wd' + k) (bitL (i * wd' + k) N) ∧ Below w.heap.size w wy)
      case atStart => exact ⟨0, by omega, rfl, hown, hbl⟩
      case round =>
        clear hown hc hrk hbl
        obtain ⟨k, hkg, rfl, hown, hbl⟩ := hrel
        cases gk with
        | succ g2 =>
          have hkw : k < wd' := by omega
          have hc : wr.cell? (ad.add i) = some (.int .u64 (v0 : Int)) := by
            have hrk := hr.below hbl
            obtain ⟨ad', u', e1, _, hu, hc⟩ := hrk.at_ hlt
            obtain rfl : ad = ad' := Option.some.inj e1
            obtain ⟨v1, hb, rfl⟩ := us_at hu
            obtain rfl : v0 = v1 := by have := HB.out; rw [hb] at this; exact (Option.some.inj this).symm
            exact hc
          have hzw := hbl.size
          have hbd : i * wd' + k ≤ 4194304 := by have := HI.out; omega
          go_wp2_with (first
            | (go_at_call 160; refine (bit_any v0 _ k rfl _ hv64 (by omega)).mono ?_; rintro e w' ⟨rfl, rfl⟩)
            | (at_builtin
               refine wpList_append_any _ rfl (.tmp 35) (.tmp 42) _ rfl w.heap.size 4 ib _ 1 1 Tryz.underlying86 hib hx0 hx1 hx2 rfl (by omega) u7 (i * wd' + k) (bitL (i * wd' + k) N) rfl
                 (hown.alloc _) (wr.heap.size + 1) (some ⟨wr.heap.size, 0, none⟩) 1 1 [.bool (bitB v0 k)] rfl (Reads.new wr _ _) (one_boolP _) (by unfold maxLen; omega) (by omega) (by simp; omega) ?_
               intro v2 w2 hown2 hg2' hat2))
          go_roundg g2
          case measure => omega
          case rel =>
            refine ⟨k + 1, by omega, by go_num, ?_, below_app hbl hown hzw hg2'⟩
            rw [← Nat.add_assoc, bitL_snoc, HP.out.2.2.1, ← bitB_digit wd' l HLW.out i k v0 HB.out hkw, ← HP.out.2.2.1]
            exact hown2
        | zero =>
          obtain rfl : k = wd' := by omega
          go_wp2_with fail
          go_roundg g
          case measure => omega
          case rel => exact ⟨i + 1, by omega, by go_num, by rw [HI.out]; exact hown, hbl⟩
    | zero =>
      obtain rfl : n = i := by omega
      obtain ⟨A7, c7, rfl, _, _, r7⟩ := own_slice hown
      have hzw := hbl.size
      obtain ⟨w1, rfl⟩ : ∃ w1 : World, w1 = wr := ⟨_, rfl⟩
      go_wp2_with fail
      go_loopg [10, 11, 12, 13] (sz n wd') (fun g s10 s11 s12 s13 wy => ∃ m : Nat, m + g = sz n wd' ∧ s11 = .int .i64 (m : Int) ∧ wy.ownsRow w1.heap.size 5 1 s10 m (bs (dg 8 m N)) ∧ Below w1.heap.size w1 wy)
      case atStart => exact ⟨0, by omega, rfl, own_nil _ _ _ _, Below.refl _ _⟩
      case round =>
        clear hown
        obtain ⟨m, hmg, rfl, hown, hbl2⟩ := hrel
        have hzw2 := hbl2.size
        cases gk with
        | zero =>
          have hms : Hid (m = sz n wd') := Lib.hid (by omega)
          have hlt : ¬ m < sz n wd' := by omega
          go_wp2_with fail
          go_ret2
          have h1 := hms.out
          subst h1
          refine ⟨_, rfl, ?_, hbl.trans (hbl2.mono hzw)⟩
          rw [packB_length, HP.out.2.2.2, HP.out.1, ← HP.out.2.2.1]
          exact own_base hown hzw
        | succ g =>
          have hlt : m < sz n wd' := by omega
          have hm8 : 8 * m ≤ 4194304 := by omega
          go_wp2_with fail
          go_loopg [12, 13] 8 (fun g2 s12 s13 wz => ∃ (c : Nat) (kI : Int), s13 = .int .i64 kI ∧ Hid (kI = (g2 : Int) - 1) ∧ s12 = .int .i64 (c : Int) ∧ Hid (c = N / 2 ^ (8 * m + g2) % 2 ^ (8 - g2)) ∧ g2 ≤ 8 ∧ wr = wz)
          case atStart => exact ⟨0, 7, rfl, Lib.hid (by omega), rfl, Lib.hid (by simp [Nat.mod_one]), Nat.le_refl _, rfl⟩
          case round =>
            obtain ⟨c, kI, rfl, hkI, rfl, hcv, hg2, rfl⟩ := hrel
            have hc256 : c < 256 := by rw [hcv.out]; exact Nat.lt_of_lt_of_le (Nat.mod_lt _ (Nat.two_pow_pos _)) (Nat.pow_le_pow_right (j := 8) (by omega) (by omega))
            cases gk with
            | zero =>
              obtain rfl : kI = -1 := by have := hkI.out; omega
              go_wp2_with (at_builtin
                           refine wpList_append_any _ rfl (.tmp 73) (.tmp 76) _ rfl w1.heap.size 5 i0 _ 1 1 Tryz.underlying25 hi0 hz0 hz1 hz2 rfl (by omega) u10 m (bs (dg 8 m N)) rfl
                             (hown.alloc _) (wr.heap.size + 1) (some ⟨wr.heap.size, 0, none⟩) 1 1 [.int .u8 (c : Int)] rfl (Reads.new wr _ _) (one_int _ _) (by unfold maxLen; omega) (by omega) (by simp; omega) ?_
                           intro v2 w2 hown2 hg2' hat2)
              go_roundg g
              case measure => omega
              case rel =>
                have hb := bs_snoc [] (dg 8 m N) c (c : Int) rfl
                simp only [List.nil_append] at hb
                rw [hb, show c = N / 2 ^ (8 * m) % 2 ^ 8 from hcv.out, ← dg_snoc] at hown2
                exact ⟨m + 1, by omega, by go_num, hown2, below_app hbl2 hown hzw2 hg2'⟩
            | succ j =>
              obtain rfl : kI = (j : Int) := by have := hkI.out; omega
              have hstep := bit_down N (8 * m + j) (8 - (j + 1))
              rw [show 8 - (j + 1) + 1 = 8 - j by omega, Nat.add_assoc, ← hcv.out, bitB_val] at hstep
              have HS := Lib.hid hstep; clear hstep
              by_cases hin : 8 * m + j < n * wd'
              · obtain ⟨ad, u, rfl, _, hu, hc⟩ := (r7.below hbl2).at_ hin
                rw [bitL_at _ _ _ hin] at hu
                obtain rfl := Option.some.inj hu
                clear hu
                cases hbit : bitB N (8 * m + j) with
                | true =>
                  rw [hbit] at hc HS
                  clear hbit
                  go_wp2_with fail
                  go_roundg j
                  case measure => omega
                  case rel => exact ⟨2 * c + 1, (j : Int) - 1, rfl, Lib.hid rfl, by go_num, Lib.hid (by rw [HS.out]; rfl), by omega, rfl⟩
                | false =>
                  rw [hbit] at hc HS
                  clear hbit
                  go_wp2_with fail
                  go_roundg j
                  case measure => omega
                  case rel => exact ⟨2 * c, (j : Int) - 1, rfl, Lib.hid rfl, by go_num, Lib.hid (by rw [HS.out]; rfl), by omega, rfl⟩
              · have hz : bitB N (8 * m + j) = false := by
                  unfold bitB
                  have h1 : N < 2 ^ (8 * m + j) := by rw [HP.out.2.2.1]; exact Nat.lt_of_lt_of_le HP.out.2.1 (Nat.pow_le_pow_right (by omega) (by omega))
                  rw [Nat.div_eq_of_lt h1]; rfl
                rw [hz] at HS
                clear hz
                go_wp2_with fail
                go_roundg j
                case measure => omega
                case rel => exact ⟨2 * c, (j : Int) - 1, rfl, Lib.hid rfl, by go_num, Lib.hid (by rw [HS.out]; rfl), by omega, rfl⟩

theorem refPack_any (A : Option Addr) (n c : Nat) (l : List Nat) (wi : Int) (w : World) (hr : Reads w w.heap.size 1 A n (us l)) (hl : ∀ a ∈ l, a < 18446744073709551616) (hn : n ≤ 140737488355328) (hw : -9223372036854775808 ≤ wi ∧ wi ≤ 9223372036854775807) :
    Calls Tryz.prog 127 #[.slice A n c, .int .i64 wi] w (NewE w (packS l wi) (packE l wi)) := by
  have e1 : l.length = n := by have := hr.1; rw [us_length] at this; omega
  by_cases h1 : 0 ≤ (n : Int) ∧ (n : Int) ≤ 65536 ∧ 0 ≤ wi ∧ wi ≤ 64
  · have hz : szI (n : Int) wi = (sz n wi.toNat : Int) := by unfold szI; rw [if_pos h1]; simp
    obtain ⟨_, hn6, h3, h4⟩ := h1
    obtain ⟨wN, rfl⟩ := Int.eq_ofNat_of_zero_le h3
    simp only [Int.toNat_natCast] at hz
    by_cases h2 : wN < wd l
    · have hE : packE l (wN : Int) = 5 := by unfold packE; rw [e1, hz, if_neg (by omega), if_pos (by omega)]
      have hS : packS l (wN : Int) = [] := by unfold packS; rw [if_neg (by omega)]
      have H := Lib.hid (And.intro hE hS); clear hE hS
      have E1 := Lib.hid e1; clear e1
      have HZ := Lib.hid hz; clear hz
      go_enter Tryz.func127, Tryz.ntmps127
      go_wp2_with fail
      refine (refSize_any (n : Int) (wN : Int) _ (by omega) (by omega)).mono ?_
      rintro e w' ⟨rfl, rfl⟩
      rw [HZ.out]
      go_wp2_with fail
      refine (refWidth_any A n c l _ hr hl (by omega)).mono ?_
      rintro e w' ⟨rfl, rfl⟩
      go_wp2_with fail
      go_ret2
      obtain ⟨h5, h6⟩ := H.out
      rw [h5, h6]
      exact ⟨.slice none 0 0, rfl, own_nil _ _ _ _, Below.refl _ _⟩
    · obtain ⟨h5, h6⟩ := packE_ok l wN (by omega) (by omega) (by omega)
      rw [h5, h6]
      exact refPack_ok A n c l wN w hr hl (by omega) (by omega) (by omega)
  · have hz : szI (n : Int) wi = -1 := by unfold szI; rw [if_neg h1]
    have hE : packE l wi = 1 := by unfold packE; rw [e1, hz, if_pos (by omega)]
    have hS : packS l wi = [] := by unfold packS; rw [if_neg (by omega)]
    have H := Lib.hid (And.intro hE hS); clear hE hS
    have E1 := Lib.hid e1; clear e1
    have HZ := Lib.hid hz; clear hz
    clear h1
    go_enter Tryz.func127, Tryz.ntmps127
    go_wp2_with fail
    refine (refSize_any (n : Int) wi _ (by omega) hw).mono ?_
    rintro e w' ⟨rfl, rfl⟩
    rw [HZ.out]
    go_wp2_with fail
    go_ret2
    obtain ⟨h5, h6⟩ := H.out
    rw [h5, h6]
    exact ⟨.slice none 0 0, rfl, own_nil _ _ _ _, Below.refl _ _⟩
end Go.Proofs.YthlfplljbbnaoaaGreatDoor
