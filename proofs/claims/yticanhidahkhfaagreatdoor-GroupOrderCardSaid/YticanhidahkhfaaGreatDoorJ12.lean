import Derived.Test.YticanhidahkhfaaGreatDoorJ1
import Derived.Test.YticanhidahkhfaaGreatDoorJ10
import Derived.Test.YticanhidahkhfaaGreatDoorJ11
import Derived.Deep.QuietTactic
import Derived.BigQuiet
import Derived.Test.YticanhidahkhfaaGreatDoorJ8
import Derived.Test.YticanhidahkhfaaGreatDoorJ9
import Derived.Lib.Strings
import Derived.Lib.Slices
import Derived.Lib.Small
import Derived.Lib.Walk
import Derived.Lib.BitFns
import Derived.Test.YticanhidahkhfaaGreatDoorJ5
namespace Go.Proofs.YticanhidahkhfaaGreatDoor
open Go.RowKit
set_option linter.unusedVariables false
set_option linter.unusedSimpArgs false
set_option maxRecDepth 100000
def fillW (xs : List Value) (z : Value) (k : Nat) : Array Value := (xs.take k ++ List.replicate (xs.length - k) z).toArray
theorem fillW_zero (xs : List Value) (z : Value) (n : Nat) (h : xs.length = n) : fillW xs z 0 = madeCells #[z] n := by
  apply Array.ext'
  rw [toList_madeCells_one]
  simp [fillW, h]
theorem fillW_all (xs : List Value) (z : Value) (n : Nat) (h : xs.length = n) : fillW xs z n = xs.toArray := by
  unfold fillW
  rw [List.take_of_length_le (by omega), h, Nat.sub_self]
  simp
theorem fillW_old (xs : List Value) (z : Value) (k : Nat) (h : k < xs.length) : (fillW xs z k)[k]? = some z := by
  unfold fillW
  rw [List.getElem?_toArray, List.getElem?_append_right (by rw [List.length_take]; omega), List.getElem?_replicate, if_pos (by rw [List.length_take]; omega)]
theorem fillW_next (xs : List Value) (z : Value) (k : Nat) (v : Value) (h : xs[k]? = some v) : (fillW xs z k).setIfInBounds k v = fillW xs z (k + 1) := by
  have hk : k < xs.length := (List.getElem?_eq_some_iff.1 h).1
  unfold fillW
  rw [List.setIfInBounds_toArray]
  congr 1
  apply List.ext_getElem?
  intro i
  rw [List.getElem?_set]
  by_cases hi : k = i
  · subst hi
    rw [if_pos rfl, if_pos (by simp; omega), List.getElem?_append_left (by simp; omega), List.getElem?_take, if_pos (by omega), h]
  · rw [if_neg hi]
    by_cases h2 : i < k
    · rw [List.getElem?_append_left (by simp; omega), List.getElem?_append_left (by simp; omega), List.getElem?_take, List.getElem?_take, if_pos h2, if_pos (by omega)]
    · rw [List.getElem?_append_right (by simp; omega), List.getElem?_append_right (by simp; omega), List.getElem?_replicate, List.getElem?_replicate]
      simp only [List.length_take]
      by_cases h3 : i < xs.length
      · rw [if_pos (by omega), if_pos (by omega)]
      · rw [if_neg (by omega), if_neg (by omega)]
theorem own_whole {w : World} {B h n : Nat} {t : TypeId} {xs : List Value} (hb : Blk w h t xs.toArray) (hB : B ≤ h) (hn : xs.length = n) (hm : n ≤ maxLen) :
    w.ownsRow B t 1 (.slice (some ⟨h, 0, none⟩) n n) n xs :=
  ⟨by omega, .inr ⟨h, n, xs.toArray, rfl, hB, hb, Nat.le_refl _, hm, by simp; omega, by simp; rw [List.take_of_length_le (by omega)]⟩⟩
end Go.Proofs.YticanhidahkhfaaGreatDoor
namespace Go.Proofs.YticanhidahkhfaaGreatDoor
open Go.RowKit
set_option linter.unusedVariables false
set_option linter.unusedSimpArgs false
set_option maxRecDepth 100000
theorem reads_one3 (w : World) (v : Vl) (t : TypeId) : Reads (w.alloc (.cells #[.int .i64 v.1, .int .i64 v.2.1, .string ⟨v.2.2.toArray⟩] t)) (w.heap.size + 1) 3 (some ⟨w.heap.size, 0, none⟩) 1 (vc v) :=
  ⟨by simp [vc], fun _ => ⟨_, rfl, by simp, fun j z hz => by
    have hb := (Blk.new w t #[.int .i64 v.1, .int .i64 v.2.1, .string ⟨v.2.2.toArray⟩]).cell j
    rw [plain_add, Nat.zero_add, hb]
    simpa [vc] using hz⟩⟩
structure ApartC (w wr : World) (g h n : Nat) (l : List Vl) (k : Nat) (v : Value) : Prop where
  set : SetIn wr w.heap.size g h n (stK (non l) k n)
  row : wr.ownsRow w.heap.size 50 3 v (oth (l.take k)).length (vs (oth (l.take k)))
  ng : v.ownBlock ≠ some g
  nh : v.ownBlock ≠ some h
  below : Below w.heap.size w wr
set_option maxHeartbeats 1000000 in
theorem apart_any (A : Option Addr) (n c : Nat) (l : List Vl) (w : World) (hr : Reads w w.heap.size 3 A n (vs l)) (hn : n ≤ 65536) :
    Calls Tryz.prog 92 #[.slice A n c] w fun e w' => ∃ g h v, e = .returned (.tuple #[.pointer (some ⟨g, 0, none⟩), v]) ∧ SetIn w' w.heap.size g h n (setB (non l) n) ∧ w'.ownsRow w.heap.size 50 3 v (oth l).length (vs (oth l)) ∧ Below w.heap.size w w' := by
  obtain ⟨i0, hi0, hz0, hz1, hz2⟩ := info_parts info_val
  have e1 : l.length = n := by have := hr.1; rw [vs_length] at this; omega
  have HE := Lib.hid e1
  clear e1
  go_enter Tryz.func92, Tryz.ntmps92
  go_wp2_with fail
  refine (New_any n w hn).mono ?_
  rintro e w1 ⟨g, h, rfl, hS1, hb1⟩
  have hA : ApartC w w1 g h n l 0 (.slice none 0 0) := ⟨hS1, own_nil _ _ _ _, by simp [Value.ownBlock], by simp [Value.ownBlock], hb1⟩
  clear hS1 hb1
  go_wp2_with fail
  go_loopw [5, 13] (fun s5 s13 wr => ∃ k : Nat, k ≤ n ∧ s13 = .int .i64 (k : Int) ∧ ApartC w wr g h n l k s5) (fun _ i _ => n - (intOf i).toNat)
  case atStart => exact ⟨0, Nat.zero_le _, rfl, hA⟩
  case round =>
    clear hA
    obtain ⟨k, hk, rfl, hA⟩ := hrel
    by_cases hlt : k < n
    · obtain ⟨⟨v0, v1, z⟩, hv⟩ : ∃ v, l[k]? = some v := ⟨_, List.getElem?_eq_getElem (by rw [HE.out]; exact hlt)⟩
      obtain ⟨b, o, rfl, hb0, x0, x1, x2⟩ := (hr.below hA.below).val hv
      by_cases h0 : v0 = 0
      · subst h0
        have hnon : non l k = true := by rw [non_at hv]; rfl
        have hot := oth_step hv
        rw [if_pos (by rfl), List.append_nil] at hot
        have hst := stK_mark n hnon
        have hcm := canM_new (n := n) (l := stK (non l) k n) hlt (stK_bit (non l) hlt)
        rw [← hst] at hcm
        have HM := Lib.hid fun (W : World) (hS : SetIn W w.heap.size g h n (stK (non l) k n)) => Mark_any hS (k : Int)
        unfold MarkD at HM
        rw [hcm.1, hcm.2] at HM
        have HO := Lib.hid hot
        clear hot hst hcm hnon hv
        go_wp2_with fail
        refine (HM.out _ (hA.set.alloc _)).mono ?_
        rintro e w2 ⟨rfl, hS2, hg2⟩
        have hA2 : ApartC w w2 g h n l (k + 1) u5 := by
          refine ⟨hS2, ?_, hA.ng, hA.nh, (hA.below.alloc hA.below.size _).grown hg2 (by have := hA.below.size; simp; omega) (fun j hj => by injection hj with hj; have := hA.set.bh; omega)⟩
          rw [HO.out]
          exact (hA.row.alloc _).kept hg2 (.inr hA.nh)
        clear hA hS2 hg2
        go_wp2_with fail
        go_round
        case rel => exact ⟨k + 1, by omega, by go_num, hA2⟩
        case measure => simp [intOf]; omega
      · have hnon : non l k = false := by rw [non_at hv]; simp [nul, h0]
        have hot := oth_step hv
        rw [if_neg (by simp [nul, h0])] at hot
        have hst := stK_skip n hnon
        have hol : (oth (l.take k)).length ≤ k := by have := oth_length_le (l.take k); rw [List.length_take] at this; omega
        have hsz := hA.below.size
        have HO := Lib.hid hot
        have HS := Lib.hid hst
        have q : (v0 == 0) = false := by simp [h0]
        obtain ⟨L, hL⟩ : ∃ L, oth (l.take k) = L := ⟨_, rfl⟩
        have hrow := hA.row
        rw [hL] at hrow hol HO
        have rv := fun W => reads_one3 W (v0, v1, z) 50
        simp only at rv
        clear hot hst hnon hv h0 hL
        go_wp2_with (at_builtin
                     refine wpList_append_any _ rfl (.tmp 24) (.tmp 26) _ rfl w.heap.size 50 i0 _ 3 32 Tryz.underlying81 hi0 hz0 hz1 hz2 rfl (by omega) u5 L.length (vs L) rfl
                       ((hrow.alloc _).alloc _) (wr.heap.size + 1 + 1) (some ⟨wr.heap.size + 1, 0, none⟩) 1 1 (vc (v0, v1, z)) rfl (by have := rv (wr.alloc (.cells #[.int .i64 v0, .int .i64 v1, .string ⟨z.toArray⟩] 50)); simpa using this) (vc_cell _) (by unfold maxLen; omega) (by omega) (by simp; omega) ?_
                     intro v3 w3 hown3 hg3 hat3)
        have hglt := hA.set.obj.lt
        have hhlt := hA.set.row.lt
        have hA3 : ApartC w w3 g h n l (k + 1) v3 := by
          refine ⟨?_, ?_, ?_, ?_, ((hA.below.alloc hsz _).alloc (by simp; omega) _).grown hg3 (by simp; omega) (fun j hj => (hrow.lt j hj).1)⟩
          · rw [HS.out]
            exact ((hA.set.alloc _).alloc _).grown hg3 (fun e => hA.ng e.symm) (fun e => hA.nh e.symm)
          · rw [HO.out, vs_append, vs_one, List.length_append]
            exact hown3
          · rcases hat3 with e | e
            · rw [e]; exact hA.ng
            · rw [e]; simp; omega
          · rcases hat3 with e | e
            · rw [e]; exact hA.nh
            · rw [e]; simp; omega
        go_round
        case rel => exact ⟨k + 1, by omega, by go_num, hA3⟩
        case measure => simp [intOf]; omega
    · obtain rfl : k = n := by omega
      go_wp2_with fail
      go_ret2
      have hS := hA.set
      have hR := hA.row
      rw [stK_all] at hS
      rw [List.take_of_length_le (by rw [HE.out]; exact Nat.le_refl _)] at hR
      exact ⟨g, h, _, rfl, hS, hR, hA.below⟩
def begB (S : List Nat) (n : Nat) : List Nat := if cnt (bit S) n = 0 then [0] else 1 :: S
theorem begB_head (l : List Vl) : begB (setB (non l) l.length) l.length = headB l := by
  unfold begB headB
  rw [cnt_congr _ (setB_ok (non l) l.length).2]
set_option maxHeartbeats 400000 in
theorem putNothing_any {w : World} {B g h n : Nat} {S : List Nat} (s : SetIn w B g h n S) :
    Calls Tryz.prog 95 #[.pointer (some ⟨g, 0, none⟩)] w (New w (bs (begB S n)) (begB S n).length) := by
  obtain ⟨i0, hi0, hz0, hz1, hz2⟩ := info_parts info_u8
  have HC := Lib.hid (Count_any s)
  have hsl := s.size.2
  by_cases h0 : cnt (bit S) n = 0
  · have hB : begB S n = [0] := by unfold begB; rw [if_pos h0]
    rw [hB]
    rw [h0] at HC
    clear hB h0
    go_enter Tryz.func95, Tryz.ntmps95
    go_wp2_with fail
    refine HC.out.mono ?_
    rintro e w' ⟨rfl, rfl⟩
    go_wp2_with fail
    go_ret
    exact ⟨_, rfl, own_whole (Blk.new w _ _) (Nat.le_refl _) rfl (by unfold maxLen; omega), (Below.refl _ _).alloc (Nat.le_refl _) _⟩
  · have hB : begB S n = [1] ++ S := by unfold begB; rw [if_neg h0]; rfl
    obtain ⟨m, hm⟩ : ∃ m, cnt (bit S) n = m := ⟨_, rfl⟩
    rw [hm] at HC h0
    have q : ((m : Int) == 0) = false := by simp [h0]
    have HB := Lib.hid hB
    have hb1 : Below w.heap.size w (w.alloc (.cells #[.int .u8 1] 5)) := (Below.refl _ _).alloc (Nat.le_refl _) _
    have hbk := Blk.new w 5 #[.int .u8 1]
    have HY := Lib.hid (Bytes_any (s.alloc (.cells #[.int .u8 1] 5)))
    clear hm h0 hB
    go_enter Tryz.func95, Tryz.ntmps95
    go_wp2_with fail
    refine HC.out.mono ?_
    rintro e w' ⟨rfl, rfl⟩
    go_wp2_with fail
    refine HY.out.mono ?_
    rintro e w2 ⟨qb, rfl, hq, hq2, hb2⟩
    have hown := own_whole (B := w.heap.size) (xs := bs [1]) (n := 1) (hbk.below hb2 (by simp)) (Nat.le_refl _) rfl (by unfold maxLen; omega)
    have hb02 := hb1.trans (hb2.mono (by simp))
    have hrd := reads_blk hq w2.heap.size S.length (bs S) hq.lt (bs_length S) (by simp [bs_length, List.take_of_length_le])
    clear hb2 hbk
    go_wp2_with (at_builtin
                 refine wpList_append_any _ rfl (.tmp 7) (.tmp 9) _ rfl w.heap.size 5 i0 _ 1 1 Tryz.underlying48 hi0 hz0 hz1 hz2 rfl (by omega) (.slice (some ⟨w.heap.size, 0, none⟩) 1 1) 1 (bs [1]) rfl
                   hown w2.heap.size (some ⟨qb, 0, none⟩) S.length S.length (bs S) rfl hrd (bs_one S) (by unfold maxLen; omega) (by omega) hb02.size ?_
                 intro v3 w3 hown3 hg3 hat3)
    go_ret
    rw [HB.out]
    rw [← bs_append] at hown3
    refine ⟨_, rfl, ?_, hb02.grown hg3 hb02.size (fun j hj => (hown.lt j hj).1)⟩
    rw [List.length_append]
    exact hown3
end Go.Proofs.YticanhidahkhfaaGreatDoor
namespace Go.Proofs.YticanhidahkhfaaGreatDoor
open Go.RowKit
set_option linter.unusedVariables false
set_option linter.unusedSimpArgs false
set_option maxRecDepth 100000
def ns (l : List Nat) : List Value := l.map fun b : Nat => Value.int .i64 (b : Int)
def zs (l : List Int) : List Value := l.map (Value.int .i64)
theorem ns_zs (l : List Nat) : ns l = zs (l.map fun b : Nat => (b : Int)) := by unfold ns zs; rw [List.map_map]; rfl
theorem zs_length (l : List Int) : (zs l).length = l.length := by simp [zs]
theorem ns_length (l : List Nat) : (ns l).length = l.length := by simp [ns]
theorem ns_append (l m : List Nat) : ns (l ++ m) = ns l ++ ns m := by simp [ns]
theorem zs_at {l : List Int} {k : Nat} {u : Value} (h : (zs l)[k]? = some u) : ∃ b, l[k]? = some b ∧ u = .int .i64 b := by
  unfold zs at h
  rw [List.getElem?_map] at h
  cases hb : l[k]? with
  | none => rw [hb] at h; cases h
  | some b => rw [hb] at h; injection h with h; exact ⟨b, rfl, h.symm⟩
theorem ns_at {l : List Nat} {k : Nat} {u : Value} (h : (ns l)[k]? = some u) : ∃ b, l[k]? = some b ∧ u = .int .i64 (b : Int) := by
  unfold ns at h
  rw [List.getElem?_map] at h
  cases hb : l[k]? with
  | none => rw [hb] at h; cases h
  | some b => rw [hb] at h; injection h with h; exact ⟨b, rfl, h.symm⟩
end Go.Proofs.YticanhidahkhfaaGreatDoor
namespace Go.Proofs.YticanhidahkhfaaGreatDoor
open Go.RowKit
set_option linter.unusedVariables false
set_option linter.unusedSimpArgs false
set_option maxRecDepth 100000
theorem info_i64 : (Tryz.prog.info? 2).map (fun i => (i.zero, i.size, i.bytes)) = some (some (.int .i64 0), 1, 8) := by kernel_rfl
theorem run_make_i64 (n c : Nat) (hnc : n ≤ c) (hc : c ≤ 17592186044416) (w : World) :
    (Instr.makeSlice 205 (.int .i64 (n : Int)) (.int .i64 (c : Int))).run Tryz.prog w = .ok (.slice (some ⟨w.heap.size, 0, none⟩) n c) (w.alloc (.cells (madeCells #[.int .i64 0] c) 2)) := by
  obtain ⟨i, hi, hz0, hz1, hz2⟩ := info_parts info_i64
  have hr := run_make (P := Tryz.prog) w 205 2 i _ Tryz.underlying205 hi hz0 .i64 .i64 n c (by omega) (by omega) (by rw [hz2]; omega) (by omega)
  rw [hz1] at hr
  simpa [Value.cells] using hr
def NewLE (w : World) (l : List Int) (x : Int) (e : Ending) (w' : World) : Prop :=
  ∃ v, e = .returned (.tuple #[v, .int .i64 x]) ∧ w'.ownsRow w.heap.size 2 1 v l.length (zs l) ∧ Below w.heap.size w w'
theorem NewLE.opened {w w' : World} {l : List Int} {x : Int} {e : Ending} (h : NewLE w l x e w') : ∃ A c, e = .returned (.tuple #[.slice A l.length c, .int .i64 x]) ∧ l.length ≤ c ∧ c ≤ maxLen ∧ Reads w' w'.heap.size 1 A l.length (zs l) ∧ Below w.heap.size w w' := by
  obtain ⟨v, rfl, hown, hb⟩ := h
  obtain ⟨A, c, rfl, hc, hm, hr⟩ := own_slice hown
  exact ⟨A, c, rfl, hc, hm, hr, hb⟩
theorem zs_get {l : List Int} {k : Nat} {z : Int} (h : l[k]? = some z) : (zs l)[k]? = some (.int .i64 z) := by unfold zs; rw [List.getElem?_map, h]; rfl
theorem zs_append (l m : List Int) : zs (l ++ m) = zs l ++ zs m := by simp [zs]
theorem zs_take (l : List Int) (k : Nat) : (zs l).take k = zs (l.take k) := by simp [zs]
theorem zs_one (l : List Int) : ∀ u ∈ zs l, u.oneCell' = true := by
  intro u hu
  obtain ⟨b, _, rfl⟩ := List.mem_map.1 hu
  rfl
theorem zs_snoc (l : List Int) (z : Int) : zs l ++ [Value.int .i64 z] = zs (l ++ [z]) := by simp [zs]
end Go.Proofs.YticanhidahkhfaaGreatDoor
namespace Go.Proofs.YticanhidahkhfaaGreatDoor
open Go.RowKit
set_option linter.unusedVariables false
set_option linter.unusedSimpArgs false
set_option maxRecDepth 100000
set_option maxHeartbeats 400000 in
theorem eachN_any (A : Option Addr) (n c : Nat) (o : List Vl) (w : World) (hr : Reads w w.heap.size 3 A n (vs o)) (hn : n ≤ 65536) :
    Calls Tryz.prog 202 #[.slice A n c, .func (.func 153) #[] #[]] w
      fun e w' => ∃ v, e = .returned v ∧ w'.ownsRow w.heap.size 2 1 v n (zs (nums o)) ∧ Below w.heap.size w w' := by
  have e1 : o.length = n := by have := hr.1; rw [vs_length] at this; omega
  have hpl : (zs (nums o)).length = n := by rw [zs_length, nums_length, e1]
  have hmk := fun W => run_make_i64 n n (Nat.le_refl _) (by omega) W
  rw [← fillW_zero (zs (nums o)) (.int .i64 0) n hpl] at hmk
  have hF0 := Blk.new w 2 (fillW (zs (nums o)) (.int .i64 0) 0)
  have hb0 : Below w.heap.size w (w.alloc (.cells (fillW (zs (nums o)) (.int .i64 0) 0) 2)) := (Below.refl _ _).alloc (Nat.le_refl _) _
  have HPL := Lib.hid hpl; have HE := Lib.hid e1
  have HC := Lib.hid fun (v : Vl) (W : World) => numberOf_any v W
  clear hpl e1
  go_enter Tryz.func202, Tryz.ntmps202
  go_wp2_with fail
  clear hmk
  go_loopw [13] (fun s wr => ∃ k : Nat, k ≤ n ∧ s = .int .i64 (k : Int) ∧ Blk wr w.heap.size 2 (fillW (zs (nums o)) (.int .i64 0) k) ∧ Below w.heap.size w wr) (fun i _ => n - (intOf i).toNat)
  case atStart => exact ⟨0, by omega, rfl, hF0, hb0⟩
  case round =>
    clear hF0 hb0
    obtain ⟨k, hk, rfl, hF, hb⟩ := hrel
    by_cases hlt : k < n
    · obtain ⟨⟨v0, v1, z⟩, hv⟩ : ∃ v, o[k]? = some v := ⟨_, List.getElem?_eq_getElem (by rw [HE.out]; exact hlt)⟩
      obtain ⟨b, of, rfl, hb1, x0, x1, x2⟩ := (hr.below hb).val hv
      have HV : Hid ((zs (nums o))[k]? = some (.int .i64 v1)) := Lib.hid (zs_get (by simp [nums, hv]))
      have hFl := hF.lt
      have hc := fun W => HC.out (v0, v1, z) W
      unfold vW at hc
      have HCC := Lib.hid hc
      clear hv hc
      go_wp2_with fail
      refine (HCC.out _).mono ?_
      rintro e w2 ⟨rfl, hb2⟩
      have hb3 : Below wr.heap.size wr w2 := ((Below.refl _ _).alloc (Nat.le_refl _) _).trans (hb2.mono (by simp))
      have hF2 := hF.below hb3 hFl
      have hb02 := hb.trans (hb3.mono hb.size)
      have hc := hF2.cell k
      rw [fillW_old _ _ k (by rw [HPL.out]; omega)] at hc
      have hf := hF2.frozen k
      clear hF hb hb2 hb3 x0 x1 x2
      go_wp2_with fail
      go_round
      case rel =>
        refine ⟨k + 1, by omega, by go_num, ?_, hb02.setCell (Nat.le_refl _) _⟩
        have h1 := hF2.set_ k (.int .i64 v1)
        rw [fillW_next _ _ k _ HV.out] at h1
        exact h1
      case measure => simp [intOf]; omega
    · obtain rfl : k = n := by omega
      rw [fillW_all _ _ k HPL.out] at hF
      go_wp2_with fail
      go_ret
      exact ⟨_, rfl, own_whole hF (Nat.le_refl _) HPL.out (by unfold maxLen; omega), hb⟩
set_option maxHeartbeats 400000 in
theorem eachT_any (A : Option Addr) (n c : Nat) (o : List Vl) (w : World) (hr : Reads w w.heap.size 3 A n (vs o)) (hn : n ≤ 65536) :
    Calls Tryz.prog 225 #[.slice A n c, .func (.func 166) #[] #[]] w
      fun e w' => ∃ v, e = .returned v ∧ w'.ownsRow w.heap.size 9 1 v n (ts (txts o)) ∧ Below w.heap.size w w' := by
  have e1 : o.length = n := by have := hr.1; rw [vs_length] at this; omega
  have hpl : (ts (txts o)).length = n := by rw [ts_length, txts_length, e1]
  have hmk := fun W => run_make_str n n (Nat.le_refl _) (by omega) W
  rw [← fillW_zero (ts (txts o)) (.string ⟨#[]⟩) n hpl] at hmk
  have hF0 := Blk.new w 9 (fillW (ts (txts o)) (.string ⟨#[]⟩) 0)
  have hb0 : Below w.heap.size w (w.alloc (.cells (fillW (ts (txts o)) (.string ⟨#[]⟩) 0) 9)) := (Below.refl _ _).alloc (Nat.le_refl _) _
  have HPL := Lib.hid hpl; have HE := Lib.hid e1
  have HC := Lib.hid fun (v : Vl) (W : World) => textOf_any v W
  clear hpl e1
  go_enter Tryz.func225, Tryz.ntmps225
  go_wp2_with fail
  clear hmk
  go_loopw [13] (fun s wr => ∃ k : Nat, k ≤ n ∧ s = .int .i64 (k : Int) ∧ Blk wr w.heap.size 9 (fillW (ts (txts o)) (.string ⟨#[]⟩) k) ∧ Below w.heap.size w wr) (fun i _ => n - (intOf i).toNat)
  case atStart => exact ⟨0, by omega, rfl, hF0, hb0⟩
  case round =>
    clear hF0 hb0
    obtain ⟨k, hk, rfl, hF, hb⟩ := hrel
    by_cases hlt : k < n
    · obtain ⟨⟨v0, v1, z⟩, hv⟩ : ∃ v, o[k]? = some v := ⟨_, List.getElem?_eq_getElem (by rw [HE.out]; exact hlt)⟩
      obtain ⟨b, of, rfl, hb1, x0, x1, x2⟩ := (hr.below hb).val hv
      have HV : Hid ((ts (txts o))[k]? = some (.string ⟨z.toArray⟩)) := Lib.hid (ts_get (by simp [txts, hv]))
      have hFl := hF.lt
      have hc := fun W => HC.out (v0, v1, z) W
      unfold vW at hc
      have HCC := Lib.hid hc
      clear hv hc
      go_wp2_with fail
      refine (HCC.out _).mono ?_
      rintro e w2 ⟨rfl, hb2⟩
      have hb3 : Below wr.heap.size wr w2 := ((Below.refl _ _).alloc (Nat.le_refl _) _).trans (hb2.mono (by simp))
      have hF2 := hF.below hb3 hFl
      have hb02 := hb.trans (hb3.mono hb.size)
      have hc := hF2.cell k
      rw [fillW_old _ _ k (by rw [HPL.out]; omega)] at hc
      have hf := hF2.frozen k
      clear hF hb hb2 hb3 x0 x1 x2
      go_wp2_with fail
      go_round
      case rel =>
        refine ⟨k + 1, by omega, by go_num, ?_, hb02.setCell (Nat.le_refl _) _⟩
        have h1 := hF2.set_ k (.string ⟨z.toArray⟩)
        rw [fillW_next _ _ k _ HV.out] at h1
        exact h1
      case measure => simp [intOf]; omega
    · obtain rfl : k = n := by omega
      rw [fillW_all _ _ k HPL.out] at hF
      go_wp2_with fail
      go_ret
      exact ⟨_, rfl, own_whole hF (Nat.le_refl _) HPL.out (by unfold maxLen; omega), hb⟩
set_option maxHeartbeats 400000 in
theorem eachVN_any (A : Option Addr) (n c : Nat) (l : List Int) (w : World) (hr : Reads w w.heap.size 1 A n (zs l)) (hn : n ≤ 65536) :
    Calls Tryz.prog 204 #[.slice A n c, .func (.func 154) #[] #[]] w
      fun e w' => ∃ v, e = .returned v ∧ w'.ownsRow w.heap.size 50 3 v n (vs (ofN l)) ∧ Below w.heap.size w w' := by
  have e1 : l.length = n := by have := hr.1; rw [zs_length] at this; omega
  have hpl : (ofN l).length = n := by rw [ofN_length, e1]
  obtain ⟨O, hO⟩ : ∃ O, O = ofN l := ⟨_, rfl⟩
  rw [← hO] at hpl ⊢
  have hmk := fun W => run_make_vals n (by omega) W
  rw [← fillV_zero O n hpl] at hmk
  have hF0 := Blk.new w 50 (fillV O 0)
  have hb0 : Below w.heap.size w (w.alloc (.cells (fillV O 0) 50)) := (Below.refl _ _).alloc (Nat.le_refl _) _
  have HPL := Lib.hid hpl; have HE := Lib.hid e1; have HO := Lib.hid hO
  have HC := Lib.hid fun (v : Int) (W : World) => number_any v W
  clear hpl e1 hO
  go_enter Tryz.func204, Tryz.ntmps204
  go_wp2_with fail
  clear hmk
  go_loopw [13] (fun s wr => ∃ k : Nat, k ≤ n ∧ s = .int .i64 (k : Int) ∧ Blk wr w.heap.size 50 (fillV O k) ∧ Below w.heap.size w wr) (fun i _ => n - (intOf i).toNat)
  case atStart => exact ⟨0, by omega, rfl, hF0, hb0⟩
  case round =>
    clear hF0 hb0
    obtain ⟨k, hk, rfl, hF, hb⟩ := hrel
    by_cases hlt : k < n
    · obtain ⟨ad, u, rfl, _, hu, hc0⟩ := (hr.below hb).at_ hlt
      obtain ⟨z, hz, rfl⟩ := zs_at hu
      have hz2 : O[k]? = some (1, z, []) := by rw [HO.out]; simp [ofN, hz]
      have HV := Lib.hid hz2
      have hFl := hF.lt
      have hc := fun W => HC.out z W
      unfold vW at hc
      have HCC := Lib.hid hc
      clear hu hz hc hz2
      go_wp2_with fail
      refine (HCC.out _).mono ?_
      rintro e w2 ⟨rfl, hb2⟩
      have hF2 := hF.below hb2 hFl
      have hb02 := hb.trans (hb2.mono hb.size)
      have HST := Lib.hid (hF2.val HV.out)
      obtain ⟨y0, y1, y2⟩ := fillV_old O k k (Nat.le_refl _) (by rw [HPL.out]; exact hlt)
      rw [← hF2.cell] at y0 y1 y2
      have f0 := hF2.frozen (k * 3); have f1 := hF2.frozen (k * 3 + 1); have f2 := hF2.frozen (k * 3 + 2)
      clear hF hb hb2 hc0
      go_wp2_with fail
      go_round
      case rel =>
        refine ⟨k + 1, by omega, by go_num, HST.out, ?_⟩
        exact ((hb02.setCell (p := ⟨w.heap.size, k * 3, none⟩) (Nat.le_refl _) _).setCell (p := ⟨w.heap.size, k * 3 + 1, none⟩) (Nat.le_refl _) _).setCell (p := ⟨w.heap.size, k * 3 + 2, none⟩) (Nat.le_refl _) _
      case measure => simp [intOf]; omega
    · obtain rfl : k = n := by omega
      rw [fillV_all _ k HPL.out] at hF
      go_wp2_with fail
      go_ret
      exact ⟨_, rfl, own_whole3 hF (Nat.le_refl _) HPL.out (by unfold maxLen; omega), hb⟩
set_option maxHeartbeats 400000 in
theorem eachVT_any (A : Option Addr) (n c : Nat) (l : List Tx) (w : World) (hr : Reads w w.heap.size 1 A n (ts l)) (hn : n ≤ 65536) :
    Calls Tryz.prog 227 #[.slice A n c, .func (.func 167) #[] #[]] w
      fun e w' => ∃ v, e = .returned v ∧ w'.ownsRow w.heap.size 50 3 v n (vs (ofT l)) ∧ Below w.heap.size w w' := by
  have e1 : l.length = n := by have := hr.1; rw [ts_length] at this; omega
  have hpl : (ofT l).length = n := by rw [ofT_length, e1]
  obtain ⟨O, hO⟩ : ∃ O, O = ofT l := ⟨_, rfl⟩
  rw [← hO] at hpl ⊢
  have hmk := fun W => run_make_vals n (by omega) W
  rw [← fillV_zero O n hpl] at hmk
  have hF0 := Blk.new w 50 (fillV O 0)
  have hb0 : Below w.heap.size w (w.alloc (.cells (fillV O 0) 50)) := (Below.refl _ _).alloc (Nat.le_refl _) _
  have HPL := Lib.hid hpl; have HE := Lib.hid e1; have HO := Lib.hid hO
  have HC := Lib.hid fun (v : Tx) (W : World) => text_any v W
  clear hpl e1 hO
  go_enter Tryz.func227, Tryz.ntmps227
  go_wp2_with fail
  clear hmk
  go_loopw [13] (fun s wr => ∃ k : Nat, k ≤ n ∧ s = .int .i64 (k : Int) ∧ Blk wr w.heap.size 50 (fillV O k) ∧ Below w.heap.size w wr) (fun i _ => n - (intOf i).toNat)
  case atStart => exact ⟨0, by omega, rfl, hF0, hb0⟩
  case round =>
    clear hF0 hb0
    obtain ⟨k, hk, rfl, hF, hb⟩ := hrel
    by_cases hlt : k < n
    · obtain ⟨ad, u, rfl, _, hu, hc0⟩ := (hr.below hb).at_ hlt
      obtain ⟨z, hz, rfl⟩ := ts_at hu
      have hz2 : O[k]? = some (2, 0, z) := by rw [HO.out]; simp [ofT, hz]
      have HV := Lib.hid hz2
      have hFl := hF.lt
      have hc := fun W => HC.out z W
      unfold vW at hc
      have HCC := Lib.hid hc
      clear hu hz hc hz2
      go_wp2_with fail
      refine (HCC.out _).mono ?_
      rintro e w2 ⟨rfl, hb2⟩
      have hF2 := hF.below hb2 hFl
      have hb02 := hb.trans (hb2.mono hb.size)
      have HST := Lib.hid (hF2.val HV.out)
      obtain ⟨y0, y1, y2⟩ := fillV_old O k k (Nat.le_refl _) (by rw [HPL.out]; exact hlt)
      rw [← hF2.cell] at y0 y1 y2
      have f0 := hF2.frozen (k * 3); have f1 := hF2.frozen (k * 3 + 1); have f2 := hF2.frozen (k * 3 + 2)
      clear hF hb hb2 hc0
      go_wp2_with fail
      go_round
      case rel =>
        refine ⟨k + 1, by omega, by go_num, HST.out, ?_⟩
        exact ((hb02.setCell (p := ⟨w.heap.size, k * 3, none⟩) (Nat.le_refl _) _).setCell (p := ⟨w.heap.size, k * 3 + 1, none⟩) (Nat.le_refl _) _).setCell (p := ⟨w.heap.size, k * 3 + 2, none⟩) (Nat.le_refl _) _
      case measure => simp [intOf]; omega
    · obtain rfl : k = n := by omega
      rw [fillV_all _ k HPL.out] at hF
      go_wp2_with fail
      go_ret
      exact ⟨_, rfl, own_whole3 hF (Nat.le_refl _) HPL.out (by unfold maxLen; omega), hb⟩
end Go.Proofs.YticanhidahkhfaaGreatDoor
namespace Go.Proofs.YticanhidahkhfaaGreatDoor
open Go.RowKit
set_option linter.unusedVariables false
set_option linter.unusedSimpArgs false
set_option maxRecDepth 100000
theorem blen_shift (k v : Nat) (h : 2 ^ k ≤ v) : blen v = blen (v / 2 ^ k) + k := by
  induction k generalizing v with
  | zero => simp
  | succ k ih =>
    have h2 : 2 ^ k ≤ v / 2 := by rw [Nat.pow_succ] at h; omega
    have := Nat.two_pow_pos k
    rw [blen_half v (by omega), ih _ h2, Nat.div_div_eq_div_mul, Nat.pow_succ, Nat.mul_comm 2]; omega
theorem blen8 : ∀ b : Fin 256, Lib.bitLen b.val = blen b.val := by decide +kernel
theorem size_len8tab : Lib.len8tab.size = 256 := by decide +kernel
theorem len8tab_fin : ∀ b : Fin 256, (Lib.len8tab[b.val]'(by rw [size_len8tab]; exact b.isLt)).toNat = blen b.val := by decide +kernel
theorem len8tab_at (x : Int) (n : Nat) (h0 : x.toNat = n) (h1 : n < 256) (hx : x.toNat < Lib.len8tab.size) (m : Nat) (hm : m ≤ 56) : wrap64 (wrap64 ((Lib.len8tab[x.toNat]'hx).toNat : Int)) = (blen n : Int) ∧ wrap64 ((m : Int) + wrap64 ((Lib.len8tab[x.toNat]'hx).toNat : Int)) = ((blen n + m : Nat) : Int) := by
  subst h0
  have h := len8tab_fin ⟨x.toNat, h1⟩
  simp only at h
  rw [h]
  have h8 : blen x.toNat ≤ 8 := (blen_le _ 8).2 (by omega)
  unfold wrap64
  omega
set_option maxHeartbeats 4000000 in
theorem len64_int (x : Int) (w : World) (h0 : 0 ≤ x) (h : x ≤ 18446744073709551615) :
    Calls Tryz.prog 262 #[.int .u64 x] w fun e w' => e = .returned (.int .i64 (blen x.toNat : Int)) ∧ w = w' := by
  have hs := size_len8tab
  go_enter Tryz.func262, Tryz.ntmps262
  go_wp2
  all_goals (go_ret; refine ⟨ret_of (congrArg (Value.int IntKind.i64) ?_), rfl⟩)
  all_goals first
    | (refine (len8tab_at _ (x.toNat / 2 ^ 56) (by omega) (by omega) _ 56 (by omega)).2.trans ?_; rw [← blen_shift 56 _ (by omega)])
    | (refine (len8tab_at _ (x.toNat / 2 ^ 48) (by omega) (by omega) _ 48 (by omega)).2.trans ?_; rw [← blen_shift 48 _ (by omega)])
    | (refine (len8tab_at _ (x.toNat / 2 ^ 40) (by omega) (by omega) _ 40 (by omega)).2.trans ?_; rw [← blen_shift 40 _ (by omega)])
    | (refine (len8tab_at _ (x.toNat / 2 ^ 32) (by omega) (by omega) _ 32 (by omega)).2.trans ?_; rw [← blen_shift 32 _ (by omega)])
    | (refine (len8tab_at _ (x.toNat / 2 ^ 24) (by omega) (by omega) _ 24 (by omega)).2.trans ?_; rw [← blen_shift 24 _ (by omega)])
    | (refine (len8tab_at _ (x.toNat / 2 ^ 16) (by omega) (by omega) _ 16 (by omega)).2.trans ?_; rw [← blen_shift 16 _ (by omega)])
    | (refine (len8tab_at _ (x.toNat / 2 ^ 8) (by omega) (by omega) _ 8 (by omega)).2.trans ?_; rw [← blen_shift 8 _ (by omega)])
    | exact (len8tab_at _ _ rfl (by omega) _ 0 (by omega)).1
theorem len64_any (x : Nat) (w : World) (h : x < 18446744073709551616) :
    Calls Tryz.prog 262 #[.int .u64 (x : Int)] w fun e w' => e = .returned (.int .i64 (blen x : Int)) ∧ w = w' :=
  len64_int x w (by omega) (by omega)
end Go.Proofs.YticanhidahkhfaaGreatDoor
namespace Go.Proofs.YticanhidahkhfaaGreatDoor
open Go.RowKit
set_option linter.unusedVariables false
set_option linter.unusedSimpArgs false
set_option maxRecDepth 100000
theorem zig_any (n : Int) (w : World) (h1 : -9223372036854775808 ≤ n) (h2 : n ≤ 9223372036854775807) : Calls Tryz.prog 206 #[.int .i64 n] w fun e w' => e = .returned (.int .u64 (zigI n)) ∧ w = w' := by
  by_cases h : 0 ≤ n
  · have HZ := Lib.hid (zig_low n h h2)
    go_enter Tryz.func206, Tryz.ntmps206
    go_wp2_with fail
    go_ret
    exact ⟨ret_of (congrArg (Value.int .u64) HZ.out), rfl⟩
  · have HZ := Lib.hid (zig_high n h h1)
    go_enter Tryz.func206, Tryz.ntmps206
    go_wp2_with fail
    go_ret
    exact ⟨ret_of (congrArg (Value.int .u64) HZ.out), rfl⟩
end Go.Proofs.YticanhidahkhfaaGreatDoor
namespace Go.Proofs.YticanhidahkhfaaGreatDoor
open Go.RowKit
set_option linter.unusedVariables false
set_option linter.unusedSimpArgs false
set_option maxRecDepth 100000
theorem zigN_any (z : Int) (w : World) (h : In64 z) : Calls Tryz.prog 206 #[.int .i64 z] w fun e w' => e = .returned (.int .u64 (zg z : Int)) ∧ w = w' := by
  rw [← (zg_int h).1]; exact zig_any z w h.1 h.2
end Go.Proofs.YticanhidahkhfaaGreatDoor
namespace Go.Proofs.YticanhidahkhfaaGreatDoor
open Go.RowKit
set_option linter.unusedVariables false
set_option linter.unusedSimpArgs false
set_option maxRecDepth 100000
theorem plSize_any (v : Nat) (w : World) (hv : v < 18446744073709551616) : Calls Tryz.prog 259 #[.int .u64 (v : Int)] w fun e w' => e = .returned (.int .i64 ((vb v).length : Int)) ∧ w = w' := by
  have hor : bits .or .u64 (v : Int) 1 = ((v ||| 1 : Nat) : Int) := by
    rw [show (1 : Int) = ((1 : Nat) : Int) from rfl, u64_or_nat _ _ hv (by omega)]
  have hb := blen_one v
  have hs := vb_size v hv
  have h64 : blen (v ||| 1) ≤ 64 := blen_lt64 _ (Nat.or_lt_two_pow (n := 64) (by simpa using hv) (by decide))
  have h1 : (((blen (v ||| 1) + 7 - 1) / 7 : Nat) : Int) = ((vb v).length : Int) := by rw [hs, hb]; omega
  have HL := Lib.hid h1
  clear hb hs h1
  go_enter Tryz.func259, Tryz.ntmps259
  go_wp2_with fail
  refine (len64_any (v ||| 1) w (Nat.or_lt_two_pow (n := 64) (by simpa using hv) (by decide))).mono ?_
  rintro e w' ⟨rfl, rfl⟩
  go_wp2_with fail
  go_ret
  refine ⟨ret_of (congrArg (Value.int .i64) ?_), rfl⟩
  rw [← HL.out]; omega
set_option maxHeartbeats 400000 in
theorem plen_any (A : Option Addr) (n c : Nat) (l : List Int) (B : Nat) (w : World) (hr : Reads w B 1 A n (zs l)) (hl : ∀ z ∈ l, In64 z) (hn : n ≤ 14073748835532) :
    Calls Tryz.prog 205 #[.slice A n c] w fun e w' => e = .returned (.int .i64 ((pl l).length : Int)) ∧ w = w' := by
  have e1 : l.length = n := by have := hr.1; rw [zs_length] at this; omega
  have E1 := Lib.hid e1; have HLL := Lib.hid hl
  clear e1 hl
  go_enter Tryz.func205, Tryz.ntmps205
  go_wp2_with fail
  go_loop [3, 8] (fun s i => ∃ k q : Nat, k ≤ n ∧ i = .int .i64 (k : Int) ∧ s = .int .i64 (q : Int) ∧ Hid (q = (pl (l.take k)).length) ∧ q ≤ 10 * k) (fun _ i => n - (intOf i).toNat)
  case atStart => exact ⟨0, 0, by omega, rfl, rfl, Lib.hid (by simp [pl]), by omega⟩
  case round =>
    obtain ⟨k, q, hk, rfl, rfl, hq, hqk⟩ := hrel
    by_cases hlt : k < n
    · obtain ⟨ad, u, rfl, _, hu, hc⟩ := hr.at_ hlt
      obtain ⟨z, hz, rfl⟩ := zs_at hu
      have hz64 := HLL.out z (List.mem_of_getElem? hz)
      have hzg := (zg_int hz64).2
      have hvl := vb_length (zg z)
      have HZ := Lib.hid hz
      clear hu hz
      go_wp2_with fail
      refine (zigN_any z w hz64).mono ?_
      rintro e w' ⟨rfl, rfl⟩
      go_wp2_with fail
      refine (plSize_any (zg z) w hzg).mono ?_
      rintro e w' ⟨rfl, rfl⟩
      go_wp2_with fail
      go_round
      case rel => exact ⟨k + 1, q + (vb (zg z)).length, by omega, by go_num, by go_num, Lib.hid (by rw [pl_step HZ.out, List.length_append, hq.out]), by omega⟩
      case measure => simp [intOf]; omega
    · go_wp2_with fail
      go_ret
      obtain rfl : k = n := by omega
      refine ⟨ret_of (congrArg (Value.int .i64) ?_), rfl⟩
      rw [hq.out, List.take_of_length_le (by rw [E1.out]; omega)]
end Go.Proofs.YticanhidahkhfaaGreatDoor
