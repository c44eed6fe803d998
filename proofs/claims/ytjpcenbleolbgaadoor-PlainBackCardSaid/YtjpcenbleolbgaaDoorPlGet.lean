/- Contract of package plain's Get: the numbers in new memory, or the error's number. -/
import Derived.Test.YtjpcenbleolbgaaDoorPlRead
import Derived.Test.YtjpcenbleolbgaaDoorRdFar
import Derived.Test.YtjpcenbleolbgaaDoorFill
import Derived.Test.YtjpcenbleolbgaaDoorI64Row
import Derived.Test.YtjpcenbleolbgaaDoorZagF
namespace Go.Proofs.YtjpcenbleolbgaaDoor
open Go.RowKit
set_option linter.unusedVariables false
set_option linter.unusedSimpArgs false
set_option maxRecDepth 100000

theorem getE_bad {b : List Nat} {k : Int} (h : k < 0 ∨ 65536 < k) : getE b k = 1 ∧ getS b k = [] := by
  have hE : getE b k = 1 := by unfold getE; rw [if_pos h]
  exact ⟨hE, by unfold getS; rw [if_neg (by omega)]⟩
theorem plGet_no (A : Option Addr) (n c : Nat) (b : List Nat) (k : Int) (w : World) (h : k < 0 ∨ 65536 < k) :
    Calls Tryd.prog 6 #[.slice A n c, .int .i64 k] w (NewLE w (getS b k) (getE b k)) := by
  obtain ⟨h1, h2⟩ := getE_bad (b := b) h
  rw [h1, h2]
  clear h1 h2
  by_cases hk : k < 0
  · clear h
    go_enter Tryd.func6, Tryd.ntmps6
    go_wp2_with fail
    go_ret2
    exact ⟨.slice none 0 0, rfl, own_nil _ _ _ _, Below.refl _ _⟩
  · have d1 : decide (k < 0) = false := by simp; omega
    have h2 : 65536 < k := by omega
    clear h
    go_enter Tryd.func6, Tryd.ntmps6
    go_wp2_with fail
    go_ret2
    exact ⟨.slice none 0 0, rfl, own_nil _ _ _ _, Below.refl _ _⟩
theorem var_k {w : World} {g : Nat} {b : List Nat} {k : Nat} (h : RdS w g b (vst b k).1 (vst b k).2) :
    Calls Tryd.prog 13 #[.pointer (some ⟨g, 0, none⟩)] w fun e w' => e = .returned (.int .u64 (vv b k : Int)) ∧ RdS w' g b (vst b (k + 1)).1 (vst b (k + 1)).2 ∧ w.grownBy w' (some g) := var_is h
set_option maxHeartbeats 2000000 in
theorem plGet_ok (A : Option Addr) (n c N : Nat) (b : List Nat) (w : World) (hr : Reads w w.heap.size 1 A n (bs b)) (hb : ∀ x ∈ b, x < 256) (hn : n ≤ 140737488355328) (hN : N ≤ 65536) (hmet : Met w) :
    Calls Tryd.prog 6 #[.slice A n c, .int .i64 (N : Int)] w (NewLE w (getS b (N : Int)) (getE b (N : Int))) := by
  have d1 : decide ((N : Int) < 0) = false := by simp
  have d2 : decide ((65536 : Int) < (N : Int)) = false := by simp; omega
  have hX := getL_length b N
  have hXz : (zs (getL b N)).length = N := by rw [zs_length, hX]
  have hmk := fun W => run_make_i64 N N (Nat.le_refl _) (by omega) W
  rw [← fillW_zero (zs (getL b N)) (.int .i64 0) N hXz] at hmk
  have HE : Hid (getE b (N : Int) = (endS b (vst b N).1 (vst b N).2).1) := by
    unfold getE
    rw [if_neg (by omega), Int.toNat_natCast]
    try exact Lib.hid rfl
  have HX := Lib.hid hXz
  have HB := Lib.hid hb
  clear hX hXz hb
  go_enter Tryd.func6, Tryd.ntmps6
  go_wp2_with fail
  refine (newReader_any A n c b w hr hn HB.out).mono ?_
  rintro e w1 ⟨g, A1, c1, rfl, hg, hR1, hb1⟩
  have hS1 := rd_new hR1
  have hg1 := hS1.lt
  clear hR1
  go_wp2_with fail
  clear hmk
  have hS2 := hS1.alloc (.cells (fillW (zs (getL b N)) (.int .i64 0) 0) 2)
  have hF2 := Blk.new w1 2 (fillW (zs (getL b N)) (.int .i64 0) 0)
  have hb2 : Below w.heap.size w (w1.alloc (.cells (fillW (zs (getL b N)) (.int .i64 0) 0) 2)) := hb1.alloc hb1.size _
  have hh := hb1.size
  obtain ⟨h, hhd⟩ : ∃ h, h = w1.heap.size := ⟨_, rfl⟩
  rw [← hhd] at hF2 hg1 hh ⊢
  clear hS1 hb1
  go_loopw [22] (fun s22 wr => ∃ k : Nat, k ≤ N ∧ s22 = .int .i64 (k : Int) ∧ RdS wr g b (vst b k).1 (vst b k).2 ∧ Blk wr h 2 (fillW (zs (getL b N)) (.int .i64 0) k) ∧ Below w.heap.size w wr) (fun i _ => N - (intOf i).toNat)
  case atStart => exact ⟨0, by omega, rfl, hS2, hF2, hb2⟩
  case round =>
    clear hS2 hF2 hb2 hhd
    obtain ⟨k, hk, rfl, hS, hF, hb⟩ := hrel
    by_cases hlt : k < N
    · have hv := vv_lt HB.out k
      go_wp2_with fail
      refine (var_k hS).mono ?_
      rintro e w3 ⟨rfl, hS3, hg3⟩
      have hF3 := hF.grown hg3 (by simp; omega)
      have hb3 : Below w.heap.size w w3 := hb.grown hg3 hb.size (fun j hj => by injection hj with hj; omega)
      clear hS hF hb
      go_wp2_with fail
      refine (zag_any (vv b k) w3 hv).mono ?_
      rintro e w' ⟨rfl, rfl⟩
      have hc := hF3.cell k
      rw [fillW_old _ _ k (by rw [HX.out]; omega)] at hc
      have hf := hF3.frozen k
      go_wp2_with fail
      go_round
      case rel =>
        refine ⟨k + 1, by omega, by go_num, hS3.store hF3 hg1 (by decide) k _, ?_, hb3.setCell (by show w.heap.size ≤ h; omega) _⟩
        have := hF3.set_ k (.int .i64 (zagI (vv b k : Int)))
        rwa [fillW_next _ _ k _ (by unfold zs; rw [List.getElem?_map, getL_at b N k hlt]; rfl)] at this
      case measure => simp [intOf]; omega
    · obtain rfl : k = N := by omega
      go_wp2_with fail
      refine (end_is (hmet.next hb) hS).mono ?_
      rintro e w3 ⟨he, hb3⟩
      have hF3 := hF.below hb3 hF.lt
      have hB3 := hb.trans (hb3.mono hb.size)
      obtain ⟨r, hr0⟩ : ∃ r, r = (endS b (vst b k).1 (vst b k).2).1 := ⟨_, rfl⟩
      obtain ⟨o, ho⟩ : ∃ o : Int, o = ((endS b (vst b k).1 (vst b k).2).2 : Int) := ⟨_, rfl⟩
      have he' : e = .returned (.tuple #[.int .i64 r, .int .i64 o]) := by rw [hr0, ho]; exact he
      subst he'
      clear he ho hb hb3 hF hS
      rw [← hr0] at HE
      have HR := Lib.hid hr0
      clear hr0
      have hS0 : Hid (getS b (k : Int) = if r = 0 then getL b k else []) := by
        unfold getS
        rw [HE.out, Int.toNat_natCast]
        try exact Lib.hid rfl
      by_cases h0 : r = 0
      · subst h0
        go_wp2_with fail
        go_ret2
        rw [fillW_all _ _ k HX.out] at hF3
        rw [hS0.out, HE.out, if_pos trivial]
        refine ⟨_, rfl, ?_, hB3⟩
        have := own_whole (B := w.heap.size) hF3 (by omega) HX.out (by unfold maxLen; omega)
        rw [getL_length]
        exact this
      · have q1 : (r == 0) = false := by simp [h0]
        have q2 : (r != 0) = true := by simp [h0]
        have H0 := Lib.hid h0
        clear h0
        go_wp2_with fail
        go_ret2
        rw [hS0.out, HE.out, if_neg H0.out]
        exact ⟨.slice none 0 0, rfl, own_nil _ _ _ _, hB3⟩
theorem plGet_any (A : Option Addr) (n c : Nat) (k : Int) (b : List Nat) (w : World) (hr : Reads w w.heap.size 1 A n (bs b)) (hb : ∀ x ∈ b, x < 256) (hn : n ≤ 140737488355328) (hmet : Met w) :
    Calls Tryd.prog 6 #[.slice A n c, .int .i64 k] w (NewLE w (getS b k) (getE b k)) := by
  by_cases h : k < 0 ∨ 65536 < k
  · exact plGet_no A n c b k w h
  · obtain ⟨N, rfl⟩ : ∃ N : Nat, k = (N : Int) := ⟨k.toNat, by omega⟩
    exact plGet_ok A n c N b w hr hb hn (by omega) hmet
end Go.Proofs.YtjpcenbleolbgaaDoor
