import Derived.Test.YticanhidahkhfaaGreatDoorJ9
import Derived.Test.YticanhidahkhfaaGreatDoorJ12
import Derived.Test.YticanhidahkhfaaGreatDoorJ21
import Derived.Test.YticanhidahkhfaaGreatDoorJ22
import Derived.Test.YticanhidahkhfaaGreatDoorJ25
import Derived.Test.YticanhidahkhfaaGreatDoorJ27
import Derived.Test.YticanhidahkhfaaGreatDoorJ28
import Derived.Test.YticanhidahkhfaaGreatDoorJ30
import Derived.Test.YticanhidahkhfaaGreatDoorJ23
import Derived.Test.YticanhidahkhfaaGreatDoorJ29
import Derived.Test.YticanhidahkhfaaGreatDoorJ26
namespace Go.Proofs.YticanhidahkhfaaGreatDoor
open Go.RowKit
set_option linter.unusedVariables false
set_option linter.unusedSimpArgs false
set_option maxRecDepth 100000
def CkWay (w : World) (l : List Vl) (f : Int) (e : Ending) (w' : World) : Prop := ∃ v, e = .returned (.tuple #[v, .int .i64 f]) ∧ w'.ownsRow w.heap.size 50 3 v l.length (vs l) ∧ Below w.heap.size w w'
set_option maxHeartbeats 1000000 in
theorem litG_plain (A : Option Addr) (n c g1 g2 : Nat) (k : Int) (b : List Nat) (w : World) (hr : Reads w w.heap.size 1 A n (bs b)) (hb : ∀ x ∈ b, x < 256) (hn : n ≤ 140737488355328) (hmet : Met w) (h1 : FnAt w g1 152) (h2 : FnAt w g2 154) (hl : (getS b k).length ≤ 65536) :
    Calls Tryz.prog 203 #[.slice A n c, .int .i64 k, .pointer (some ⟨g1, 0, none⟩), .pointer (some ⟨g2, 0, none⟩)] w (CkWay w (ofN (getS b k)) (getE b k)) := by
  have hg := plGet_any A n c k b w hr hb hn hmet
  have HL := Lib.hid (ofN_length (getS b k))
  obtain ⟨L, hL⟩ : ∃ L, getS b k = L := ⟨_, rfl⟩
  obtain ⟨f, hf⟩ : ∃ f, getE b k = f := ⟨_, rfl⟩
  rw [hL, hf] at hg
  rw [hL] at hl HL
  rw [hL, hf]
  have HG := Lib.hid hg
  have HEE := Lib.hid fun A1 c1 W (r : Reads W W.heap.size 1 A1 L.length (zs L)) => eachVN_any A1 L.length c1 L W r hl
  have c1 : w.cell? ⟨g1, 0, none⟩ = some (.func (.func 152) #[] #[]) := h1
  have H2 := Lib.hid h2
  clear hg h1 h2 hL hf hl
  go_enter Tryz.func203, Tryz.ntmps203
  go_wp2_with fail
  refine HG.out.mono ?_
  rintro e w1 ⟨v1, rfl, hown1, hb1⟩
  obtain ⟨A1, c1', rfl, _, _, r1⟩ := own_slice hown1
  have c2 : w1.cell? ⟨g2, 0, none⟩ = some (.func (.func 154) #[] #[]) := H2.out.below hb1
  clear hown1
  go_wp2_with fail
  refine (HEE.out A1 c1' w1 r1).mono ?_
  rintro e w2 ⟨v2, rfl, hown2, hb2⟩
  go_wp2_with fail
  go_ret2
  rw [← HL.out] at hown2
  exact ⟨_, rfl, own_base hown2 hb1.size, hb1.trans (hb2.mono hb1.size)⟩
set_option maxHeartbeats 1000000 in
theorem litG_runs (A : Option Addr) (n c g1 g2 : Nat) (k : Int) (b : List Nat) (w : World) (hr : Reads w w.heap.size 1 A n (bs b)) (hb : ∀ x ∈ b, x < 256) (hn : n ≤ 140737488355328) (hmet : Met w) (h1 : FnAt w g1 156) (h2 : FnAt w g2 154) (hl : (rS b k).length ≤ 65536) :
    Calls Tryz.prog 203 #[.slice A n c, .int .i64 k, .pointer (some ⟨g1, 0, none⟩), .pointer (some ⟨g2, 0, none⟩)] w (CkWay w (ofN (rS b k)) (rE b k)) := by
  have hg := rnGet_any A n c k b w hr hb hn hmet
  have HL := Lib.hid (ofN_length (rS b k))
  obtain ⟨L, hL⟩ : ∃ L, rS b k = L := ⟨_, rfl⟩
  obtain ⟨f, hf⟩ : ∃ f, rE b k = f := ⟨_, rfl⟩
  rw [hL, hf] at hg
  rw [hL] at hl HL
  rw [hL, hf]
  have HG := Lib.hid hg
  have HEE := Lib.hid fun A1 c1 W (r : Reads W W.heap.size 1 A1 L.length (zs L)) => eachVN_any A1 L.length c1 L W r hl
  have c1 : w.cell? ⟨g1, 0, none⟩ = some (.func (.func 156) #[] #[]) := h1
  have H2 := Lib.hid h2
  clear hg h1 h2 hL hf hl
  go_enter Tryz.func203, Tryz.ntmps203
  go_wp2_with fail
  refine HG.out.mono ?_
  rintro e w1 ⟨v1, rfl, hown1, hb1⟩
  obtain ⟨A1, c1', rfl, _, _, r1⟩ := own_slice hown1
  have c2 : w1.cell? ⟨g2, 0, none⟩ = some (.func (.func 154) #[] #[]) := H2.out.below hb1
  clear hown1
  go_wp2_with fail
  refine (HEE.out A1 c1' w1 r1).mono ?_
  rintro e w2 ⟨v2, rfl, hown2, hb2⟩
  go_wp2_with fail
  go_ret2
  rw [← HL.out] at hown2
  exact ⟨_, rfl, own_base hown2 hb1.size, hb1.trans (hb2.mono hb1.size)⟩
set_option maxHeartbeats 1000000 in
theorem litG_delta (A : Option Addr) (n c g1 g2 : Nat) (k : Int) (b : List Nat) (w : World) (hr : Reads w w.heap.size 1 A n (bs b)) (hb : ∀ x ∈ b, x < 256) (hn : n ≤ 140737488355328) (hmet : Met w) (h1 : FnAt w g1 158) (h2 : FnAt w g2 154) (hl : (dG b k).length ≤ 65536) :
    Calls Tryz.prog 203 #[.slice A n c, .int .i64 k, .pointer (some ⟨g1, 0, none⟩), .pointer (some ⟨g2, 0, none⟩)] w (CkWay w (ofN (dG b k)) (dE b k)) := by
  have hg := dlGet_any A n c k b w hr hb hn hmet
  have HL := Lib.hid (ofN_length (dG b k))
  obtain ⟨L, hL⟩ : ∃ L, dG b k = L := ⟨_, rfl⟩
  obtain ⟨f, hf⟩ : ∃ f, dE b k = f := ⟨_, rfl⟩
  rw [hL, hf] at hg
  rw [hL] at hl HL
  rw [hL, hf]
  have HG := Lib.hid hg
  have HEE := Lib.hid fun A1 c1 W (r : Reads W W.heap.size 1 A1 L.length (zs L)) => eachVN_any A1 L.length c1 L W r hl
  have c1 : w.cell? ⟨g1, 0, none⟩ = some (.func (.func 158) #[] #[]) := h1
  have H2 := Lib.hid h2
  clear hg h1 h2 hL hf hl
  go_enter Tryz.func203, Tryz.ntmps203
  go_wp2_with fail
  refine HG.out.mono ?_
  rintro e w1 ⟨v1, rfl, hown1, hb1⟩
  obtain ⟨A1, c1', rfl, _, _, r1⟩ := own_slice hown1
  have c2 : w1.cell? ⟨g2, 0, none⟩ = some (.func (.func 154) #[] #[]) := H2.out.below hb1
  clear hown1
  go_wp2_with fail
  refine (HEE.out A1 c1' w1 r1).mono ?_
  rintro e w2 ⟨v2, rfl, hown2, hb2⟩
  go_wp2_with fail
  go_ret2
  rw [← HL.out] at hown2
  exact ⟨_, rfl, own_base hown2 hb1.size, hb1.trans (hb2.mono hb1.size)⟩
set_option maxHeartbeats 1000000 in
theorem litG_dict (A : Option Addr) (n c g1 g2 : Nat) (k : Int) (b : List Nat) (w : World) (hr : Reads w w.heap.size 1 A n (bs b)) (hb : ∀ x ∈ b, x < 256) (hn : n ≤ 140737488355328) (hmet : Met w) (h1 : FnAt w g1 160) (h2 : FnAt w g2 154) (hl : (dcG b k).length ≤ 65536) :
    Calls Tryz.prog 203 #[.slice A n c, .int .i64 k, .pointer (some ⟨g1, 0, none⟩), .pointer (some ⟨g2, 0, none⟩)] w (CkWay w (ofN (dcG b k)) (dcE b k)) := by
  have hg := dcGet_any A n c k b w hr hb hn hmet
  have HL := Lib.hid (ofN_length (dcG b k))
  obtain ⟨L, hL⟩ : ∃ L, dcG b k = L := ⟨_, rfl⟩
  obtain ⟨f, hf⟩ : ∃ f, dcE b k = f := ⟨_, rfl⟩
  rw [hL, hf] at hg
  rw [hL] at hl HL
  rw [hL, hf]
  have HG := Lib.hid hg
  have HEE := Lib.hid fun A1 c1 W (r : Reads W W.heap.size 1 A1 L.length (zs L)) => eachVN_any A1 L.length c1 L W r hl
  have c1 : w.cell? ⟨g1, 0, none⟩ = some (.func (.func 160) #[] #[]) := h1
  have H2 := Lib.hid h2
  clear hg h1 h2 hL hf hl
  go_enter Tryz.func203, Tryz.ntmps203
  go_wp2_with fail
  refine HG.out.mono ?_
  rintro e w1 ⟨v1, rfl, hown1, hb1⟩
  obtain ⟨A1, c1', rfl, _, _, r1⟩ := own_slice hown1
  have c2 : w1.cell? ⟨g2, 0, none⟩ = some (.func (.func 154) #[] #[]) := H2.out.below hb1
  clear hown1
  go_wp2_with fail
  refine (HEE.out A1 c1' w1 r1).mono ?_
  rintro e w2 ⟨v2, rfl, hown2, hb2⟩
  go_wp2_with fail
  go_ret2
  rw [← HL.out] at hown2
  exact ⟨_, rfl, own_base hown2 hb1.size, hb1.trans (hb2.mono hb1.size)⟩
set_option maxHeartbeats 1000000 in
theorem litG_fore (A : Option Addr) (n c g1 g2 : Nat) (k : Int) (b : List Nat) (w : World) (hr : Reads w w.heap.size 1 A n (bs b)) (hb : ∀ x ∈ b, x < 256) (hn : n ≤ 140737488355328) (hmet : Met w) (h1 : FnAt w g1 162) (h2 : FnAt w g2 154) (hl : (fG b k).length ≤ 65536) :
    Calls Tryz.prog 203 #[.slice A n c, .int .i64 k, .pointer (some ⟨g1, 0, none⟩), .pointer (some ⟨g2, 0, none⟩)] w (CkWay w (ofN (fG b k)) (fE b k)) := by
  have hg := foGet_any A n c k b w hr hb hn hmet
  have HL := Lib.hid (ofN_length (fG b k))
  obtain ⟨L, hL⟩ : ∃ L, fG b k = L := ⟨_, rfl⟩
  obtain ⟨f, hf⟩ : ∃ f, fE b k = f := ⟨_, rfl⟩
  rw [hL, hf] at hg
  rw [hL] at hl HL
  rw [hL, hf]
  have HG := Lib.hid hg
  have HEE := Lib.hid fun A1 c1 W (r : Reads W W.heap.size 1 A1 L.length (zs L)) => eachVN_any A1 L.length c1 L W r hl
  have c1 : w.cell? ⟨g1, 0, none⟩ = some (.func (.func 162) #[] #[]) := h1
  have H2 := Lib.hid h2
  clear hg h1 h2 hL hf hl
  go_enter Tryz.func203, Tryz.ntmps203
  go_wp2_with fail
  refine HG.out.mono ?_
  rintro e w1 ⟨v1, rfl, hown1, hb1⟩
  obtain ⟨A1, c1', rfl, _, _, r1⟩ := own_slice hown1
  have c2 : w1.cell? ⟨g2, 0, none⟩ = some (.func (.func 154) #[] #[]) := H2.out.below hb1
  clear hown1
  go_wp2_with fail
  refine (HEE.out A1 c1' w1 r1).mono ?_
  rintro e w2 ⟨v2, rfl, hown2, hb2⟩
  go_wp2_with fail
  go_ret2
  rw [← HL.out] at hown2
  exact ⟨_, rfl, own_base hown2 hb1.size, hb1.trans (hb2.mono hb1.size)⟩
set_option maxHeartbeats 1000000 in
theorem litG_texts (A : Option Addr) (n c g1 g2 : Nat) (k : Int) (b : List Nat) (w : World) (hr : Reads w w.heap.size 1 A n (bs b)) (hb : ∀ x ∈ b, x < 256) (hn : n ≤ 140737488355328) (hmet : Met w) (h1 : FnAt w g1 165) (h2 : FnAt w g2 167) (hl : (txG b k).length ≤ 65536) :
    Calls Tryz.prog 226 #[.slice A n c, .int .i64 k, .pointer (some ⟨g1, 0, none⟩), .pointer (some ⟨g2, 0, none⟩)] w (CkWay w (ofT (txG b k)) (txE b k)) := by
  have hg := txGet_any A n c k b w hr hb hn hmet
  have HL := Lib.hid (ofT_length (txG b k))
  obtain ⟨L, hL⟩ : ∃ L, txG b k = L := ⟨_, rfl⟩
  obtain ⟨f, hf⟩ : ∃ f, txE b k = f := ⟨_, rfl⟩
  rw [hL, hf] at hg
  rw [hL] at hl HL
  rw [hL, hf]
  have HG := Lib.hid hg
  have HEE := Lib.hid fun A1 c1 W (r : Reads W W.heap.size 1 A1 L.length (ts L)) => eachVT_any A1 L.length c1 L W r hl
  have c1 : w.cell? ⟨g1, 0, none⟩ = some (.func (.func 165) #[] #[]) := h1
  have H2 := Lib.hid h2
  clear hg h1 h2 hL hf hl
  go_enter Tryz.func226, Tryz.ntmps226
  go_wp2_with fail
  refine HG.out.mono ?_
  rintro e w1 ⟨v1, rfl, hown1, hb1⟩
  obtain ⟨A1, c1', rfl, _, _, r1⟩ := own_slice hown1
  have c2 : w1.cell? ⟨g2, 0, none⟩ = some (.func (.func 167) #[] #[]) := H2.out.below hb1
  clear hown1
  go_wp2_with fail
  refine (HEE.out A1 c1' w1 r1).mono ?_
  rintro e w2 ⟨v2, rfl, hown2, hb2⟩
  go_wp2_with fail
  go_ret2
  rw [← HL.out] at hown2
  exact ⟨_, rfl, own_base hown2 hb1.size, hb1.trans (hb2.mono hb1.size)⟩
end Go.Proofs.YticanhidahkhfaaGreatDoor
namespace Go.Proofs.YticanhidahkhfaaGreatDoor
open Go.RowKit
set_option linter.unusedVariables false
set_option linter.unusedSimpArgs false
set_option maxRecDepth 100000
theorem ilv_at : ∀ {r : List (Int × Nat)} {k : Nat} {x : Int} {m : Nat}, r[k]? = some (x, m) → (ilv r)[2 * k]? = some (zagI ((m - 1 : Nat) : Int)) ∧ (ilv r)[2 * k + 1]? = some x
  | p :: r, 0, x, m, h => by
    simp at h
    subst h
    exact ⟨rfl, rfl⟩
  | p :: r, k + 1, x, m, h => by
    have ih := ilv_at (r := r) (k := k) (by simpa using h)
    rw [show 2 * (k + 1) = 2 * k + 2 by omega]
    exact ⟨by simpa [ilv] using ih.1, by simpa [ilv] using ih.2⟩
theorem ilv_in {l : List Int} (hl : ∀ z ∈ l, In64 z) (hn : l.length ≤ 65536) : ∀ z ∈ ilv (runs l), In64 z := by
  intro z hz
  obtain ⟨⟨x, m⟩, hp, hz⟩ := List.mem_flatMap.1 hz
  obtain ⟨k, hk⟩ := List.mem_iff_getElem?.1 hp
  obtain ⟨h1, h2, h3, _⟩ := run_at hk
  simp at hz
  rcases hz with rfl | rfl
  · exact zagI_in (by omega)
  · exact hl _ (List.mem_of_getElem? (h3 0 h1))
section
variable {l : List Int} (hl : ∀ z ∈ l, In64 z) (hn : l.length ≤ 65536)
include hl hn
theorem put_how {k : Nat} {x : Int} {m : Nat} (h : (runs l)[k]? = some (x, m)) : how (rf (runs l)) k = m - 1 ∧ num (rf (runs l)) k = x := by
  have hk : k < (runs l).length := (List.getElem?_eq_some_iff.1 h).1
  have hil := ilv_length (runs l)
  obtain ⟨_, e2⟩ := vst_put (ilv (runs l)) [] (ilv_in hl hn) (2 * k + 2) (by omega)
  rw [List.append_nil] at e2
  obtain ⟨a1, a2⟩ := ilv_at h
  have g1 := getL_at (pl (ilv (runs l))) (2 * k + 2) (2 * k) (by omega)
  have g2 := getL_at (pl (ilv (runs l))) (2 * k + 2) (2 * k + 1) (by omega)
  rw [e2, List.getElem?_take, if_pos (by omega)] at g1 g2
  rw [a1] at g1
  rw [a2] at g2
  injection g1 with g1
  injection g2 with g2
  refine ⟨?_, g2.symm⟩
  have := congrArg zg g1
  rw [zg_zagI, zg_zagI] at this
  exact this.symm
theorem put_rr : ∀ k, k ≤ rc l → rr (rf (runs l)) k = (runs l).take k
  | 0, _ => by simp [rr]
  | k + 1, h => by
    have hk : k < (runs l).length := h
    obtain ⟨x, m, hat⟩ : ∃ x m, (runs l)[k]? = some (x, m) := ⟨_, _, List.getElem?_eq_getElem hk⟩
    obtain ⟨h1, h2⟩ := put_how hl hn hat
    have h3 := (run_at hat).1
    rw [rr_succ, put_rr k (by omega), h1, h2, List.take_add_one, hat, show m - 1 + 1 = m by omega]
    rfl
theorem put_tot {k : Nat} (h : k ≤ rc l) : tot (rf (runs l)) k = pos (runs l) k := by unfold tot pos; rw [put_rr hl hn k h]
theorem put_go {k : Nat} (h : k < rc l) : rGo (rf (runs l)) l.length k := by
  have hk : k < (runs l).length := h
  have hil := ilv_length (runs l)
  obtain ⟨x, m, hat⟩ : ∃ x m, (runs l)[k]? = some (x, m) := ⟨_, _, List.getElem?_eq_getElem hk⟩
  obtain ⟨h1, h2⟩ := put_how hl hn hat
  obtain ⟨r1, r2, _, _⟩ := run_at hat
  have ht := put_tot hl hn (Nat.le_of_lt h)
  refine go_of ?_ ?_ ?_ ?_
  · rw [ht]; omega
  · have e1 := (vst_put (ilv (runs l)) [] (ilv_in hl hn) (2 * k + 2) (by omega)).1
    rw [List.append_nil] at e1
    show (vst (pl (ilv (runs l))) (2 * k + 2)).2 = none
    rw [e1]
  · rw [ht, h1]; omega
  · rintro ⟨h3, h4⟩
    obtain ⟨j, rfl⟩ : ∃ j, k = j + 1 := ⟨k - 1, by omega⟩
    obtain ⟨y, q, hay⟩ : ∃ y q, (runs l)[j]? = some (y, q) := ⟨_, _, List.getElem?_eq_getElem (by omega)⟩
    rw [ahdN_succ, h2, (put_how hl hn hay).2] at h4
    have := (good_at (good_runs l) hay).2
    rw [List.head?_drop, hat] at this
    exact this (by rw [h4]; rfl)
theorem put_K : rK (rf (runs l)) l.length = rc l := by
  have h1 := rK_end (rf (runs l)) l.length
  rcases Nat.lt_trichotomy (rK (rf (runs l)) l.length) (rc l) with h | h | h
  · exact absurd (put_go hl hn h) h1
  · exact h
  · have := (go_is (rK_go h)).1
    rw [put_tot hl hn (Nat.le_refl _), pos_all] at this
    omega
theorem rn_get_put : rE (rf (runs l)) (l.length : Int) = 0 ∧ rS (rf (runs l)) (l.length : Int) = l := by
  have hil := ilv_length (runs l)
  have hrc : (runs l).length = rc l := rfl
  have hE : rE (rf (runs l)) (l.length : Int) = 0 := by
    unfold rE
    rw [if_neg (by omega), Int.toNat_natCast]
    unfold rEnd
    rw [put_K hl hn, put_tot hl hn (Nat.le_refl _), pos_all, if_neg (by omega), endS_none, if_neg]
    have e1 := (vst_put (ilv (runs l)) [] (ilv_in hl hn) (2 * rc l) (by omega)).1
    rw [List.append_nil] at e1
    show ¬ (vst (pl (ilv (runs l))) (2 * rc l)).1 < (pl (ilv (runs l))).length
    rw [e1, List.take_of_length_le (by omega)]
    simp
  refine ⟨hE, ?_⟩
  unfold rS
  rw [if_pos hE, Int.toNat_natCast, put_K hl hn, put_rr hl hn _ (Nat.le_refl _), List.take_of_length_le (by omega), expd_runs]
end
theorem rf_byte {l : List Int} (hl : ∀ z ∈ l, In64 z) (hn : l.length ≤ 65536) : ∀ x ∈ rf (runs l), x < 256 := pl_byte _ (ilv_in hl hn)
end Go.Proofs.YticanhidahkhfaaGreatDoor
namespace Go.Proofs.YticanhidahkhfaaGreatDoor
open Go.RowKit
set_option linter.unusedVariables false
set_option linter.unusedSimpArgs false
set_option maxRecDepth 100000
theorem zag_zg_map (l : List Int) (h : ∀ z ∈ l, In64 z) : (l.map zg).map (fun v : Nat => zagI (v : Int)) = l := by
  rw [List.map_map]
  conv => rhs; rw [← List.map_id l]
  exact List.map_congr_left fun z hz => zagI_zg (h z hz)
theorem zg_zag_map (l : List Nat) : (l.map (fun v : Nat => zagI (v : Int))).map zg = l := by
  rw [List.map_map]
  conv => rhs; rw [← List.map_id l]
  exact List.map_congr_left fun v _ => zg_zagI v
theorem stp_head (z : Int) (l : List Int) (hz : In64 z) : stp 0 (z :: l) = z :: stp z l := by
  simp only [stp]; rw [show z - 0 = z by omega, w64_id hz]
theorem dl_get (l : List Int) (hl : ∀ z ∈ l, In64 z) (hn : l.length ≤ 65536) : dE (dl l) (l.length : Int) = 0 ∧ dG (dl l) (l.length : Int) = l := by
  match l, hl, hn with
  | [], _, _ =>
    have h : dE (dl []) (([] : List Int).length : Int) = 0 := by
      rw [dl_nil]; exact dE_zero []
    exact ⟨h, by unfold dG; rw [if_pos h]; rfl⟩
  | [z], hl, _ =>
    have hz := hl z (by simp)
    have hd : dl [z] = vb (zg z) := by simp [dl, dl1, dl2, dl3]
    obtain ⟨h1, h2⟩ := first_read z hz []
    rw [List.append_nil] at h1 h2
    have h : dE (dl [z]) (([z] : List Int).length : Int) = 0 := by
      rw [hd]
      show dE (vb (zg z)) 1 = 0
      rw [dE_one _ (by rw [h1]), h1, if_neg (by omega)]
    refine ⟨h, ?_⟩
    unfold dG
    rw [if_pos h, hd]
    show sms 0 [zagI (vv (vb (zg z)) 0 : Int)] = [z]
    rw [h2]
    simp only [sms]
    rw [show 0 + z = z by omega, w64_id hz]
  | z :: y :: r, hl, hn =>
    have hz := hl z (by simp)
    obtain ⟨l, hle⟩ : ∃ l, l = z :: y :: r := ⟨_, rfl⟩
    have hlen : l.length = r.length + 2 := by rw [hle]; simp
    have hs : stp 0 l = z :: (stp 0 l).drop 1 := by rw [hle, stp_head z _ hz]; rfl
    have hZl : (zb l).length = l.length - 1 := zb_length l
    have hZ64 := zb_lt l
    have hK := wd_zb l
    have hd : dl l = vb (zg z) ++ (wd (zb l) :: packB (wd (zb l)) (zb l)) := by
      unfold dl dl2 dl3
      rw [if_neg (by omega), if_neg (by omega), hle, dl1_cons, List.append_assoc]
      rfl
    obtain ⟨h1, h2⟩ := first_read z hz (wd (zb l) :: packB (wd (zb l)) (zb l))
    rw [← hd] at h1 h2
    have hb := dl_byte l (by rw [hle]; exact hl)
    have hat : (dl l)[(vb (zg z)).length]? = some (wd (zb l)) := by rw [hd]; simp
    have hdrop : (dl l).drop ((vb (zg z)).length + 1) = packB (wd (zb l)) (zb l) := by rw [hd]; simp
    have hn1 : ((l.length : Int) - 1) = ((zb l).length : Int) := by rw [hZl]; omega
    obtain ⟨h3, h4⟩ := unpackE_pack (zb l) (wd (zb l)) (by rw [hZl, hle]; omega) hK (Nat.le_refl _)
    have hR : rbE (dl l) (vb (zg z)).length ((l.length : Int) - 1) = 0 := by
      unfold rbE
      rw [hat]
      simp only
      rw [if_neg (by omega), hdrop, hn1, h3, if_pos rfl, h4, if_pos rfl]
    have h : dE (dl l) (l.length : Int) = 0 := by
      rw [dE_more (dl l) hb l.length (by rw [hle] at hn1 ⊢; simp only [List.length_cons] at hn ⊢; omega) (by rw [h1]), h1]
      exact hR
    have hG : dG (dl l) (l.length : Int) = l := by
      unfold dG
      rw [if_pos h, Int.toNat_natCast]
      unfold dL
      rw [if_neg (by omega), if_neg (by omega), h1, h2]
      obtain ⟨v, e1, _, _, _, e5⟩ := rb_take (dl l) (vb (zg z)).length ((l.length : Int) - 1) hR
      rw [hat] at e1
      injection e1 with e1
      subst e1
      simp only
      rw [e5, hdrop, hn1, h4]
      unfold zb
      rw [zag_zg_map _ (fun x hx => stp_in l 0 x (List.mem_of_mem_drop hx)), ← hs]
      exact sms_stp l (by rw [hle]; exact hl) 0
    rw [← hle]
    exact ⟨h, hG⟩
theorem get_dl (b : List Nat) (hb : ∀ x ∈ b, x < 256) (k : Int) (h : dE b k = 0) : 0 ≤ k ∧ k ≤ 65536 ∧ dl (dG b k) = b ∧ (dG b k).length = k.toNat ∧ ∀ z ∈ dG b k, In64 z := by
  have hk : 0 ≤ k ∧ k ≤ 65536 := by
    unfold dE at h
    by_cases hk : k < 0 ∨ 65536 < k
    · rw [if_pos hk] at h; omega
    · omega
  obtain ⟨N, rfl⟩ : ∃ N : Nat, k = (N : Int) := ⟨k.toNat, by omega⟩
  have hG : dG b (N : Int) = sms 0 (dL b N) := by unfold dG; rw [if_pos h, Int.toNat_natCast]
  refine ⟨hk.1, hk.2, ?_, ?_, by rw [hG]; exact sms_in _ 0⟩
  all_goals
    rcases Nat.eq_zero_or_pos N with h0 | h0
    · subst h0
      have hl : b = [] := by
        have e := dE_zero b
        rw [show ((0 : Nat) : Int) = 0 from rfl] at h
        rw [h] at e
        by_cases h1 : 0 < b.length
        · rw [if_pos h1] at e; omega
        · exact List.eq_nil_of_length_eq_zero (by omega)
      first
        | (rw [hG, hl]; rfl)
        | (rw [hG]; rfl)
    · have hx : (vst b 1).2 = none := by
        cases hx : (vst b 1).2 with
        | none => rfl
        | some y =>
          rw [dE_err b N y (by omega) hx] at h
          exact absurd h (vst_ok b 1 y hx)
      have hpre := put_prefix b hb 1 hx
      have hg1 : getL b 1 = [zagI (vv b 0 : Int)] := by simp [getL]
      have hin0 := zagI_in (vv_lt hb 0)
      rw [hg1, pl_one, zg_zagI] at hpre
      obtain ⟨hp1, hp2⟩ := hpre
      by_cases h1 : N = 1
      · subst h1
        have hL : dL b 1 = [zagI (vv b 0 : Int)] := rfl
        have hs : sms 0 [zagI (vv b 0 : Int)] = [zagI (vv b 0 : Int)] := by
          simp only [sms]; rw [show (0 : Int) + zagI (vv b 0 : Int) = zagI (vv b 0 : Int) by omega, w64_id hin0]
        rw [hG, hL, hs]
        have e := dE_one b hx
        rw [show ((1 : Nat) : Int) = 1 from rfl] at h
        rw [h] at e
        first
          | (have hd : dl [zagI (vv b 0 : Int)] = vb (vv b 0) := by
               simp [dl, dl1, dl2, dl3, zg_zagI]
             rw [hd, hp2]
             by_cases h2 : (vst b 1).1 < b.length
             · rw [if_pos h2] at e; omega
             · exact List.take_of_length_le (by omega))
          | rfl
      · rw [dE_more b hb N (by omega) hx] at h
        obtain ⟨v, e1, e2, e3, e4, e5⟩ := rb_take b (vst b 1).1 ((N : Int) - 1) h
        have hpa := pack_again (b.drop ((vst b 1).1 + 1)) ((N : Int) - 1) v (fun x hx => hb x (List.mem_of_mem_drop hx)) e3
        obtain ⟨p1, p2, p3, p4, _⟩ := hpa
        rw [← hx] at e5
        have hL : dL b N = zagI (vv b 0 : Int) :: (unpackS (b.drop ((vst b 1).1 + 1)) ((N : Int) - 1) v).map fun v : Nat => zagI (v : Int) := by
          unfold dL; rw [if_neg (by omega), if_neg h1, e5]
        obtain ⟨L, hLd⟩ : ∃ L, L = unpackS (b.drop ((vst b 1).1 + 1)) ((N : Int) - 1) v := ⟨_, rfl⟩
        rw [← hLd] at hL p1 p2 p3 p4 e4
        have hin : ∀ z ∈ dL b N, In64 z := dL_in hb N
        have hst := stp_sms (dL b N) hin 0
        have hlen : (dL b N).length = N := by rw [hL, List.length_cons, List.length_map, p3]; omega
        have hgl : (sms 0 (dL b N)).length = N := by rw [sms_length, hlen]
        rw [hG]
        first
          | (have hzb : zb (sms 0 (dL b N)) = L := by
               unfold zb; rw [hst, hL]; simp only [List.drop_succ_cons, List.drop_zero]; exact zg_zag_map L
             have hps : packB v L = b.drop ((vst b 1).1 + 1) := by
               rw [← p2]; unfold packS; rw [if_pos p1]; rfl
             have hh : dl1 (sms 0 (dL b N)) = vb (vv b 0) := by
               rw [hL]; simp only [sms, dl1]
               rw [show (0 : Int) + zagI (vv b 0 : Int) = zagI (vv b 0 : Int) by omega, w64_id hin0, zg_zagI]
             unfold dl dl2 dl3
             rw [if_neg (by omega), if_neg (by omega), hzb, e4, hh, hp2, hps, List.append_assoc]
             obtain ⟨hl, hv⟩ := List.getElem?_eq_some_iff.1 e1
             rw [List.singleton_append, ← hv, ← List.drop_eq_getElem_cons hl, List.take_append_drop])
          | (rw [hgl]; rfl)
end Go.Proofs.YticanhidahkhfaaGreatDoor
namespace Go.Proofs.YticanhidahkhfaaGreatDoor
open Go.RowKit
set_option linter.unusedVariables false
set_option linter.unusedSimpArgs false
set_option maxRecDepth 100000
theorem zag_inj {a b : Nat} (h : zagI (a : Int) = zagI (b : Int)) : a = b := by rw [← zg_zagI a, h, zg_zagI]
theorem vv_vbs (ns : List Nat) (rest : List Nat) (h : ∀ a ∈ ns, a < 18446744073709551616) : (∀ k, k ≤ ns.length → vst (vbs ns ++ rest) k = ((vbs (ns.take k)).length, none)) ∧ ∀ k, k < ns.length → ns[k]? = some (vv (vbs ns ++ rest) k) := by
  obtain ⟨zl, hzl⟩ : ∃ zl : List Int, zl = ns.map fun v : Nat => zagI (v : Int) := ⟨_, rfl⟩
  have hz : ∀ z ∈ zl, In64 z := by
    intro z hz
    rw [hzl] at hz
    obtain ⟨v, hv, rfl⟩ := List.mem_map.1 hz
    exact zagI_in (h v hv)
  have hp : vbs ns = pl zl := by rw [vbs_pl, hzl]
  have hlen : zl.length = ns.length := by rw [hzl, List.length_map]
  rw [hp]
  refine ⟨fun k hk => ?_, fun k hk => ?_⟩
  · rw [(vst_put zl rest hz k (by omega)).1]
    congr 2
    rw [vbs_pl, List.map_take, ← hzl]
  · have h1 := (vst_put zl rest hz ns.length (by omega)).2
    have h2 := getL_at (pl zl ++ rest) ns.length k hk
    rw [h1, List.take_of_length_le (by omega), hzl, List.getElem?_map] at h2
    cases hv : ns[k]? with
    | none => rw [hv] at h2; simp at h2
    | some v =>
      rw [hv] at h2
      simp only [Option.map_some] at h2
      injection h2 with h2
      rw [hzl]
      congr 1
      rw [← hzl]
      rw [← hzl] at h2
      exact zag_inj h2
theorem hnD_lt (L : List Int) (h : ∀ z ∈ L, In64 z) (hn : L.length ≤ 65536) : ∀ a ∈ hnD L, a < 18446744073709551616 := by
  intro a ha
  rcases List.mem_cons.1 ha with rfl | ha
  · omega
  · exact htD_lt L h a ha
theorem ld_put (L : List Int) (rest : List Nat) (hr : Rise L) (hl : ∀ z ∈ L, In64 z) (hn : L.length ≤ 65536) :
    vv (hdD L ++ rest) 0 = L.length ∧ (vst (hdD L ++ rest) (L.length + 1)) = ((hdD L).length, none) ∧ (ldS (hdD L ++ rest) L.length).1.2 = none ∧ ldL (hdD L ++ rest) L.length = L ∧ (vst (hdD L ++ rest) 1).2 = none := by
  obtain ⟨b, hb⟩ : ∃ b, b = hdD L ++ rest := ⟨_, rfl⟩
  have hnl : (hnD L).length = L.length + 1 := by simp [hnD, htD_length]
  obtain ⟨h1, h2⟩ := vv_vbs (hnD L) rest (hnD_lt L hl hn)
  have hbe : vbs (hnD L) ++ rest = b := by rw [hb]; rfl
  rw [hbe] at h1 h2
  rw [← hb]
  have h0 : vv b 0 = L.length := by
    have := h2 0 (by omega)
    simp [hnD] at this
    omega
  have hv : ∀ k, k < L.length → (htD L)[k]? = some (vv b (k + 1)) := fun k hk => by
    have := h2 (k + 1) (by omega)
    simpa [hnD] using this
  have hns : ∀ k, k ≤ L.length + 1 → (vst b k).2 = none := fun k hk => by rw [h1 k (by omega)]
  have key : ∀ k, k ≤ L.length → (ldS b k).1 = vst b (k + 1) ∧ ∀ j, k = j + 1 → L[j]? = some (ldS b k).2 := by
    intro k
    induction k with
    | zero => intro _; exact ⟨rfl, fun j h => absurd h (by omega)⟩
    | succ k ih =>
      intro hk
      obtain ⟨i1, i2⟩ := ih (by omega)
      have hz : L[k]? = some L[k] := List.getElem?_eq_getElem (by omega)
      have hzin := hl _ (List.getElem_mem (show k < L.length by omega))
      have hvk := hv k (by omega)
      by_cases hk0 : k = 0
      · subst hk0
        rw [htD_zero hz] at hvk
        injection hvk with hvk
        refine ⟨rfl, fun j hj => ?_⟩
        obtain rfl : j = 0 := by omega
        rw [hz]
        congr 1
        show L[0] = zagI (vv b 1 : Int)
        rw [← hvk, zagI_zg hzin]
      · obtain ⟨j, hj⟩ : ∃ j, k = j + 1 := ⟨k - 1, by omega⟩
        subst hj
        have hp := i2 j rfl
        have hpin := hl _ (List.mem_of_getElem? hp)
        rw [htD_succ hp hz] at hvk
        injection hvk with hvk
        have hlt : (ldS b (j + 1)).2 < L[j + 1] := by
          have h3 := List.pairwise_iff_getElem.1 hr
          obtain ⟨a1, a2⟩ := List.getElem?_eq_some_iff.1 hp
          have := h3 j (j + 1) a1 (by omega) (by omega)
          omega
        have hvk2 : (L[j + 1] - (ldS b (j + 1)).2 - 1).toNat = vv b (j + 2) := hvk
        have hzz : wrap64 ((ldS b (j + 1)).2 + vv b (j + 2) + 1) = L[j + 1] := by
          rw [show (ldS b (j + 1)).2 + (vv b (j + 2) : Int) + 1 = L[j + 1] by omega, wr64_id hzin]
        have hld : ldS b (j + 2) = (vst b (j + 3), L[j + 1]) := by
          conv => lhs; unfold ldS
          simp only
          rw [if_neg (by omega), i1]
          show (if wrap64 ((ldS b (j + 1)).2 + vv b (j + 2) + 1) ≤ (ldS b (j + 1)).2 then _ else _, wrap64 ((ldS b (j + 1)).2 + vv b (j + 2) + 1)) = _
          rw [hzz, if_neg (by omega)]
          rfl
        refine ⟨by rw [hld], fun i hi => ?_⟩
        obtain rfl : i = j + 1 := by omega
        rw [hld]; exact hz
  refine ⟨h0, ?_, ?_, ?_, hns 1 (by omega)⟩
  · rw [h1 _ (by omega), List.take_of_length_le (by omega)]; rfl
  · rw [(key L.length (Nat.le_refl _)).1]; exact hns _ (Nat.le_refl _)
  · apply List.ext_getElem?
    intro k
    by_cases hk : k < L.length
    · rw [ldL_at b _ k hk, (key (k + 1) (by omega)).2 k rfl]
    · rw [List.getElem?_eq_none (by rw [ldL_length]; omega), List.getElem?_eq_none (by omega)]
theorem dc_get (l : List Int) (hl : ∀ z ∈ l, In64 z) (hn : l.length ≤ 65536) : dcE (dc l) (l.length : Int) = 0 ∧ dcG (dc l) (l.length : Int) = l := by
  have hb := dc_byte l hn hl
  have hLl := lstD_length l
  obtain ⟨P, hP⟩ : ∃ P, P = plcD l := ⟨_, rfl⟩
  obtain ⟨K, hK⟩ : ∃ K, K = wd P := ⟨_, rfl⟩
  have hPl : P.length = l.length := by rw [hP, plcD_length]
  have hd : dc l = hdD (lstD l) ++ (K :: packB K P) := by unfold dc; rw [hK, hP, List.append_assoc]; rfl
  have hKc : blen ((lstD l).length - 1) = K := by rw [hK, hP, wd_plcD]
  have hK16 : K ≤ 16 := by rw [hK, hP]; exact wd_plcD_le l hn
  obtain ⟨g0, g1, g2, g3, g4⟩ := ld_put (lstD l) (K :: packB K P) (lstD_rise l) (lstD_in hl) (by omega)
  rw [← hd] at g0 g1 g2 g3 g4
  have hc : ¬ l.length < vv (dc l) 0 := by rw [g0]; omega
  have hat : (dc l)[(hdD (lstD l)).length]? = some K := by rw [hd]; simp
  have hdrop : (dc l).drop ((hdD (lstD l)).length + 1) = packB K P := by rw [hd]; simp
  obtain ⟨h3, h4⟩ := unpackE_pack P K (by omega) (by omega) (by rw [hK]; exact Nat.le_refl _)
  rw [hPl] at h3 h4
  have hw : whE P (lstD l).length = 0 := whE_of (by rw [hP]; exact plcD_lt l) (by rw [hP]; exact plcD_all l)
  have hE : dcE (dc l) (l.length : Int) = 0 := by
    rw [dcE_rest hb hn hc (by rw [g0]; exact g2), g0, g1]
    unfold rpE
    rw [hat]
    simp only
    rw [if_pos hKc.symm, hdrop, h3, if_pos rfl, h4, hw]
    rfl
  refine ⟨hE, ?_⟩
  obtain ⟨_, _, _, hG⟩ := dcG_rest hb hn hc (by rw [g0]; exact g2) hE
  rw [hG, g0, g1, g3, hKc, hdrop, h4, hP]
  unfold plcD
  rw [List.map_map]
  conv => rhs; rw [← List.map_id l]
  refine List.map_congr_left fun z hz => ?_
  show ((lstD l)[posD (lstD l) z]?).getD 0 = z
  rw [posD_at ((lstD_mem l z).2 hz)]
  rfl
theorem get_dc (b : List Nat) (hb : ∀ x ∈ b, x < 256) (k : Int) (h : dcE b k = 0) : 0 ≤ k ∧ k ≤ 65536 ∧ dc (dcG b k) = b ∧ (dcG b k).length = k.toNat ∧ ∀ z ∈ dcG b k, In64 z := by
  have hk : 0 ≤ k ∧ k ≤ 65536 := by
    by_cases hk : k < 0 ∨ 65536 < k
    · rw [(dcE_bad hk).1] at h; omega
    · omega
  obtain ⟨N, rfl⟩ : ∃ N : Nat, k = (N : Int) := ⟨k.toNat, by omega⟩
  have hN : N ≤ 65536 := by omega
  obtain ⟨z1, z2, z3⟩ := dcE_zero hN h
  obtain ⟨h1, h2, h3, hG⟩ := dcG_rest hb hN z2 z3 h
  have hri := ldL_rise hb _ z3
  have hin := ldL_in hb (vv b 0)
  have hhd := ldL_head hb _ z3
  obtain ⟨c, hc⟩ : ∃ c, c = vv b 0 := ⟨_, rfl⟩
  rw [← hc] at h1 h2 h3 hG hri hin hhd z2 z3
  obtain ⟨L, hL⟩ : ∃ L, L = ldL b c := ⟨_, rfl⟩
  have hLc : L.length = c := by rw [hL, ldL_length]
  rw [← hL] at hG hri hin hhd
  obtain ⟨at_, hat⟩ : ∃ a, a = (vst b (c + 1)).1 := ⟨_, rfl⟩
  rw [← hat] at h1 h2 h3 hG
  obtain ⟨p1, p2, p3, p4, _⟩ := pack_again (b.drop (at_ + 1)) (N : Int) (blen (c - 1) : Int) (fun x hx => hb x (List.mem_of_mem_drop hx)) h2
  obtain ⟨P, hP⟩ : ∃ P, P = unpackS (b.drop (at_ + 1)) (N : Int) (blen (c - 1) : Int) := ⟨_, rfl⟩
  rw [← hP] at h3 hG p1 p2 p3 p4
  obtain ⟨w1, w2⟩ := whE_zero h3
  have hget : ∀ a, a < c → ∃ z, L[a]? = some z ∧ (L[a]?).getD 0 = z := fun a ha => by
    have : L[a]? = some L[a] := List.getElem?_eq_getElem (by omega)
    exact ⟨_, this, by rw [this]; rfl⟩
  obtain ⟨G, hGe⟩ : ∃ G, G = P.map (fun a => (L[a]?).getD 0) := ⟨_, rfl⟩
  rw [← hGe] at hG
  have hls : lstD G = L := by
    refine rise_ext _ _ (lstD_rise G) hri fun x => ?_
    rw [lstD_mem, hGe, List.mem_map]
    constructor
    · rintro ⟨a, ha, rfl⟩
      obtain ⟨z, e1, e2⟩ := hget a (w1 a ha)
      rw [e2]; exact List.mem_of_getElem? e1
    · intro hx
      obtain ⟨i, hi, rfl⟩ := List.mem_iff_getElem.1 hx
      refine ⟨i, w2 i (by omega), ?_⟩
      rw [List.getElem?_eq_getElem hi]; rfl
  have hpl : plcD G = P := by
    unfold plcD
    rw [hls, hGe, List.map_map]
    conv => rhs; rw [← List.map_id P]
    refine List.map_congr_left fun a ha => ?_
    obtain ⟨z, e1, e2⟩ := hget a (w1 a ha)
    show posD L ((L[a]?).getD 0) = a
    rw [e2]; exact posD_of hri e1
  have hwd : wd P = blen (c - 1) := by rw [← hpl, wd_plcD, hls, hLc]
  have hhn : hnD L = (List.range (c + 1)).map fun i => vv b i := by
    apply List.ext_getElem?
    intro i
    by_cases hi : i < c + 1
    · rw [List.getElem?_map, List.getElem?_range hi]
      cases i with
      | zero => simp [hnD, hLc, hc]
      | succ i =>
        have := hhd i (by omega)
        simpa [hnD] using this
    · rw [List.getElem?_eq_none (by simp [hnD, htD_length]; omega), List.getElem?_eq_none (by simp; omega)]
  have hpre := (put_prefix b hb (c + 1) (by rw [← ldS_place hb z3]; exact z3)).2
  have hhd2 : hdD L = b.take at_ := by
    unfold hdD
    rw [hhn, vbs_pl, List.map_map, hat, ← hpre]
    rfl
  have hpk : packB (blen (c - 1)) P = b.drop (at_ + 1) := by
    rw [← p2]; unfold packS; rw [if_pos p1]; rfl
  refine ⟨hk.1, hk.2, ?_, by rw [hG, hGe, List.length_map, p3], fun z hz => ?_⟩
  · rw [hG]
    unfold dc
    rw [hls, hpl, hwd, hhd2, hpk, List.append_assoc]
    obtain ⟨hl, hv⟩ := List.getElem?_eq_some_iff.1 h1
    rw [List.singleton_append, ← hv, ← List.drop_eq_getElem_cons hl, List.take_append_drop]
  · rw [hG, hGe] at hz
    obtain ⟨a, ha, rfl⟩ := List.mem_map.1 hz
    obtain ⟨z, e1, e2⟩ := hget a (w1 a ha)
    rw [e2]; exact hin z (List.mem_of_getElem? e1)
end Go.Proofs.YticanhidahkhfaaGreatDoor
