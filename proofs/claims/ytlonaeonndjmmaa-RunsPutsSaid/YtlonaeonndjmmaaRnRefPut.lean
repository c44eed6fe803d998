/- The document's form of runs. -/
import Derived.Test.YtlonaeonndjmmaaRnRefRuns
import Derived.Test.YtlonaeonndjmmaaRefPVar
import Derived.Test.YtlonaeonndjmmaaRefZig
import Derived.Test.YtlonaeonndjmmaaOpened
namespace Go.Proofs.Ytlonaeonndjmmaa
open Go.RowKit
set_option linter.unusedVariables false
set_option linter.unusedSimpArgs false
set_option maxRecDepth 100000

theorem refZigN_any (z : Int) (w : World) (h : In64 z) : Calls Try.prog 15 #[.int .i64 z] w fun e w' => e = .returned (.int .u64 (zg z : Int)) ∧ w = w' := by
  rw [← (zg_int h).1]; exact refZig_any z w h.1 h.2
theorem reads_plain2 {w : World} {B size n k : Nat} {A : Option Addr} {xs : List Value} {u : Value} (h : Reads w B size A n xs) (hn : 0 < n) (hu : xs[k]? = some u) : ∃ b off, A = some ⟨b, off, none⟩ ∧ b < B ∧ ∀ j u, xs[j]? = some u → w.cell? ⟨b, off + j, none⟩ = some u := by
  obtain ⟨⟨b, off, sp⟩, rfl, hb, hc⟩ := h.2 hn
  have hl : 0 < xs.length := by have := (List.getElem?_eq_some_iff.1 hu).1; omega
  have h0 := hc 0 _ (List.getElem?_eq_getElem hl)
  have hsp : sp = none := by simpa [Addr.add] using World.cell?_spot h0
  subst hsp
  exact ⟨b, off, rfl, hb, fun j u hu => by have := hc j u hu; rwa [plain_add] at this⟩
set_option maxHeartbeats 1000000 in
theorem refRnPut_any (A : Option Addr) (n c : Nat) (l : List Int) (w : World) (hr : Reads w w.heap.size 1 A n (zs l)) (hl : ∀ z ∈ l, In64 z) (hn : n ≤ 65536) :
    Calls Try.prog 8 #[.slice A n c] w (New w (bs (rf (runs l))) (rf (runs l)).length) := by
  obtain ⟨i0, hi0, hz0, hz1, hz2⟩ := info_parts info_u8
  have e1 : l.length = n := by have := hr.1; rw [zs_length] at this; omega
  have hrc := rc_le l
  rw [e1] at hrc
  have E1 := Lib.hid e1; have HLL := Lib.hid hl
  clear e1 hl
  go_enter Try.func8, Try.ntmps8
  go_wp2_with fail
  refine (refRuns_any A n c l w hr hn).mono ?_
  rintro e w1 ⟨v1, rfl, hown1, hb1⟩
  obtain ⟨A1, c1, rfl, _, _, hr1⟩ := own_slice hown1
  have hs1 := hb1.size
  have HR1 := Lib.hid hr1
  clear hown1 hr1
  go_wp2_with fail
  go_loopw [3, 5] (fun out i wr => ∃ k : Nat, k ≤ rc l ∧ i = .int .i64 (k : Int) ∧ wr.ownsRow w1.heap.size 5 1 out (rf ((runs l).take k)).length (bs (rf ((runs l).take k))) ∧ Below w1.heap.size w1 wr) (fun _ i _ => rc l - (intOf i).toNat)
  case atStart => exact ⟨0, by omega, rfl, own_nil _ _ _ _, Below.refl _ _⟩
  case round =>
    obtain ⟨k, hk, rfl, hown, hb⟩ := hrel
    by_cases hlt : k < rc l
    · obtain ⟨x, m, hat⟩ : ∃ x m, (runs l)[k]? = some (x, m) := ⟨_, _, List.getElem?_eq_getElem hlt⟩
      obtain ⟨hm0, hle, hall, _⟩ := run_at hat
      rw [E1.out] at hle
      have hx64 : In64 x := HLL.out x (List.mem_of_getElem? (hall 0 hm0))
      have hxg := (zg_int hx64).2
      obtain ⟨hv1, hv2⟩ := rv_at hat
      obtain ⟨b, off, rfl, hbB, hcell⟩ := reads_plain2 HR1.out (by omega) hv1
      have hcm : ∀ W : World, Below w1.heap.size w1 W → W.cell? ⟨b, off + k * 2 + 1, none⟩ = some (.int .i64 (m : Int)) ∧ W.cell? ⟨b, off + k * 2, none⟩ = some (.int .i64 x) := fun W hW =>
        ⟨(hW.cell (p := ⟨b, off + k * 2 + 1, none⟩) hbB).trans (hcell _ _ hv2), (hW.cell (p := ⟨b, off + k * 2, none⟩) hbB).trans (hcell _ _ hv1)⟩
      have HCM := Lib.hid hcm
      obtain ⟨cm1, _⟩ := hcm wr hb
      have hm1 : (m : Int) - 1 = ((m - 1 : Nat) : Int) := by omega
      have hw1 : IntKind.i64.wrap ((m - 1 : Nat) : Int) = ((m - 1 : Nat) : Int) := IntWalk.i64_in _ (by omega)
      have hw2 : IntKind.u64.wrap ((m - 1 : Nat) : Int) = ((m - 1 : Nat) : Int) := IntWalk.u64_in _ (by omega)
      have hv64 : m - 1 < 18446744073709551616 := by omega
      have hvm := vb_length (m - 1)
      have hvx := vb_length (zg x)
      have hrl := rf_length ((runs l).take k)
      have htk : ((runs l).take k).length ≤ k := List.length_take_le _ _
      have HS := Lib.hid (rf_step hat)
      clear hv1 hv2 hcell hall hat hcm hle
      go_wp2_with fail
      refine (refVar_any (m - 1) wr hv64).mono ?_
      intro e2 w2 hN2
      obtain ⟨A2, c2, rfl, _, hr2, hb2⟩ := hN2.opened
      clear hN2
      have hown2 := own_below hown hb2
      have hb02 := hb.trans (hb2.mono hb.size)
      go_wp2_with (at_builtin
                   refine wpList_append_any _ rfl (.tmp 14) (.tmp 22) _ rfl w1.heap.size 5 i0 _ 1 1 Try.underlying24 hi0 hz0 hz1 hz2 rfl (by omega) u3 (rf ((runs l).take k)).length (bs (rf ((runs l).take k))) rfl
                     hown2 w2.heap.size A2 (vb (m - 1)).length c2 (bs (vb (m - 1))) rfl hr2 (bs_one _) (by unfold maxLen; omega) (by omega) hb02.size ?_
                   intro v3 w3 hown3 hg3 hat3
                   obtain ⟨A3, c3, rfl, _, _, _⟩ := own_slice hown3
                   have hb03 := hb02.grown hg3 hb02.size (fun j hj => (hown2.lt j hj).1)
                   obtain ⟨_, cx3⟩ := HCM.out w3 hb03)
      rw [← bs_append, ← List.length_append] at hown3
      have hyl : (rf ((runs l).take k) ++ vb (m - 1)).length ≤ 20 * k + 10 := by rw [List.length_append]; omega
      refine (refZigN_any x w3 hx64).mono ?_
      rintro e w' ⟨rfl, rfl⟩
      go_wp2_with fail
      refine (refVar_any (zg x) w3 hxg).mono ?_
      intro e4 w4 hN4
      obtain ⟨A4, c4, rfl, _, hr4, hb4⟩ := hN4.opened
      clear hN4
      have hown4 := own_below hown3 hb4
      have hb04 := hb03.trans (hb4.mono hb03.size)
      rw [List.length_append] at hown4 hyl
      go_wp2_with (at_builtin
                   refine wpList_append_any _ rfl (.tmp 24) (.tmp 31) _ rfl w1.heap.size 5 i0 _ 1 1 Try.underlying24 hi0 hz0 hz1 hz2 rfl (by omega) (.slice A3 ((rf ((runs l).take k)).length + (vb (m - 1)).length) c3) ((rf ((runs l).take k)).length + (vb (m - 1)).length) (bs (rf ((runs l).take k) ++ vb (m - 1))) rfl
                     hown4 w4.heap.size A4 (vb (zg x)).length c4 (bs (vb (zg x))) rfl hr4 (bs_one _) (by unfold maxLen; omega) (by omega) hb04.size ?_
                   intro v5 w5 hown5 hg5 hat5)
      go_round
      case rel =>
        refine ⟨k + 1, by omega, by go_num, ?_, hb04.grown hg5 hb04.size (fun j hj => (hown4.lt j hj).1)⟩
        rw [HS.out, ← List.append_assoc, List.length_append, List.length_append, bs_append (_ ++ _)]
        exact hown5
      case measure => simp [intOf]; omega
    · obtain rfl : k = rc l := by omega
      go_wp2_with fail
      go_ret
      rw [show (runs l).take (rc l) = runs l from List.take_of_length_le (Nat.le_refl _)] at hown
      exact ⟨_, rfl, own_base hown hs1, hb1.trans (hb.mono hs1)⟩
end Go.Proofs.Ytlonaeonndjmmaa
