/- Contracts of package dict's listed and List: the list of all numbers, and a map that tells their places. -/
import Derived.Maps.OwnSet
import Derived.Test.YtppeagjklndidaaGreatDoorDcPlain
import Derived.Test.YtppeagjklndidaaGreatDoorJ13
namespace Go.Proofs.YtppeagjklndidaaGreatDoor
open Go.RowKit Go.Maps
set_option linter.unusedVariables false
set_option linter.unusedSimpArgs false
set_option maxRecDepth 100000

theorem law_i64 : Keyed Tryz.prog 2 := int_keyed Tryz.underlying2
theorem wf_in {z : Int} (h : In64 z) : (Lit.int .i64 z).wf = true := by unfold In64 at h; exact WalkArith.wf_i64 (by omega)
theorem key_in {z : Int} (h : In64 z) : keyOf Tryz.prog 2 (.int .i64 z) = some (.int .i64 z) := keyOf_int_mk Tryz.underlying2 (wf_in h)
theorem zero_u64 (w : World) : (zeroValue 46).run Tryz.prog w = .ok (.int .u64 0) w := by kernel_rfl
theorem elem_u64 (k : Nat) (h : k < 18446744073709551616) : plainElem (H := Unit) Tryz.prog 46 (.int .u64 (k : Int)) = some (.lit (.int .u64 (k : Int)), []) :=
  plainElem_int Tryz.underlying46 (WalkArith.wf_u64 (by omega))
/-- The map in block 'b' tells this, of at most 'm' numbers. -/
def MapAt (w : World) (b m : Nat) (D : DataW Unit) : Prop := w.ownsMap Tryz.prog 2 (plainElem Tryz.prog 46) b m D
/-- It tells the places of the first numbers of a list. -/
def AtD (D : DataW Unit) (L : List Int) (k : Nat) : Prop := ∀ (j : Nat) (z : Int), j < k → L[j]? = some z → D.atKey (.int .i64 z) (.lit (.int .u64 0)) = .lit (.int .u64 (j : Int))
/-- It has just these numbers. -/
def HasD (D : DataW Unit) (l : List Int) : Prop := ∀ z : Int, Maps.has D (.int .i64 z) = decide (z ∈ l)
theorem hasD_nil : HasD (.map []) [] := by intro z; simp [Maps.has]
theorem hasD_old {D : DataW Unit} {l : List Int} {z : Int} (h : HasD D l) (hz : z ∈ l) : HasD D (l ++ [z]) := by
  intro x
  rw [h x]
  apply decide_eq_decide.2
  constructor
  · intro hx; exact List.mem_append_left _ hx
  · intro hx
    rcases List.mem_append.1 hx with hx | hx
    · exact hx
    · rw [List.mem_singleton] at hx; exact hx ▸ hz
theorem isKey_i64 (z : Int) : WideAt.IsKeyLit (.int .i64 z) := by simp [WideAt.IsKeyLit]
theorem hasD_put {D : DataW Unit} {l : List Int} {z : Int} (h : HasD D l) (hD : IsMap D) (d : DataW Unit) : HasD (D.put (.int .i64 z) d) (l ++ [z]) := by
  intro x
  by_cases hx : x = z
  · subst hx
    rw [has_put_same hD (isKey_i64 x)]
    simp
  · rw [has_put_other (by simpa using hx), h x]
    apply decide_eq_decide.2
    simp [hx]
theorem atD_put {D : DataW Unit} {L : List Int} {k : Nat} {z : Int} (h : AtD D L k) (hL : Rise L) (hz : L[k]? = some z) (hD : IsMap D) : AtD (D.put (.int .i64 z) (.lit (.int .u64 (k : Int)))) L (k + 1) := by
  intro j y hj hy
  by_cases hjk : j = k
  · subst hjk
    rw [hz] at hy
    injection hy with hy
    subst hy
    exact atKey_put_same hD (isKey_i64 z) _ _
  · have hne : y ≠ z := fun e => hjk (rise_inj hL hy (e ▸ hz))
    rw [atKey_put_other (by simpa using hne)]
    exact h j y (by omega) hy
/-- The list in new memory, and the map. -/
def Listed (w : World) (l : List Int) (e : Ending) (w' : World) : Prop :=
  ∃ v b m D, e = .returned (.tuple #[v, .map (some b)]) ∧ w'.ownsRow w.heap.size 2 1 v (lstD l).length (zs (lstD l)) ∧ MapAt w' b m D ∧ AtD D (lstD l) (lstD l).length ∧ Below w.heap.size w w'
set_option maxHeartbeats 4000000 in
theorem listed_any (A : Option Addr) (n c : Nat) (l : List Int) (w : World) (hr : Reads w w.heap.size 1 A n (zs l)) (hl : ∀ z ∈ l, In64 z) (hn : n ≤ 4398046511104) :
    Calls Tryz.prog 28 #[.slice A n c] w (Listed w l) := by
  obtain ⟨i1, hi1, hy0, hy1, hy2⟩ := info_parts info_i64
  have e1 : l.length = n := by have := hr.1; rw [zs_length] at this; omega
  have hmm := @run_makeMap Tryz.prog
  have E1 := Lib.hid e1
  clear e1
  have hm0 : MapAt (w.alloc (.map #[] 0)) w.heap.size 0 (.map []) := World.ownsMap_made _ _ _ _
  have hb0 : Below w.heap.size w (w.alloc (.map #[] 0)) := (Below.refl _ _).alloc (Nat.le_refl _) _
  have hs0 : w.heap.size + 1 ≤ (w.alloc (.map #[] 0)).heap.size := by simp
  go_enter Tryz.func28, Tryz.ntmps28
  go_wp2_with fail
  go_loopw [4, 15] (fun s4 s15 wr => ∃ (k m : Nat) (D : DataW Unit), k ≤ n ∧ m ≤ k ∧ s15 = .int .i64 (k : Int) ∧ MapAt wr w.heap.size m D ∧ HasD D (l.take k) ∧ wr.ownsRow (w.heap.size + 1) 2 1 s4 (uqD (l.take k)).length (zs (uqD (l.take k))) ∧ Below w.heap.size w wr ∧ w.heap.size + 1 ≤ wr.heap.size) (fun _ i _ => n - (intOf i).toNat)
  case atStart => exact ⟨0, 0, _, Nat.zero_le _, Nat.le_refl _, rfl, hm0, hasD_nil, own_nil _ _ _ _, hb0, hs0⟩
  case round =>
    clear hm0 hb0 hs0
    obtain ⟨k, m, D, hk, hm, rfl, hmap, hhas, hown, hb, hs⟩ := hrel
    have hul : (uqD (l.take k)).length ≤ k := by have := uqD_length (l.take k); rw [List.length_take] at this; omega
    by_cases hlt : k < n
    · obtain ⟨ad, u, rfl, _, hu, hc0⟩ := (hr.below hb).at_ hlt
      obtain ⟨z, hz, rfl⟩ := zs_at hu
      have hzin := hl z (List.mem_of_getElem? hz)
      have HKEY := Lib.hid (key_in hzin)
      have HT := Lib.hid (take_snoc hz)
      have HAS := Lib.hid (hhas z)
      clear hu hz
      by_cases hold : z ∈ l.take k
      · have HO := Lib.hid (hasD_old hhas hold)
        have HU := Lib.hid (uqD_snoc (l.take k) z)
        have hd : Maps.has D (.int .i64 z) = true := by rw [HAS.out]; simpa using hold
        have HH := Lib.hid hd; have HOLD := Lib.hid hold
        clear hd hold hhas
        go_wp2_with (first | (at_lookup; refine wpList_lookup_own_ok_int _ rfl _ _ 60 rfl 2 46 .u64 law_i64 Tryz.underlying60 Tryz.underlying46 (zero_u64 _) w.heap.size m D rfl hmap _ _ rfl HKEY.out ?_; intro c1 hat hwc; rw [HH.out]) | fail)
        go_round
        case rel =>
          refine ⟨k + 1, m, D, by omega, by omega, by go_num, hmap, by rw [HT.out]; exact HO.out, ?_, hb, hs⟩
          rw [HT.out, HU.out, if_pos ((uqD_mem _ _).2 HOLD.out)]
          exact hown
        case measure => simp [intOf]; omega
      · have HO := Lib.hid (hasD_put (z := z) hhas (World.ownsMap.isMap hmap) (.lit (.int .u64 0)))
        have HU := Lib.hid (uqD_snoc (l.take k) z)
        have hd : Maps.has D (.int .i64 z) = false := by rw [HAS.out]; simpa using hold
        have HH := Lib.hid hd; have HOLD := Lib.hid hold
        have HV := Lib.hid (elem_u64 0 (by omega))
        clear hd hold hhas
        go_wp2_with (first
          | (at_lookup; refine wpList_lookup_own_ok_int _ rfl _ _ 60 rfl 2 46 .u64 law_i64 Tryz.underlying60 Tryz.underlying46 (zero_u64 _) w.heap.size m D rfl hmap _ _ rfl HKEY.out ?_; intro c1 hat hwc; rw [HH.out])
          | (at_mapUpdate; refine wpList_mapUpdate_own _ rfl _ _ _ 60 rfl 2 46 law_i64 Tryz.underlying60 _ w.heap.size m D rfl hmap (by unfold maxLen; omega) _ _ _ rfl rfl HKEY.out _ [] HV.out ?_; intro w1 hmap1 hgrow1)
          | (at_builtin
             refine wpList_append_any _ rfl (.tmp 29) (.tmp 31) _ rfl (w.heap.size + 1) 2 i1 _ 1 8 Tryz.underlying24 hi1 hy0 hy1 hy2 rfl (by omega) u4 (uqD (l.take k)).length (zs (uqD (l.take k))) rfl
               ((own_before hown hgrow1 (fun r hr => by injection hr with hr; omega)).alloc _) (w1.heap.size + 1) (some ⟨w1.heap.size, 0, none⟩) 1 1 [.int .i64 z] rfl (Reads.new w1 _ _) (one_int _ _) (by unfold maxLen; omega) (by omega) (by have := hgrow1.size; simp; omega) ?_
             intro v4 w4 hown4 hg4 hat4)
          | fail)
        go_round
        case rel =>
          have hne : (some w.heap.size : Option Nat) ≠ u4.ownBlock := fun e => by have := (hown.lt _ e.symm).1; omega
          have hb1 : Below w.heap.size w w1 := hb.grown hgrow1 hb.size (fun j hj => by injection hj with hj; omega)
          refine ⟨k + 1, m + 1, _, by omega, by omega, by go_num, (World.ownsMap.alloc hmap1 _).kept hg4 hne, by rw [HT.out]; exact HO.out, ?_, (hb1.alloc hb1.size _).grown hg4 (by have := hb1.size; simp; omega) (fun j hj => by have := (hown.lt j hj).1; omega), ?_⟩
          · rw [HT.out, HU.out, if_neg (fun h => HOLD.out ((uqD_mem _ _).1 h)), ← zs_snoc, List.length_append, List.length_singleton]
            exact hown4
          · have h1 := hgrow1.size; have h2 := hg4.size; simp at h2; omega
        case measure => simp [intOf]; omega
    · obtain rfl : k = n := by omega
      rw [List.take_of_length_le (by rw [E1.out]; exact Nat.le_refl _)] at hown hul
      have HS := Lib.hid (sort_uqD l)
      have HSL : Hid ((uqD l).length = (lstD l).length) := Lib.hid (by rw [← sort_uqD]; simp)
      clear hhas
      go_wp2_with fail
      refine (sort_own (w.heap.size + 1) (uqD l).length u4 (uqD l) wr hown rfl (by omega)).mono ?_
      rintro e w2 ⟨rfl, hown2, hg2⟩
      have hne : (some w.heap.size : Option Nat) ≠ u4.ownBlock := fun e => by have := (hown.lt _ e.symm).1; omega
      have hmap2 : MapAt w2 w.heap.size m D := World.ownsMap.kept hmap hg2 hne
      have hb2 : Below w.heap.size w w2 := hb.grown hg2 hb.size (fun j hj => by have := (hown.lt j hj).1; omega)
      rw [HS.out, HSL.out] at hown2
      rw [HSL.out] at hul
      obtain ⟨L, hL⟩ : ∃ L, L = lstD l := ⟨_, rfl⟩
      rw [← hL] at hown2 hul
      obtain ⟨N, hN⟩ : ∃ N, N = L.length := ⟨_, rfl⟩
      rw [← hN] at hown2 hul
      have HL := Lib.hid hL; have HN := Lib.hid hN
      have hin : ∀ z ∈ L, In64 z := by rw [hL]; exact lstD_in hl
      have hri : Hid (Rise L) := Lib.hid (by rw [hL]; exact lstD_rise l)
      clear hL hN hne hg2 hmap hown hb hs
      obtain ⟨A2, c2, rfl, hc2, hm2, r2⟩ := own_slice hown2
      clear r2
      go_wp2_with fail
      go_loopw [38] (fun s38 wx => ∃ (i m2 : Nat) (D2 : DataW Unit), i ≤ N ∧ m2 ≤ k + i ∧ s38 = .int .i64 (i : Int) ∧ MapAt wx w.heap.size m2 D2 ∧ AtD D2 L i ∧ wx.ownsRow (w.heap.size + 1) 2 1 (.slice A2 N c2) N (zs L) ∧ Below w.heap.size w wx) (fun i _ => N - (intOf i).toNat)
      case atStart => exact ⟨0, m, D, Nat.zero_le _, by omega, rfl, hmap2, fun j z hj => absurd hj (by omega), hown2, hb2⟩
      case round =>
        clear hmap2 hown2 hb2
        obtain ⟨i, m2, D2, hi, hm3, rfl, hmap3, hat3, hown3, hb3⟩ := hrel
        by_cases hlt2 : i < N
        · obtain ⟨ad, u, rfl, _, hu, hc0⟩ := (Reads.of_own hown3).at_ hlt2
          obtain ⟨z, hz, rfl⟩ := zs_at hu
          have HKEY := Lib.hid (key_in (hin z (List.mem_of_getElem? hz)))
          have HV := Lib.hid (elem_u64 i (by omega))
          have HA := Lib.hid (atD_put hat3 hri.out hz (World.ownsMap.isMap hmap3))
          clear hu hz hat3
          go_wp2_with (first
            | (at_mapUpdate; refine wpList_mapUpdate_own _ rfl _ _ _ 60 rfl 2 46 law_i64 Tryz.underlying60 _ w.heap.size m2 D2 rfl hmap3 (by unfold maxLen; omega) _ _ _ rfl rfl HKEY.out _ [] HV.out ?_; intro w1 hmap4 hgrow4)
            | fail)
          go_round
          case rel =>
            exact ⟨i + 1, m2 + 1, _, by omega, by omega, by go_num, hmap4, HA.out, own_before hown3 hgrow4 (fun r hr => by injection hr with hr; omega), hb3.grown hgrow4 hb3.size (fun j hj => by injection hj with hj; omega)⟩
          case measure => simp [intOf]; omega
        · obtain rfl : i = N := by omega
          go_wp2_with fail
          go_ret2
          refine ⟨_, _, m2, D2, rfl, ?_, hmap3, ?_, hb3⟩
          · rw [← HL.out, ← HN.out]; exact own_base hown3 (by omega)
          · rw [← HL.out, ← HN.out]; exact hat3
end Go.Proofs.YtppeagjklndidaaGreatDoor
