/- Texts joined: DcListed DcPutL Two PcPutI. -/
import Derived.Maps.OwnSet
import Derived.Test.YthlfplljbbnaoaaGreatDoorJ7
import Derived.Test.YthlfplljbbnaoaaGreatDoorJ19
import Derived.Test.YthlfplljbbnaoaaGreatDoorJ16
import Derived.Test.YthlfplljbbnaoaaGreatDoorJ14
import Derived.Test.YthlfplljbbnaoaaGreatDoorJ9
import Derived.Test.YthlfplljbbnaoaaGreatDoorJ17
import Derived.Test.YthlfplljbbnaoaaGreatDoorJ18
import Derived.Test.YthlfplljbbnaoaaGreatDoorJ13
/- Contracts of package dict's listed and List: the list of all numbers, and a map that tells their places. -/
namespace Go.Proofs.YthlfplljbbnaoaaGreatDoor
open Go.RowKit Go.Maps
set_option linter.unusedVariables false
set_option linter.unusedSimpArgs false
set_option maxRecDepth 100000

theorem law_i64 : Keyed Tryz.prog 2 := int_keyed Tryz.underlying2
theorem wf_in {z : Int} (h : In64 z) : (Lit.int .i64 z).wf = true := by unfold In64 at h; exact WalkArith.wf_i64 (by omega)
theorem key_in {z : Int} (h : In64 z) : keyOf Tryz.prog 2 (.int .i64 z) = some (.int .i64 z) := keyOf_int_mk Tryz.underlying2 (wf_in h)
theorem zero_u64 (w : World) : (zeroValue 61).run Tryz.prog w = .ok (.int .u64 0) w := by kernel_rfl
theorem elem_u64 (k : Nat) (h : k < 18446744073709551616) : plainElem (H := Unit) Tryz.prog 61 (.int .u64 (k : Int)) = some (.lit (.int .u64 (k : Int)), []) :=
  plainElem_int Tryz.underlying61 (WalkArith.wf_u64 (by omega))
/-- The map in block 'b' tells this, of at most 'm' numbers. -/
def MapAt (w : World) (b m : Nat) (D : DataW Unit) : Prop := w.ownsMap Tryz.prog 2 (plainElem Tryz.prog 61) b m D
/-- It tells the places of the first numbers of a list. -/
def AtD (D : DataW Unit) (L : List Int) (k : Nat) : Prop := ∀ (j : Nat) (z : Int), j < k → L[j]? = some z → D.atKey (.int .i64 z) (.lit (.int .u64 0)) = .lit (.int .u64 (j : Int))
/-- It has just these numbers. -/
def HasD (D : DataW Unit) (l : List Int) : Prop := ∀ z : Int, Maps.has D (.int .i64 z) = decide (z ∈ l)
theorem hasD_nil : HasD (.map []) [] := by intro z; simp [Maps.has]
theorem hasD_old {D : DataW Unit} {l : List Int} {z : Int} (h : HasD D l) (hz : z ∈ l) : HasD D (l ++ [z]) := by
  intro x
  rw [h x]
  apply decide_eq_decide.2
  constructor
  · intro hx; exact List.mem_append_left _ hx
  · intro hx
    rcases List.mem_append.1 hx with hx | hx
    · exact hx
    · rw [List.mem_singleton] at hx; exact hx ▸ hz
theorem isKey_i64 (z : Int) : WideAt.IsKeyLit (.int .i64 z) := by simp [WideAt.IsKeyLit]
theorem hasD_put {D : DataW Unit} {l : List Int} {z : Int} (h : HasD D l) (hD : IsMap D) (d : DataW Unit) : HasD (D.put (.int .i64 z) d) (l ++ [z]) := by
  intro x
  by_cases hx : x = z
  · subst hx
    rw [has_put_same hD (isKey_i64 x)]
    simp
  · rw [has_put_other (by simpa using hx), h x]
    apply decide_eq_decide.2
    simp [hx]
theorem atD_put {D : DataW Unit} {L : List Int} {k : Nat} {z : Int} (h : AtD D L k) (hL : Rise L) (hz : L[k]? = some z) (hD : IsMap D) : AtD (D.put (.int .i64 z) (.lit (.int .u64 (k : Int)))) L (k + 1) := by
  intro j y hj hy
  by_cases hjk : j = k
  · subst hjk
    rw [hz] at hy
    injection hy with hy
    subst hy
    exact atKey_put_same hD (isKey_i64 z) _ _
  · have hne : y ≠ z := fun e => hjk (rise_inj hL hy (e ▸ hz))
    rw [atKey_put_other (by simpa using hne)]
    exact h j y (by omega) hy
/-- The list in new memory, and the map. -/
def Listed (w : World) (l : List Int) (e : Ending) (w' : World) : Prop :=
  ∃ v b m D, e = .returned (.tuple #[v, .map (some b)]) ∧ w'.ownsRow w.heap.size 2 1 v (lstD l).length (zs (lstD l)) ∧ MapAt w' b m D ∧ AtD D (lstD l) (lstD l).length ∧ Below w.heap.size w w'
set_option maxHeartbeats 4000000 in
theorem listed_any (A : Option Addr) (n c : Nat) (l : List Int) (w : World) (hr : Reads w w.heap.size 1 A n (zs l)) (hl : ∀ z ∈ l, In64 z) (hn : n ≤ 4398046511104) :
    Calls Tryz.prog 100 #[.slice A n c] w (Listed w l) := by
  obtain ⟨i1, hi1, hy0, hy1, hy2⟩ := info_parts info_i64
  have e1 : l.length = n := by have := hr.1; rw [zs_length] at this; omega
  have hmm := @run_makeMap Tryz.prog
  have E1 := Lib.hid e1
  clear e1
  have hm0 : MapAt (w.alloc (.map #[] 0)) w.heap.size 0 (.map []) := World.ownsMap_made _ _ _ _
  have hb0 : Below w.heap.size w (w.alloc (.map #[] 0)) := (Below.refl _ _).alloc (Nat.le_refl _) _
  have hs0 : w.heap.size + 1 ≤ (w.alloc (.map #[] 0)).heap.size := by simp
  go_enter Tryz.func100, Tryz.ntmps100
  go_wp2_with fail
  go_loopw [4, 15] (fun s4 s15 wr => ∃ (k m : Nat) (D : DataW Unit), k ≤ n ∧ m ≤ k ∧ s15 = .int .i64 (k : Int) ∧ MapAt wr w.heap.size m D ∧ HasD D (l.take k) ∧ wr.ownsRow (w.heap.size + 1) 2 1 s4 (uqD (l.take k)).length (zs (uqD (l.take k))) ∧ Below w.heap.size w wr ∧ w.heap.size + 1 ≤ wr.heap.size) (fun _ i _ => n - (intOf i).toNat)
  case atStart => exact ⟨0, 0, _, Nat.zero_le _, Nat.le_refl _, rfl, hm0, hasD_nil, own_nil _ _ _ _, hb0, hs0⟩
  case round =>
    clear hm0 hb0 hs0
    obtain ⟨k, m, D, hk, hm, rfl, hmap, hhas, hown, hb, hs⟩ := hrel
    have hul : (uqD (l.take k)).length ≤ k := by have := uqD_length (l.take k); rw [List.length_take] at this; omega
    by_cases hlt : k < n
    · obtain ⟨ad, u, rfl, _, hu, hc0⟩ := (hr.below hb).at_ hlt
      obtain ⟨z, hz, rfl⟩ := zs_at hu
      have hzin := hl z (List.mem_of_getElem? hz)
      have HKEY := Lib.hid (key_in hzin)
      have HT := Lib.hid (take_snoc hz)
      have HAS := Lib.hid (hhas z)
      clear hu hz
      by_cases hold : z ∈ l.take k
      · have HO := Lib.hid (hasD_old hhas hold)
        have HU := Lib.hid (uqD_snoc (l.take k) z)
        have hd : Maps.has D (.int .i64 z) = true := by rw [HAS.out]; simpa using hold
        have HH := Lib.hid hd; have HOLD := Lib.hid hold
        clear hd hold hhas
        go_wp2_with (first | (at_lookup; refine wpList_lookup_own_ok_int _ rfl _ _ 130 rfl 2 61 .u64 law_i64 Tryz.underlying130 Tryz.underlying61 (zero_u64 _) w.heap.size m D rfl hmap _ _ rfl HKEY.out ?_; intro c1 hat hwc; rw [HH.out]) | fail)
        go_round
        case rel =>
          refine ⟨k + 1, m, D, by omega, by omega, by go_num, hmap, by rw [HT.out]; exact HO.out, ?_, hb, hs⟩
          rw [HT.out, HU.out, if_pos ((uqD_mem _ _).2 HOLD.out)]
          exact hown
        case measure => simp [intOf]; omega
      · have HO := Lib.hid (hasD_put (z := z) hhas (World.ownsMap.isMap hmap) (.lit (.int .u64 0)))
        have HU := Lib.hid (uqD_snoc (l.take k) z)
        have hd : Maps.has D (.int .i64 z) = false := by rw [HAS.out]; simpa using hold
        have HH := Lib.hid hd; have HOLD := Lib.hid hold
        have HV := Lib.hid (elem_u64 0 (by omega))
        clear hd hold hhas
        go_wp2_with (first
          | (at_lookup; refine wpList_lookup_own_ok_int _ rfl _ _ 130 rfl 2 61 .u64 law_i64 Tryz.underlying130 Tryz.underlying61 (zero_u64 _) w.heap.size m D rfl hmap _ _ rfl HKEY.out ?_; intro c1 hat hwc; rw [HH.out])
          | (at_mapUpdate; refine wpList_mapUpdate_own _ rfl _ _ _ 130 rfl 2 61 law_i64 Tryz.underlying130 _ w.heap.size m D rfl hmap (by unfold maxLen; omega) _ _ _ rfl rfl HKEY.out _ [] HV.out ?_; intro w1 hmap1 hgrow1)
          | (at_builtin
             refine wpList_append_any _ rfl (.tmp 29) (.tmp 31) _ rfl (w.heap.size + 1) 2 i1 _ 1 8 Tryz.underlying87 hi1 hy0 hy1 hy2 rfl (by omega) u4 (uqD (l.take k)).length (zs (uqD (l.take k))) rfl
               ((own_before hown hgrow1 (fun r hr => by injection hr with hr; omega)).alloc _) (w1.heap.size + 1) (some ⟨w1.heap.size, 0, none⟩) 1 1 [.int .i64 z] rfl (Reads.new w1 _ _) (one_int _ _) (by unfold maxLen; omega) (by omega) (by have := hgrow1.size; simp; omega) ?_
             intro v4 w4 hown4 hg4 hat4)
          | fail)
        go_round
        case rel =>
          have hne : (some w.heap.size : Option Nat) ≠ u4.ownBlock := fun e => by have := (hown.lt _ e.symm).1; omega
          have hb1 : Below w.heap.size w w1 := hb.grown hgrow1 hb.size (fun j hj => by injection hj with hj; omega)
          refine ⟨k + 1, m + 1, _, by omega, by omega, by go_num, (World.ownsMap.alloc hmap1 _).kept hg4 hne, by rw [HT.out]; exact HO.out, ?_, (hb1.alloc hb1.size _).grown hg4 (by have := hb1.size; simp; omega) (fun j hj => by have := (hown.lt j hj).1; omega), ?_⟩
          · rw [HT.out, HU.out, if_neg (fun h => HOLD.out ((uqD_mem _ _).1 h)), ← zs_snoc, List.length_append, List.length_singleton]
            exact hown4
          · have h1 := hgrow1.size; have h2 := hg4.size; simp at h2; omega
        case measure => simp [intOf]; omega
    · obtain rfl : k = n := by omega
      rw [List.take_of_length_le (by rw [E1.out]; exact Nat.le_refl _)] at hown hul
      have HS := Lib.hid (sort_uqD l)
      have HSL : Hid ((uqD l).length = (lstD l).length) := Lib.hid (by rw [← sort_uqD]; simp)
      clear hhas
      go_wp2_with fail
      refine (sort_own (w.heap.size + 1) (uqD l).length u4 (uqD l) wr hown rfl (by omega)).mono ?_
      rintro e w2 ⟨rfl, hown2, hg2⟩
      have hne : (some w.heap.size : Option Nat) ≠ u4.ownBlock := fun e => by have := (hown.lt _ e.symm).1; omega
      have hmap2 : MapAt w2 w.heap.size m D := World.ownsMap.kept hmap hg2 hne
      have hb2 : Below w.heap.size w w2 := hb.grown hg2 hb.size (fun j hj => by have := (hown.lt j hj).1; omega)
      rw [HS.out, HSL.out] at hown2
      rw [HSL.out] at hul
      obtain ⟨L, hL⟩ : ∃ L, L = lstD l := ⟨_, rfl⟩
      rw [← hL] at hown2 hul
      obtain ⟨N, hN⟩ : ∃ N, N = L.length := ⟨_, rfl⟩
      rw [← hN] at hown2 hul
      have HL := Lib.hid hL; have HN := Lib.hid hN
      have hin : ∀ z ∈ L, In64 z := by rw [hL]; exact lstD_in hl
      have hri : Hid (Rise L) := Lib.hid (by rw [hL]; exact lstD_rise l)
      clear hL hN hne hg2 hmap hown hb hs
      obtain ⟨A2, c2, rfl, hc2, hm2, r2⟩ := own_slice hown2
      clear r2
      go_wp2_with fail
      go_loopw [38] (fun s38 wx => ∃ (i m2 : Nat) (D2 : DataW Unit), i ≤ N ∧ m2 ≤ k + i ∧ s38 = .int .i64 (i : Int) ∧ MapAt wx w.heap.size m2 D2 ∧ AtD D2 L i ∧ wx.ownsRow (w.heap.size + 1) 2 1 (.slice A2 N c2) N (zs L) ∧ Below w.heap.size w wx) (fun i _ => N - (intOf i).toNat)
      case atStart => exact ⟨0, m, D, Nat.zero_le _, by omega, rfl, hmap2, fun j z hj => absurd hj (by omega), hown2, hb2⟩
      case round =>
        clear hmap2 hown2 hb2
        obtain ⟨i, m2, D2, hi, hm3, rfl, hmap3, hat3, hown3, hb3⟩ := hrel
        by_cases hlt2 : i < N
        · obtain ⟨ad, u, rfl, _, hu, hc0⟩ := (Reads.of_own hown3).at_ hlt2
          obtain ⟨z, hz, rfl⟩ := zs_at hu
          have HKEY := Lib.hid (key_in (hin z (List.mem_of_getElem? hz)))
          have HV := Lib.hid (elem_u64 i (by omega))
          have HA := Lib.hid (atD_put hat3 hri.out hz (World.ownsMap.isMap hmap3))
          clear hu hz hat3
          go_wp2_with (first
            | (at_mapUpdate; refine wpList_mapUpdate_own _ rfl _ _ _ 130 rfl 2 61 law_i64 Tryz.underlying130 _ w.heap.size m2 D2 rfl hmap3 (by unfold maxLen; omega) _ _ _ rfl rfl HKEY.out _ [] HV.out ?_; intro w1 hmap4 hgrow4)
            | fail)
          go_round
          case rel =>
            exact ⟨i + 1, m2 + 1, _, by omega, by omega, by go_num, hmap4, HA.out, own_before hown3 hgrow4 (fun r hr => by injection hr with hr; omega), hb3.grown hgrow4 hb3.size (fun j hj => by injection hj with hj; omega)⟩
          case measure => simp [intOf]; omega
        · obtain rfl : i = N := by omega
          go_wp2_with fail
          go_ret2
          refine ⟨_, _, m2, D2, rfl, ?_, hmap3, ?_, hb3⟩
          · rw [← HL.out, ← HN.out]; exact own_base hown3 (by omega)
          · rw [← HL.out, ← HN.out]; exact hat3
end Go.Proofs.YthlfplljbbnaoaaGreatDoor

/- Contract of package dict's putList: the head of the form in new memory. -/
namespace Go.Proofs.YthlfplljbbnaoaaGreatDoor
open Go.RowKit
set_option linter.unusedVariables false
set_option linter.unusedSimpArgs false
set_option maxRecDepth 100000

set_option maxHeartbeats 600000 in
theorem putL_any (A : Option Addr) (N c : Nat) (L : List Int) (w : World) (hr : Reads w w.heap.size 1 A N (zs L)) (hL : Rise L) (hl : ∀ z ∈ L, In64 z) (hn : N ≤ 65536) :
    Calls Tryz.prog 103 #[.slice A N c] w (New w (bs (hdD L)) (hdD L).length) := by
  obtain ⟨i0, hi0, hz0, hz1, hz2⟩ := info_parts info_u8
  have e1 : L.length = N := by have := hr.1; rw [zs_length] at this; omega
  have E1 := Lib.hid e1
  have hhl := htD_length L
  rw [e1] at hhl
  have HHL := Lib.hid hhl
  have hhd : hdD L = vb N ++ vbs (htD L) := by rw [hdD_eq, e1]
  have HHD := Lib.hid hhd
  have HRI := Lib.hid hL
  clear e1 hhl hhd hL
  go_enter Tryz.func103, Tryz.ntmps103
  go_wp2_with fail
  refine (putVar_any none 0 0 N [] w (by omega) Reads.none_ (by simp) (by omega)).mono ?_
  rintro e w1 ⟨v1, rfl, hown1, hb1⟩
  rw [List.nil_append, Nat.zero_add] at hown1
  go_wp2_with fail
  go_loopw [3, 13] (fun s3 s13 wr => ∃ k : Nat, k ≤ N ∧ s13 = .int .i64 (k : Int) ∧ wr.ownsRow w.heap.size 5 1 s3 (vb N ++ vbs ((htD L).take k)).length (bs (vb N ++ vbs ((htD L).take k))) ∧ Below w.heap.size w wr) (fun _ i _ => N - (intOf i).toNat)
  case atStart => exact ⟨0, Nat.zero_le _, rfl, by simpa [vbs] using hown1, hb1⟩
  case round =>
    clear hown1 hb1
    obtain ⟨k, hk, rfl, hown, hb⟩ := hrel
    by_cases hlt : k < N
    · obtain ⟨ad, u, rfl, _, hu, hc0⟩ := (hr.below hb).at_ hlt
      obtain ⟨z, hz, rfl⟩ := zs_at hu
      have hzin := hl z (List.mem_of_getElem? hz)
      have HZ := Lib.hid hz
      clear hu hz
      have hvl := vbs_length ((htD L).take k)
      have hvn := vb_length N
      have htl : ((htD L).take k).length ≤ k := by rw [List.length_take]; omega
      have hwl : (vb N ++ vbs ((htD L).take k)).length ≤ 655370 := by rw [List.length_append]; omega
      by_cases hk0 : k = 0
      · have hzg := (zg_int hzin).2
        have hnk : ¬ 0 < k := by omega
        have HST : Hid (vbs ((htD L).take (k + 1)) = vbs ((htD L).take k) ++ vb (zg z)) := Lib.hid (vbs_step (by rw [hk0]; exact htD_zero (hk0 ▸ HZ.out)))
        clear hk0
        go_wp2_with fail
        refine (zigN_any z wr hzin).mono ?_
        rintro e w' ⟨rfl, rfl⟩
        go_wp2_with fail
        refine (putVar_any none 0 0 (zg z) [] wr hzg Reads.none_ (by simp) (by omega)).mono ?_
        intro e2 w2 hN2
        obtain ⟨A2, c2, rfl, _, hr2, hb2⟩ := hN2.opened
        rw [Nat.zero_add, List.nil_append] at hr2
        simp only [Nat.zero_add]
        have hg2 : (vb (zg z)).length ≤ 10 := (vb_length (zg z)).2
        have hown2 := own_below hown hb2
        have hb02 := hb.trans (hb2.mono hb.size)
        go_wp2_with (at_builtin
                     refine wpList_append_any _ rfl (.tmp 31) (.tmp 33) _ rfl w.heap.size 5 i0 _ 1 1 Tryz.underlying25 hi0 hz0 hz1 hz2 rfl (by omega) u3 (vb N ++ vbs ((htD L).take k)).length (bs (vb N ++ vbs ((htD L).take k))) rfl
                       hown2 w2.heap.size A2 (vb (zg z)).length c2 (bs (vb (zg z))) rfl hr2 (bs_one _) (by unfold maxLen; omega) (by omega) hb02.size ?_
                     intro v3 w3 hown3 hg3 hat3)
        go_round
        case rel =>
          refine ⟨k + 1, by omega, by go_num, ?_, hb02.grown hg3 hb02.size (fun j hj => (hown2.lt j hj).1)⟩
          rw [HST.out, ← List.append_assoc, List.length_append, bs_append]
          exact hown3
        case measure => simp [intOf]; omega
      · obtain ⟨j, hj⟩ : ∃ j, k = j + 1 := ⟨k - 1, by omega⟩
        have hjn : j < N := by omega
        have hk1 : (k : Int) - 1 = (j : Int) := by omega
        obtain ⟨ad2, u2, e2, _, hu2, hc1⟩ := (hr.below hb).at_ hjn
        injection e2 with e2
        subst e2
        obtain ⟨y, hy, rfl⟩ := zs_at hu2
        have hyin := hl y (List.mem_of_getElem? hy)
        have hyz : y < z := by
          have h1 := List.pairwise_iff_getElem.1 HRI.out
          obtain ⟨a1, a2⟩ := List.getElem?_eq_some_iff.1 hy
          obtain ⟨b1, b2⟩ := List.getElem?_eq_some_iff.1 HZ.out
          have := h1 j k a1 b1 (by omega)
          omega
        have hgp : ∃ g, g = (z - y - 1).toNat := ⟨_, rfl⟩
        obtain ⟨g, hg⟩ := hgp
        have HST : Hid (vbs ((htD L).take (k + 1)) = vbs ((htD L).take k) ++ vb g) := Lib.hid (by
          refine vbs_step ?_
          rw [hg, hj]
          exact htD_succ hy (hj ▸ HZ.out))
        have hgl : g < 18446744073709551616 := by unfold In64 at hyin hzin; omega
        have hgi : (g : Int) = z - y - 1 := by omega
        have HX : Hid (IntKind.u64.wrap (IntKind.u64.wrap (wrap64 (z - y)) - 1) = (g : Int)) := Lib.hid (by rw [gap_eq hyin hzin hyz, hg])
        have HJ := Lib.hid hj; have HYZ := Lib.hid hyz; have HIN := Lib.hid (And.intro hyin hzin)
        clear hu2 hy hg hgi hj hyz
        go_wp2_with fail
        refine (zigN_any z wr hzin).mono ?_
        rintro e w' ⟨rfl, rfl⟩
        go_wp2_with fail
        rw [HX.out]
        refine (putVar_any none 0 0 g [] wr hgl Reads.none_ (by simp) (by omega)).mono ?_
        intro e2 w2 hN2
        obtain ⟨A2, c2, rfl, _, hr2, hb2⟩ := hN2.opened
        rw [Nat.zero_add, List.nil_append] at hr2
        simp only [Nat.zero_add]
        have hg2 : (vb g).length ≤ 10 := (vb_length g).2
        have hown2 := own_below hown hb2
        have hb02 := hb.trans (hb2.mono hb.size)
        go_wp2_with (at_builtin
                     refine wpList_append_any _ rfl (.tmp 31) (.tmp 33) _ rfl w.heap.size 5 i0 _ 1 1 Tryz.underlying25 hi0 hz0 hz1 hz2 rfl (by omega) u3 (vb N ++ vbs ((htD L).take k)).length (bs (vb N ++ vbs ((htD L).take k))) rfl
                       hown2 w2.heap.size A2 (vb g).length c2 (bs (vb g)) rfl hr2 (bs_one _) (by unfold maxLen; omega) (by omega) hb02.size ?_
                     intro v3 w3 hown3 hg3 hat3)
        go_round
        case rel =>
          refine ⟨k + 1, by omega, by go_num, ?_, hb02.grown hg3 hb02.size (fun j hj => (hown2.lt j hj).1)⟩
          rw [HST.out, ← List.append_assoc, List.length_append, bs_append]
          exact hown3
        case measure => simp [intOf]; omega
    · obtain rfl : k = N := by omega
      have hd := HHD.out
      go_wp2_with fail
      go_ret
      rw [List.take_of_length_le (by rw [HHL.out]; exact Nat.le_refl _), ← hd] at hown
      exact ⟨_, rfl, hown, hb⟩
end Go.Proofs.YthlfplljbbnaoaaGreatDoor

/- A list of two byte texts, laid in new memory; a width and places packed in it. No condition. -/
namespace Go.Proofs.YthlfplljbbnaoaaGreatDoor
open Go.RowKit
set_option linter.unusedVariables false
set_option linter.unusedSimpArgs false
set_option maxRecDepth 100000

theorem two_parts (w : World) (t : TypeId) (v1 v2 : Value) (l1 l2 : List Nat) (h1 : IsB w v1 l1) (h2 : IsB w v2 l2) :
    LL (w.alloc (.cells #[v1, v2] t)) (some ⟨w.heap.size, 0, none⟩) [l1, l2] := by
  have hb : Below w.heap.size w (w.alloc (.cells #[v1, v2] t)) := (Below.refl _ _).alloc (Nat.le_refl _) _
  exact ⟨[v1, v2], reads_blk (Blk.new w t #[v1, v2]) _ 2 _ (by simp) rfl rfl, h1.next hb, h2.next hb, trivial⟩
/-- What stands behind a list: the width of the places, and these, packed in it. -/
def pcB (P : List Nat) : List Nat := wd P :: packB (wd P) P
theorem pcB_flat (P : List Nat) : [[wd P], packB (wd P) P].flatten = pcB P := by simp [pcB]
end Go.Proofs.YthlfplljbbnaoaaGreatDoor

/- Contract of package places' Put over numbers with a sign, whose places a function literal tells: the width and the places, packed, in new memory. -/
namespace Go.Proofs.YthlfplljbbnaoaaGreatDoor
open Go.RowKit
set_option linter.unusedVariables false
set_option linter.unusedSimpArgs false
set_option maxRecDepth 100000

set_option maxHeartbeats 1000000 in
theorem pcPutI_any (A : Option Addr) (n c bc : Nat) (xs : List Value) (P : List Nat) (w : World) (hr : Reads w w.heap.size 1 A n xs) (hP : P.length = n) (h16 : ∀ a ∈ P, a < 65536) (hn : n ≤ 65536)
    (hf : ∀ (k p : Nat) (x : Value) (W : World), xs[k]? = some x → P[k]? = some p → Below w.heap.size w W →
      Calls Tryz.prog 102 #[x, .pointer (some ⟨bc, 0, none⟩)] W fun e W' => e = .returned (.int .u64 (p : Int)) ∧ Below W.heap.size W W') :
    Calls Tryz.prog 101 #[.slice A n c, .func (.func 102) #[] #[.pointer (some ⟨bc, 0, none⟩)]] w (New w (bs (pcB P)) (pcB P).length) := by
  have hpl : (us P).length = n := by rw [us_length, hP]
  have hmk := fun W => run_make_u64 n n (Nat.le_refl _) (by omega) W
  rw [← fillW_zero (us P) (.int .u64 0) n hpl] at hmk
  have hw16 : wd P ≤ 16 := (wd_le P 16).2 fun a ha => by have := h16 a ha; simpa using this
  have HPL := Lib.hid hpl; have HF := Lib.hid hf; have HP := Lib.hid hP
  have H64 := Lib.hid (fun a (ha : a ∈ P) => (show a < 18446744073709551616 by have := h16 a ha; omega))
  have HD := Lib.hid (pcB_flat P)
  have hF0 := Blk.new w 61 (fillW (us P) (.int .u64 0) 0)
  have hb0 : Below w.heap.size w (w.alloc (.cells (fillW (us P) (.int .u64 0) 0) 61)) := (Below.refl _ _).alloc (Nat.le_refl _) _
  obtain ⟨K, hK⟩ : ∃ K, K = wd P := ⟨_, rfl⟩
  rw [← hK] at hw16 HD
  have hsz : (packB K P).length ≤ 131073 := by
    rw [packB_length, hP]
    have h8 : n * K ≤ 65536 * 16 := Nat.mul_le_mul hn hw16
    unfold sz
    omega
  have HK := Lib.hid hK
  clear hpl hf hP h16 hK
  go_enter Tryz.func101, Tryz.ntmps101
  go_wp2_with fail
  clear hmk
  go_loopw [16] (fun s16 wr => ∃ k : Nat, k ≤ n ∧ s16 = .int .i64 (k : Int) ∧ Blk wr w.heap.size 61 (fillW (us P) (.int .u64 0) k) ∧ Below w.heap.size w wr) (fun i _ => n - (intOf i).toNat)
  case atStart => exact ⟨0, by omega, rfl, hF0, hb0⟩
  case round =>
    clear hF0 hb0
    obtain ⟨k, hk, rfl, hF, hb⟩ := hrel
    by_cases hlt : k < n
    · obtain ⟨ad, x, rfl, _, hx, hc0⟩ := (hr.below hb).at_ hlt
      obtain ⟨p, hp⟩ : ∃ p, P[k]? = some p := ⟨_, List.getElem?_eq_getElem (by rw [HP.out]; exact hlt)⟩
      have HC := Lib.hid (HF.out k p x wr hx hp hb)
      have HV := Lib.hid (us_get hp)
      have hFl := hF.lt
      clear hx hp
      go_wp2_with fail
      refine HC.out.mono ?_
      rintro e w2 ⟨rfl, hb2⟩
      have hF2 := hF.below hb2 hFl
      have hb02 := hb.trans (hb2.mono hb.size)
      have hc := hF2.cell k
      rw [fillW_old _ _ k (by rw [HPL.out]; omega)] at hc
      have hf := hF2.frozen k
      clear hF hb hb2 hc0
      go_wp2_with fail
      go_round
      case rel =>
        refine ⟨k + 1, by omega, by go_num, ?_, hb02.setCell (Nat.le_refl _) _⟩
        have h1 := hF2.set_ k (.int .u64 (p : Int))
        rw [fillW_next _ _ k _ HV.out] at h1
        exact h1
      case measure => simp [intOf]; omega
    · obtain rfl : k = n := by omega
      rw [fillW_all _ _ k HPL.out] at hF
      have rP : Reads wr wr.heap.size 1 (some ⟨w.heap.size, 0, none⟩) k (us P) := reads_blk hF _ k _ hF.lt HPL.out (by simp; rw [List.take_of_length_le (by rw [HPL.out]; exact Nat.le_refl _)])
      clear hF
      go_wp2_with fail
      refine (width_any _ k k P wr rP H64.out (by omega)).mono ?_
      rintro e w' ⟨rfl, rfl⟩
      rw [← HK.out]
      go_wp2_with fail
      refine (pack_ok _ k k P _ K rfl wr rP H64.out (by omega) (by omega) (by rw [HK.out]; exact Nat.le_refl _)).mono ?_
      rintro e w3 ⟨v3, rfl, hown3, hb3⟩
      obtain ⟨A3, c3, rfl, _, _, r3⟩ := own_slice hown3
      have hb03 := hb.trans (hb3.mono hb.size)
      have hba : Below w3.heap.size w3 (w3.alloc (.cells #[.int .u8 (K : Int)] 5)) := (Below.refl _ _).alloc (Nat.le_refl _) _
      have i2 : IsB (w3.alloc (.cells #[.int .u8 (K : Int)] 5)) (.slice (some ⟨w3.heap.size, 0, none⟩) 1 1) [K] := ⟨_, 1, rfl, reads_blk (Blk.new w3 _ _) _ 1 _ (by simp) rfl rfl⟩
      have i3 : IsB (w3.alloc (.cells #[.int .u8 (K : Int)] 5)) (.slice A3 (packB K P).length c3) (packB K P) := ⟨A3, c3, rfl, r3.next hba⟩
      have hb04 := hb03.trans (hba.mono hb03.size)
      have h3 := two_parts _ 25 _ _ [K] (packB K P) i2 i3
      rw [show (w3.alloc (.cells #[.int .u8 (K : Int)] 5)).heap.size = w3.heap.size + 1 by simp] at h3
      clear hown3 r3 hb3 rP
      go_wp2_with fail
      refine (concat_any (some ⟨w3.heap.size + 1, 0, none⟩) 2 2 [[K], packB K P] _ h3 rfl (by omega) (by simp; omega)).mono ?_
      rintro e w6 ⟨v, rfl, hown, hb6⟩
      have hb5 := hb04.alloc hb04.size (.cells #[.slice (some ⟨w3.heap.size, 0, none⟩) 1 1, .slice A3 (packB K P).length c3] 25)
      rw [HD.out] at hown
      go_wp2_with fail
      go_ret
      exact ⟨v, rfl, own_base hown hb5.size, hb5.trans (hb6.mono hb5.size)⟩
end Go.Proofs.YthlfplljbbnaoaaGreatDoor
