/- The walk of the statement BitmapPlays: whatever is marked in any set, it shows what the document says; a copy stays. -/
import Derived.Test.YtgfpemndbgdhdaaBmAll
import Derived.Test.YtgfpemndbgdhdaaBmRef
import Derived.Test.YtgfpemndbgdhdaaBmAwake
import Derived.Test.YtgfpemndbgdhdaaSameI
namespace Go.Proofs.Ytgfpemndbgdhdaa
open Go.RowKit
set_option linter.unusedVariables false
set_option linter.unusedSimpArgs false
set_option maxRecDepth 100000

theorem made_bools (n : Nat) : madeCells #[Value.bool false] n = (bl (fun _ => false) n).toArray := by
  apply Array.ext
  · simp [size_madeCells, bl]
  · intro i h1 h2
    simp [madeCells, bl, Nat.mod_one]
theorem run_make_bool (n : Nat) (hn : n ≤ 281474976710656) (w : World) :
    (Instr.makeSlice 26 (.int .i64 (n : Int)) (.int .i64 (n : Int))).run Try.prog w = .ok (.slice (some ⟨w.heap.size, 0, none⟩) n n) (w.alloc (.cells (bl (fun _ => false) n).toArray 4)) := by
  obtain ⟨i, hi, hz0, hz1, hz2⟩ := info_parts info_bool
  have hr := run_make (P := Try.prog) w 26 4 i _ Try.underlying26 hi hz0 .i64 .i64 n n (by omega) (by omega) (by rw [hz2]; omega) (by omega)
  rw [hz1] at hr
  rw [← made_bools]
  simpa [Value.cells] using hr
theorem bl_blk {w : World} {hx n : Nat} {f : Nat → Bool} (h : Blk w hx 4 (bl f n).toArray) : Reads w w.heap.size 1 (some ⟨hx, 0, none⟩) n (bl f n) :=
  reads_blk h _ _ _ h.lt (bl_length f n) (by simp [bl_length, List.take_of_length_le])
theorem bl_blk_cell {w : World} {hx n : Nat} {f : Nat → Bool} (h : Blk w hx 4 (bl f n).toArray) {k : Nat} (hk : k < n) : w.cell? ⟨hx, k, none⟩ = some (.bool (f k)) := by
  rw [h.cell]
  simpa using bl_at f hk
theorem bl_blk_set {w : World} {hx n : Nat} {f : Nat → Bool} (h : Blk w hx 4 (bl f n).toArray) {k : Nat} (hk : k < n) : Blk (w.setCell ⟨hx, k, none⟩ (.bool true)) hx 4 (bl (fun j => decide (j = k) || f j) n).toArray := by
  have := h.set_ k (.bool true)
  rw [← bl_set f hk]
  simpa using this
theorem bool_ne {w : World} {hx h n : Nat} {f : Nat → Bool} {cs : Array Value} {t : TypeId} (h1 : Blk w hx 4 (bl f n).toArray) (h2 : Blk w h t cs) (ht : 4 ≠ t) : hx ≠ h := by
  rintro rfl
  unfold Blk at h1 h2
  rw [h1] at h2
  simp at h2
  exact ht h2.2
/-- Between two marks: the set, somehow marked; the truths say which; the copy is as it was. -/
def PlayAt (w wr : World) (B2 g h hx g2 h2 n : Nat) : Prop := ∃ L, SetIn wr w.heap.size g h n L ∧ Blk wr hx 4 (bl (bit L) n).toArray ∧ SetIn wr B2 g2 h2 n (List.replicate (siz n) 0) ∧ Below w.heap.size w wr
theorem plays_else (A : Option Addr) (nl cl : Nat) (n i : Int) (w : World) (h : 100 < nl ∨ (500 < n ∧ n ≤ 65536)) :
    Calls Try.prog 3 #[.int .i64 n, .slice A nl cl, .int .i64 i] w fun e w' => e = .returned (.bool true) ∧ Below w.heap.size w w' := by
  by_cases h1 : 100 < nl
  · clear h
    go_enter Try.func3, Try.ntmps3
    go_wp2_with fail
    refine (awake_any w).mono ?_
    rintro e w1 ⟨rfl, hb⟩
    go_wp2_with fail
    go_ret
    exact ⟨rfl, hb⟩
  have d1 : decide ((100 : Int) < (nl : Int)) = false := by simp; omega
  have h3 : 500 < n := by omega
  have h4 : n ≤ 65536 := by omega
  have d3 : decide (500 < n) = true := by simpa using h3
  have d4 : decide (n ≤ 65536) = true := by simpa using h4
  clear h
  go_enter Try.func3, Try.ntmps3
  go_wp2_with fail
  refine (awake_any w).mono ?_
  rintro e w1 ⟨rfl, hb⟩
  go_wp2_with fail
  go_ret
  exact ⟨rfl, hb⟩
theorem plays_out (A : Option Addr) (nl cl : Nat) (n i : Int) (w : World) (h0 : nl ≤ 100) (h : n < 0 ∨ 65536 < n) :
    Calls Try.prog 3 #[.int .i64 n, .slice A nl cl, .int .i64 i] w fun e w' => e = .returned (.bool true) ∧ Below w.heap.size w w' := by
  have d1 : decide ((100 : Int) < (nl : Int)) = false := by simp; omega
  have hN := Lib.hid (New_no n w h)
  rcases h with h | h
  · have d2 : decide (n < 0) = true := by simpa using h
    have d3 : decide (500 < n) = false := by simp; omega
    go_enter Try.func3, Try.ntmps3
    go_wp2_with fail
    refine hN.out.mono ?_
    rintro e w' ⟨rfl, rfl⟩
    go_wp2_with fail
    refine (awake_any w).mono ?_
    rintro e w1 ⟨rfl, hb⟩
    go_wp2_with fail
    go_ret
    exact ⟨rfl, hb⟩
  · have d2 : decide (n < 0) = false := by simp; omega
    have d3 : decide (500 < n) = true := by simp; omega
    have d4 : decide (n ≤ 65536) = false := by simp; omega
    have d5 : decide (65536 < n) = true := by simpa using h
    go_enter Try.func3, Try.ntmps3
    go_wp2_with fail
    refine hN.out.mono ?_
    rintro e w' ⟨rfl, rfl⟩
    go_wp2_with fail
    refine (awake_any w).mono ?_
    rintro e w1 ⟨rfl, hb⟩
    go_wp2_with fail
    go_ret
    exact ⟨rfl, hb⟩
theorem zeros_cnt (n : Nat) : cnt (bit (List.replicate (siz n) 0)) n = 0 := by
  have : ∀ m, cnt (bit (List.replicate (siz n) 0)) m = 0 := by
    intro m
    induction m with
    | zero => rfl
    | succ m ih => unfold cnt; rw [ih, bit_zeros]; rfl
  exact this n
theorem rank_min {n : Nat} {L : List Nat} (h : OkS n L) (i : Int) : cnt (bit L) (min n i.toNat) = rk L i := by
  unfold rk
  by_cases hi : n ≤ i.toNat
  · rw [Nat.min_eq_left hi, cnt_over h.left _ hi]
  · rw [Nat.min_eq_right (by omega)]
theorem grown_cell {w w' : World} {B h : Nat} (hg : w.grownBy w' (some h)) (hB : B ≤ w.heap.size) (hh : B ≤ h) {p : Addr} (hp : p.block < B) : w'.cell? p = w.cell? p :=
  World.cell?_of_block (hg.block p.block (by omega) (fun e => by injection e with e; omega))
/-- Behind a mark. -/
theorem PlayAt.mark {w wr w2 : World} {B2 g h hx g2 h2 n : Nat} {L L2 : List Nat} (s : SetIn wr w.heap.size g h n L) (hx0 : Blk wr hx 4 (bl (bit L) n).toArray) (s2 : SetIn wr B2 g2 h2 n (List.replicate (siz n) 0)) (hb : Below w.heap.size w wr)
    (hg : wr.grownBy w2 (some h)) (hlt : h < B2) : Blk w2 hx 4 (bl (bit L) n).toArray ∧ SetIn w2 B2 g2 h2 n (List.replicate (siz n) 0) ∧ Below w.heap.size w w2 := by
  have hne : hx ≠ h := bool_ne hx0 s.row (by decide)
  refine ⟨hx0.grown hg (fun e => hne (by injection e)), s2.grown hg (fun e => ?_) (fun e => ?_), hb.grown hg hb.size (fun k hk => by injection hk with hk; subst hk; exact s.bh)⟩
  · injection e with e; have := s2.bg; omega
  · injection e with e; have := s2.bh; omega
set_option maxHeartbeats 4000000 in
theorem plays_main (A : Option Addr) (nl cl n : Nat) (i : Int) (zl : List Int) (w : World) (hrl : Reads w w.heap.size 1 A nl (zs zl)) (h1 : nl ≤ 100) (h2 : n ≤ 500) :
    Calls Try.prog 3 #[.int .i64 (n : Int), .slice A nl cl, .int .i64 i] w fun e w' => e = .returned (.bool true) ∧ Below w.heap.size w w' := by
  have d1 : decide ((100 : Int) < (nl : Int)) = false := by simp; omega
  have d3 : decide ((500 : Int) < (n : Int)) = false := by simp; omega
  have d2 : decide ((n : Int) < 0) = false := by simp
  have d5 : decide ((65536 : Int) < (n : Int)) = false := by simp; omega
  have hmk := run_make_bool n (by omega)
  obtain ⟨i0, hi0, hz0, hz1, hz2⟩ := info_parts info_int
  go_enter Try.func3, Try.ntmps3
  go_wp2_with fail
  refine (New_any n w (by omega)).mono ?_
  rintro e w1 ⟨g, h, rfl, s1, hb1⟩
  go_wp2_with fail
  refine (Copy_any (s1.alloc _)).mono ?_
  rintro e w2 ⟨g2, h2', rfl, s2, hb2⟩
  have hx0 : Blk w2 w1.heap.size 4 (bl (bit (List.replicate (siz n) 0)) n).toArray := by
    have h3 := (Blk.new w1 4 (bl (fun _ => false) n).toArray).below hb2 (by simp)
    rwa [bl_congr (g := bit (List.replicate (siz n) 0)) (fun k _ => (bit_zeros _ k).symm)] at h3
  have s1' := (s1.alloc _).below hb2 (Nat.le_refl _)
  have hb2' := (hb1.alloc hb1.size _).trans (hb2.mono (by have := hb1.size; simp; omega))
  have hlt1 := s1.obj.lt
  have hlt2 := s1.row.lt
  obtain ⟨B2, hB2⟩ : ∃ B2, B2 = (w1.alloc (.cells (bl (fun _ => false) n).toArray 4)).heap.size := ⟨_, rfl⟩
  rw [← hB2] at s2
  have hBx : w1.heap.size < B2 := by rw [hB2]; simp
  have hB1 : w.heap.size ≤ w1.heap.size := hb1.size
  obtain ⟨hx, hhx⟩ : ∃ hx, hx = w1.heap.size := ⟨_, rfl⟩
  rw [← hhx] at hx0 hBx hlt1 hlt2 hB1
  rw [← hhx]
  clear hB2 s1 hb1 hb2
  have H0 : PlayAt w w2 B2 g h hx g2 h2' n := ⟨_, s1', hx0, s2, hb2'⟩
  have hmk' := Lib.hid hmk
  clear hmk hhx hx0 s1' s2 hb2'
  go_wp2_with fail
  go_loopg [11, 12] nl (fun gk s11 s12 wr => ∃ k : Nat, k + gk = nl ∧ s11 = .int .i64 (k : Int) ∧ PlayAt w wr B2 g h hx g2 h2' n)
  case atStart => exact ⟨0, by omega, rfl, H0⟩
  case round =>
    clear H0
    obtain ⟨k, hkg, rfl, L, s, hx0, s2, hb⟩ := hrel
    cases gk with
    | succ g1 =>
      have hlt : k < nl := by omega
      obtain ⟨ad, u, rfl, had, hu, hc⟩ := (hrl.below hb).at_ hlt
      obtain ⟨z, _, rfl⟩ := zs_at hu
      clear hu
      have hm := Mark_any s z
      have hcc : ∀ w' : World, wr.grownBy w' (some h) → w'.cell? (ad.add k) = some (.int .i64 z) := fun w' hg => (grown_cell hg hb.size s.bh (by rw [block_of_add]; exact had)).trans hc
      have HC := Lib.hid hcc
      clear hcc
      rcases plc_cases n z with hp | ⟨j, rfl, hj, hp⟩
      · have hcm := canM_no (l := L) hp
        have hpz : z < 0 ∨ (0 ≤ z ∧ (n : Int) ≤ z) := by
          by_cases h0 : z < 0
          · exact .inl h0
          · refine .inr ⟨by omega, ?_⟩
            rcases Int.lt_or_le z n with h3 | h3
            · rw [plc_yes (by omega) h3] at hp; cases hp
            · exact h3
        clear hp
        rcases hpz with hz | ⟨hz0, hz⟩
        · have dz : decide (0 ≤ z) = false := by simp; omega
          have HM := Lib.hid hm
          have HCM := Lib.hid hcm
          clear hm hcm
          go_wp2_with fail
          refine HM.out.mono ?_
          rintro e w3 ⟨rfl, s3, hg3⟩
          rw [HCM.out.1]
          rw [HCM.out.2] at s3
          have hP := PlayAt.mark (L2 := L) s hx0 s2 hb hg3 (by omega)
          go_wp2_with fail
          go_roundg g1
          case measure => omega
          case rel => exact ⟨k + 1, by omega, by go_num, L, s3, hP⟩
        · have dz : decide (0 ≤ z) = true := by simpa using hz0
          have dz2 : decide (z < (n : Int)) = false := by simpa using hz
          have HM := Lib.hid hm
          have HCM := Lib.hid hcm
          clear hm hcm
          go_wp2_with fail
          refine HM.out.mono ?_
          rintro e w3 ⟨rfl, s3, hg3⟩
          rw [HCM.out.1]
          rw [HCM.out.2] at s3
          have hP := PlayAt.mark (L2 := L) s hx0 s2 hb hg3 (by omega)
          go_wp2_with fail
          go_roundg g1
          case measure => omega
          case rel => exact ⟨k + 1, by omega, by go_num, L, s3, hP⟩
      · have hxc := bl_blk_cell hx0 hj
        have dz : decide ((j : Int) < (n : Int)) = true := by simpa using hj
        have HM := Lib.hid hm
        clear hp hm
        cases hbit : bit L j with
        | true =>
          rw [hbit] at hxc
          have HCM := Lib.hid (canM_had (n := n) hbit)
          clear hbit
          go_wp2_with fail
          refine HM.out.mono ?_
          rintro e w3 ⟨rfl, s3, hg3⟩
          rw [HCM.out.1]
          rw [HCM.out.2] at s3
          have hP := PlayAt.mark (L2 := L) s hx0 s2 hb hg3 (by omega)
          go_wp2_with fail
          go_roundg g1
          case measure => omega
          case rel => exact ⟨k + 1, by omega, by go_num, L, s3, hP⟩
        | false =>
          rw [hbit] at hxc
          have HCM := Lib.hid (canM_new hj hbit)
          clear hbit
          go_wp2_with fail
          refine HM.out.mono ?_
          rintro e w3 ⟨rfl, s3, hg3⟩
          rw [HCM.out.1]
          rw [HCM.out.2] at s3
          obtain ⟨hP1, hP2, hP3⟩ := PlayAt.mark (L2 := L) s hx0 s2 hb hg3 (by omega)
          have hc3 := HC.out w3 hg3
          have hf3 := hP1.frozen j
          have hxc3 := bl_blk_cell hP1 hj
          have hset := bl_blk_set hP1 hj
          have hbm : ∀ q, q < n → (decide (q = j) || bit L q) = bit (mark L j) q := fun q _ => (bit_mark L j q (by rw [s.ok.len]; exact siz_lt hj)).symm
          rw [bl_congr hbm] at hset
          have s5 := s3.setCell (p := ⟨hx, j, none⟩) (bool_ne hP1 s3.obj (by decide)).symm (bool_ne hP1 s3.row (by decide)).symm (.bool true)
          have s6 := hP2.setCell (p := ⟨hx, j, none⟩) (bool_ne hP1 hP2.obj (by decide)).symm (bool_ne hP1 hP2.row (by decide)).symm (.bool true)
          have hb5 := hP3.setCell (p := ⟨hx, j, none⟩) hB1 (.bool true)
          have H5 : PlayAt w (w3.setCell ⟨hx, j, none⟩ (.bool true)) B2 g h hx g2 h2' n := ⟨mark L j, s5, hset, s6, hb5⟩
          have H5' := Lib.hid H5
          clear hbm hset s5 s6 hb5 H5
          go_wp2_with fail
          go_roundg g1
          case measure => omega
          case rel => exact ⟨k + 1, by omega, by go_num, H5'.out⟩
    | zero =>
      obtain rfl : k = nl := by omega
      obtain ⟨w3, rfl⟩ : ∃ w3 : World, w3 = wr := ⟨_, rfl⟩
      go_wp2_with fail
      go_loopg [9, 13] n (fun gk s9 s13 wr => ∃ t m : Nat, t + gk = n ∧ s13 = .int .i64 (t : Int) ∧ m ≤ t ∧ Hid (m = (sel (bit L) t).length) ∧ wr.ownsRow w3.heap.size 3 1 s9 m (ns (sel (bit L) t)) ∧ Below w3.heap.size w3 wr)
      case atStart => exact ⟨0, 0, by omega, rfl, by omega, Lib.hid rfl, World.ownsRow_nil _ _ _ _, Below.refl _ _⟩
      case round =>
        obtain ⟨t, m, htg, rfl, hmt, hm, hown, hb4⟩ := hrel
        have hx4 := hx0.below hb4 hx0.lt
        have hzw := hb4.size
        cases gk with
        | succ g1 =>
          have hlt : t < n := by omega
          have hxc := bl_blk_cell hx4 hlt
          have hst : sel (bit L) (t + 1) = sel (bit L) t ++ (if bit L t then [t] else []) := rfl
          cases hbit : bit L t with
          | true =>
            rw [hbit] at hxc hst
            have HST := Lib.hid hst
            clear hbit hst
            go_wp2_with (at_builtin
                         refine wpList_append_any _ rfl (.tmp 97) (.tmp 99) _ rfl w3.heap.size 3 i0 _ 1 8 Try.underlying22 hi0 hz0 hz1 hz2 rfl (by omega) u9 m (ns (sel (bit L) t)) rfl
                           (hown.alloc _) (wr.heap.size + 1) (some ⟨wr.heap.size, 0, none⟩) 1 1 [.int .i64 (t : Int)] rfl (Reads.new wr _ _) (one_int _ _) (by unfold maxLen; omega) (by omega) (by simp; omega) ?_
                         intro v5 w5 hown5 hg5 hat5)
            rw [ns_snoc _ t _ rfl, show sel (bit L) t ++ [t] = sel (bit L) (t + 1) from HST.out.symm] at hown5
            go_roundg g1
            case measure => omega
            case rel => exact ⟨t + 1, m + 1, by omega, by go_num, by omega, Lib.hid (by rw [HST.out, List.length_append, hm.out]; rfl), hown5, below_app hb4 hown hzw hg5⟩
          | false =>
            rw [hbit] at hxc hst
            have HST := Lib.hid (hst.trans (List.append_nil _))
            clear hbit hst
            go_wp2_with fail
            go_roundg g1
            case measure => omega
            case rel => exact ⟨t + 1, m, by omega, by go_num, by omega, Lib.hid (by rw [HST.out, hm.out]), by rw [HST.out]; exact hown, hb4⟩
        | zero =>
          obtain rfl : t = n := by omega
          obtain ⟨w4, rfl⟩ : ∃ w4 : World, w4 = wr := ⟨_, rfl⟩
          obtain ⟨A9, c9, rfl, _, _, r9⟩ := own_slice hown
          have s4 := s.below hb4 (Nat.le_refl _)
          have s24 := s2.below hb4 (Nat.le_refl _)
          have hB4 := hb.trans (hb4.mono hb.size)
          have hcnt : cnt (bit L) t = m := by rw [hm.out, sel_length]
          have hmin := rank_min s.ok i
          have HMIN := Lib.hid hmin
          have HCNT := Lib.hid hcnt
          clear hown s s2 hx0 hb hb4 hmin hcnt
          have hcase : ∃ hv : Bool, has t L i = hv ∧ ((hv = false ∧ i < 0) ∨ (hv = false ∧ 0 ≤ i ∧ (t : Int) ≤ i) ∨ ∃ j : Nat, i = (j : Int) ∧ j < t ∧ bit L j = hv) := by
            rcases plc_cases t i with hp | ⟨j, rfl, hj, hp⟩
            · refine ⟨false, has_no hp, ?_⟩
              by_cases h0 : i < 0
              · exact .inl ⟨rfl, h0⟩
              · refine .inr (.inl ⟨rfl, by omega, ?_⟩)
                rcases Int.lt_or_le i t with h3 | h3
                · rw [plc_yes (by omega) h3] at hp; cases hp
                · exact h3
            · exact ⟨bit L j, has_at hj, .inr (.inr ⟨j, rfl, hj, rfl⟩)⟩
          obtain ⟨hv, hhv, hcase⟩ := hcase
          have HV := Lib.hid hhv
          clear hhv
          rcases hcase with ⟨rfl, hi⟩ | ⟨rfl, hi0', hi⟩ | ⟨j, rfl, hj, hbit⟩
          case' inl =>
            have di : decide (0 ≤ i) = false := by simp; omega
            go_wp2_with fail
          case' inr.inl =>
            have di : decide (0 ≤ i) = true := by simpa using hi0'
            have di2 : decide (i < (t : Int)) = false := by simpa using hi
            go_wp2_with fail
          case' inr.inr =>
            have hxc := bl_blk_cell hx4 hj
            rw [hbit] at hxc
            have di2 : decide ((j : Int) < (t : Int)) = true := by simpa using hj
            clear hbit
            go_wp2_with fail
          all_goals
            refine (Has_any s4 _).mono ?_
            rintro e w' ⟨rfl, rfl⟩
            rw [HV.out]
            go_wp2_with fail
            refine (Len_any s4).mono ?_
            rintro e w' ⟨rfl, rfl⟩
            go_wp2_with fail
            refine (Count_any s4).mono ?_
            rintro e w' ⟨rfl, rfl⟩
            rw [HCNT.out]
            go_wp2_with fail
            refine (Rank_any s4 _).mono ?_
            rintro e w' ⟨rfl, rfl⟩
            go_wp2_with fail
            refine (refRank_any _ t t (bit L) _ w4 (bl_blk hx4) (by omega)).mono ?_
            rintro e w' ⟨rfl, rfl⟩
            rw [HMIN.out]
            go_wp2_with fail
            refine (Bytes_any s4).mono ?_
            rintro e w5 ⟨q, rfl, hq, hq2, hb5⟩
            have s5 := s4.below hb5 (Nat.le_refl _)
            have s25 := s24.below hb5 (Nat.le_refl _)
            have hx5 := hx4.below hb5 hx4.lt
            have r95 := (r9.below hb5).more hb5.size
            have hB5 := hB4.trans (hb5.mono hB4.size)
            clear s4 s24 hx4 r9 hB4 hb5 hq2
            go_wp2_with fail
            refine (refBytes_any _ t t L w5 (bl_blk hx5) (by omega) s5.ok).mono ?_
            rintro e w6 ⟨v6, rfl, o6, hb6⟩
            obtain ⟨A6, c6, rfl, _, _, r6⟩ := own_slice o6
            have s6 := s5.below hb6 (Nat.le_refl _)
            have s26 := s25.below hb6 (Nat.le_refl _)
            have r96 := (r95.below hb6).more hb6.size
            have hB6 := hB5.trans (hb6.mono hB5.size)
            have hq6 := hq.below hb6 hq.lt
            clear s5 s25 hx5 r95 hB5 hb6 o6 hq
            go_wp2_with fail
            refine (same_true (some ⟨q, 0, none⟩) A6 L.length L.length L.length c6 L w6 (reads_blk hq6 _ _ _ hq6.lt (bs_length L) (by simp [bs_length, List.take_of_length_le])) r6 (by have := s6.size.2; omega)).mono ?_
            rintro e w7 ⟨rfl, hd7⟩
            have s7 := s6.drawn hd7
            have s27 := s26.drawn hd7
            have hB7 := hd7.below hB6
            have r97 : Reads w7 w7.heap.size 1 A9 m (ns (sel (bit L) t)) := by obtain ⟨qq, rfl⟩ := hd7; exact r96
            clear s6 s26 hB6 r6 hq6 hd7 r96
            go_wp2_with fail
            refine (All_any s7).mono ?_
            rintro e w8 ⟨v8, rfl, o8, hb8⟩
            obtain ⟨A8, c8, rfl, _, _, r8⟩ := own_slice o8
            have s28 := s27.below hb8 (Nat.le_refl _)
            have r98 := (r97.below hb8).more hb8.size
            have hB8 := hB7.trans (hb8.mono hB7.size)
            rw [← hm.out] at r8 ⊢
            clear s7 s27 hB7 o8 r97 hb8
            go_wp2_with fail
            refine (sameI_true A8 A9 m c8 c9 _ w8 r8 r98 (by omega)).mono ?_
            rintro e w9 ⟨rfl, hd9⟩
            have s29 := s28.drawn hd9
            have hB9 := hd9.below hB8
            clear s28 hB8 r8 r98 hd9
            go_wp2_with fail
            have hz := Count_any s29
            rw [zeros_cnt] at hz
            refine hz.mono ?_
            clear hz
            rintro e w' ⟨rfl, rfl⟩
            go_wp2_with fail
            refine (awake_any _).mono ?_
            rintro e w10 ⟨rfl, hb10⟩
            go_wp2_with fail
            go_ret
            exact ⟨rfl, hB9.trans (hb10.mono hB9.size)⟩
theorem plays_any (A : Option Addr) (nl cl : Nat) (n i : Int) (zl : List Int) (w : World) (hrl : Reads w w.heap.size 1 A nl (zs zl)) :
    Calls Try.prog 3 #[.int .i64 n, .slice A nl cl, .int .i64 i] w fun e w' => e = .returned (.bool true) ∧ Below w.heap.size w w' := by
  by_cases h : 100 < nl ∨ (500 < n ∧ n ≤ 65536)
  · exact plays_else A nl cl n i w h
  · by_cases h2 : n < 0 ∨ 65536 < n
    · exact plays_out A nl cl n i w (by omega) h2
    · obtain ⟨N, rfl⟩ : ∃ N : Nat, n = (N : Int) := ⟨n.toNat, by omega⟩
      exact plays_main A nl cl N i zl w hrl (by omega) (by omega)
end Go.Proofs.Ytgfpemndbgdhdaa
