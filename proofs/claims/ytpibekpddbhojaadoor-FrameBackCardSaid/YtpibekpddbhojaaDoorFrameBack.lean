/- The walk of FrameBack: frames of any parts are read as those, with less than a frame behind them, too. -/
import Derived.Test.YtpibekpddbhojaaDoorFrAll
import Derived.Test.YtpibekpddbhojaaDoorSameAll
import Derived.Test.YtpibekpddbhojaaDoorAwake04
import Derived.Deep.RegionLaw
namespace Go.Proofs.YtpibekpddbhojaaDoor
open Go.RowKit
set_option linter.unusedVariables false
set_option maxRecDepth 100000

theorem back_big (A A' : Option Addr) (n c m c' : Nat) (w : World) (hm : Met w) (h : 20 < n) :
    Calls Tryd.prog 5 #[.slice A n c, .slice A' m c'] w fun e w' => e = .returned (.bool true) ∧ Below w.heap.size w w' := by
  go_enter Tryd.func5, Tryd.ntmps5
  go_wp2_with fail
  refine (awake_any w hm).mono ?_
  rintro e w1 ⟨rfl, hb⟩
  go_wp2_with fail
  go_ret
  exact ⟨rfl, hb⟩
theorem tail_min {w : World} {B : Nat} {A : Option Addr} {n : Nat} {l : List Nat} (hr : Reads w B 1 A n (bs l)) :
    ∃ k, Reads w B 1 A k (bs (l.take 7)) ∧ (l.take 7).length = k ∧ ((n ≤ 7 ∧ k = n) ∨ (7 < n ∧ k = 7)) := by
  have e1 : l.length = n := by have := hr.1; rw [bs_length] at this; omega
  rcases Nat.lt_or_ge 7 n with h | h
  · refine ⟨7, ?_, by rw [List.length_take]; omega, .inr ⟨h, rfl⟩⟩
    have := hr.fore (k := 7) (by omega)
    simpa [bs_take] using this
  · refine ⟨n, ?_, by rw [List.length_take]; omega, .inl ⟨h, rfl⟩⟩
    rw [List.take_of_length_le (by omega)]
    exact hr
/-- The frames of the first texts. -/
def frs (ls : List (List Nat)) (k : Nat) : List Nat := ((ls.take k).map fr).flatten
theorem frs_next (ls : List (List Nat)) (k : Nat) (l : List Nat) (h : ls[k]? = some l) : frs ls (k + 1) = frs ls k ++ fr l := by
  unfold frs
  rw [List.take_add_one, h]
  simp
def Few (ls : List (List Nat)) (k : Nat) : Prop := (∀ p ∈ ls.take k, p.length ≤ 200) ∧ (frs ls k).length ≤ 208 * k ∧ ∀ b ∈ frs ls k, b < 256
theorem Few.zero (ls : List (List Nat)) : Few ls 0 := by unfold Few frs; simp
theorem Few.next {ls : List (List Nat)} {k : Nat} (h : Few ls k) {l : List Nat} (hl : ls[k]? = some l) (h2 : l.length ≤ 200) (hb : ∀ b ∈ l, b < 256) : Few ls (k + 1) := by
  refine ⟨?_, ?_, ?_⟩
  · intro p hp
    rw [List.take_add_one, hl] at hp
    rcases List.mem_append.1 hp with hp | hp
    · exact h.1 p hp
    · simp at hp; subst hp; exact h2
  · rw [frs_next ls k l hl, List.length_append, fr_length]
    have := h.2.1
    omega
  · intro b hb'
    rw [frs_next ls k l hl] at hb'
    rcases List.mem_append.1 hb' with hb' | hb'
    · exact h.2.2 b hb'
    · exact fr_byte l hb b hb'
set_option maxHeartbeats 1000000 in
theorem back_small (A A' : Option Addr) (c m c' : Nat) (ls : List (List Nat)) (t : List Nat) (w : World) (hm : Met w) (hL : LL w A ls) (hlb : ∀ l ∈ ls, ∀ b ∈ l, b < 256) (hr' : Reads w w.heap.size 1 A' m (bs t)) (ht : ∀ b ∈ t, b < 256) (hc' : m ≤ c') (h20 : ls.length ≤ 20) (hmx : m ≤ 9223372036854775807) :
    Calls Tryd.prog 5 #[.slice A ls.length c, .slice A' m c'] w fun e w' => e = .returned (.bool true) ∧ Below w.heap.size w w' := by
  obtain ⟨tk, hrt, htk, htn⟩ := tail_min hr'
  have htb : ∀ b ∈ t.take 7, b < 256 := fun b hb => ht b (List.mem_of_mem_take hb)
  have ht7 : tk ≤ 7 := by omega
  generalize t.take 7 = t7 at hrt htk htb
  clear hr' ht
  have hL0 := hL
  obtain ⟨vs, hr, hE⟩ := hL
  obtain ⟨n, hnd⟩ : ∃ n, ls.length = n := ⟨_, rfl⟩
  rw [hnd] at hr h20 ⊢
  have HN := Lib.hid hnd; clear hnd
  have HLB := Lib.hid hlb; clear hlb
  have HTB := Lib.hid htb; clear htb
  have HTK := Lib.hid htk; clear htk
  obtain ⟨i0, hi0, hz0, hz1, hz2⟩ := info_parts info_u8
  have d1 : decide ((20 : Int) < (n : Int)) = false := by simp; omega
  rcases htn with ⟨hmt, rfl⟩ | ⟨hmt, rfl⟩
  case' inl =>
    have hm7 : ¬ (7 : Int) < (tk : Int) := by omega
    have hcI : (tk : Int) ≤ (c' : Int) := by omega
  case' inr =>
    have hm7 : (7 : Int) < (m : Int) := by omega
    have hcI : (7 : Int) ≤ (c' : Int) := by omega
  all_goals
    go_enter Tryd.func5, Tryd.ntmps5
    go_wp2_with fail
    go_loopg [5, 6] n (fun g s5 s6 wr => ∃ k : Nat, k + g = n ∧ s6 = .int .i64 (k : Int) ∧ wr.ownsRow w.heap.size 5 1 s5 (frs ls k).length (bs (frs ls k)) ∧ Few ls k ∧ Below w.heap.size w wr)
    case atStart => exact ⟨0, by omega, rfl, World.ownsRow_nil _ _ _ _, Few.zero ls, Below.refl _ _⟩
    case round =>
      obtain ⟨k, hkg, rfl, hown, hF, hb⟩ := hrel
      cases gk with
      | zero =>
        obtain rfl : k = n := by omega
        clear hkg
        obtain ⟨Ab, cb, rfl, hcb, _, hrb⟩ := own_slice hown
        have hall : allS (frs ls k ++ t7) = (ls, (frs ls k).length) := by
          have hfrs : frs ls k = (ls.map fr).flatten := by unfold frs; rw [List.take_of_length_le (by rw [HN.out]; exact Nat.le_refl _)]
          have hshort := hF.1
          rw [List.take_of_length_le (by rw [HN.out]; exact Nat.le_refl _)] at hshort
          rw [hfrs]
          exact allS_frames ls t7 (fun p hp => by have := hshort p hp; omega) (by rw [HTK.out]; omega)
        obtain ⟨bl, hbl⟩ : ∃ bl, (frs ls k).length = bl := ⟨_, rfl⟩
        have hfb := hF.2.1
        rw [hbl] at hrb hfb hcb hall ⊢
        have HALL := Lib.hid hall; clear hall
        have HBL := Lib.hid hbl; clear hbl
        have hrt1 := (hrt.below hb).more hb.size
        have hown0 : (wr.alloc (.cells #[] 5)).ownsRow wr.heap.size 5 1 (.slice (some ⟨wr.heap.size, 0, none⟩) 0 0) 0 [] := World.ownsRow_made wr _ _ (Nat.le_refl _) (by unfold maxLen; omega) rfl
        go_wp2_with fail
        first
          | have hm8 : (if (7 : Int) < (tk : Int) then (7 : Int) else (tk : Int)) = (tk : Int) := if_neg (by omega)
          | have hm8 : (if (7 : Int) < (m : Int) then (7 : Int) else (m : Int)) = 7 := if_pos (by omega)
        go_region_law (first
          | (refine step_append_any _ rfl (.tmp 42) (.tmp 43) _ rfl wr.heap.size 5 i0 _ 1 1 Tryd.underlying22 hi0 hz0 hz1 hz2 rfl (by omega) (.slice (some ⟨wr.heap.size, 0, none⟩) 0 0) 0 [] (by simp [Act.eval, Act.put])
               (by exact hown0) wr.heap.size Ab bl cb (bs (frs ls k)) (by simp [Act.eval, Act.put]) (by exact hrb.alloc (Nat.le_refl _) _) (bs_one _) (by unfold maxLen; omega) (by omega) (by simp) ?_
             intro v2 w2 hown2 hg2 hat2
             have hb2 : Below wr.heap.size wr w2 := Below.grown (by go_grown) hg2 (by simp) (fun k hk => by simp [Value.ownBlock] at hk; omega)
             have hrt2 := hrt1.below hb2)
          | (refine step_append_any _ rfl (.tmp 44) (.tmp 49) _ rfl wr.heap.size 5 i0 _ 1 1 Tryd.underlying22 hi0 hz0 hz1 hz2 rfl (by omega) v2 (0 + bl) ([] ++ bs (frs ls k)) (by simp [Act.eval, Act.put])
               (by exact hown2) wr.heap.size A' _ c' (bs t7) (by simp [Act.eval, Act.put]; try rfl) (by exact hrt2) (bs_one _) (by unfold maxLen; omega) (by omega) (by exact hb2.size) ?_
             intro v3 w3 hown3 hg3 hat3
             have hb3 : Below wr.heap.size wr w3 := hb2.grown hg3 hb2.size (fun g hg => (hown2.lt g hg).1)
             obtain ⟨tl, htl⟩ : ∃ tl, (frs ls k ++ t7).length = tl := ⟨_, rfl⟩
             have htl2 : tl ≤ 5000 := by rw [← htl, List.length_append, HBL.out, HTK.out]; omega
             have hown3' : w3.ownsRow wr.heap.size 5 1 v3 tl (bs (frs ls k ++ t7)) := by
               rw [← htl, List.length_append, HBL.out, HTK.out, bs_append]
               simpa using hown3
             obtain ⟨A3, c3, rfl, hc3, _, hr3⟩ := own_slice hown3'
             have hb03 := hb.trans (hb3.mono hb.size)
             have hall3 : Calls Tryd.prog 14 #[.slice A3 tl c3] w3 fun e w' => ∃ A c, e = .returned (.tuple #[.slice A k c, .int .i64 (bl : Int)]) ∧ LL w' A ls ∧ Below w3.heap.size w3 w' := by
               have h := all_any A3 tl c3 (frs ls k ++ t7) w3 (hm.next hb03) hr3 (by intro x hx; rcases List.mem_append.1 hx with hx | hx; exact hF.2.2 x hx; exact HTB.out x hx) hc3 (by omega)
               rw [HALL.out] at h
               refine h.mono fun e w' ⟨A, c, he, hL, hb'⟩ => ⟨A, c, ?_, hL, hb'⟩
               rw [he]
               simp only
               rw [HN.out]
             have HALL3 := Lib.hid hall3
             clear hall3 htl hown3 hown3' hr3)
          | (go_simp; go_at_call 14; refine HALL3.out.mono ?_; rintro e w4 ⟨A5, c5, rfl, hL5, hb5⟩; show _))
        all_goals
          have hb04 := hb03.trans (hb5.mono hb03.size)
          have hL4 := hL0.next hb04
          have hsame : Calls Tryd.prog 16 #[.slice A5 k c5, .slice A k c] w4 fun e w' => e = .returned (.bool true) ∧ Drawn w4 w' := by
            have hle : ∀ l ∈ ls, l.length ≤ 140737488355328 := by
              have hshort := hF.1
              rw [List.take_of_length_le (by rw [HN.out]; exact Nat.le_refl _)] at hshort
              intro l hl
              have := hshort l hl
              omega
            have h := sameAll_true A5 A c5 c ls w4 hL5 hL4 hle (by rw [HN.out]; omega)
            rwa [HN.out] at h
          have HS := Lib.hid hsame
          clear hsame
          go_wp2_with fail
          refine HS.out.mono ?_
          rintro e w6 ⟨rfl, hd6⟩
          have hb6 := hd6.below hb04
          go_wp2_with fail
          refine (awake_any w6 (hm.next hb6)).mono ?_
          rintro e w7 ⟨rfl, hb7⟩
          go_wp2_with fail
          go_ret
          exact ⟨rfl, hb6.trans (hb7.mono hb6.size)⟩
      | succ g =>
        have hk : k < n := by omega
        have hk2 : (k : Int) < (n : Int) := by omega
        obtain ⟨l, hl⟩ : ∃ l, ls[k]? = some l := ⟨_, List.getElem?_eq_getElem (by rw [HN.out]; exact hk)⟩
        obtain ⟨ad, v, rfl, _, hv, hcl⟩ := (hr.below hb).at_ hk
        obtain ⟨v0, hv0, B1, d1', rfl, hb1⟩ := hE.at_ hl
        rw [hv] at hv0
        injection hv0 with hv0
        subst hv0
        have hlb := HLB.out l (List.mem_of_getElem? hl)
        have HLL := Lib.hid hl
        have HLK := Lib.hid hlb
        clear hl hv hlb
        by_cases h200 : 200 < l.length
        · go_wp2_with fail
          refine (awake_any wr (hm.next hb)).mono ?_
          rintro e w1 ⟨rfl, hb1⟩
          go_wp2_with fail
          go_ret
          exact ⟨rfl, hb.trans (hb1.mono hb.size)⟩
        · go_wp2_with fail
          refine (put_any B1 l.length d1' l wr ((hb1.below hb).more hb.size) HLK.out (by omega)).mono ?_
          rintro e w2 ⟨v2, rfl, hown2, hb2⟩
          obtain ⟨A2, c2, rfl, _, _, hr2⟩ := own_slice hown2
          have hfl := fr_length l
          obtain ⟨fl, hfld⟩ : ∃ fl, (fr l).length = fl := ⟨_, rfl⟩
          rw [hfld] at hr2 hfl ⊢
          have hfl2 : fl ≤ 208 := by omega
          have HFL := Lib.hid hfld; clear hfld hown2 hfl
          have hown' := own_below hown hb2
          have hb02 := hb.trans (hb2.mono hb.size)
          have hsz := hF.2.1
          obtain ⟨bl, hbl⟩ : ∃ bl, (frs ls k).length = bl := ⟨_, rfl⟩
          rw [hbl] at hown' hsz
          have HBL := Lib.hid hbl; clear hbl
          go_wp2_with (at_builtin
                       refine wpList_append_any _ rfl (.tmp 38) (.tmp 39) _ rfl w.heap.size 5 i0 _ 1 1 Tryd.underlying22 hi0 hz0 hz1 hz2 rfl (by omega) u5 bl (bs (frs ls k)) rfl
                         hown' w2.heap.size A2 fl c2 (bs (fr l)) rfl hr2 (bs_one _) (by unfold maxLen; omega) (by omega) hb02.size ?_
                       intro v3 w3 hown3 hg3 hat3)
          have hb3 : Below w.heap.size w w3 := hb02.grown hg3 hb02.size (fun g hg => (hown'.lt g hg).1)
          have hnx := frs_next ls k l HLL.out
          have hF2 := hF.next HLL.out (by omega) HLK.out
          have hown4 : w3.ownsRow w.heap.size 5 1 v3 (frs ls (k + 1)).length (bs (frs ls (k + 1))) := by
            rw [hnx, List.length_append, HBL.out, HFL.out, bs_append]
            exact hown3
          go_roundg g
          case measure => omega
          case rel => exact ⟨k + 1, by omega, by go_num, hown4, hF2, hb3⟩
end Go.Proofs.YtpibekpddbhojaaDoor
