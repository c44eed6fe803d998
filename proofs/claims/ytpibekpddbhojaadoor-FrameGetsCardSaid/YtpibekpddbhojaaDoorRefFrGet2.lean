/- Contract of the document's answer for frames: Get, where the frame is whole. -/
import Derived.Test.YtpibekpddbhojaaDoorRefFrGet
namespace Go.Proofs.YtpibekpddbhojaaDoor
open Go.RowKit
set_option linter.unusedVariables false
set_option maxRecDepth 100000

set_option maxHeartbeats 1000000 in
theorem refGet_sum (A : Option Addr) (n c : Nat) (l : List Nat) (w : World) (hr : Reads w w.heap.size 1 A n (bs l)) (hl : ∀ b ∈ l, b < 256) (hc : n ≤ c) (hn : n ≤ 140737488355328) (hz : ¬ 16777216 < fz l) (hs : ¬ l.length < 8 + fz l) (hx : sumN (l.take 4 ++ (l.drop 8).take (fz l)) ≠ unfx ((l.drop 4).take 4)) :
    Calls Tryd.prog 13 #[.slice A n c] w (GotTo w w.heap.size ([], 0, 6)) := by
  have hS0 := front_new hr hl hc hn
  have hf1 := fix4_ok l 0 (by omega)
  have hzl := fz_lt l hl
  rw [List.drop_zero] at hf1
  rw [show unfx (l.take 4) = fz l from rfl] at hf1
  have hf2 := fix4_ok l 4 (by omega)
  have hul := unfx_lt ((l.drop 4).take 4) fun b hb => hl b (List.mem_of_mem_drop (List.mem_of_mem_take hb))
  rw [show ((l.drop 4).take 4).length = 4 by rw [List.length_take, List.length_drop]; omega, show (256 : Nat) ^ 4 = 4294967296 by decide] at hul
  have ht := takeS_ok l 8 (fz l) (by omega)
  have hpl : ((l.drop 8).take (fz l)).length = fz l := by rw [List.length_take, List.length_drop]; omega
  have hpb : ∀ b ∈ (l.drop 8).take (fz l), b < 256 := fun b hb => hl b (List.mem_of_mem_drop (List.mem_of_mem_take hb))
  have hf4 : fx 4 (fz l) = l.take 4 := by
    refine unfx_inj _ _ (by rw [fx_length, List.length_take]; omega) (fx_byte _ _) (fun b hb => hl b (List.mem_of_mem_take hb)) ?_
    rw [unfx_fx, show (256 : Nat) ^ 4 = 4294967296 by decide, Nat.mod_eq_of_lt (by omega)]
    rfl
  rw [← hf4] at hx
  clear hf4
  generalize (l.drop 8).take (fz l) = p at ht hpl hpb hx
  generalize fz l = z at hf1 hzl hz ht hpl hx hs
  generalize unfx ((l.drop 4).take 4) = u at hf2 hul hx
  subst hpl
  have HF1 := Lib.hid hf1; clear hf1
  have HF2 := Lib.hid hf2; clear hf2
  have HT := Lib.hid ht; clear ht
  have HX := Lib.hid hx; clear hx
  have HP := Lib.hid hpb; clear hpb
  have h8n : 8 + p.length ≤ n := by have := fz_len hr; omega
  clear hl hs
  go_enter Tryd.func13, Tryd.ntmps13
  go_wp2_with fail
  obtain ⟨w0, hw0⟩ : ∃ w0 : World, (w.alloc (.cells #[.slice none 0 0, .int .i64 0, .int .i64 0] 33)).alloc (.cells #[.slice A n c, .int .i64 0, .int .i64 0, .int .i64 0] 56) = w0 := ⟨_, rfl⟩
  rw [hw0] at hS0 ⊢
  clear hw0
  have hfx := rfix_is 4 hS0.2
  rw [HF1.out] at hfx
  refine hfx.mono ?_
  clear hfx
  rintro e w1 ⟨rfl, hto1⟩
  have hS1 := hS0.step hto1
  have hc1 : w1.cell? ⟨w.heap.size + 1, 2, none⟩ = some (.int .i64 0) := hS1.2.cell.2
  clear hS0 hto1
  go_wp2_with fail
  have hfx := rfix_is 4 hS1.2
  simp only [Nat.zero_add] at hfx
  rw [HF2.out] at hfx
  refine hfx.mono ?_
  clear hfx
  rintro e w2 ⟨rfl, hto2⟩
  have hS2 := (show FrontR w w1 l 4 none from hS1).step hto2
  clear hS1 hto2 hc1
  go_wp2_with fail
  have htx := rtake_isN (p.length : Int) hS2.2
  rw [HT.out] at htx
  refine htx.mono ?_
  clear htx
  rintro e w3 ⟨⟨A3, n3, c3, rfl, hr3, hfar⟩, hto3⟩
  have hn3 : n3 = p.length := by have := hr3.1; rw [bs_length] at this; simpa using this.symm
  subst hn3
  have hS3 := hS2.step hto3
  have hc3 : w3.cell? ⟨w.heap.size + 1, 2, none⟩ = some (.int .i64 0) := hS3.2.cell.2
  have hfar2 : ∀ ad, A3 = some ad → w.heap.size + 2 ≤ ad.block := fun ad had => by
    have := hfar ad had
    have := hS2.2.lt
    omega
  clear hS2 hto3 hfar
  obtain ⟨i0, hi0, hz0, hz1, hz2⟩ := info_parts info_u8
  go_wp2_with fail
  refine (refFix4 p.length w3 (by omega)).mono ?_
  rintro e w4 ⟨v4, rfl, hown4, hb4⟩
  have hrp4 := (hr3.below hb4).more hb4.size
  go_wp2_with (at_builtin
               refine wpList_append_any _ rfl (.tmp 35) (.tmp 36) _ rfl w3.heap.size 5 i0 _ 1 1 Tryd.underlying22 hi0 hz0 hz1 hz2 rfl (by omega) v4 4 (bs (fx 4 p.length)) rfl
                 hown4 w4.heap.size A3 p.length c3 (bs p) rfl hrp4 (bs_one _) (by unfold maxLen; omega) (by omega) hb4.size ?_
               intro v5 w5 hown5 hg5 hat5)
  have hb5 : Below w3.heap.size w3 w5 := hb4.grown hg5 hb4.size (fun k hk => (hown4.lt k hk).1)
  rw [← bs_append] at hown5
  obtain ⟨A5, c5, rfl, _, _, hr5⟩ := own_slice hown5
  have hm := refmore_any 0 A5 (4 + p.length) c5 (fx 4 p.length ++ p) w5 (by omega) hr5 (by intro b hb; rcases List.mem_append.1 hb with hb | hb; exact fx_byte _ _ b hb; exact HP.out b hb) (by omega)
  rw [show moreN 0 (fx 4 p.length ++ p) = sumN (fx 4 p.length ++ p) from rfl] at hm
  have hne := HX.out
  generalize sumN (fx 4 p.length ++ p) = q at hm hne
  have hne1 : ((q : Int) != (u : Int)) = true := by simp; omega
  have hne2 : ((q : Int) == (u : Int)) = false := by simp; omega
  clear hne
  refine hm.mono ?_
  clear hm
  rintro e w6 ⟨rfl, hd6⟩
  have hb6 := hd6.below hb5
  have hS6 := hS3.next hb6
  have hc6 : w6.cell? ⟨w.heap.size + 1, 2, none⟩ = some (.int .i64 0) := hS6.2.cell.2
  have hc61 : w6.cell? ⟨w.heap.size + 1, 1, none⟩ = some (.int .i64 ((8 + p.length : Nat) : Int)) := hS6.2.cell.1
  have hr6 : Reads w6 w6.heap.size 1 A3 p.length (bs p) := (hr3.below hb6).more hb6.size
  clear hS3 hc3 hown4 hown5 hg5 hat5 hrp4 hr5 hr3
  have hG0 := hS6.1.blk.cell 0
  have hG1 := hS6.1.blk.cell 1
  have hG2 := hS6.1.blk.cell 2
  have hZ0 := hS6.1.blk.frozen 0
  have hZ1 := hS6.1.blk.frozen 1
  have hZ2 := hS6.1.blk.frozen 2
  simp only [List.getElem?_toArray, List.getElem?_cons_succ, List.getElem?_cons_zero] at hG0 hG1 hG2
  go_wp2_with fail
  exact got_end hS6.1 rfl rfl 0 6 OwnB.none_

set_option maxHeartbeats 1000000 in
theorem refGet_ok (A : Option Addr) (n c : Nat) (l : List Nat) (w : World) (hr : Reads w w.heap.size 1 A n (bs l)) (hl : ∀ b ∈ l, b < 256) (hc : n ≤ c) (hn : n ≤ 140737488355328) (hz : ¬ 16777216 < fz l) (hs : ¬ l.length < 8 + fz l) (hx : sumN (l.take 4 ++ (l.drop 8).take (fz l)) = unfx ((l.drop 4).take 4)) :
    Calls Tryd.prog 13 #[.slice A n c] w (GotTo w w.heap.size ((l.drop 8).take (fz l), 8 + ((l.drop 8).take (fz l)).length, 0)) := by
  have hS0 := front_new hr hl hc hn
  have hf1 := fix4_ok l 0 (by omega)
  have hzl := fz_lt l hl
  rw [List.drop_zero] at hf1
  rw [show unfx (l.take 4) = fz l from rfl] at hf1
  have hf2 := fix4_ok l 4 (by omega)
  have hul := unfx_lt ((l.drop 4).take 4) fun b hb => hl b (List.mem_of_mem_drop (List.mem_of_mem_take hb))
  rw [show ((l.drop 4).take 4).length = 4 by rw [List.length_take, List.length_drop]; omega, show (256 : Nat) ^ 4 = 4294967296 by decide] at hul
  have ht := takeS_ok l 8 (fz l) (by omega)
  have hpl : ((l.drop 8).take (fz l)).length = fz l := by rw [List.length_take, List.length_drop]; omega
  have hpb : ∀ b ∈ (l.drop 8).take (fz l), b < 256 := fun b hb => hl b (List.mem_of_mem_drop (List.mem_of_mem_take hb))
  have hf4 : fx 4 (fz l) = l.take 4 := by
    refine unfx_inj _ _ (by rw [fx_length, List.length_take]; omega) (fx_byte _ _) (fun b hb => hl b (List.mem_of_mem_take hb)) ?_
    rw [unfx_fx, show (256 : Nat) ^ 4 = 4294967296 by decide, Nat.mod_eq_of_lt (by omega)]
    rfl
  rw [← hf4] at hx
  clear hf4
  generalize (l.drop 8).take (fz l) = p at ht hpl hpb hx ⊢
  generalize fz l = z at hf1 hzl hz ht hpl hx hs
  generalize unfx ((l.drop 4).take 4) = u at hf2 hul hx
  subst hpl
  have HF1 := Lib.hid hf1; clear hf1
  have HF2 := Lib.hid hf2; clear hf2
  have HT := Lib.hid ht; clear ht
  have HX := Lib.hid hx; clear hx
  have HP := Lib.hid hpb; clear hpb
  have h8n : 8 + p.length ≤ n := by have := fz_len hr; omega
  clear hl hs
  go_enter Tryd.func13, Tryd.ntmps13
  go_wp2_with fail
  obtain ⟨w0, hw0⟩ : ∃ w0 : World, (w.alloc (.cells #[.slice none 0 0, .int .i64 0, .int .i64 0] 33)).alloc (.cells #[.slice A n c, .int .i64 0, .int .i64 0, .int .i64 0] 56) = w0 := ⟨_, rfl⟩
  rw [hw0] at hS0 ⊢
  clear hw0
  have hfx := rfix_is 4 hS0.2
  rw [HF1.out] at hfx
  refine hfx.mono ?_
  clear hfx
  rintro e w1 ⟨rfl, hto1⟩
  have hS1 := hS0.step hto1
  have hc1 : w1.cell? ⟨w.heap.size + 1, 2, none⟩ = some (.int .i64 0) := hS1.2.cell.2
  clear hS0 hto1
  go_wp2_with fail
  have hfx := rfix_is 4 hS1.2
  simp only [Nat.zero_add] at hfx
  rw [HF2.out] at hfx
  refine hfx.mono ?_
  clear hfx
  rintro e w2 ⟨rfl, hto2⟩
  have hS2 := (show FrontR w w1 l 4 none from hS1).step hto2
  clear hS1 hto2 hc1
  go_wp2_with fail
  have htx := rtake_isN (p.length : Int) hS2.2
  rw [HT.out] at htx
  refine htx.mono ?_
  clear htx
  rintro e w3 ⟨⟨A3, n3, c3, rfl, hr3, hfar⟩, hto3⟩
  have hn3 : n3 = p.length := by have := hr3.1; rw [bs_length] at this; simpa using this.symm
  subst hn3
  have hS3 := hS2.step hto3
  have hc3 : w3.cell? ⟨w.heap.size + 1, 2, none⟩ = some (.int .i64 0) := hS3.2.cell.2
  have hfar2 : ∀ ad, A3 = some ad → w.heap.size + 2 ≤ ad.block := fun ad had => by
    have := hfar ad had
    have := hS2.2.lt
    omega
  clear hS2 hto3 hfar
  obtain ⟨i0, hi0, hz0, hz1, hz2⟩ := info_parts info_u8
  go_wp2_with fail
  refine (refFix4 p.length w3 (by omega)).mono ?_
  rintro e w4 ⟨v4, rfl, hown4, hb4⟩
  have hrp4 := (hr3.below hb4).more hb4.size
  go_wp2_with (at_builtin
               refine wpList_append_any _ rfl (.tmp 35) (.tmp 36) _ rfl w3.heap.size 5 i0 _ 1 1 Tryd.underlying22 hi0 hz0 hz1 hz2 rfl (by omega) v4 4 (bs (fx 4 p.length)) rfl
                 hown4 w4.heap.size A3 p.length c3 (bs p) rfl hrp4 (bs_one _) (by unfold maxLen; omega) (by omega) hb4.size ?_
               intro v5 w5 hown5 hg5 hat5)
  have hb5 : Below w3.heap.size w3 w5 := hb4.grown hg5 hb4.size (fun k hk => (hown4.lt k hk).1)
  rw [← bs_append] at hown5
  obtain ⟨A5, c5, rfl, _, _, hr5⟩ := own_slice hown5
  have hm := refmore_any 0 A5 (4 + p.length) c5 (fx 4 p.length ++ p) w5 (by omega) hr5 (by intro b hb; rcases List.mem_append.1 hb with hb | hb; exact fx_byte _ _ b hb; exact HP.out b hb) (by omega)
  rw [show moreN 0 (fx 4 p.length ++ p) = sumN (fx 4 p.length ++ p) from rfl] at hm
  rw [HX.out] at hm
  refine hm.mono ?_
  clear hm
  rintro e w6 ⟨rfl, hd6⟩
  have hb6 := hd6.below hb5
  have hS6 := hS3.next hb6
  have hc6 : w6.cell? ⟨w.heap.size + 1, 2, none⟩ = some (.int .i64 0) := hS6.2.cell.2
  have hc61 : w6.cell? ⟨w.heap.size + 1, 1, none⟩ = some (.int .i64 ((8 + p.length : Nat) : Int)) := hS6.2.cell.1
  have hr6 : Reads w6 w6.heap.size 1 A3 p.length (bs p) := (hr3.below hb6).more hb6.size
  clear hS3 hc3 hown4 hown5 hg5 hat5 hrp4 hr5 hr3
  have hG0 := hS6.1.blk.cell 0
  have hG1 := hS6.1.blk.cell 1
  have hG2 := hS6.1.blk.cell 2
  have hZ0 := hS6.1.blk.frozen 0
  have hZ1 := hS6.1.blk.frozen 1
  have hZ2 := hS6.1.blk.frozen 2
  simp only [List.getElem?_toArray, List.getElem?_cons_succ, List.getElem?_cons_zero] at hG0 hG1 hG2
  go_wp2_with fail
  exact got_end hS6.1 rfl rfl (8 + p.length) 0 ⟨hr6, fun ad had => by have := hfar2 ad had; omega⟩

theorem refGet_any (A : Option Addr) (n c : Nat) (l : List Nat) (w : World) (hr : Reads w w.heap.size 1 A n (bs l)) (hl : ∀ b ∈ l, b < 256) (hc : n ≤ c) (hn : n ≤ 140737488355328) :
    Calls Tryd.prog 13 #[.slice A n c] w (GotTo w w.heap.size (getS l)) := by
  unfold getS
  by_cases h4 : l.length < 4
  · rw [if_pos h4]; exact refGet_short4 A n c l w hr hl hc hn h4
  · rw [if_neg h4]
    by_cases hz : 16777216 < fz l
    · rw [if_pos hz]; exact refGet_limit A n c l w hr hl hc hn h4 hz
    · rw [if_neg hz]
      by_cases hs : l.length < 8 + fz l
      · rw [if_pos hs]
        by_cases h8 : l.length < 8
        · exact refGet_short8 A n c l w hr hl hc hn h4 h8 hz
        · exact refGet_end A n c l w hr hl hc hn h8 hz hs
      · rw [if_neg hs]
        by_cases hx : sumN (l.take 4 ++ (l.drop 8).take (fz l)) ≠ unfx ((l.drop 4).take 4)
        · rw [if_pos hx]; exact refGet_sum A n c l w hr hl hc hn hz hs hx
        · rw [if_neg hx]
          have h := refGet_ok A n c l w hr hl hc hn hz hs (Classical.not_not.1 hx)
          rw [show ((l.drop 8).take (fz l)).length = fz l by rw [List.length_take, List.length_drop]; omega] at h
          exact h
end Go.Proofs.YtpibekpddbhojaaDoor
