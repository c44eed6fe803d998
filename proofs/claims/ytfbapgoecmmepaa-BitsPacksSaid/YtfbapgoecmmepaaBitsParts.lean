/- The walk of the statement BitsParts: where a first part fills its bytes, both parts are packed one behind the other. -/
import Derived.Test.YtfbapgoecmmepaaAwake02
namespace Go.Proofs.Ytfbapgoecmmepaa
open Go.RowKit
set_option linter.unusedVariables false
set_option maxRecDepth 100000

theorem packE_ok (l : List Nat) (w : Nat) (hl : l.length ≤ 65536) (hw : w ≤ 64) (h : wd l ≤ w) : packE l (w : Int) = 0 ∧ packS l (w : Int) = packB w l := by
  have hz : szI (l.length : Int) (w : Int) = (sz l.length w : Int) := by unfold szI; rw [if_pos (by omega)]; simp
  have hE : packE l (w : Int) = 0 := by unfold packE; rw [hz, if_neg (by omega), if_neg (by omega)]
  exact ⟨hE, by unfold packS; rw [if_pos hE]; simp⟩
/-- Pack, where it goes well. -/
theorem pack_ok (A : Option Addr) (n c : Nat) (l : List Nat) (kI : Int) (k : Nat) (hkI : kI = (k : Int)) (w : World) (hr : Reads w w.heap.size 1 A n (us l)) (hl : ∀ a ∈ l, a < 18446744073709551616) (hn : n ≤ 65536) (hk : k ≤ 64) (hd : wd l ≤ k) :
    Calls Try.prog 8 #[.slice A n c, .int .i64 kI] w (NewE w (packB k l) 0) := by
  subst hkI
  have e1 : l.length = n := by have := hr.1; rw [us_length] at this; omega
  have h := pack_any A n c l (k : Int) w hr hl (by omega) (by omega)
  obtain ⟨h1, h2⟩ := packE_ok l k (by omega) hk hd
  rwa [h1, h2] at h
theorem wd_append (a b : List Nat) (k : Nat) (ha : wd a ≤ k) (hb : wd b ≤ k) : wd (a ++ b) ≤ k := by
  rw [wd_le] at *
  intro x hx
  rcases List.mem_append.1 hx with h | h
  · exact ha x h
  · exact hb x h

set_option maxHeartbeats 2000000 in
theorem parts_main (A1 A2 : Option Addr) (n1 c1 n2 c2 x : Nat) (la lb : List Nat) (w : World) (h1 : Reads w w.heap.size 1 A1 n1 (us la)) (h2 : Reads w w.heap.size 1 A2 n2 (us lb)) (hl1 : ∀ a ∈ la, a < 18446744073709551616) (hl2 : ∀ a ∈ lb, a < 18446744073709551616) (hx : x < 256)
    (hn1 : n1 ≤ 200) (hn2 : n2 ≤ 200) (h8 : n1 * (1 + x % 64) % 8 = 0) (hd1 : wd la ≤ 1 + x % 64) (hd2 : wd lb ≤ 1 + x % 64) :
    Calls Try.prog 6 #[.slice A1 n1 c1, .slice A2 n2 c2, .int .u8 (x : Int)] w fun e w' => e = .returned (.bool true) ∧ Below w.heap.size w w' := by
  obtain ⟨i0, hi0, hz0, hz1, hz2⟩ := info_parts info_u8
  obtain ⟨i1, hi1, hy0, hy1, hy2⟩ := info_parts info_u64
  have e1 : la.length = n1 := by have := h1.1; rw [us_length] at this; omega
  have e2 : lb.length = n2 := by have := h2.1; rw [us_length] at this; omega
  have E := Lib.hid (And.intro e1 e2); clear e1 e2
  have hm : (0 : Int) ≤ (n1 : Int) * (1 + (x : Int) % 64) ∧ (n1 : Int) * (1 + (x : Int) % 64) ≤ 12800 := by
    have h0 : (n1 : Int) * (1 + (x : Int) % 64) = ((n1 * (1 + x % 64) : Nat) : Int) := by push_cast; rfl
    have h3 : n1 * (1 + x % 64) ≤ 200 * 64 := Nat.mul_le_mul hn1 (by omega)
    rw [h0]; omega
  have hm8 : ((n1 : Int) * (1 + (x : Int) % 64) % 8 != 0) = false := by
    have h0 : (n1 : Int) * (1 + (x : Int) % 64) % 8 = ((n1 * (1 + x % 64) % 8 : Nat) : Int) := by push_cast; rfl
    rw [h0, h8]; rfl
  obtain ⟨hm1, hm2⟩ := hm
  have H8 := Lib.hid h8; clear h8
  have hw1 : decide (1 + (x : Int) % 64 < (wd la : Int)) = false := by simp; omega
  have hw2 : decide (1 + (x : Int) % 64 < (wd lb : Int)) = false := by simp; omega
  go_enter Try.func6, Try.ntmps6
  go_wp2_with fail
  refine (width_any A1 n1 c1 la _ h1 hl1 (by omega)).mono ?_
  rintro e w' ⟨rfl, rfl⟩
  go_wp2_with fail
  refine (width_any A2 n2 c2 lb _ h2 hl2 (by omega)).mono ?_
  rintro e w' ⟨rfl, rfl⟩
  go_wp2_with fail
  refine (pack_ok A1 n1 c1 la _ (1 + x % 64) (by simp) w h1 hl1 (by omega) (by omega) hd1).mono ?_
  rintro e w1 ⟨v1, rfl, hown1, hb1⟩
  have h2a := (h2.below hb1).more hb1.size
  go_wp2_with fail
  refine (pack_ok A2 n2 c2 lb _ (1 + x % 64) (by simp) w1 h2a hl2 (by omega) (by omega) hd2).mono ?_
  rintro e w2 ⟨v2, rfl, hown2, hb2⟩
  have hz1' := hb1.size
  have hz2' := hb2.size
  have r1 : Reads (w2.alloc (.cells #[] 42)) (w2.heap.size + 1) 1 A1 n1 (us la) := ((((h1.below hb1).below (hb2.mono hz1')).more (by omega)).alloc (by omega) _ : Reads _ w2.heap.size 1 A1 n1 (us la)).more (by omega)
  have r2 : Reads w2 w2.heap.size 1 A2 n2 (us lb) := (h2a.below hb2).more hz2'
  have o1 : (w2.alloc (.cells #[] 42)).ownsRow w2.heap.size 42 1 (.slice (some ⟨w2.heap.size, 0, none⟩) 0 0) 0 [] := World.ownsRow_made w2 _ _ (Nat.le_refl _) (by unfold maxLen; omega) (by simp)
  go_wp2_with (first
    | (at_builtin
       refine wpList_append_any _ rfl (.tmp 60) (.tmp 61) _ rfl w2.heap.size 42 i1 _ 1 8 Try.underlying22 hi1 hy0 hy1 hy2 rfl (by omega) (.slice (some ⟨w2.heap.size, 0, none⟩) 0 0) 0 [] rfl
         o1 (w2.heap.size + 1) A1 n1 c1 (us la) rfl r1 (us_one _) (by unfold maxLen; omega) (by omega) (by simp) ?_
       intro v3 w3 hown3 hg3 hat3
       simp only [Nat.zero_add, List.nil_append] at hown3
       have hb3 : Below w2.heap.size w2 w3 := ((Below.refl _ _).alloc (Nat.le_refl _) _).grown hg3 (by simp) (fun k hk => by simp [Value.ownBlock] at hk; omega)
       have r3 := (r2.below hb3).more hb3.size)
    | (at_builtin
       refine wpList_append_any _ rfl (.tmp 62) (.tmp 63) _ rfl w2.heap.size 42 i1 _ 1 8 Try.underlying22 hi1 hy0 hy1 hy2 rfl (by omega) v3 n1 (us la) rfl
         hown3 w3.heap.size A2 n2 c2 (us lb) rfl r3 (us_one _) (by unfold maxLen; omega) (by omega) hb3.size ?_
       intro v4 w4 hown4 hg4 hat4
       obtain ⟨A4, c4, rfl, _, _, r4⟩ := own_slice hown4
       rw [← us_append] at r4
       have hb4 : Below w2.heap.size w2 w4 := hb3.grown hg4 hb3.size (fun k hk => (hown3.lt k hk).1)))
  refine (pack_ok A4 (n1 + n2) c4 (la ++ lb) _ (1 + x % 64) (by simp) w4 r4 (fun a ha => (List.mem_append.1 ha).elim (hl1 a) (hl2 a)) (by omega) (by omega) (wd_append la lb _ hd1 hd2)).mono ?_
  rintro e w5 ⟨v5, rfl, hown5, hb5⟩
  have hz4 := hb4.size
  have hz5 := hb5.size
  have hb25 : Below w2.heap.size w2 w5 := hb4.trans (hb5.mono hz4)
  have hb15 : Below w1.heap.size w1 w5 := hb2.trans (hb25.mono hz2')
  have hb05 : Below w.heap.size w w5 := hb1.trans (hb15.mono hz1')
  have o5 := own_below hown1 hb15
  obtain ⟨A2', c2', rfl, _, _, r2'⟩ := own_slice hown2
  have r5 := (r2'.below hb25).more hb25.size
  have hlen1 : (packB (1 + x % 64) la).length ≤ 524289 := by rw [packB_length]; have := sz_small la.length (1 + x % 64) (by have := E.out.1; omega) (by omega); unfold sz; omega
  have hlen2 : (packB (1 + x % 64) lb).length ≤ 524289 := by rw [packB_length]; have := sz_small lb.length (1 + x % 64) (by have := E.out.2; omega) (by omega); unfold sz; omega
  have happ : packB (1 + x % 64) la ++ packB (1 + x % 64) lb = packB (1 + x % 64) (la ++ lb) := (packB_append _ la lb ((wd_le la _).1 hd1) (by rw [E.out.1]; exact H8.out)).symm
  have HAP := Lib.hid happ; clear happ
  obtain ⟨p1, hp1⟩ : ∃ p, p = packB (1 + x % 64) la := ⟨_, rfl⟩
  obtain ⟨p2, hp2⟩ : ∃ p, p = packB (1 + x % 64) lb := ⟨_, rfl⟩
  obtain ⟨p3, hp3⟩ : ∃ p, p = packB (1 + x % 64) (la ++ lb) := ⟨_, rfl⟩
  rw [← hp1] at o5 hlen1 HAP
  rw [← hp2] at r5 hlen2 HAP
  rw [← hp3] at hown5 HAP
  rw [← hp2]
  clear hp1 hp2 hp3
  go_wp2_with (first
    | (at_builtin
       refine wpList_append_when _ (by rfl) (.tmp 80) (.tmp 81) _ rfl w.heap.size 5 i0 _ 1 1 Try.underlying24 hi0 hz0 hz1 hz2 rfl (by omega) v1 p1.length (bs p1) rfl
         o5 w5.heap.size A2' p2.length c2' (bs p2) rfl r5 (bs_one _) (by unfold maxLen; omega) (by omega) hb05.size ?_
       intro v6 w6 hown6 hg6 hat6
       obtain ⟨A6, c6, rfl, _, _, r6⟩ := own_slice hown6
       rw [← bs_append, HAP.out] at r6
       have hb56 : Below w.heap.size w w6 := hb05.grown hg6 hb05.size (fun k hk => (o5.lt k hk).1)
       have hne : v5.ownBlock = none ∨ v5.ownBlock ≠ v1.ownBlock := by
         cases hv : v5.ownBlock with
         | none => exact .inl rfl
         | some k =>
           refine .inr fun h => ?_
           have q1 := (hown5.lt k hv).1
           have q2 := (hown1.lt k h.symm).2
           omega
       have hown7 := hown5.kept hg6 hne
       obtain ⟨A5, c5, rfl, _, _, r7⟩ := own_slice hown7))
  refine (same_true A6 A5 (p1.length + p2.length) c6 p3.length c5 p3 w6 r6 r7 (by omega)).mono ?_
  rintro e w7 ⟨rfl, hd7⟩
  go_wp2_with fail
  refine (awake_any w7).mono ?_
  rintro e w8 ⟨rfl, hb8⟩
  have hb7 := hd7.below hb56
  go_wp2_with fail
  go_ret
  exact ⟨rfl, hb7.trans (hb8.mono hb7.size)⟩

theorem parts_awake (A1 A2 : Option Addr) (n1 c1 n2 c2 x : Nat) (la lb : List Nat) (w : World) (h1 : Reads w w.heap.size 1 A1 n1 (us la)) (h2 : Reads w w.heap.size 1 A2 n2 (us lb)) (hl1 : ∀ a ∈ la, a < 18446744073709551616) (hl2 : ∀ a ∈ lb, a < 18446744073709551616) (hx : x < 256)
    (h : 200 < n1 ∨ 200 < n2 ∨ n1 * (1 + x % 64) % 8 ≠ 0 ∨ 1 + x % 64 < wd la ∨ 1 + x % 64 < wd lb) :
    Calls Try.prog 6 #[.slice A1 n1 c1, .slice A2 n2 c2, .int .u8 (x : Int)] w fun e w' => e = .returned (.bool true) ∧ Below w.heap.size w w' := by
  by_cases g1 : 200 < n1
  · clear h
    go_enter Try.func6, Try.ntmps6
    go_wp2_with fail
    refine (awake_any w).mono ?_
    rintro e w8 ⟨rfl, hb8⟩
    go_wp2_with fail
    go_ret
    exact ⟨rfl, hb8⟩
  by_cases g2 : 200 < n2
  · clear h
    go_enter Try.func6, Try.ntmps6
    go_wp2_with fail
    refine (awake_any w).mono ?_
    rintro e w8 ⟨rfl, hb8⟩
    go_wp2_with fail
    go_ret
    exact ⟨rfl, hb8⟩
  have h0 : (n1 : Int) * (1 + (x : Int) % 64) = ((n1 * (1 + x % 64) : Nat) : Int) := by push_cast; rfl
  have h3 : n1 * (1 + x % 64) ≤ 200 * 64 := Nat.mul_le_mul (by omega) (by omega)
  have hm1 : (0 : Int) ≤ (n1 : Int) * (1 + (x : Int) % 64) := by rw [h0]; omega
  have hm2 : (n1 : Int) * (1 + (x : Int) % 64) ≤ 12800 := by rw [h0]; omega
  by_cases g3 : n1 * (1 + x % 64) % 8 ≠ 0
  · have hm8 : ((n1 : Int) * (1 + (x : Int) % 64) % 8 != 0) = true := by rw [h0]; simp; omega
    clear h g3 h0 h3
    go_enter Try.func6, Try.ntmps6
    go_wp2_with fail
    refine (awake_any w).mono ?_
    rintro e w8 ⟨rfl, hb8⟩
    go_wp2_with fail
    go_ret
    exact ⟨rfl, hb8⟩
  have hm8 : ((n1 : Int) * (1 + (x : Int) % 64) % 8 != 0) = false := by rw [h0]; simp; omega
  by_cases g4 : 1 + x % 64 < wd la
  · have hw1 : decide (1 + (x : Int) % 64 < (wd la : Int)) = true := by simp; omega
    clear h g3 h0 h3
    go_enter Try.func6, Try.ntmps6
    go_wp2_with fail
    refine (width_any A1 n1 c1 la _ h1 hl1 (by omega)).mono ?_
    rintro e w' ⟨rfl, rfl⟩
    go_wp2_with fail
    refine (awake_any w).mono ?_
    rintro e w8 ⟨rfl, hb8⟩
    go_wp2_with fail
    go_ret
    exact ⟨rfl, hb8⟩
  · have g5 : 1 + x % 64 < wd lb := by omega
    have hw1 : decide (1 + (x : Int) % 64 < (wd la : Int)) = false := by simp; omega
    have hw2 : decide (1 + (x : Int) % 64 < (wd lb : Int)) = true := by simp; omega
    clear h g3 h0 h3
    go_enter Try.func6, Try.ntmps6
    go_wp2_with fail
    refine (width_any A1 n1 c1 la _ h1 hl1 (by omega)).mono ?_
    rintro e w' ⟨rfl, rfl⟩
    go_wp2_with fail
    refine (width_any A2 n2 c2 lb _ h2 hl2 (by omega)).mono ?_
    rintro e w' ⟨rfl, rfl⟩
    go_wp2_with fail
    refine (awake_any w).mono ?_
    rintro e w8 ⟨rfl, hb8⟩
    go_wp2_with fail
    go_ret
    exact ⟨rfl, hb8⟩
theorem parts_any (A1 A2 : Option Addr) (n1 c1 n2 c2 x : Nat) (la lb : List Nat) (w : World) (h1 : Reads w w.heap.size 1 A1 n1 (us la)) (h2 : Reads w w.heap.size 1 A2 n2 (us lb)) (hl1 : ∀ a ∈ la, a < 18446744073709551616) (hl2 : ∀ a ∈ lb, a < 18446744073709551616) (hx : x < 256) :
    Calls Try.prog 6 #[.slice A1 n1 c1, .slice A2 n2 c2, .int .u8 (x : Int)] w fun e w' => e = .returned (.bool true) ∧ Below w.heap.size w w' := by
  by_cases h : 200 < n1 ∨ 200 < n2 ∨ n1 * (1 + x % 64) % 8 ≠ 0 ∨ 1 + x % 64 < wd la ∨ 1 + x % 64 < wd lb
  · exact parts_awake A1 A2 n1 c1 n2 c2 x la lb w h1 h2 hl1 hl2 hx h
  · exact parts_main A1 A2 n1 c1 n2 c2 x la lb w h1 h2 hl1 hl2 hx (by omega) (by omega) (by omega) (by omega) (by omega)
end Go.Proofs.Ytfbapgoecmmepaa
