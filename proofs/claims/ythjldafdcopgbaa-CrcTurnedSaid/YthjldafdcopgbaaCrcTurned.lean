/- The walk of the statement CrcTurned: bits that are turned, 1 to 32 of them in a row, leave another sum. -/
import Derived.Test.YthjldafdcopgbaaCrcSums
namespace Go.Proofs.Ythjldafdcopgbaa
open Go.RowKit
set_option linter.unusedVariables false
set_option maxRecDepth 100000

theorem turned_else (A : Option Addr) (n c turn : Nat) (k : Int) (w : World) (h : 2000 < n ∨ n < 5 ∨ turn = 0) :
    Calls Try.prog 5 #[.slice A n c, .int .i64 k, .int .u32 (turn : Int)] w fun e w' => e = .returned (.bool true) ∧ Below w.heap.size w w' := by
  by_cases h1 : 2000 < n
  · clear h
    go_enter Try.func5, Try.ntmps5
    go_wp2_with fail
    refine (awake_any w).mono ?_
    rintro e w1 ⟨rfl, hb⟩
    go_wp2_with fail
    go_ret
    exact ⟨rfl, hb⟩
  · by_cases h2 : n < 5
    · clear h
      go_enter Try.func5, Try.ntmps5
      go_wp2_with fail
      refine (awake_any w).mono ?_
      rintro e w1 ⟨rfl, hb⟩
      go_wp2_with fail
      go_ret
      exact ⟨rfl, hb⟩
    · obtain rfl : turn = 0 := by omega
      have d1 : decide ((2000 : Int) < (n : Int)) = false := by simp; omega
      have d2 : decide ((n : Int) < 5) = false := by simp; omega
      clear h
      go_enter Try.func5, Try.ntmps5
      go_wp2_with fail
      refine (awake_any w).mono ?_
      rintro e w1 ⟨rfl, hb⟩
      go_wp2_with fail
      go_ret
      exact ⟨rfl, hb⟩

/-- A block that begins with bytes, one of them written anew. -/
theorem take_set (cur : Array Value) (n i : Nat) (x : List Nat) (v : Nat) (h : cur.toList.take n = bs x) (hn : x.length = n) (hi : i < n) :
    (cur.setIfInBounds i (.int .u8 (v : Int))).toList.take n = bs (x.set i v) := by
  rw [Array.toList_setIfInBounds, List.take_set, h]
  unfold bs
  rw [List.map_set]
theorem cell_take (cur : Array Value) (n i : Nat) (x : List Nat) (y : Nat) (h : cur.toList.take n = bs x) (hi : i < n) (hx : x[i]? = some y) : cur[i]? = some (.int .u8 (y : Int)) := by
  have h2 : (cur.toList.take n)[i]? = some (.int .u8 (y : Int)) := by rw [h]; unfold bs; rw [List.getElem?_map, hx]; rfl
  rw [List.getElem?_take, if_pos hi] at h2
  simpa using h2

set_option maxHeartbeats 1000000 in
theorem turned_main (A : Option Addr) (n c turn : Nat) (at_ : Int) (l : List Nat) (w : World) (hr : Reads w w.heap.size 1 A n (bs l)) (hl : ∀ b ∈ l, b < 256) (h1 : n ≤ 2000) (h2 : 5 ≤ n) (h3 : turn ≠ 0) (h4 : turn < 4294967296)
    (hk : -9223372036854775808 ≤ at_ ∧ at_ ≤ 9223372036854775807) :
    Calls Try.prog 5 #[.slice A n c, .int .i64 at_, .int .u32 (turn : Int)] w fun e w' => e = .returned (.bool true) ∧ Below w.heap.size w w' := by
  have e1 : l.length = n := by have := hr.1; rw [bs_length] at this; omega
  have E1 := Lib.hid e1; clear e1
  have HL := Lib.hid hl; clear hl
  obtain ⟨ad, rfl⟩ : ∃ ad, A = some ad := by obtain ⟨ad, e, _⟩ := hr.2 (by omega); exact ⟨ad, e⟩
  have d1 : decide ((2000 : Int) < (n : Int)) = false := by simp; omega
  have d2 : decide ((n : Int) < 5) = false := by simp; omega
  have d3 : ((turn : Int) == 0) = false := by simp; omega
  obtain ⟨i0, hi0, hz0, hz1, hz2⟩ := info_parts info_u8
  have hown0 : (w.alloc (.cells #[] 5)).ownsRow w.heap.size 5 1 (.slice (some ⟨w.heap.size, 0, none⟩) 0 0) 0 [] :=
    World.ownsRow_made w _ _ (Nat.le_refl _) (by unfold maxLen; omega) rfl
  go_enter Try.func5, Try.ntmps5
  go_wp2_with (at_builtin
               refine wpList_append_any _ rfl (.tmp 25) (.tmp 26) _ rfl w.heap.size 5 i0 _ 1 1 Try.underlying23 hi0 hz0 hz1 hz2 rfl (by omega) (.slice (some ⟨w.heap.size, 0, none⟩) 0 0) 0 [] rfl
                 hown0 w.heap.size (some ad) n c (bs l) rfl (hr.alloc (Nat.le_refl _) _) (bs_one l) (by unfold maxLen; omega) (by omega) (by simp) ?_
               intro v1 w1 hown1 hg1 hat1)
  have hb1 : Below w.heap.size w w1 := ((Below.refl _ _).alloc (Nat.le_refl _) _).grown hg1 (by simp) (fun k hk => by simp [Value.ownBlock] at hk; omega)
  rw [Nat.zero_add, List.nil_append] at hown1
  obtain ⟨gb, cap, cur, rfl, hgb, hB0, htk⟩ : ∃ gb cap cur, v1 = .slice (some ⟨gb, 0, none⟩) n cap ∧ w.heap.size ≤ gb ∧ Blk w1 gb 5 cur ∧ cur.toList.take n = bs l := by
    rcases hown1.2 with ⟨_, h0⟩ | ⟨gb, cap, cur, hv, hge, hg, _, _, _, ht⟩
    · omega
    · exact ⟨gb, cap, cur, hv, hge, hg, by simpa using ht⟩
  clear hown1 hg1 hat1 hown0
  have HT0 := Lib.hid htk
  clear htk
  have hpick := pick_any at_ (8 * (n - 4)) w1 hk.1 hk.2 (by omega) (by omega)
  rw [show ((8 * (n - 4) : Nat) : Int) = 8 * ((n : Int) - 4) by omega] at hpick
  refine hpick.mono ?_
  clear hpick
  rintro e w' ⟨k, hkn, rfl, rfl⟩
  obtain ⟨k8, hk8⟩ : ∃ k8 : Nat, k8 = k % 8 := ⟨_, rfl⟩
  obtain ⟨kq, hkq⟩ : ∃ kq : Nat, kq = k / 8 := ⟨_, rfl⟩
  have r8 : (k : Int) % 8 = (k8 : Int) := by omega
  have rq : (k : Int) / 8 = (kq : Int) := by omega
  have hk8l : k8 < 8 := by omega
  have hkql : kq + 5 ≤ n := by omega
  have HK := Lib.hid (And.intro hk8 (And.intro hkq hkn))
  clear hk8 hkq
  go_wp2_with fail
  go_loopg [9, 10] k8 (fun g s9 s10 wx => ∃ i X : Nat, i + g = k8 ∧ s10 = .int .i64 (i : Int) ∧ s9 = .int .u64 (X : Int) ∧ Hid (X = turn * 2 ^ i) ∧ wx = w1)
  case atStart => exact ⟨0, turn, by omega, rfl, by first | rfl | go_num, Lib.hid (by simp), rfl⟩
  case round =>
    obtain ⟨i, X, hig, rfl, rfl, hX, rfl⟩ := hrel
    have hXl : X ≤ 549755813760 := by
      have hp : 2 ^ i ≤ 128 := show 2 ^ i ≤ 2 ^ 7 from Nat.pow_le_pow_right (by omega) (by omega)
      have := Nat.mul_le_mul (show turn ≤ 4294967295 by omega) hp
      rw [hX.out]
      omega
    cases gk with
    | succ g =>
      have hi : i < k8 := by omega
      have hi2 : (i : Int) < (k8 : Int) := by omega
      go_wp2_with fail
      go_roundg g
      case measure => omega
      case rel => exact ⟨i + 1, X * 2, by omega, by go_num, by first | rfl | go_num, Lib.hid (by rw [hX.out, Nat.pow_succ, Nat.mul_assoc]), rfl⟩
    | zero =>
      obtain rfl : i = k8 := by omega
      clear hig
      go_wp2_with fail
      go_loopg [9, 11] 5 (fun g s9 s11 wx => ∃ (t j M : Nat) (cur : Array Value), t + g = 5 ∧ j = kq + t ∧ s11 = .int .i64 (j : Int) ∧ s9 = .int .u64 (M : Int) ∧ Hid (M = X / 256 ^ t) ∧ M ≤ 549755813760 ∧ Blk wx gb 5 cur ∧ Hid (cur.toList.take n = bs (tu l kq X t)) ∧ Below w.heap.size w wx)
      case atStart => exact ⟨0, kq, X, cur, by omega, rfl, by first | rfl | go_num, by first | rfl | go_num, Lib.hid (by simp), hXl, hB0, HT0, hb1⟩
      case round =>
        obtain ⟨t, j, M, cur, htg, hj, rfl, rfl, hM, hMl, hB, hT, hb⟩ := hrel
        cases gk with
        | zero =>
          obtain rfl : t = 5 := by omega
          have hj2 : (j : Int) = (kq : Int) + 5 := by omega
          have hj3 := hj
          clear htg hj
          have hN : X = turn * 2 ^ (k % 8) := by rw [hX.out, HK.out.1]
          have hturn := sum_turned l k turn (by rw [E1.out]; exact HK.out.2.2) (by rw [E1.out]; exact h2) h3 h4 HL.out
          rw [← HK.out.2.1, ← hN] at hturn
          have hty := tu_byte l kq X 5 HL.out
          have htl : (tu l kq X 5).length = n := by rw [tu_length, E1.out]
          have hrx : Reads wr wr.heap.size 1 (some ⟨gb, 0, none⟩) n (bs (tu l kq X 5)) := reads_blk hB _ _ _ hB.lt (by rw [bs_length, htl]) hT.out
          obtain ⟨mx, hmx⟩ : ∃ v : Nat, sumN (tu l kq X 5) = v := ⟨_, rfl⟩
          obtain ⟨ml, hml⟩ : ∃ v : Nat, sumN l = v := ⟨_, rfl⟩
          have hc1 := sum_any (some ⟨gb, 0, none⟩) n cap _ wr hrx hty (by omega)
          rw [hmx, hml] at hturn
          rw [hmx] at hc1
          have hne : ((mx : Int) != (ml : Int)) = true := by simp; omega
          have hne2 : ((mx : Int) == (ml : Int)) = false := by simp; omega
          have HML := Lib.hid hml
          clear hmx hml hN hturn hty htl hrx hj3
          go_wp2_with fail
          refine hc1.mono ?_
          clear hc1
          rintro e w2 ⟨rfl, hb2⟩
          have hb2 : Below w.heap.size w w2 := hb.trans (hb2.mono hb.size)
          go_wp2_with fail
          have hc2 := sum_any (some ad) n c l w2 ((hr.below hb2).more hb2.size) HL.out (by omega)
          rw [HML.out] at hc2
          refine hc2.mono ?_
          clear hc2
          rintro e w3 ⟨rfl, hb3⟩
          have hb3 : Below w.heap.size w w3 := hb2.trans (hb3.mono hb2.size)
          go_wp2_with fail
          refine (awake_any w3).mono ?_
          rintro e w4 ⟨rfl, hb4⟩
          go_wp2_with fail
          go_ret
          exact ⟨rfl, hb3.trans (hb4.mono hb3.size)⟩
        | succ g2 =>
          have hjn : j < n := by omega
          have hj2 : (j : Int) < (kq : Int) + 5 := by omega
          have hjn2 : (j : Int) < (n : Int) := by omega
          have hlen : (tu l kq X t).length = n := by rw [tu_length, E1.out]
          obtain ⟨y, hy⟩ : ∃ y, (tu l kq X t)[j]? = some y := ⟨_, List.getElem?_eq_getElem (by rw [hlen]; exact hjn)⟩
          have hy256 : y < 256 := tu_byte l kq X t HL.out y (List.mem_of_getElem? hy)
          have hcell : wr.cell? ⟨gb, j, none⟩ = some (.int .u8 (y : Int)) := by rw [hB.cell]; exact cell_take cur n j _ y hT.out hjn hy
          have hfz := hB.frozen j
          have hx : bits .xor .u8 (y : Int) ((M : Int) % 256) = ((y ^^^ M % 256 : Nat) : Int) := u8_xor_nat y (M % 256) hy256 (by omega)
          obtain ⟨z, hz⟩ : ∃ z : Nat, y ^^^ M % 256 = z := ⟨_, rfl⟩
          rw [hz] at hx
          have hB2 := hB.set_ j (.int .u8 (z : Int))
          have hT2 := take_set cur n j _ z hT.out hlen hjn
          have hb2 := hb.setCell (p := ⟨gb, j, none⟩) hgb (.int .u8 (z : Int))
          have htu : (tu l kq X t).set j z = tu l kq X (t + 1) := by
            show _ = (tu l kq X t).set (kq + t) ((tu l kq X t).getD (kq + t) 0 ^^^ X / 256 ^ t % 256)
            rw [← hj, List.getD_eq_getElem?_getD, hy, Option.getD_some, ← hM.out, hz]
          rw [htu] at hT2
          have H2 := Lib.hid (And.intro hB2 (And.intro hT2 hb2))
          have HJ := Lib.hid hj
          clear hB2 hT2 hb2 htu hy hz hlen hj
          go_wp2_with fail
          go_roundg g2
          case measure => omega
          case rel =>
            refine ⟨t + 1, j + 1, M / 256, _, by omega, by have := HJ.out; omega, by go_num, by first | rfl | go_num, Lib.hid ?_, by omega, H2.out.1, Lib.hid H2.out.2.1, H2.out.2.2⟩
            rw [hM.out, Nat.pow_succ, Nat.div_div_eq_div_mul]
end Go.Proofs.Ythjldafdcopgbaa
