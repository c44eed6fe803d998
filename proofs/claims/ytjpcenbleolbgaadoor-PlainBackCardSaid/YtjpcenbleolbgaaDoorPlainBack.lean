/- The walk of the statement PlainBack: what is put is read as it was; with a byte more, or less, it isn't read; what is read is put as it was. -/
import Derived.Test.YtjpcenbleolbgaaDoorPlAwake
import Derived.Test.YtjpcenbleolbgaaDoorPlGet
import Derived.Test.YtjpcenbleolbgaaDoorSameZ
namespace Go.Proofs.YtjpcenbleolbgaaDoor
open Go.RowKit
set_option linter.unusedVariables false
set_option linter.unusedSimpArgs false
set_option maxRecDepth 100000

theorem back_else (A1 A2 : Option Addr) (n1 c1 n2 c2 : Nat) (k : Int) (w : World) (h : 300 < n1 ∨ 500 < n2) :
    Calls Tryd.prog 4 #[.slice A1 n1 c1, .slice A2 n2 c2, .int .i64 k] w fun e w' => e = .returned (.bool true) ∧ Below w.heap.size w w' := by
  by_cases h1 : 300 < n1
  · clear h
    go_enter Tryd.func4, Tryd.ntmps4
    go_wp2_with fail
    refine (awake_any w).mono ?_
    rintro e w1 ⟨rfl, hb⟩
    go_wp2_with fail
    go_ret
    exact ⟨rfl, hb⟩
  · have h2 : 500 < n2 := by omega
    clear h
    go_enter Tryd.func4, Tryd.ntmps4
    go_wp2_with fail
    refine (awake_any w).mono ?_
    rintro e w1 ⟨rfl, hb⟩
    go_wp2_with fail
    go_ret
    exact ⟨rfl, hb⟩
/-- Get, of bytes of which it is known what they are. -/
theorem get_as {l : List Int} {r : Int} {b : List Nat} {N n : Nat} (hE : getE b (N : Int) = r) (hS : getS b (N : Int) = l) (hb : ∀ x ∈ b, x < 256) (hn : n ≤ 140737488355328) (A : Option Addr) (c : Nat) (W : World) (hr : Reads W W.heap.size 1 A n (bs b)) (hm : Met W) :
    Calls Tryd.prog 6 #[.slice A n c, .int .i64 (N : Int)] W (NewLE W l r) := by
  subst hE hS; exact plGet_any A n c (N : Int) b W hr hb hn hm
set_option maxHeartbeats 4000000 in
theorem back_main (A1 A2 : Option Addr) (c1 n2 c2 : Nat) (k : Int) (l : List Int) (lb : List Nat) (w : World) (h1 : Reads w w.heap.size 1 A1 l.length (zs l)) (h2 : Reads w w.heap.size 1 A2 n2 (bs lb)) (hl : ∀ z ∈ l, In64 z) (hlb : ∀ x ∈ lb, x < 256)
    (hn1 : l.length ≤ 300) (hn2 : n2 ≤ 500) (hmet : Met w) :
    Calls Tryd.prog 4 #[.slice A1 l.length c1, .slice A2 n2 c2, .int .i64 k] w fun e w' => e = .returned (.bool true) ∧ Below w.heap.size w w' := by
  obtain ⟨i0, hi0, hz0, hz1, hz2⟩ := info_parts info_u8
  have d1 : decide ((300 : Int) < (l.length : Int)) = false := by simp; omega
  have d2 : decide ((500 : Int) < (n2 : Int)) = false := by simp; omega
  have hpl := pl_length l
  have hpb := pl_byte l hl
  obtain ⟨g1, g2⟩ := get_put l hl (by omega)
  obtain ⟨g3, g4⟩ := get_long l 0 hl (by omega)
  have C1 := Lib.hid (fun n hn => get_as (n := n) g1 g2 hpb hn)
  have C2 := Lib.hid (fun n hn => get_as (n := n) g3 g4 (by
    intro x hx
    rcases List.mem_append.1 hx with hx | hx
    · exact hpb x hx
    · rw [List.mem_singleton.1 hx]; omega) hn)
  have C3 : Hid (0 < (pl l).length → ∀ n, n ≤ 140737488355328 → ∀ A c W, Reads W W.heap.size 1 A n (bs ((pl l).take ((pl l).length - 1))) → Met W → Calls Tryd.prog 6 #[.slice A n c, .int .i64 (l.length : Int)] W (NewLE W [] 2)) :=
    Lib.hid (fun h0 n hn => get_as (n := n) (get_short l hl (by omega) h0).1 (get_short l hl (by omega) h0).2 (fun x hx => hpb x (List.mem_of_mem_take hx)) hn)
  have CP := Lib.hid (fun A c W hr => plPut_any A l.length c l W hr hl (by omega))
  have hlb2 : n2 = lb.length := by have := h2.1; rw [bs_length] at this; omega
  subst hlb2
  have CG := Lib.hid (fun A c W hr hm => plGet_any A lb.length c k lb W hr hlb (by omega) hm)
  obtain ⟨r, hr0⟩ : ∃ r, r = getE lb k := ⟨_, rfl⟩
  have HZ : Hid (r = 0 → 0 ≤ k ∧ k ≤ 65536 ∧ pl (getS lb k) = lb ∧ (getS lb k).length = k.toNat ∧ ∀ z ∈ getS lb k, In64 z) := by rw [hr0]; exact Lib.hid (put_get lb hlb k)
  obtain ⟨S, hS0⟩ : ∃ S, S = getS lb k := ⟨_, rfl⟩
  rw [← hr0, ← hS0] at CG
  rw [← hS0] at HZ
  obtain ⟨p, hp0⟩ : ∃ p, p = pl l := ⟨_, rfl⟩
  rw [← hp0] at C1 C2 C3 CP hpl
  clear g1 g2 g3 g4 hr0 hS0 hp0 hpb hl hlb
  go_enter Tryd.func4, Tryd.ntmps4
  go_wp2_with fail
  refine (CP.out A1 c1 w h1).mono ?_
  rintro e w1 ⟨v1, rfl, hown1, hb1⟩
  obtain ⟨Ax, cx, rfl, hcx, _, rx⟩ := own_slice hown1
  have h11 := h1.next hb1
  have h21 := h2.next hb1
  clear hown1 h1 h2
  go_wp2_with fail
  refine (C1.out p.length (by omega) Ax cx w1 rx (hmet.next hb1)).mono ?_
  intro e w2 hN2
  obtain ⟨Ay, cy, rfl, _, _, ry, hb2⟩ := hN2.opened
  have h12 := h11.next hb2
  have h22 := h21.next hb2
  have rx2 := rx.next hb2
  have hb02 := hb1.trans (hb2.mono hb1.size)
  clear hN2 h11 h21 rx hb1 hb2
  have o0 : (w2.alloc (.cells #[] 5)).ownsRow w2.heap.size 5 1 (.slice (some ⟨w2.heap.size, 0, none⟩) 0 0) 0 [] := World.ownsRow_made w2 _ _ (Nat.le_refl _) (by unfold maxLen; omega) (by simp)
  have rx3 : Reads (w2.alloc (.cells #[] 5)) (w2.heap.size + 1) 1 Ax p.length (bs p) := (rx2.alloc (Nat.le_refl _) _).more (by omega)
  go_wp2_with (first
    | (at_builtin
       refine wpList_append_any _ rfl (.tmp 41) (.tmp 42) _ rfl w2.heap.size 5 i0 _ 1 1 Tryd.underlying22 hi0 hz0 hz1 hz2 rfl (by omega) (.slice (some ⟨w2.heap.size, 0, none⟩) 0 0) 0 [] rfl
         o0 (w2.heap.size + 1) Ax p.length cx (bs p) rfl rx3 (bs_one _) (by unfold maxLen; omega) (by omega) (by simp) ?_
       intro v3 w3 hown3 hg3 hat3
       simp only [Nat.zero_add, List.nil_append] at hown3
       have hb3 : Below w2.heap.size w2 w3 := ((Below.refl _ _).alloc (Nat.le_refl _) _).grown hg3 (by simp) (fun k hk => by simp [Value.ownBlock] at hk; omega))
    | (at_builtin
       refine wpList_append_any _ rfl (.tmp 43) (.tmp 44) _ rfl w2.heap.size 5 i0 _ 1 1 Tryd.underlying22 hi0 hz0 hz1 hz2 rfl (by omega) v3 p.length (bs p) rfl
         (hown3.alloc _) (w3.heap.size + 1) (some ⟨w3.heap.size, 0, none⟩) 1 1 [.int .u8 0] rfl (Reads.new w3 _ _) (one_int _ _) (by unfold maxLen; omega) (by omega) (by have := hb3.size; simp; omega) ?_
       intro v4 w4 hown4 hg4 hat4
       obtain ⟨A4, c4, rfl, _, _, r4⟩ := own_slice hown4
       have hb4 : Below w2.heap.size w2 w4 := below_app hb3 hown3 hb3.size hg4))
  have r4' : Reads w4 w4.heap.size 1 A4 (p.length + 1) (bs (p ++ [0])) := by rw [bs_append]; exact r4
  have hb04 := hb02.trans (hb4.mono hb02.size)
  have h14 := h12.next hb4
  have h24 := h22.next hb4
  have ry4 := ry.next hb4
  have rx4 := rx2.next hb4
  clear o0 rx3 hown3 hg3 hat3 hb3 hown4 hg4 hat4 r4 hb4 h12 h22 ry rx2 hb02
  refine (C2.out (p.length + 1) (by omega) A4 c4 w4 r4' (hmet.next hb04)).mono ?_
  intro e w5 hN5
  obtain ⟨A5, c5, rfl, _, _, _, hb5⟩ := hN5.opened
  have hb05 := hb04.trans (hb5.mono hb04.size)
  have h15 := h14.next hb5
  have h25 := h24.next hb5
  have ry5 := ry4.next hb5
  have rx5 := rx4.next hb5
  clear hN5 r4' h14 h24 ry4 rx4 hb5 hb04
  go_wp2_with fail
  refine (sameZ_true Ay A1 l.length cy c1 l w5 ry5 h15 (by omega)).mono ?_
  rintro e w6 ⟨rfl, hd6⟩
  have hn6 := hd6.below (Below.refl w5.heap.size w5)
  have hb06 := hd6.below hb05
  have h26 := h25.next hn6
  have rx6 := rx5.next hn6
  clear h15 h25 ry5 rx5 hn6 hd6 hb05
  have hcut : Reads w6 w6.heap.size 1 Ax (p.length - 1) (bs (p.take (p.length - 1))) := by
    have := rx6.fore (k := p.length - 1) (by omega)
    rwa [Nat.mul_one, bs_take] at this
  have hm6 := hmet.next hb06
  clear rx6
  by_cases h0 : 0 < p.length
  case' pos =>
    have t1 : ((p.length : Int) - 1).toNat = p.length - 1 := by omega
    have t2 : (0 : Int) ≤ (p.length : Int) - 1 := by omega
    have t3 : (1 : Int) ≤ (p.length : Int) := by omega
    go_wp2_with fail
    refine (C3.out h0 (p.length - 1) (by omega) Ax cx w6 hcut hm6).mono ?_
    intro e w7 hN7
    obtain ⟨A7, c7, rfl, _, _, _, hb7⟩ := hN7.opened
    have hb07 := hb06.trans (hb7.mono hb06.size)
    have h27 := h26.next hb7
    have hm7 := hmet.next hb07
    clear hN7 hb7 t1 t2 t3
  case' neg =>
    obtain ⟨w7, rfl⟩ : ∃ w7 : World, w7 = w6 := ⟨_, rfl⟩
    have hb07 := hb06
    have h27 := h26
    have hm7 := hm6
  all_goals
    clear hb06 h26 hm6 hcut C1 C2 C3
    go_wp2_with fail
    refine (CG.out A2 c2 w7 h27 hm7).mono ?_
    intro e w8 hN8
    obtain ⟨A8, c8, rfl, _, _, r8, hb8⟩ := hN8.opened
    have hb08 := hb07.trans (hb8.mono hb07.size)
    have h28 := h27.next hb8
    clear hN8 h27 hb8 hb07 hm7 CG CP
    by_cases hr : r = 0
    · obtain ⟨k0, k1, hpS, hSl, hS64⟩ := HZ.out hr
      subst hr
      have hk : ((S.length : Int) == k) = true := by simp; omega
      have HS := Lib.hid hSl; have HP := Lib.hid hpS
      have HPS := Lib.hid (plPut_any A8 S.length c8 S w8 r8 hS64 (by omega))
      clear hSl hpS hS64 HZ
      go_wp2_with fail
      refine HPS.out.mono ?_
      rintro e w9 ⟨v9, rfl, hown9, hb9⟩
      rw [HP.out] at hown9
      obtain ⟨A9, c9, rfl, _, _, r9⟩ := own_slice hown9
      have hb09 := hb08.trans (hb9.mono hb08.size)
      have h29 := h28.next hb9
      clear hown9 HPS r8 h28 hb08
      go_wp2_with fail
      refine (same_true A9 A2 lb.length c9 lb.length c2 lb w9 r9 h29 (by omega)).mono ?_
      rintro e w10 ⟨rfl, hd10⟩
      have hb010 := hd10.below hb09
      clear r9 h29 hb09 hd10
      go_wp2_with fail
      refine (awake_any w10).mono ?_
      rintro e w11 ⟨rfl, hb11⟩
      go_wp2_with fail
      go_ret
      exact ⟨rfl, hb010.trans (hb11.mono hb010.size)⟩
    · have q1 : (r == 0) = false := by simp [hr]
      clear hr HZ r8 h28
      go_wp2_with fail
      refine (awake_any w8).mono ?_
      rintro e w11 ⟨rfl, hb11⟩
      go_wp2_with fail
      go_ret
      exact ⟨rfl, hb08.trans (hb11.mono hb08.size)⟩
theorem back_any (A1 A2 : Option Addr) (n1 c1 n2 c2 : Nat) (k : Int) (l : List Int) (lb : List Nat) (w : World) (h1 : Reads w w.heap.size 1 A1 n1 (zs l)) (h2 : Reads w w.heap.size 1 A2 n2 (bs lb)) (hl : ∀ z ∈ l, In64 z) (hlb : ∀ x ∈ lb, x < 256) (hmet : Met w) :
    Calls Tryd.prog 4 #[.slice A1 n1 c1, .slice A2 n2 c2, .int .i64 k] w fun e w' => e = .returned (.bool true) ∧ Below w.heap.size w w' := by
  by_cases h : 300 < n1 ∨ 500 < n2
  · exact back_else A1 A2 n1 c1 n2 c2 k w h
  · obtain rfl : n1 = l.length := by have := h1.1; rw [zs_length] at this; omega
    exact back_main A1 A2 c1 n2 c2 k l lb w h1 h2 hl hlb (by omega) (by omega) hmet
end Go.Proofs.YtjpcenbleolbgaaDoor
