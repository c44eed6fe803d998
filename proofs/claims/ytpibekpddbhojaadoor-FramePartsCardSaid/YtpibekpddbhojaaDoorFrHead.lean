/- Contract of package frame's head: the length and the sum that bytes tell, or an error. -/
import Derived.Test.YtpibekpddbhojaaDoorFrSmall
import Derived.Test.YtpibekpddbhojaaDoorNFix
import Derived.Test.YtpibekpddbhojaaDoorErr
namespace Go.Proofs.YtpibekpddbhojaaDoor
open Go.RowKit
set_option linter.unusedVariables false
set_option maxRecDepth 100000

/-- What head answers: two numbers and an error. -/
def Heads (s u : Nat) (v : Value) (e : Ending) : Prop := e = .returned (.tuple #[.int .i64 (s : Int), .int .u32 (u : Int), v])
/-- An Errno, plain or wrapped once. -/
def Wrap1 (w : World) (v : Value) (k : Int) : Prop :=
  v = .iface 24 (.int .i64 k) ∨ (∃ g, v = .iface 67 (.pointer (some ⟨g, 0, none⟩)) ∧ w.cell? ⟨g, 1, none⟩ = some (.iface 24 (.int .i64 k)))
def HeadErr (w : World) (k : Int) (e : Ending) (w' : World) : Prop := ∃ v, Heads 0 0 v e ∧ Wrap1 w' v k ∧ Below w.heap.size w w'
theorem take_min {w : World} {B : Nat} {A : Option Addr} {n : Nat} {l : List Nat} (hr : Reads w B 1 A n (bs l)) :
    ∃ k, Reads w B 1 A k (bs (l.take 8)) ∧ (l.take 8).length = k ∧ ((n ≤ 8 ∧ k = n) ∨ (8 < n ∧ k = 8)) := by
  have e1 : l.length = n := by have := hr.1; rw [bs_length] at this; omega
  rcases Nat.lt_or_ge 8 n with h | h
  · refine ⟨8, ?_, by rw [List.length_take]; omega, .inr ⟨h, rfl⟩⟩
    have := hr.fore (k := 8) (by omega)
    simpa [bs_take] using this
  · refine ⟨n, ?_, by rw [List.length_take]; omega, .inl ⟨h, rfl⟩⟩
    rw [List.take_of_length_le (by omega)]
    exact hr
theorem fix4_short (t : List Nat) (a : Nat) (h : t.length < a + 4) (ha : a ≤ t.length) : fixS t a none 4 = (0, a, some (2, a)) := by
  unfold fixS
  rw [if_neg (by omega), if_pos (by omega)]
theorem fix4_ok (t : List Nat) (a : Nat) (h : a + 4 ≤ t.length) : fixS t a none 4 = (unfx ((t.drop a).take 4), a + 4, none) := by
  unfold fixS
  rw [if_neg (by omega), if_neg (by omega)]
  rfl
theorem RdTo.below_new {w w1 w2 : World} {g : Nat} {l : List Nat} {at_ : Nat} {x : Option (Int × Nat)} (h : RdTo w1 g l at_ x w2) (hb : Below w.heap.size w w1) (hg : w.heap.size ≤ g) : Below w.heap.size w w2 :=
  hb.grown h.2 hb.size (fun k hk => by injection hk with hk; omega)

set_option maxHeartbeats 1000000 in
theorem head_short4 (A : Option Addr) (n c : Nat) (l : List Nat) (w : World) (hm : Met w) (hr : Reads w w.heap.size 1 A n (bs l)) (hl : ∀ b ∈ l, b < 256) (hc : n ≤ c) (hn : n ≤ 140737488355328) (h4 : l.length < 4) :
    Calls Tryd.prog 33 #[.slice A n c] w (HeadErr w 2) := by
  obtain ⟨k, hrk, hk, hkn⟩ := take_min hr
  have ht : ∀ b ∈ l.take 8, b < 256 := fun b hb => hl b (List.mem_of_mem_take hb)
  have hf1 := fix4_short (l.take 8) 0 (by rw [List.length_take]; omega) (by omega)
  have HK := Lib.hid hk; clear hk
  have HT := Lib.hid ht; clear ht
  have HF1 := Lib.hid hf1; clear hf1
  clear hl h4
  rcases hkn with ⟨h, rfl⟩ | ⟨h, rfl⟩
  all_goals
    go_enter Tryd.func33, Tryd.ntmps33
    go_wp2_with fail
    refine (newReader_any A _ c (l.take 8) w hrk (by omega) HT.out).mono ?_
    rintro e w1 ⟨g, A', c', rfl, hge, hR, hb1⟩
    have hS : RdS w1 g (l.take 8) 0 none := ⟨_, _, _, _, hR, rfl⟩
    clear hR
    go_wp2_with fail
    have hfx := nfix_is 4 hS
    rw [HF1.out] at hfx
    refine hfx.mono ?_
    rintro e w2 ⟨rfl, hto2⟩
    clear hfx
    have hb2 := hto2.below_new hb1 hge
    have hS2 := hto2.1
    go_wp2_with fail
    refine (check_ok 0 w2 (by omega)).mono ?_
    rintro e w2' ⟨rfl, rfl⟩
    go_wp2_with fail
    have hfx : Calls Tryd.prog 39 #[.pointer (some ⟨g, 0, none⟩), .int .i64 4] w2 fun e w' => e = .returned (.int .u64 0) ∧ RdTo w2 g (l.take 8) 0 (some (2, 0)) w' := nfix_is 4 hS2
    refine hfx.mono ?_
    rintro e w3 ⟨rfl, hto3⟩
    clear hfx
    have hb3 := hto3.below_new hb2 hge
    have hS3 := hto3.1
    have hm3 := hm.next hb3
    go_wp2_with fail
    refine (err_some 2 0 hm3 hS3).mono ?_
    rintro e w4 ⟨rfl, hb4⟩
    have hb04 := hb3.trans (hb4.mono hb3.size)
    go_wp2_with fail
    go_ret3
    exact ⟨_, rfl, .inl rfl, hb04⟩

theorem take_take8 (l : List Nat) (h : 4 ≤ l.length) : ((l.take 8).drop 0).take 4 = l.take 4 := by
  rw [List.drop_zero, List.take_take]; congr 1
theorem drop_take8 (l : List Nat) : ((l.take 8).drop 4).take 4 = (l.drop 4).take 4 := by
  rw [List.drop_take, List.take_take]; congr 1
theorem fz_lt (l : List Nat) (h : ∀ b ∈ l, b < 256) : fz l < 4294967296 := by
  have h1 := unfx_lt (l.take 4) fun b hb => h b (List.mem_of_mem_take hb)
  have h2 : (l.take 4).length ≤ 4 := by rw [List.length_take]; omega
  have h3 := Nat.pow_le_pow_right (show 0 < 256 by omega) h2
  have e : (256 : Nat) ^ 4 = 4294967296 := by decide
  unfold fz
  omega
set_option maxHeartbeats 1000000 in
theorem head_limit (A : Option Addr) (n c : Nat) (l : List Nat) (w : World) (hm : Met w) (hr : Reads w w.heap.size 1 A n (bs l)) (hl : ∀ b ∈ l, b < 256) (hc : n ≤ c) (hn : n ≤ 140737488355328) (h4 : ¬ l.length < 4) (hz : 16777216 < fz l) :
    Calls Tryd.prog 33 #[.slice A n c] w (HeadErr w 12) := by
  obtain ⟨k, hrk, hk, hkn⟩ := take_min hr
  have ht : ∀ b ∈ l.take 8, b < 256 := fun b hb => hl b (List.mem_of_mem_take hb)
  have hf1 := fix4_ok (l.take 8) 0 (by rw [List.length_take]; omega)
  have hzl := fz_lt l hl
  rw [take_take8 l (by omega)] at hf1
  unfold fz at hz hzl
  obtain ⟨z, hzd⟩ : ∃ z, unfx (l.take 4) = z := ⟨_, rfl⟩
  rw [hzd] at hf1 hz hzl
  clear hzd
  have HK := Lib.hid hk; clear hk
  have HT := Lib.hid ht; clear ht
  have HF1 := Lib.hid hf1; clear hf1
  clear hl h4
  rcases hkn with ⟨h, rfl⟩ | ⟨h, rfl⟩
  all_goals
    go_enter Tryd.func33, Tryd.ntmps33
    go_wp2_with fail
    refine (newReader_any A _ c (l.take 8) w hrk (by omega) HT.out).mono ?_
    rintro e w1 ⟨g, A', c', rfl, hge, hR, hb1⟩
    have hS : RdS w1 g (l.take 8) 0 none := ⟨_, _, _, _, hR, rfl⟩
    clear hR
    go_wp2_with fail
    have hfx := nfix_is 4 hS
    rw [HF1.out] at hfx
    refine hfx.mono ?_
    rintro e w2 ⟨rfl, hto2⟩
    clear hfx
    have hb2 := hto2.below_new hb1 hge
    go_wp2_with fail
    refine (check_big z w2 hz (by omega)).mono ?_
    rintro e w2' ⟨rfl, rfl⟩
    go_wp2_with fail
    go_ret3
    refine ⟨_, rfl, .inr ⟨_, rfl, ?_⟩, hb2.alloc hb2.size _⟩
    rw [(Blk.new w2 _ _).cell]
    rfl
set_option maxHeartbeats 1000000 in
theorem head_short8 (A : Option Addr) (n c : Nat) (l : List Nat) (w : World) (hm : Met w) (hr : Reads w w.heap.size 1 A n (bs l)) (hl : ∀ b ∈ l, b < 256) (hc : n ≤ c) (hn : n ≤ 140737488355328) (h4 : ¬ l.length < 4) (h8 : l.length < 8) (hz : ¬ 16777216 < fz l) :
    Calls Tryd.prog 33 #[.slice A n c] w (HeadErr w 2) := by
  obtain ⟨k, hrk, hk, hkn⟩ := take_min hr
  have ht : ∀ b ∈ l.take 8, b < 256 := fun b hb => hl b (List.mem_of_mem_take hb)
  have hf1 := fix4_ok (l.take 8) 0 (by rw [List.length_take]; omega)
  have hf2 := fix4_short (l.take 8) 4 (by rw [List.length_take]; omega) (by rw [List.length_take]; omega)
  rw [take_take8 l (by omega)] at hf1
  unfold fz at hz
  obtain ⟨z, hzd⟩ : ∃ z, unfx (l.take 4) = z := ⟨_, rfl⟩
  rw [hzd] at hf1 hz
  clear hzd
  have HK := Lib.hid hk; clear hk
  have HT := Lib.hid ht; clear ht
  have HF1 := Lib.hid hf1; clear hf1
  have HF2 := Lib.hid hf2; clear hf2
  clear hl h4 h8
  rcases hkn with ⟨h, rfl⟩ | ⟨h, rfl⟩
  all_goals
    go_enter Tryd.func33, Tryd.ntmps33
    go_wp2_with fail
    refine (newReader_any A _ c (l.take 8) w hrk (by omega) HT.out).mono ?_
    rintro e w1 ⟨g, A', c', rfl, hge, hR, hb1⟩
    have hS : RdS w1 g (l.take 8) 0 none := ⟨_, _, _, _, hR, rfl⟩
    clear hR
    go_wp2_with fail
    have hfx := nfix_is 4 hS
    rw [HF1.out] at hfx
    refine hfx.mono ?_
    rintro e w2 ⟨rfl, hto2⟩
    clear hfx
    have hb2 := hto2.below_new hb1 hge
    have hS2 := hto2.1
    go_wp2_with fail
    refine (check_ok z w2 (by omega)).mono ?_
    rintro e w2' ⟨rfl, rfl⟩
    go_wp2_with fail
    have hfx := nfix_is 4 hS2
    simp only [Nat.zero_add] at hfx
    rw [HF2.out] at hfx
    refine hfx.mono ?_
    rintro e w3 ⟨rfl, hto3⟩
    clear hfx
    have hb3 := hto3.below_new hb2 hge
    have hS3 := hto3.1
    have hm3 := hm.next hb3
    go_wp2_with fail
    refine (err_some 2 4 hm3 hS3).mono ?_
    rintro e w4 ⟨rfl, hb4⟩
    have hb04 := hb3.trans (hb4.mono hb3.size)
    go_wp2_with fail
    go_ret3
    exact ⟨_, rfl, .inl rfl, hb04⟩
set_option maxHeartbeats 1000000 in
theorem head_ok (A : Option Addr) (n c : Nat) (l : List Nat) (w : World) (hm : Met w) (hr : Reads w w.heap.size 1 A n (bs l)) (hl : ∀ b ∈ l, b < 256) (hc : n ≤ c) (hn : n ≤ 140737488355328) (h8 : ¬ l.length < 8) (hz : ¬ 16777216 < fz l) :
    Calls Tryd.prog 33 #[.slice A n c] w fun e w' => Heads (fz l) (unfx ((l.drop 4).take 4)) .nilIface e ∧ Below w.heap.size w w' := by
  obtain ⟨k, hrk, hk, hkn⟩ := take_min hr
  have ht : ∀ b ∈ l.take 8, b < 256 := fun b hb => hl b (List.mem_of_mem_take hb)
  have hf1 := fix4_ok (l.take 8) 0 (by rw [List.length_take]; omega)
  have hf2 := fix4_ok (l.take 8) 4 (by rw [List.length_take]; omega)
  have hul := unfx_lt ((l.drop 4).take 4) fun b hb => hl b (List.mem_of_mem_drop (List.mem_of_mem_take hb))
  rw [show ((l.drop 4).take 4).length = 4 by rw [List.length_take, List.length_drop]; omega, show (256 : Nat) ^ 4 = 4294967296 by decide] at hul
  rw [take_take8 l (by omega)] at hf1
  rw [drop_take8 l] at hf2
  unfold fz at hz ⊢
  obtain ⟨z, hzd⟩ : ∃ z, unfx (l.take 4) = z := ⟨_, rfl⟩
  obtain ⟨u, hud⟩ : ∃ u, unfx ((l.drop 4).take 4) = u := ⟨_, rfl⟩
  rw [hzd] at hf1 hz ⊢
  rw [hud] at hf2 hul ⊢
  clear hzd hud
  have HK := Lib.hid hk; clear hk
  have HT := Lib.hid ht; clear ht
  have HF1 := Lib.hid hf1; clear hf1
  have HF2 := Lib.hid hf2; clear hf2
  clear hl h8
  rcases hkn with ⟨h, rfl⟩ | ⟨h, rfl⟩
  all_goals
    go_enter Tryd.func33, Tryd.ntmps33
    go_wp2_with fail
    refine (newReader_any A _ c (l.take 8) w hrk (by omega) HT.out).mono ?_
    rintro e w1 ⟨g, A', c', rfl, hge, hR, hb1⟩
    have hS : RdS w1 g (l.take 8) 0 none := ⟨_, _, _, _, hR, rfl⟩
    clear hR
    go_wp2_with fail
    have hfx := nfix_is 4 hS
    rw [HF1.out] at hfx
    refine hfx.mono ?_
    rintro e w2 ⟨rfl, hto2⟩
    clear hfx
    have hb2 := hto2.below_new hb1 hge
    have hS2 := hto2.1
    go_wp2_with fail
    refine (check_ok z w2 (by omega)).mono ?_
    rintro e w2' ⟨rfl, rfl⟩
    go_wp2_with fail
    have hfx := nfix_is 4 hS2
    simp only [Nat.zero_add] at hfx
    rw [HF2.out] at hfx
    refine hfx.mono ?_
    rintro e w3 ⟨rfl, hto3⟩
    clear hfx
    have hb3 := hto3.below_new hb2 hge
    have hS3 := hto3.1
    go_wp2_with fail
    refine (err_none hS3).mono ?_
    rintro e w4 ⟨rfl, hb4⟩
    have hb04 := hb3.trans (hb4.mono hb3.size)
    go_wp2_with fail
    go_ret3
    exact ⟨rfl, hb04⟩
/-- The error that head tells; 0 if it tells none. -/
def headS (l : List Nat) : Int := if l.length < 4 then 2 else if 16777216 < fz l then 12 else if l.length < 8 then 2 else 0
theorem head_any (A : Option Addr) (n c : Nat) (l : List Nat) (w : World) (hm : Met w) (hr : Reads w w.heap.size 1 A n (bs l)) (hl : ∀ b ∈ l, b < 256) (hc : n ≤ c) (hn : n ≤ 140737488355328) (h : headS l ≠ 0) :
    Calls Tryd.prog 33 #[.slice A n c] w (HeadErr w (headS l)) := by
  unfold headS at h ⊢
  by_cases h4 : l.length < 4
  · rw [if_pos h4]; exact head_short4 A n c l w hm hr hl hc hn h4
  · by_cases hz : 16777216 < fz l
    · rw [if_neg h4, if_pos hz]; exact head_limit A n c l w hm hr hl hc hn h4 hz
    · by_cases h8 : l.length < 8
      · rw [if_neg h4, if_neg hz, if_pos h8]; exact head_short8 A n c l w hm hr hl hc hn h4 h8 hz
      · rw [if_neg h4, if_neg hz, if_neg h8] at h; exact absurd rfl h
end Go.Proofs.YtpibekpddbhojaaDoor
