/- Contract of package frame's partOf: the part within the bytes, or an error that wraps what is wrong. -/
import Derived.Test.YtpibekpddbhojaaDoorFrHead
namespace Go.Proofs.YtpibekpddbhojaaDoor
open Go.RowKit
set_option linter.unusedVariables false
set_option maxRecDepth 100000

def PartErr (w : World) (k : Int) (e : Ending) (w' : World) : Prop := ∃ v, e = .returned (.tuple #[.slice none 0 0, v]) ∧ Wraps w' v k ∧ Below w.heap.size w w'
theorem Wrap1.wraps {w : World} {v : Value} {k : Int} (h : Wrap1 w v k) (s : Value) :
    Wraps (w.alloc (.cells #[s, v] 69)) (.iface 67 (.pointer (some ⟨w.heap.size, 0, none⟩))) k := by
  rcases h with rfl | ⟨g, rfl, hg⟩
  · exact .inr (.inl ⟨_, rfl, by rw [(Blk.new w _ _).cell]; rfl⟩)
  · refine .inr (.inr ⟨_, g, rfl, by rw [(Blk.new w _ _).cell]; rfl, ?_⟩)
    rw [World.cell?_alloc_lt _ _ _ (World.block_lt_of_cell? _ _ hg)]
    exact hg
theorem part_head (A : Option Addr) (n c : Nat) (l : List Nat) (w : World) (hm : Met w) (hr : Reads w w.heap.size 1 A n (bs l)) (hl : ∀ b ∈ l, b < 256) (hc : n ≤ c) (hn : n ≤ 140737488355328) (h : headS l ≠ 0) :
    Calls Tryd.prog 24 #[.slice A n c] w (PartErr w (headS l)) := by
  have hh := head_any A n c l w hm hr hl hc hn h
  generalize headS l = k at hh ⊢
  have HL := Lib.hid hl; clear hl
  clear h
  go_enter Tryd.func24, Tryd.ntmps24
  go_wp2_with fail
  refine hh.mono ?_
  clear hh
  rintro e w1 ⟨v, rfl, hv, hb1⟩
  have hv2 := hv
  rcases hv with rfl | ⟨g, rfl, hg⟩
  all_goals
    clear hm
    go_wp2_with fail
    go_ret2
    exact ⟨_, rfl, hv2.wraps _, hb1.alloc hb1.size _⟩
theorem fz_len {w : World} {B : Nat} {A : Option Addr} {n : Nat} {l : List Nat} (hr : Reads w B 1 A n (bs l)) : l.length = n := by have := hr.1; rw [bs_length] at this; omega
set_option maxHeartbeats 1000000 in
theorem part_short (A : Option Addr) (n c : Nat) (l : List Nat) (w : World) (hm : Met w) (hr : Reads w w.heap.size 1 A n (bs l)) (hl : ∀ b ∈ l, b < 256) (hc : n ≤ c) (hn : n ≤ 140737488355328) (h8 : ¬ l.length < 8) (hz : ¬ 16777216 < fz l) (hs : l.length < 8 + fz l) :
    Calls Tryd.prog 24 #[.slice A n c] w (PartErr w 2) := by
  have hh := head_ok A n c l w hm hr hl hc hn h8 hz
  have e1 := fz_len hr
  generalize unfx ((l.drop 4).take 4) = u at hh
  generalize fz l = z at hh hz hs
  have h8n : 8 ≤ n := by omega
  have hsz : (n : Int) - 8 < (z : Int) := by omega
  have HH := Lib.hid hh; clear hh
  clear hl e1 hs h8 hm
  have hca : ¬ c = 8 ∨ c = 8 := by omega
  rcases hca with hca | rfl
  all_goals
    go_enter Tryd.func24, Tryd.ntmps24
    go_wp2_with fail
    refine HH.out.mono ?_
    rintro e w1 ⟨rfl, hb1⟩
    go_wp2_with fail
    go_ret2
    refine ⟨_, rfl, Wrap1.wraps (.inl rfl) _, hb1.alloc hb1.size _⟩
/-- The part and the length's bytes, within the bytes. -/
theorem part_reads {w : World} {B : Nat} {A : Option Addr} {n c : Nat} {l : List Nat} (hr : Reads w B 1 A n (bs l)) (hc : n ≤ c) (z : Nat) (h8 : 8 + z ≤ n) :
    Reads w B 1 (if c = 8 then A else A.map (·.add 8)) z (bs ((l.drop 8).take z)) ∧ Reads w B 1 A 4 (bs (l.take 4)) := by
  constructor
  · have := (hr.cut (k := 8) (by omega) hc).fore (k := z) (by omega)
    simpa [bs_drop, bs_take] using this
  · have := hr.fore (k := 4) (by omega)
    simpa [bs_take] using this
set_option maxHeartbeats 1000000 in
theorem part_sum (A : Option Addr) (n c : Nat) (l : List Nat) (w : World) (hm : Met w) (hr : Reads w w.heap.size 1 A n (bs l)) (hl : ∀ b ∈ l, b < 256) (hc : n ≤ c) (hn : n ≤ 140737488355328) (hz : ¬ 16777216 < fz l) (hs : ¬ l.length < 8 + fz l) (hx : sumN (l.take 4 ++ (l.drop 8).take (fz l)) ≠ unfx ((l.drop 4).take 4)) :
    Calls Tryd.prog 24 #[.slice A n c] w (PartErr w 6) := by
  have hh := head_ok A n c l w hm hr hl hc hn (by omega) hz
  have e1 := fz_len hr
  obtain ⟨hr1, hr2⟩ := part_reads hr hc (fz l) (by omega)
  have ht4 : ∀ b ∈ l.take 4, b < 256 := fun b hb => hl b (List.mem_of_mem_take hb)
  have htp : ∀ b ∈ (l.drop 8).take (fz l), b < 256 := fun b hb => hl b (List.mem_of_mem_drop (List.mem_of_mem_take hb))
  generalize (l.drop 8).take (fz l) = p at hr1 htp hx
  generalize unfx ((l.drop 4).take 4) = u at hh hx
  generalize fz l = z at hh hz hs hr1
  generalize l.take 4 = t at ht4 hr2 hx
  have h8n : 8 + z ≤ n := by omega
  have hsz : ¬ (n : Int) - 8 < (z : Int) := by omega
  have hx1 : ((sumN (t ++ p) : Nat) : Int) ≠ (u : Int) := by omega
  obtain ⟨q, hq⟩ : ∃ q, sumN (t ++ p) = q := ⟨_, rfl⟩
  rw [hq] at hx1
  have HQ := Lib.hid hq; clear hq
  have hx2 : ((q : Int) != (u : Int)) = true := by simpa using hx1
  have hx3 : ((q : Int) == (u : Int)) = false := by simpa using hx1
  have HH := Lib.hid hh; clear hh
  have H4 := Lib.hid ht4; clear ht4
  have HP := Lib.hid htp; clear htp
  clear hl e1 hs hm hx hx1
  obtain ⟨b, off, rfl, _, _⟩ := hr.plain (by omega)
  have hca : ¬ c = 8 ∨ (c = 8 ∧ n = 8 ∧ z = 0) := by omega
  rcases hca with hca | ⟨rfl, rfl, rfl⟩
  case' inl => rw [if_neg hca] at hr1; simp only [Option.map, plain_add] at hr1
  case' inr => rw [if_pos rfl] at hr1
  all_goals
    go_enter Tryd.func24, Tryd.ntmps24
    go_wp2_with fail
    refine HH.out.mono ?_
    rintro e w1 ⟨rfl, hb1⟩
    go_wp2_with fail
    refine (sumOf_any _ _ 4 _ _ _ t p w1 ((hr2.below hb1).more hb1.size) ((hr1.below hb1).more hb1.size) H4.out HP.out (by omega) (by omega)).mono ?_
    rintro e w2 ⟨rfl, hb2⟩
    rw [HQ.out]
    go_wp2_with fail
    go_ret2
    refine ⟨_, rfl, Wrap1.wraps (.inl rfl) _, (hb1.trans (hb2.mono hb1.size)).alloc (Nat.le_trans hb1.size hb2.size) _⟩
def PartOk (w : World) (p : List Nat) (e : Ending) (w' : World) : Prop := ∃ A c, e = .returned (.tuple #[.slice A p.length c, .nilIface]) ∧ Reads w' w.heap.size 1 A p.length (bs p) ∧ Below w.heap.size w w'
set_option maxHeartbeats 1000000 in
theorem part_ok (A : Option Addr) (n c : Nat) (l : List Nat) (w : World) (hm : Met w) (hr : Reads w w.heap.size 1 A n (bs l)) (hl : ∀ b ∈ l, b < 256) (hc : n ≤ c) (hn : n ≤ 140737488355328) (hz : ¬ 16777216 < fz l) (hs : ¬ l.length < 8 + fz l) (hx : sumN (l.take 4 ++ (l.drop 8).take (fz l)) = unfx ((l.drop 4).take 4)) :
    Calls Tryd.prog 24 #[.slice A n c] w (PartOk w ((l.drop 8).take (fz l))) := by
  have hh := head_ok A n c l w hm hr hl hc hn (by omega) hz
  have e1 := fz_len hr
  obtain ⟨hr1, hr2⟩ := part_reads hr hc (fz l) (by omega)
  have ht4 : ∀ b ∈ l.take 4, b < 256 := fun b hb => hl b (List.mem_of_mem_take hb)
  have htp : ∀ b ∈ (l.drop 8).take (fz l), b < 256 := fun b hb => hl b (List.mem_of_mem_drop (List.mem_of_mem_take hb))
  have hpl : ((l.drop 8).take (fz l)).length = fz l := by rw [List.length_take, List.length_drop]; omega
  generalize (l.drop 8).take (fz l) = p at hr1 htp hx hpl ⊢
  generalize unfx ((l.drop 4).take 4) = u at hh hx
  generalize fz l = z at hh hz hs hr1 hpl
  generalize l.take 4 = t at ht4 hr2 hx
  have h8n : 8 + z ≤ n := by omega
  have hsz : ¬ (n : Int) - 8 < (z : Int) := by omega
  have HQ := Lib.hid hx; clear hx
  have HL := Lib.hid hpl; clear hpl
  have HH := Lib.hid hh; clear hh
  have H4 := Lib.hid ht4; clear ht4
  have HP := Lib.hid htp; clear htp
  clear hl e1 hs hm
  obtain ⟨b, off, rfl, _, _⟩ := hr.plain (by omega)
  have hca : ¬ c = 8 ∨ (c = 8 ∧ n = 8 ∧ z = 0) := by omega
  rcases hca with hca | ⟨rfl, rfl, rfl⟩
  case' inl => rw [if_neg hca] at hr1; simp only [Option.map, plain_add] at hr1
  case' inr => rw [if_pos rfl] at hr1
  all_goals
    go_enter Tryd.func24, Tryd.ntmps24
    go_wp2_with fail
    refine HH.out.mono ?_
    rintro e w1 ⟨rfl, hb1⟩
    go_wp2_with fail
    refine (sumOf_any _ _ 4 _ _ _ t p w1 ((hr2.below hb1).more hb1.size) ((hr1.below hb1).more hb1.size) H4.out HP.out (by omega) (by omega)).mono ?_
    rintro e w2 ⟨rfl, hb2⟩
    rw [HQ.out]
    go_wp2_with fail
    go_ret2
    unfold PartOk
    rw [HL.out]
    exact ⟨_, _, rfl, hr1.below (hb1.trans (hb2.mono hb1.size)), hb1.trans (hb2.mono hb1.size)⟩
end Go.Proofs.YtpibekpddbhojaaDoor
