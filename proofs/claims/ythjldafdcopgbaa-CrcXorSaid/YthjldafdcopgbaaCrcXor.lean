/- The walk of the statement CrcXor: the sum of an exclusive or of three texts. -/
import Derived.Test.YthjldafdcopgbaaCrcSums
import Derived.StillTailTactics
namespace Go.Proofs.Ythjldafdcopgbaa
open Go.RowKit
set_option linter.unusedVariables false
set_option maxRecDepth 100000

theorem xor_long (A B D : Option Addr) (n m o c1 c2 c3 : Nat) (w : World) (h : 1000 < n ∨ m ≠ n ∨ o ≠ n) :
    Calls Try.prog 6 #[.slice A n c1, .slice B m c2, .slice D o c3] w fun e w' => e = .returned (.bool true) ∧ Below w.heap.size w w' := by
  by_cases h1 : 1000 < n
  · clear h
    go_enter Try.func6, Try.ntmps6
    go_wp2_with fail
    refine (awake_any w).mono ?_
    rintro e w1 ⟨rfl, hb⟩
    go_wp2_with fail
    go_ret
    exact ⟨rfl, hb⟩
  · by_cases h2 : m = n
    · subst h2
      have h3 : o ≠ m := by omega
      have b3 : ((o : Int) == (m : Int)) = false := by simp; omega
      have b4 : ((o : Int) != (m : Int)) = true := by simp; omega
      clear h
      go_enter Try.func6, Try.ntmps6
      go_wp2_with fail
      refine (awake_any w).mono ?_
      rintro e w1 ⟨rfl, hb⟩
      go_wp2_with fail
      go_ret
      exact ⟨rfl, hb⟩
    · have b3 : ((m : Int) == (n : Int)) = false := by simp; omega
      have b4 : ((m : Int) != (n : Int)) = true := by simp; omega
      clear h
      go_enter Try.func6, Try.ntmps6
      go_wp2_with fail
      refine (awake_any w).mono ?_
      rintro e w1 ⟨rfl, hb⟩
      go_wp2_with fail
      go_ret
      exact ⟨rfl, hb⟩

theorem x3_at (l : List Nat) : ∀ (m o : List Nat) (k a b d : Nat), l[k]? = some a → m[k]? = some b → o[k]? = some d → (x3 l m o)[k]? = some (a ^^^ b ^^^ d) := by
  induction l with
  | nil => intro m o k a b d h; simp at h
  | cons x l ih =>
    intro m o k a b d h1 h2 h3
    cases m with
    | nil => simp at h2
    | cons y m =>
      cases o with
      | nil => simp at h3
      | cons z o =>
        cases k with
        | zero => simp at h1 h2 h3; subst h1 h2 h3; rfl
        | succ k => exact ih m o k a b d (by simpa using h1) (by simpa using h2) (by simpa using h3)
theorem x3_byte (l : List Nat) : ∀ m o : List Nat, (∀ b ∈ l, b < 256) → (∀ b ∈ m, b < 256) → (∀ b ∈ o, b < 256) → ∀ b ∈ x3 l m o, b < 256 := by
  induction l with
  | nil => intro m o _ _ _ b hb; simp [x3] at hb
  | cons x l ih =>
    intro m o h1 h2 h3 b hb
    cases m with
    | nil => simp [x3] at hb
    | cons y m =>
      cases o with
      | nil => simp [x3] at hb
      | cons z o =>
        rcases List.mem_cons.1 hb with h | h
        · subst h
          exact Nat.xor_lt_two_pow (n := 8) (Nat.xor_lt_two_pow (n := 8) (h1 x (by simp)) (h2 y (by simp))) (h3 z (by simp))
        · exact ih m o (fun b hb => h1 b (by simp [hb])) (fun b hb => h2 b (by simp [hb])) (fun b hb => h3 b (by simp [hb])) b h

/-- A row of bytes of which 'k' are filled. -/
def fillV (x : List Nat) (k : Nat) : Array Value := (bs (x.take k ++ List.replicate (x.length - k) 0)).toArray
theorem fillV_zero (x : List Nat) (n : Nat) (h : x.length = n) : fillV x 0 = madeCells #[.int .u8 0] n := by
  apply Array.ext'
  rw [toList_madeCells_one]
  simp [fillV, bs, h]
theorem fillV_all (x : List Nat) (n : Nat) (h : x.length = n) : fillV x n = (bs x).toArray := by
  unfold fillV
  rw [List.take_of_length_le (by omega), h, Nat.sub_self]
  simp
theorem fillV_old (x : List Nat) (k : Nat) (h : k < x.length) : (fillV x k)[k]? = some (.int .u8 0) := by
  unfold fillV bs
  rw [List.getElem?_toArray, List.getElem?_map, List.getElem?_append_right (by rw [List.length_take]; omega)]
  rw [List.getElem?_replicate, if_pos (by rw [List.length_take]; omega)]
  rfl
theorem fillV_next (x : List Nat) (k v : Nat) (h : x[k]? = some v) : (fillV x k).setIfInBounds k (.int .u8 (v : Int)) = fillV x (k + 1) := by
  have hk : k < x.length := (List.getElem?_eq_some_iff.1 h).1
  unfold fillV bs
  rw [List.setIfInBounds_toArray]
  congr 1
  apply List.ext_getElem?
  intro i
  rw [List.getElem?_set]
  by_cases hi : k = i
  · subst hi
    rw [if_pos rfl, if_pos (by simp; omega), List.getElem?_map, List.getElem?_append_left (by simp; omega), List.getElem?_take, if_pos (by omega), h]
    rfl
  · rw [if_neg hi, List.getElem?_map, List.getElem?_map]
    congr 1
    by_cases h2 : i < k
    · rw [List.getElem?_append_left (by simp; omega), List.getElem?_append_left (by simp; omega), List.getElem?_take, List.getElem?_take, if_pos h2, if_pos (by omega)]
    · rw [List.getElem?_append_right (by simp; omega), List.getElem?_append_right (by simp; omega), List.getElem?_replicate, List.getElem?_replicate]
      simp only [List.length_take]
      by_cases h3 : i < x.length
      · rw [if_pos (by omega), if_pos (by omega)]
      · rw [if_neg (by omega), if_neg (by omega)]

theorem run_make_full (n : Nat) (hn : n ≤ 140737488355328) (w : World) :
    (Instr.makeSlice 23 (.int .i64 (n : Int)) (.int .i64 (n : Int))).run Try.prog w = .ok (.slice (some ⟨w.heap.size, 0, none⟩) n n) (w.alloc (.cells (madeCells #[.int .u8 0] n) 5)) := by
  obtain ⟨i, hi, hz0, hz1, hz2⟩ := info_parts info_u8
  have hr := run_make (P := Try.prog) w 23 5 i _ Try.underlying23 hi hz0 .i64 .i64 (n : Int) (n : Int) (by omega) (by omega) (by rw [hz2]; omega) (by omega)
  rw [hz1] at hr
  simpa [Value.cells] using hr

set_option maxHeartbeats 1000000 in
theorem xor_main (A B D : Option Addr) (n c1 c2 c3 : Nat) (l m o : List Nat) (w : World) (hr1 : Reads w w.heap.size 1 A n (bs l)) (hr2 : Reads w w.heap.size 1 B n (bs m)) (hr3 : Reads w w.heap.size 1 D n (bs o))
    (hl : ∀ b ∈ l, b < 256) (hm : ∀ b ∈ m, b < 256) (ho : ∀ b ∈ o, b < 256) (h : n ≤ 1000) :
    Calls Try.prog 6 #[.slice A n c1, .slice B n c2, .slice D n c3] w fun e w' => e = .returned (.bool true) ∧ Below w.heap.size w w' := by
  have e1 : l.length = n := by have := hr1.1; rw [bs_length] at this; omega
  have e2 : m.length = n := by have := hr2.1; rw [bs_length] at this; omega
  have e3 : o.length = n := by have := hr3.1; rw [bs_length] at this; omega
  have ex : (x3 l m o).length = n := by rw [(x3_le l m o (by omega) (by omega)).2, e1]
  have hxb := x3_byte l m o hl hm ho
  have hsum := sum_xor3 l m o (by omega) (by omega) hl hm ho hxb
  have hx3 := x3_at l m o
  generalize x3 l m o = x at ex hxb hsum hx3
  have HX := Lib.hid hx3; have HL := Lib.hid (And.intro hl (And.intro hm ho)); have HXB := Lib.hid hxb; have EX := Lib.hid ex
  have hmk := run_make_full n (by omega) w
  rw [← fillV_zero x n ex] at hmk
  obtain ⟨ma, hma⟩ : ∃ v : Nat, sumN l = v := ⟨_, rfl⟩
  obtain ⟨mb, hmb⟩ : ∃ v : Nat, sumN m = v := ⟨_, rfl⟩
  obtain ⟨mo, hmo⟩ : ∃ v : Nat, sumN o = v := ⟨_, rfl⟩
  obtain ⟨mx, hmx⟩ : ∃ v : Nat, sumN x = v := ⟨_, rfl⟩
  have ha1 : ma < 4294967296 := hma ▸ sumN_lt _
  have hb1 : mb < 4294967296 := hmb ▸ sumN_lt _
  have ho1 : mo < 4294967296 := hmo ▸ sumN_lt _
  rw [hma, hmb, hmo, hmx] at hsum
  have hu1 := u32_xor_nat ma mb ha1 hb1
  have hu2 := u32_xor_nat (ma ^^^ mb) mo (Nat.xor_lt_two_pow (n := 32) ha1 hb1) ho1
  rw [← hsum] at hu2
  have HU := Lib.hid (And.intro hu1 hu2)
  have HM := Lib.hid (And.intro hma (And.intro hmb (And.intro hmo hmx)))
  clear hma hmb hmo hmx ha1 hb1 ho1 hsum hu1 hu2 hl hm ho hx3 hxb ex e1 e2 e3
  go_enter Try.func6, Try.ntmps6
  go_wp2_with fail
  clear hmk
  obtain ⟨w1, hw1⟩ : ∃ w1 : World, w1 = w.alloc (.cells (fillV x 0) 5) := ⟨_, rfl⟩
  have hB0 : Blk w1 w.heap.size 5 (fillV x 0) := hw1 ▸ Blk.new w _ _
  have hb0 : Below w.heap.size w w1 := hw1 ▸ (Below.refl _ _).alloc (Nat.le_refl _) _
  rw [← hw1]
  clear hw1
  go_loopg [8] n (fun g s8 wx => ∃ k : Nat, k + g = n ∧ s8 = .int .i64 (k : Int) ∧ Blk wx w.heap.size 5 (fillV x k) ∧ Below w.heap.size w wx)
  case atStart => exact ⟨0, by omega, rfl, hB0, hb0⟩
  case round =>
    obtain ⟨k, hkg, rfl, hB, hb⟩ := hrel
    cases gk with
    | zero =>
      obtain rfl : k = n := by omega
      clear hkg
      rw [fillV_all x k EX.out] at hB
      have hrx : Reads wr wr.heap.size 1 (some ⟨w.heap.size, 0, none⟩) k (bs x) := reads_blk hB _ _ _ hB.lt (by rw [bs_length, EX.out]) (by rw [List.toList_toArray]; exact List.take_of_length_le (by rw [bs_length, EX.out]; omega))
      go_wp2_with fail
      have hcall := sum_any (some ⟨w.heap.size, 0, none⟩) k k x wr hrx HXB.out (by omega)
      rw [HM.out.2.2.2] at hcall
      refine hcall.mono ?_
      clear hcall
      rintro e w2 ⟨rfl, hb2⟩
      have hb2 : Below w.heap.size w w2 := hb.trans (hb2.mono hb.size)
      go_wp2_with fail
      have hcall := sum_any A k c1 l w2 ((hr1.below hb2).more hb2.size) HL.out.1 (by omega)
      rw [HM.out.1] at hcall
      refine hcall.mono ?_
      clear hcall
      rintro e w3 ⟨rfl, hb3⟩
      have hb3 : Below w.heap.size w w3 := hb2.trans (hb3.mono hb2.size)
      go_wp2_with fail
      have hcall := sum_any B k c2 m w3 ((hr2.below hb3).more hb3.size) HL.out.2.1 (by omega)
      rw [HM.out.2.1] at hcall
      refine hcall.mono ?_
      clear hcall
      rintro e w4 ⟨rfl, hb4⟩
      have hb4 : Below w.heap.size w w4 := hb3.trans (hb4.mono hb3.size)
      have hu1 := HU.out.1
      have hu2 := HU.out.2
      generalize ma ^^^ mb = mab at hu1 hu2
      go_wp2_with fail
      have hcall := sum_any D k c3 o w4 ((hr3.below hb4).more hb4.size) HL.out.2.2 (by omega)
      rw [HM.out.2.2.1] at hcall
      refine hcall.mono ?_
      clear hcall
      rintro e w5 ⟨rfl, hb5⟩
      have hb5 : Below w.heap.size w w5 := hb4.trans (hb5.mono hb4.size)
      go_wp2_with fail
      refine (awake_any w5).mono ?_
      rintro e w6 ⟨rfl, hb6⟩
      go_wp2_with fail
      go_ret
      exact ⟨rfl, hb5.trans (hb6.mono hb5.size)⟩
    | succ g =>
      have hk : k < n := by omega
      have hk2 : (k : Int) < (n : Int) := by omega
      obtain ⟨ad1, u1, rfl, _, hu1, hc1⟩ := (hr1.below hb).at_ hk
      obtain ⟨ad2, u2, rfl, _, hu2, hc2⟩ := (hr2.below hb).at_ hk
      obtain ⟨ad3, u3, rfl, _, hu3, hc3⟩ := (hr3.below hb).at_ hk
      obtain ⟨a, ha, rfl⟩ := bs_at hu1
      obtain ⟨b, hb', rfl⟩ := bs_at hu2
      obtain ⟨d, hd, rfl⟩ := bs_at hu3
      have hxk := HX.out k a b d ha hb' hd
      have ha256 := HL.out.1 a (List.mem_of_getElem? ha)
      have hb256 := HL.out.2.1 b (List.mem_of_getElem? hb')
      have hd256 := HL.out.2.2 d (List.mem_of_getElem? hd)
      have hx1 := u8_xor_nat a b ha256 hb256
      have hx2 := u8_xor_nat (a ^^^ b) d (Nat.xor_lt_two_pow (n := 8) ha256 hb256) hd256
      have hcell : wr.cell? ⟨w.heap.size, k, none⟩ = some (.int .u8 0) := by rw [hB.cell]; exact fillV_old x k (by rw [EX.out]; exact hk)
      have hfz := hB.frozen k
      have hB2 := hB.set_ k (.int .u8 (((a ^^^ b) ^^^ d : Nat) : Int))
      have hb2 := hb.setCell (p := ⟨w.heap.size, k, none⟩) (Nat.le_refl _) (.int .u8 (((a ^^^ b) ^^^ d : Nat) : Int))
      rw [fillV_next x k _ hxk] at hB2
      generalize a ^^^ b = ab at hx1 hx2 hxk hB2 hb2
      generalize ab ^^^ d = abd at hx2 hxk hB2 hb2
      have HB2 := Lib.hid (And.intro hB2 hb2)
      clear hB2 hb2 hxk ha hb' hd hu1 hu2 hu3 ha256 hb256 hd256
      go_wp2_with fail
      go_still_tail 17, (by kernel_rfl)
      go_wp2_with fail
      go_roundg g
      case measure => omega
      case rel => exact ⟨k + 1, by omega, by go_num, HB2.out.1, below_drew HB2.out.2⟩
end Go.Proofs.Ythjldafdcopgbaa
