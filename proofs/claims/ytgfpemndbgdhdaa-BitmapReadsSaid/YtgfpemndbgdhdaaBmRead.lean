/- Contract of package bitmap's Read. -/
import Derived.Test.YtgfpemndbgdhdaaBmCopy
namespace Go.Proofs.Ytgfpemndbgdhdaa
open Go.RowKit
set_option linter.unusedVariables false
set_option linter.unusedSimpArgs false
set_option maxRecDepth 100000

theorem lef_none {l : List Nat} {n : Nat} (h : n % 8 = 0) : lef l n = false := by unfold lef; rw [h]; rfl
theorem lef_some {l : List Nat} {n : Nat} (h : 0 < n % 8) : lef l n = decide (l.getD (n / 8) 0 / 2 ^ (n % 8) ≠ 0) := by unfold lef; simp [h]
theorem hasLeft_any (A : Option Addr) (m c n : Nat) (l : List Nat) (w : World) (hr : Reads w w.heap.size 1 A m (bs l)) (hl : ∀ x ∈ l, x < 256) (hm : m = siz n) (hn : n ≤ 65536) :
    Calls Try.prog 26 #[.slice A m c, .int .i64 (n : Int)] w fun e w' => e = .returned (.bool (lef l n)) ∧ w = w' := by
  obtain ⟨k8, hk8⟩ : ∃ k8 : Nat, k8 = n % 8 := ⟨_, rfl⟩
  have r8 : (n : Int) % 8 = (k8 : Int) := by omega
  by_cases h8 : 0 < k8
  · have hlen : l.length = m := by have := hr.1; rw [bs_length] at this; omega
    have hm1 : m = n / 8 + 1 := by unfold siz at hm; omega
    obtain ⟨b, off, rfl, hb, hc⟩ := hr.plain (by omega)
    have hx := getD_byte hl (n / 8)
    have hcell : w.cell? ⟨b, off + n / 8, none⟩ = some (.int .u8 ((l.getD (n / 8) 0 : Nat) : Int)) := by
      refine hc _ _ ?_
      unfold bs
      rw [List.getElem?_map, List.getD_eq_getElem?_getD, List.getElem?_eq_getElem (by omega)]
      rfl
    have hlf := lef_some (l := l) (n := n) (by omega)
    obtain ⟨x, hx0⟩ : ∃ x, x = l.getD (n / 8) 0 := ⟨_, rfl⟩
    obtain ⟨kq, hkq⟩ : ∃ kq : Nat, kq = n / 8 := ⟨_, rfl⟩
    rw [← hx0, ← hkq] at hcell
    rw [← hx0] at hx hlf
    rw [← hk8] at hlf
    have rm : (m : Int) - 1 = (kq : Int) := by omega
    have hkm : kq < m := by omega
    have hkq9 : kq ≤ 8192 := by omega
    have hd8 : decide (0 < (k8 : Int)) = true := by simpa using h8
    have hk89 : k8 < 8 := by omega
    have hsh : (x : Int) / 2 ^ k8 = ((x / 2 ^ k8 : Nat) : Int) := by push_cast; rfl
    obtain ⟨y, hy⟩ : ∃ y, y = x / 2 ^ k8 := ⟨_, rfl⟩
    rw [← hy] at hsh hlf
    have hfin : ((y : Int) != 0) = decide (y ≠ 0) := by
      rw [Bool.eq_iff_iff]; simp
    have HF := Lib.hid (hlf.trans hfin.symm)
    clear hk8 hm hlen hm1 hx0 hkq hlf hy hfin hc
    go_enter Try.func26, Try.ntmps26
    go_wp2_with fail
    go_ret
    exact ⟨ret_of (congrArg Value.bool HF.out.symm), rfl⟩
  · have hd8 : decide (0 < (k8 : Int)) = false := by simpa using h8
    have HF := Lib.hid (lef_none (l := l) (n := n) (by omega))
    clear hk8 hm
    go_enter Try.func26, Try.ntmps26
    go_wp2_with fail
    go_ret
    exact ⟨ret_of (congrArg Value.bool HF.out.symm), rfl⟩
/-- What Read answers. -/
def ReadOk (w : World) (n : Nat) (l : List Nat) (e : Ending) (w' : World) : Prop := ∃ g h, e = .returned (.tuple #[.pointer (some ⟨g, 0, none⟩), .int .i64 0]) ∧ SetIn w' w.heap.size g h n l ∧ Below w.heap.size w w'
def ReadNo (w : World) (r : Nat) (e : Ending) (w' : World) : Prop := e = .returned (.tuple #[.pointer none, .int .i64 (r : Int)]) ∧ Below w.heap.size w w'
theorem rdE_arg {b : List Nat} {n : Int} (h : n < 0 ∨ 65536 < n) : rdE b n = 1 := by unfold rdE; rw [if_pos h]
theorem rdE_short {b : List Nat} {n : Nat} (h : n ≤ 65536) (h2 : b.length < siz n) : rdE b (n : Int) = 2 := by
  unfold rdE; rw [if_neg (by omega), Int.toNat_natCast, if_pos h2]
theorem rdE_long {b : List Nat} {n : Nat} (h : n ≤ 65536) (h2 : siz n < b.length) : rdE b (n : Int) = 3 := by
  unfold rdE; rw [if_neg (by omega), Int.toNat_natCast, if_neg (by omega), if_pos h2]
theorem rdE_form {b : List Nat} {n : Nat} (h : n ≤ 65536) (h2 : b.length = siz n) (h3 : lef b n = true) : rdE b (n : Int) = 4 := by
  unfold rdE; rw [if_neg (by omega), Int.toNat_natCast, if_neg (by omega), if_neg (by omega), if_pos h3]
theorem rdE_good {b : List Nat} {n : Nat} (h : n ≤ 65536) (h2 : b.length = siz n) (h3 : lef b n = false) : rdE b (n : Int) = 0 := by
  unfold rdE; rw [if_neg (by omega), Int.toNat_natCast, if_neg (by omega), if_neg (by omega), if_neg (by rw [h3]; simp)]
theorem Read_no (A : Option Addr) (m c : Nat) (n : Int) (l : List Nat) (w : World) (hr : Reads w w.heap.size 1 A m (bs l)) (hl : ∀ x ∈ l, x < 256) (hm : m ≤ 140737488355300) (he : rdE l n ≠ 0) :
    Calls Try.prog 21 #[.slice A m c, .int .i64 n] w (ReadNo w (rdE l n)) := by
  have hlen : l.length = m := by have := hr.1; rw [bs_length] at this; omega
  by_cases h1 : n < 0 ∨ 65536 < n
  · have HE := Lib.hid (rdE_arg (b := l) h1)
    clear hlen he
    go_enter Try.func21, Try.ntmps21
    go_wp2_with fail
    refine (New_no n w h1).mono ?_
    rintro e w' ⟨rfl, rfl⟩
    go_wp2_with fail
    go_ret2
    exact ⟨by rw [HE.out]; rfl, Below.refl _ _⟩
  obtain ⟨k, rfl⟩ : ∃ k : Nat, n = (k : Int) := ⟨n.toNat, by omega⟩
  have hk : k ≤ 65536 := by omega
  have hsz : (List.replicate (siz k) 0).length = siz k := by simp
  by_cases h2 : l.length < siz k
  · have HE := Lib.hid (rdE_short hk h2)
    have hd : decide (m < siz k) = true := by simp; omega
    clear he hlen h2
    go_enter Try.func21, Try.ntmps21
    go_wp2_with fail
    refine (New_any k w hk).mono ?_
    rintro e w1 ⟨g, h, rfl, s, hb⟩
    obtain ⟨c0, c1⟩ := s.cells
    rw [hsz] at c1
    go_wp2_with fail
    go_ret2
    exact ⟨by rw [HE.out]; rfl, hb⟩
  by_cases h3 : siz k < l.length
  · have HE := Lib.hid (rdE_long hk h3)
    have hd : decide (m < siz k) = false := by simp; omega
    have hd2 : decide (siz k < m) = true := by simp; omega
    clear he hlen h2 h3
    go_enter Try.func21, Try.ntmps21
    go_wp2_with fail
    refine (New_any k w hk).mono ?_
    rintro e w1 ⟨g, h, rfl, s, hb⟩
    obtain ⟨c0, c1⟩ := s.cells
    rw [hsz] at c1
    go_wp2_with fail
    go_ret2
    exact ⟨by rw [HE.out]; rfl, hb⟩
  by_cases h4 : lef l k = true
  · have HE := Lib.hid (rdE_form hk (by omega) h4)
    have hd : decide (m < siz k) = false := by simp; omega
    have hd2 : decide (siz k < m) = false := by simp; omega
    have hms : Hid (m = siz k) := Lib.hid (by omega)
    have HL := Lib.hid h4
    clear he hlen h2 h3 h4
    go_enter Try.func21, Try.ntmps21
    go_wp2_with fail
    refine (New_any k w hk).mono ?_
    rintro e w1 ⟨g, h, rfl, s, hb⟩
    obtain ⟨c0, c1⟩ := s.cells
    rw [hsz] at c1
    go_wp2_with fail
    refine (hasLeft_any A m c k l w1 ((hr.below hb).more hb.size) hl hms.out hk).mono ?_
    rintro e w' ⟨rfl, rfl⟩
    rw [HL.out]
    go_wp2_with fail
    go_ret2
    exact ⟨by rw [HE.out]; rfl, hb⟩
  · exact absurd (rdE_good hk (by omega) (by simpa using h4)) he
theorem Read_ok (A : Option Addr) (m c n : Nat) (l : List Nat) (w : World) (hr : Reads w w.heap.size 1 A m (bs l)) (hn : n ≤ 65536) (hk : OkS n l) :
    Calls Try.prog 21 #[.slice A m c, .int .i64 (n : Int)] w (ReadOk w n l) := by
  have hlen : l.length = m := by have := hr.1; rw [bs_length] at this; omega
  obtain rfl : m = siz n := by rw [← hlen, hk.len]
  have hsz : (List.replicate (siz n) 0).length = siz n := by simp
  have hcz : (bs (List.replicate (siz n) 0)).toArray.size = siz n := by simp [bs]
  have HZ := Lib.hid (And.intro hcz hlen)
  have HL := Lib.hid ((lef_no hk.len hk.byte).2 hk)
  have hm9 : siz n ≤ 8192 := by unfold siz; omega
  clear hlen hcz
  go_enter Try.func21, Try.ntmps21
  go_wp2_with fail
  refine (New_any n w hn).mono ?_
  rintro e w1 ⟨g, h, rfl, s, hb⟩
  obtain ⟨c0, c1⟩ := s.cells
  rw [hsz] at c1
  have hr1 := (hr.below hb).more hb.size
  go_wp2_with fail
  refine (hasLeft_any A (siz n) c n l w1 hr1 hk.byte rfl hn).mono ?_
  rintro e w' ⟨rfl, rfl⟩
  rw [HL.out]
  go_wp2_with (with_reducible
    refine wpList_copy_whole rfl (.tmp 37) (.tmp 38) _ _ rfl 5 Try.underlying33 size_u8 h (siz n) (siz n) c w1.heap.size A 5 _ (bs l) rfl rfl s.row HZ.out.1 hr1 (bs_one l) ?_
    intro w2 H2 hg2)
  go_ret2
  have hgh := s.ne
  refine ⟨g, h, rfl, ⟨hk, hn, ?_, H2.out, s.bg, s.bh⟩, hb.grown hg2 hb.size (fun k hk => by injection hk with hk; subst hk; exact s.bh)⟩
  rw [HZ.out.2]
  have h1 := s.obj.grown hg2 (fun e => hgh (by injection e))
  rwa [hsz] at h1
end Go.Proofs.Ytgfpemndbgdhdaa
