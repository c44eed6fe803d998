/- Texts joined: ZigN Fill FoPut. -/
import Derived.Test.YtpjmenaejfdiaaaDoorPlPlain
import Derived.Test.YtpjmenaejfdiaaaDoorJ16
import Derived.Test.YtpjmenaejfdiaaaDoorWords
import Derived.Test.YtpjmenaejfdiaaaDoorJ12
import Derived.Test.YtpjmenaejfdiaaaDoorJ14
/- Contract of package num's Zig, told by natural numbers. -/
namespace Go.Proofs.YtpjmenaejfdiaaaDoor
open Go.RowKit
set_option linter.unusedVariables false
set_option linter.unusedSimpArgs false
set_option maxRecDepth 100000

theorem zigN_any (z : Int) (w : World) (h : In64 z) : Calls Tryd.prog 27 #[.int .i64 z] w fun e w' => e = .returned (.int .u64 (zg z : Int)) ∧ w = w' := by
  rw [← (zg_int h).1]; exact zig_any z w h.1 h.2
end Go.Proofs.YtpjmenaejfdiaaaDoor

/- A row that is filled in order: so many places are filled, the others are zero. No program. -/
namespace Go.Proofs.YtpjmenaejfdiaaaDoor
open Go.RowKit
set_option linter.unusedVariables false
set_option linter.unusedSimpArgs false
set_option maxRecDepth 100000

/-- A row of which 'k' are filled. -/
def fillW (xs : List Value) (z : Value) (k : Nat) : Array Value := (xs.take k ++ List.replicate (xs.length - k) z).toArray
theorem fillW_zero (xs : List Value) (z : Value) (n : Nat) (h : xs.length = n) : fillW xs z 0 = madeCells #[z] n := by
  apply Array.ext'
  rw [toList_madeCells_one]
  simp [fillW, h]
theorem fillW_all (xs : List Value) (z : Value) (n : Nat) (h : xs.length = n) : fillW xs z n = xs.toArray := by
  unfold fillW
  rw [List.take_of_length_le (by omega), h, Nat.sub_self]
  simp
theorem fillW_old (xs : List Value) (z : Value) (k : Nat) (h : k < xs.length) : (fillW xs z k)[k]? = some z := by
  unfold fillW
  rw [List.getElem?_toArray, List.getElem?_append_right (by rw [List.length_take]; omega), List.getElem?_replicate, if_pos (by rw [List.length_take]; omega)]
theorem fillW_next (xs : List Value) (z : Value) (k : Nat) (v : Value) (h : xs[k]? = some v) : (fillW xs z k).setIfInBounds k v = fillW xs z (k + 1) := by
  have hk : k < xs.length := (List.getElem?_eq_some_iff.1 h).1
  unfold fillW
  rw [List.setIfInBounds_toArray]
  congr 1
  apply List.ext_getElem?
  intro i
  rw [List.getElem?_set]
  by_cases hi : k = i
  · subst hi
    rw [if_pos rfl, if_pos (by simp; omega), List.getElem?_append_left (by simp; omega), List.getElem?_take, if_pos (by omega), h]
  · rw [if_neg hi]
    by_cases h2 : i < k
    · rw [List.getElem?_append_left (by simp; omega), List.getElem?_append_left (by simp; omega), List.getElem?_take, List.getElem?_take, if_pos h2, if_pos (by omega)]
    · rw [List.getElem?_append_right (by simp; omega), List.getElem?_append_right (by simp; omega), List.getElem?_replicate, List.getElem?_replicate]
      simp only [List.length_take]
      by_cases h3 : i < xs.length
      · rw [if_pos (by omega), if_pos (by omega)]
      · rw [if_neg (by omega), if_neg (by omega)]
/-- A block that is just the row is the call's own. -/
theorem own_whole {w : World} {B h n : Nat} {t : TypeId} {xs : List Value} (hb : Blk w h t xs.toArray) (hB : B ≤ h) (hn : xs.length = n) (hm : n ≤ maxLen) :
    w.ownsRow B t 1 (.slice (some ⟨h, 0, none⟩) n n) n xs :=
  ⟨by omega, .inr ⟨h, n, xs.toArray, rfl, hB, hb, Nat.le_refl _, hm, by simp; omega, by simp; rw [List.take_of_length_le (by omega)]⟩⟩
end Go.Proofs.YtpjmenaejfdiaaaDoor

/- Contract of package fore's Put: the form by the least one in new memory, or ErrLimit. -/
namespace Go.Proofs.YtpjmenaejfdiaaaDoor
open Go.RowKit
set_option linter.unusedVariables false
set_option linter.unusedSimpArgs false
set_option maxRecDepth 100000

theorem foPut_no (A : Option Addr) (n c : Nat) (w : World) (hn : 65536 < n) :
    Calls Tryd.prog 9 #[.slice A n c] w (NewE w [] 12) := by
  go_enter Tryd.func9, Tryd.ntmps9
  go_wp2_with fail
  go_ret2
  exact ⟨.slice none 0 0, rfl, own_nil _ _ _ _, Below.refl _ _⟩
theorem foPut_nil (A : Option Addr) (c : Nat) (w : World) :
    Calls Tryd.prog 9 #[.slice A 0 c] w (NewE w (fo []) 0) := by
  go_enter Tryd.func9, Tryd.ntmps9
  go_wp2_with fail
  go_ret2
  exact ⟨.slice none 0 0, rfl, own_nil _ _ _ _, Below.refl _ _⟩
set_option maxHeartbeats 2000000 in
theorem foPut_main (A : Option Addr) (n c : Nat) (l : List Int) (w : World) (hr : Reads w w.heap.size 1 A n (zs l)) (hl : ∀ x ∈ l, In64 x) (h0 : 0 < n) (hn : n ≤ 65536) :
    Calls Tryd.prog 9 #[.slice A n c] w (NewE w (fo l) 0) := by
  have e1 : l.length = n := by have := hr.1; rw [zs_length] at this; omega
  have hne : l ≠ [] := by intro e; subst e; simp at e1; omega
  have hm64 := ls_in hl
  have hvl := vb_length (zg (ls l))
  have hzg := (zg_int hm64).2
  have hD64 := dfs_lt hl hm64
  have hK64 := wd_dfs hl
  have hle := fun z (hz : z ∈ l) => ls_le (l := l) z hz
  have hDl := dfs_length (ls l) l
  have hpl : (packB (wd (dfs (ls l) l)) (dfs (ls l) l)).length ≤ 524290 := by have := foB_length hl (by omega); unfold foB at this; rw [List.length_append] at this; omega
  have hfo : fo l = [vb (zg (ls l)), [wd (dfs (ls l) l)], packB (wd (dfs (ls l) l)) (dfs (ls l) l)].flatten := by rw [fo_ne hne]; unfold foB; simp
  have hmin := min_any A n c l w hr hl h0 (by omega)
  have hstep := fun (k : Nat) (z : Int) (h : l[k]? = some z) => us_get (dfs_at (m := ls l) h)
  obtain ⟨m, hm⟩ : ∃ m, m = ls l := ⟨_, rfl⟩
  rw [← hm] at hm64 hvl hzg hD64 hK64 hle hDl hpl hfo hmin hstep
  obtain ⟨D, hD⟩ : ∃ D, D = dfs m l := ⟨_, rfl⟩
  rw [← hD] at hD64 hK64 hDl hpl hfo hstep
  obtain ⟨K, hK⟩ : ∃ K, K = wd D := ⟨_, rfl⟩
  rw [← hK] at hK64 hpl hfo
  have hXz : (us D).length = n := by rw [us_length, hDl, e1]
  have hmk := fun W => run_make_u64 n n (Nat.le_refl _) (by omega) W
  rw [← fillW_zero (us D) (.int .u64 0) n hXz] at hmk
  have hF0 := Blk.new w 40 (fillW (us D) (.int .u64 0) 0)
  have hb0 : Below w.heap.size w (w.alloc (.cells (fillW (us D) (.int .u64 0) 0) 40)) := (Below.refl _ _).alloc (Nat.le_refl _) _
  have HK := Lib.hid hK; have HL := Lib.hid hl; have HLT := Lib.hid hD64; have HD := Lib.hid hfo; have HM := Lib.hid hmin; have HS := Lib.hid hstep; have HLE := Lib.hid hle; have HX := Lib.hid hXz
  have q0 : ((n : Int) == 0) = false := by simp; omega
  clear hK hl hD64 hfo hmin hstep hle hXz hD hm hDl e1
  go_enter Tryd.func9, Tryd.ntmps9
  go_wp2_with fail
  refine HM.out.mono ?_
  rintro e w' ⟨rfl, rfl⟩
  go_wp2_with fail
  clear hmk
  go_loopw [24] (fun s24 wr => ∃ k : Nat, k ≤ n ∧ s24 = .int .i64 (k : Int) ∧ Blk wr w.heap.size 40 (fillW (us D) (.int .u64 0) k) ∧ Below w.heap.size w wr) (fun i _ => n - (intOf i).toNat)
  case atStart => exact ⟨0, by omega, rfl, hF0, hb0⟩
  case round =>
    clear hF0 hb0
    obtain ⟨k, hk, rfl, hF, hb⟩ := hrel
    by_cases hlt : k < n
    · obtain ⟨ad, u, rfl, _, hu, hc0⟩ := (hr.below hb).at_ hlt
      obtain ⟨z, hz, rfl⟩ := zs_at hu
      have hz64 := HL.out z (List.mem_of_getElem? hz)
      have hmz := HLE.out z (List.mem_of_getElem? hz)
      have hc := hF.cell k
      rw [fillW_old _ _ k (by rw [HX.out]; omega)] at hc
      have hf := hF.frozen k
      have HZ := Lib.hid (HS.out k z hz)
      clear hu hz
      have hdi := dist_any m z wr hm64 hz64 hmz
      obtain ⟨q, hq⟩ : ∃ q, q = (z - m).toNat := ⟨_, rfl⟩
      rw [← hq] at hdi HZ
      have HDI := Lib.hid hdi
      clear hdi hq hmz
      go_wp2_with fail
      refine HDI.out.mono ?_
      rintro e w' ⟨rfl, rfl⟩
      go_wp2_with fail
      go_round
      case rel =>
        refine ⟨k + 1, by omega, by go_num, ?_, hb.setCell (Nat.le_refl _) _⟩
        have h1 := hF.set_ k (.int .u64 (q : Int))
        rw [fillW_next _ _ k _ HZ.out] at h1
        exact h1
      case measure => simp [intOf]; omega
    · obtain rfl : k = n := by omega
      rw [fillW_all _ _ k HX.out] at hF
      have r1 : Reads wr wr.heap.size 1 (some ⟨w.heap.size, 0, none⟩) k (us D) := reads_blk hF _ k _ hF.lt HX.out (by rw [List.take_of_length_le (by have := HX.out; simp; omega)])
      clear hF hr
      go_wp2_with fail
      refine (width_any _ k k D wr r1 HLT.out (by omega)).mono ?_
      rintro e w' ⟨rfl, rfl⟩
      rw [← HK.out]
      go_wp2_with fail
      refine (pack_ok _ k k D _ K rfl wr r1 HLT.out (by omega) hK64 (by rw [HK.out]; exact Nat.le_refl _)).mono ?_
      rintro e w3 ⟨v3, rfl, hown3, hb3⟩
      obtain ⟨A3, c3, rfl, _, _, r3⟩ := own_slice hown3
      have hb03 := hb.trans (hb3.mono hb.size)
      clear hown3 hb3 r1
      go_wp2_with fail
      refine (zigN_any m _ hm64).mono ?_
      rintro e w' ⟨rfl, rfl⟩
      go_wp2_with fail
      refine (putVar_any none 0 0 (zg m) [] _ hzg Reads.none_ (by simp) (by omega)).mono ?_
      intro e5 w5 hN5
      obtain ⟨A5, c5, rfl, _, hr5, hb5⟩ := hN5.opened
      rw [Nat.zero_add, List.nil_append] at hr5
      simp only [Nat.zero_add]
      have hb05 := hb03.trans (hb5.mono hb03.size)
      have i1 : IsB w5 (.slice A5 (vb (zg m)).length c5) (vb (zg m)) := ⟨A5, c5, rfl, hr5⟩
      have i3 : IsB w5 (.slice A3 (packB K D).length c3) (packB K D) := ⟨A3, c3, rfl, r3.next hb5⟩
      have hba : Below w5.heap.size w5 (w5.alloc (.cells #[.int .u8 (K : Int)] 5)) := (Below.refl _ _).alloc (Nat.le_refl _) _
      have i2 : IsB (w5.alloc (.cells #[.int .u8 (K : Int)] 5)) (.slice (some ⟨w5.heap.size, 0, none⟩) 1 1) [K] := ⟨_, 1, rfl, reads_blk (Blk.new w5 _ _) _ 1 _ (by simp) rfl rfl⟩
      have hb06 := hb05.trans (hba.mono hb05.size)
      have h3 := three_parts _ 22 _ _ _ (vb (zg m)) [K] (packB K D) (i1.next hba) i2 (i3.next hba)
      have hsz : (w5.alloc (.cells #[.int .u8 (K : Int)] 5)).heap.size = w5.heap.size + 1 := by simp
      rw [hsz] at h3
      clear hN5 i1 i2 i3 r3
      go_wp2_with fail
      refine (concat_any (some ⟨w5.heap.size + 1, 0, none⟩) 3 3 [vb (zg m), [K], packB K D] _ h3 rfl (by omega) (by simp; omega)).mono ?_
      rintro e w6 ⟨v, rfl, hown, hb⟩
      go_wp2_with fail
      go_ret2
      have hb7 := hb06.alloc hb06.size (.cells #[.slice A5 (vb (zg m)).length c5, .slice (some ⟨w5.heap.size, 0, none⟩) 1 1, .slice A3 (packB K D).length c3] 22)
      rw [HD.out]
      exact ⟨v, rfl, own_base hown hb7.size, hb7.trans (hb.mono hb7.size)⟩
theorem foPut_any (A : Option Addr) (n c : Nat) (l : List Int) (w : World) (hr : Reads w w.heap.size 1 A n (zs l)) (hl : ∀ x ∈ l, In64 x) (hn : n ≤ 65536) :
    Calls Tryd.prog 9 #[.slice A n c] w (NewE w (fo l) 0) := by
  have e1 : l.length = n := by have := hr.1; rw [zs_length] at this; omega
  rcases Nat.eq_zero_or_pos n with h0 | h0
  · subst h0
    rw [List.eq_nil_of_length_eq_zero e1]
    exact foPut_nil A c w
  · exact foPut_main A n c l w hr hl h0 hn
end Go.Proofs.YtpjmenaejfdiaaaDoor
