/- Texts joined: Concat Pair. -/
import Derived.Test.YtieknhhhcjdbnaaJ37
import Derived.Test.YtieknhhhcjdbnaaLists
/- Contract of the library's slices.Concat over bytes: all parts, one behind the other, in new memory. -/
namespace Go.Proofs.Ytieknhhhcjdbnaa
open Go.RowKit
set_option linter.unusedVariables false
set_option linter.unusedSimpArgs false
set_option maxRecDepth 100000

/-- The text at a place of a list of byte texts. -/
theorem LL.at_ {w : World} {A : Option Addr} {ls : List (List Nat)} (h : LL w A ls) {i : Nat} {l : List Nat} (hl : ls[i]? = some l) : ∃ ad u, A = some ad ∧ w.cell? (ad.add i) = some u ∧ IsB w u l := by
  obtain ⟨vs, hr, he⟩ := h
  obtain ⟨u, hu, hc⟩ := he.at_ hl
  obtain ⟨ad, u', e, _, h1, h2⟩ := hr.at_ (k := i) (List.getElem?_eq_some_iff.1 hl).1
  rw [hu] at h1
  injection h1 with h1
  subst h1
  exact ⟨ad, u, e, h2, hc⟩
theorem flat_step {ls : List (List Nat)} {k : Nat} {l : List Nat} (h : ls[k]? = some l) : (ls.take (k + 1)).flatten = (ls.take k).flatten ++ l := by
  rw [List.take_add_one, h]; simp
theorem flat_le (ls : List (List Nat)) (k : Nat) : (ls.take k).flatten.length ≤ ls.flatten.length := by
  have h : ls.flatten = (ls.take k).flatten ++ (ls.drop k).flatten := by rw [← List.flatten_append, List.take_append_drop]
  rw [h, List.length_append]; omega
set_option maxHeartbeats 1000000 in
theorem concat_any (A : Option Addr) (n c : Nat) (ls : List (List Nat)) (w : World) (hL : LL w A ls) (hl : ls.length = n) (hn : n ≤ 140737488355328) (ht : ls.flatten.length ≤ 70368744177664) :
    Calls Try.prog 30 #[.slice A n c] w (New w (bs ls.flatten) ls.flatten.length) := by
  obtain ⟨i0, hi0, hz0, hz1, hz2⟩ := info_parts info_u8
  obtain ⟨T, hT⟩ : ∃ T, T = ls.flatten.length := ⟨_, rfl⟩
  have hle := fun k => flat_le ls k
  rw [← hT] at ht hle ⊢
  have HL := Lib.hid hl; have HT := Lib.hid hT
  clear hl hT
  go_enter Try.func30, Try.ntmps30
  go_wp2_with fail
  go_loop [3, 11] (fun s3 s11 => ∃ k m : Nat, k ≤ n ∧ s11 = .int .i64 (k : Int) ∧ s3 = .int .i64 (m : Int) ∧ Hid (m = (ls.take k).flatten.length)) (fun _ i => n - (intOf i).toNat)
  case atStart => exact ⟨0, 0, Nat.zero_le _, rfl, rfl, Lib.hid rfl⟩
  case round =>
    obtain ⟨k, m, hk, rfl, rfl, hm⟩ := hrel
    have hmT : m ≤ T := by rw [hm.out]; exact hle k
    by_cases hlt : k < n
    · obtain ⟨t, hat⟩ : ∃ t, ls[k]? = some t := ⟨_, List.getElem?_eq_getElem (by rw [HL.out]; exact hlt)⟩
      obtain ⟨ad, u, rfl, hc, A2, c2, rfl, hr2⟩ := hL.at_ hat
      have hm2 := hle (k + 1)
      rw [flat_step hat, List.length_append, ← hm.out] at hm2
      obtain ⟨q, hq⟩ : ∃ q, q = t.length := ⟨_, rfl⟩
      rw [← hq] at hc hm2
      have HS : Hid ((ls.take (k + 1)).flatten.length = m + q) := Lib.hid (by rw [flat_step hat, List.length_append, ← hm.out, hq])
      clear hat hq hr2
      go_wp2_with fail
      go_round
      case rel => exact ⟨k + 1, m + q, by omega, by go_num, by go_num, Lib.hid HS.out.symm⟩
      case measure => simp [intOf]; omega
    · obtain rfl : k = n := by omega
      have hmk : Hid (m = T) := Lib.hid (by rw [hm.out, HT.out, List.take_of_length_le (by rw [HL.out]; omega)])
      clear hm
      have h1 := hmk.out
      subst h1
      go_wp2_with fail
      refine (grow_nil m w (by omega)).mono ?_
      rintro e w1 ⟨v1, rfl, hown1, hb1⟩
      go_wp2_with fail
      go_loopw [6, 27] (fun s6 s27 wr => ∃ j : Nat, j ≤ k ∧ s27 = .int .i64 (j : Int) ∧ wr.ownsRow w.heap.size 5 1 s6 (ls.take j).flatten.length (bs (ls.take j).flatten) ∧ Below w.heap.size w wr) (fun _ i _ => k - (intOf i).toNat)
      case atStart => exact ⟨0, by omega, rfl, hown1, hb1⟩
      case round =>
        clear hown1 hb1
        obtain ⟨j, hj, rfl, hown, hb⟩ := hrel
        have hmj := hle j
        by_cases hlt : j < k
        · obtain ⟨t, hat⟩ : ∃ t, ls[j]? = some t := ⟨_, List.getElem?_eq_getElem (by rw [HL.out]; exact hlt)⟩
          obtain ⟨ad, u, rfl, hc, A2, c2, rfl, hr2⟩ := (hL.next hb).at_ hat
          have hm2 := hle (j + 1)
          rw [flat_step hat, List.length_append] at hm2
          have HS := Lib.hid (flat_step hat)
          clear hat
          go_wp2_with (at_builtin
                       refine wpList_append_any _ rfl (.tmp 31) (.tmp 32) _ rfl w.heap.size 5 i0 _ 1 1 Try.underlying36 hi0 hz0 hz1 hz2 rfl (by omega) u6 (ls.take j).flatten.length (bs (ls.take j).flatten) rfl
                         hown wr.heap.size A2 t.length c2 (bs t) rfl hr2 (bs_one _) (by unfold maxLen; omega) (by omega) hb.size ?_
                       intro v3 w3 hown3 hg3 hat3)
          go_round
          case rel =>
            refine ⟨j + 1, by omega, by go_num, ?_, hb.grown hg3 hb.size (fun j hj => (hown.lt j hj).1)⟩
            rw [HS.out, List.length_append, bs_append]
            exact hown3
          case measure => simp [intOf]; omega
        · go_wp2_with fail
          go_ret
          obtain rfl : j = k := by omega
          rw [List.take_of_length_le (by rw [HL.out]; omega), ← HT.out] at hown
          exact ⟨_, rfl, hown, hb⟩
end Go.Proofs.Ytieknhhhcjdbnaa

/- A list of two byte texts, laid in new memory. No condition. -/
namespace Go.Proofs.Ytieknhhhcjdbnaa
open Go.RowKit
set_option linter.unusedVariables false
set_option linter.unusedSimpArgs false
set_option maxRecDepth 100000

theorem two_parts (w : World) (t : TypeId) (v1 v2 : Value) (l1 l2 : List Nat) (h1 : IsB w v1 l1) (h2 : IsB w v2 l2) :
    LL (w.alloc (.cells #[v1, v2] t)) (some ⟨w.heap.size, 0, none⟩) [l1, l2] := by
  have hb : Below w.heap.size w (w.alloc (.cells #[v1, v2] t)) := (Below.refl _ _).alloc (Nat.le_refl _) _
  exact ⟨[v1, v2], reads_blk (Blk.new w t #[v1, v2]) _ 2 _ (by simp) rfl rfl, h1.next hb, h2.next hb, trivial⟩
end Go.Proofs.Ytieknhhhcjdbnaa
