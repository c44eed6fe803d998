/- The walk of the statement TreeParts. -/
import Derived.Test.YtkopoepoinkpeaaDoorJ47
import Derived.Test.YtkopoepoinkpeaaDoorTrRefRoot
namespace Go.Proofs.YtkopoepoinkpeaaDoor
open Go.RowKit
set_option linter.unusedVariables false
set_option linter.unusedSimpArgs false
set_option maxRecDepth 100000

theorem root_yields (A : Option Addr) (n c : Nat) (ls : List (List Nat)) (w : World) (hn : ls.length = n) (hn2 : n ≤ 1000000) (hp : LC w A ls) (hbt : ∀ l ∈ ls, ∀ b ∈ l, b < 256) (hlong : ∀ l ∈ ls, l.length ≤ 4294960000) (ht : ShTab w) (V : Array Value) (hV : (bs (rootL ls)).toArray = V) :
    Yields w.heap.size w 12 #[.slice A n c] (.agg V) := fun W hb => by
  have := root_any A n c ls W hn hn2 (hp.next hb) hbt hlong (ht.next hb)
  unfold HashTo at this
  rw [hV] at this
  exact this.mono fun e w' ⟨he, h⟩ => ⟨he, hb.trans (h.mono hb.size)⟩
theorem node_yields (a b : List Nat) (w : World) (ha : a.length = 32) (hb : b.length = 32) (ha2 : ∀ x ∈ a, x < 256) (hb2 : ∀ x ∈ b, x < 256) (ht : ShTab w) (VA VB V : Array Value) (hVA : (bs a).toArray = VA) (hVB : (bs b).toArray = VB) (hV : (bs (nodeD a b)).toArray = V) :
    Yields w.heap.size w 18 #[.agg VA, .agg VB] (.agg V) := fun W hW => by
  have := node_any a b W ha hb ha2 hb2 (ht.next hW)
  unfold HashTo at this
  rw [hVA, hVB, hV] at this
  exact this.mono fun e w' ⟨he, h⟩ => ⟨he, hW.trans (h.mono hW.size)⟩
theorem awake19_yields (w : World) (ht : ShTab w) : Yields w.heap.size w 8 #[] (.bool true) := fun W hb =>
  (awake19_any W (ht.next hb)).mono fun e w' ⟨he, h⟩ => ⟨he, hb.trans (h.mono hb.size)⟩
theorem split_yields (n : Int) (w : World) (h0 : -9223372036854775808 ≤ n) (h1 : n ≤ 9223372036854775807) : Yields w.heap.size w 14 #[.int .i64 n] (.int .i64 (spl n.toNat : Int)) := fun W hb =>
  (split_any n W h0 h1).mono fun e w' ⟨he, h⟩ => ⟨he, by subst h; exact hb⟩
set_option maxHeartbeats 4000000 in
theorem partsT19_any (A : Option Addr) (n c : Nat) (ls : List (List Nat)) (p : Nat) (w : World) (hn : ls.length = n) (hp : LC w A ls) (hbt : ∀ l ∈ ls, ∀ b ∈ l, b < 256) (hc : n ≤ c) (hm : n ≤ 9223372036854775807) (hp256 : p < 256) (ht : ShTab w) :
    Calls Tryd.prog 6 #[.slice A n c, .int .u8 (p : Int)] w fun e w' => e = .returned (.bool true) ∧ Below w.heap.size w w' := by
  obtain ⟨g, hg⟩ : ∃ g, g = grL ls 30 60 := ⟨_, rfl⟩
  have HG := Lib.hid (greatL_any A n c 30 60 ls w hn hp (by omega) (by omega) g hg)
  have HGF := Lib.hid fun h : g = false => grL_false (by rw [← hg]; exact h)
  have HAW := Lib.hid (awake19_any w ht)
  have HT := Lib.hid ht; have HP := Lib.hid hp; have HBT := Lib.hid hbt; have HN := Lib.hid hn
  obtain ⟨E, hE⟩ : ∃ E, p % 5 = E := ⟨_, rfl⟩
  have hE5 : E < 5 := by omega
  have hEI : ((p : Int) % 5) = (E : Int) := by omega
  clear hg ht hp hbt hn hE
  go_enter Tryd.func6, Tryd.ntmps6
  go_wp2_with fail
  go_loopg [5, 6] E (fun gk s5 s6 wr => ∃ i k : Nat, i + gk = E ∧ s6 = .int .i64 (i : Int) ∧ s5 = .int .i64 (k : Int) ∧ Hid (k = 2 ^ i) ∧ 0 < k ∧ k ≤ 16 ∧ wr = w)
  case atStart => exact ⟨0, 1, by omega, rfl, rfl, Lib.hid rfl, by omega, by omega, rfl⟩
  case round =>
    obtain ⟨i, k, hig, rfl, rfl, hk, hk0, hk16, rfl⟩ := hrel
    cases gk with
    | succ gk =>
      have hiE : (i : Int) < (E : Int) := by omega
      have hk2 := Lib.hid (show 2 * k = 2 ^ (i + 1) by rw [Nat.pow_succ, hk.out]; omega)
      have hk8 : 2 * k ≤ 16 := by
        rw [hk2.out]
        exact Nat.pow_le_pow_right (n := 2) (by omega) (by omega : i + 1 ≤ 4)
      have hw : IntKind.i64.wrap (2 * (k : Int)) = 2 * (k : Int) := IntWalk.i64_in _ (by omega)
      go_wp2_with fail
      go_roundg gk
      case measure => omega
      case rel => exact ⟨i + 1, 2 * k, by omega, by go_num, by go_num, hk2, by omega, hk8, by trivial⟩
    | zero =>
      obtain rfl : i = E := by omega
      clear hig
      cases g with
      | true =>
        go_wp2_with fail
        refine HG.out.mono ?_
        rintro _ _ ⟨rfl, rfl⟩
        go_wp2_with fail
        refine HAW.out.mono ?_
        rintro _ w2 ⟨rfl, hb⟩
        go_wp2_with fail
        go_ret
        exact ⟨rfl, hb⟩
      | false =>
        obtain ⟨h30, h60⟩ := HGF.out rfl
        rw [HN.out] at h30
        have H60 := Lib.hid h60
        clear h60 HGF
        by_cases h1 : n ≤ k
        · have h1' : (n : Int) ≤ (k : Int) := by omega
          go_wp2_with fail
          refine HG.out.mono ?_
          rintro _ _ ⟨rfl, rfl⟩
          go_wp2_with fail
          refine HAW.out.mono ?_
          rintro _ w2 ⟨rfl, hb⟩
          go_wp2_with fail
          go_ret
          exact ⟨rfl, hb⟩
        · by_cases h2 : 2 * k < n
          · have h2' : 2 * (k : Int) < (n : Int) := by omega
            go_wp2_with fail
            refine HG.out.mono ?_
            rintro _ _ ⟨rfl, rfl⟩
            go_wp2_with fail
            refine HAW.out.mono ?_
            rintro _ w2 ⟨rfl, hb⟩
            go_wp2_with fail
            go_ret
            exact ⟨rfl, hb⟩
          · have hsp : spl n = k := by rw [hk.out]; exact spl_is (by rw [← hk.out]; omega) (by rw [← hk.out]; omega)
            obtain ⟨b, o, rfl, _⟩ := HP.out.plain (by rw [HN.out]; omega)
            have hr2 := rootL_two (l := ls) (by rw [HN.out]; omega)
            rw [HN.out, hsp] at hr2
            have hl1 := HP.out.fore (k := k) (by rw [HN.out]; omega)
            have hl2 := HP.out.cut (k := k) (cap := c) (by rw [HN.out]; omega) (by rw [HN.out]; exact hc)
            rw [if_neg (by omega)] at hl2
            have hl3 : LC wr (some ⟨b, o + k, none⟩) (ls.drop k) := by simpa [plain_add] using hl2
            have hn1 : (ls.take k).length = k := by rw [List.length_take, HN.out]; omega
            have hn2 : (ls.drop k).length = n - k := by rw [List.length_drop, HN.out]
            obtain ⟨VA, hVA⟩ : ∃ VA, (bs (rootL (ls.take k))).toArray = VA := ⟨_, rfl⟩
            obtain ⟨VB, hVB⟩ : ∃ VB, (bs (rootL (ls.drop k))).toArray = VB := ⟨_, rfl⟩
            obtain ⟨V, hV⟩ : ∃ V, (bs (rootL ls)).toArray = V := ⟨_, rfl⟩
            have Y1 := Lib.hid (root_yields (some ⟨b, o, none⟩) n c ls wr HN.out (by omega) HP.out HBT.out (fun l hl => by have := H60.out l hl; omega) HT.out V hV)
            have Y2 := Lib.hid (root_yields (some ⟨b, o, none⟩) k c (ls.take k) wr hn1 (by omega) hl1 (fun l hl => HBT.out l (List.mem_of_mem_take hl)) (fun l hl => by have := H60.out l (List.mem_of_mem_take hl); omega) HT.out VA hVA)
            have Y3 := Lib.hid (root_yields (some ⟨b, o + k, none⟩) (n - k) (c - k) (ls.drop k) wr hn2 (by omega) hl3 (fun l hl => HBT.out l (List.mem_of_mem_drop hl)) (fun l hl => by have := H60.out l (List.mem_of_mem_drop hl); omega) HT.out VB hVB)
            have Y4 := Lib.hid (node_yields (rootL (ls.take k)) (rootL (ls.drop k)) wr (rootL_len _) (rootL_len _) (rootL_byte _) (rootL_byte _) HT.out VA VB V hVA hVB (by rw [← hr2]; exact hV))
            have Y5 := Lib.hid (awake19_yields wr HT.out)
            have Y6 := Lib.hid (split_yields (n : Int) wr (by omega) (by omega))
            rw [Int.toNat_natCast, hsp] at Y6
            have HE : Hid (∀ W, (binOp .eql 31 (.agg V) (.agg V)).run Tryd.prog W = .ok (.bool true) W) := Lib.hid fun W => by
              have := eqlD W (rootL ls) (rootL ls) (rootL_len _) (rootL_len _)
              rw [hV] at this
              simpa using this
            have h1' : ¬ (n : Int) ≤ (k : Int) := by omega
            have h2' : ¬ 2 * (k : Int) < (n : Int) := by omega
            have hw : IntKind.i64.wrap (2 * (k : Int)) = 2 * (k : Int) := IntWalk.i64_in _ (by omega)
            have q1 : (k : Int) ≤ (n : Int) := by omega
            have q2 : (n : Int) ≤ (c : Int) := by omega
            have q3 : (k : Int) ≤ (c : Int) := by omega
            have q4 : ¬ c = k := by omega
            have q5 : ((n : Int) - (k : Int)).toNat = n - k := by omega
            have q6 : ((c : Int) - (k : Int)).toNat = c - k := by omega
            clear hsp hr2 hl1 hl2 hl3 hn1 hn2 hVA hVB hV
            go_wp2_with fail
            refine HG.out.mono ?_
            rintro _ _ ⟨rfl, rfl⟩
            go_upto_region 8 with fail
            refine wp_region_quiet_below (by kernel_rfl) (by kernel_rfl) ?_
            repeat (first
              | (refine wpQuiet_bin (by rfl) .eql 31 _ (.tmp 33) (.tmp 42) rfl V V rfl rfl hash_guard _ HE.out ?_
                 try simp only [Act.put, List.setIfInBounds_toArray, List.set_cons_zero, List.set_cons_succ])
              | go_big_quiet_step (first
                  | (go_at_call 12; first | with_reducible exact Y1.out.quiet _ _ | with_reducible exact Y2.out.quiet _ _ | with_reducible exact Y3.out.quiet _ _)
                  | (go_at_call 18; with_reducible exact Y4.out.quiet _ _)
                  | (go_at_call 8; with_reducible exact Y5.out.quiet _ _)
                  | (go_at_call 14; with_reducible exact Y6.out.quiet _ _)))
            refine wpQuiet_nil ?_
            intro _ hw'
            obtain ⟨p, hw''⟩ := hw'
            subst hw''
            go_wp2_with fail
            go_ret
            exact ⟨rfl, below_regrown wr p.d p.os⟩
end Go.Proofs.YtkopoepoinkpeaaDoor
