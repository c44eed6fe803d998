/- Contracts of the document's own answers for numbers and texts: Var, Fix, Blob, Zig, Zag. -/
import Derived.Test.YtphecljgbnkmlaaZig
import Derived.Test.YtphecljgbnkmlaaBlob
import Derived.Test.YtphecljgbnkmlaaPut
namespace Go.Proofs.Ytphecljgbnkmlaa
open Go.RowKit
set_option linter.unusedVariables false
set_option maxRecDepth 100000

theorem own_new (w : World) (cs : Array Value) (n : Nat) (t : TypeId) (xs : List Value) (hm : n ≤ maxLen) (hs : cs.size = n) (hx : cs.toList = xs) :
    (w.alloc (.cells cs t)).ownsRow w.heap.size t 1 (.slice (some ⟨w.heap.size, 0, none⟩) n n) n xs := by
  subst hx
  exact ⟨by simp [hs], .inr ⟨w.heap.size, n, cs, rfl, Nat.le_refl _, heap_alloc_new w _, Nat.le_refl _, hm, by omega, by rw [Nat.mul_one, ← hs, ← Array.length_toList, List.take_length]⟩⟩

set_option maxHeartbeats 400000 in
theorem refVar_any (v : Nat) : ∀ (w : World), v < 18446744073709551616 → Calls Try.prog 9 #[.int .u64 (v : Int)] w (New w (bs (vb v)) (vb v).length) := by
  induction v using Nat.strongRecOn with
  | ind v ih =>
    intro w hv
    obtain ⟨i0, hi0, hz0, hz1, hz2⟩ := info_parts info_u8
    by_cases h : v < 128
    · clear ih
      have HV := Lib.hid (vb_small v h)
      go_enter Try.func9, Try.ntmps9
      go_wp2_with fail
      go_ret
      rw [HV.out]
      exact ⟨_, rfl, own_new w _ 1 _ _ (by unfold maxLen; omega) rfl (by simp [bs]), (Below.refl _ _).alloc (Nat.le_refl _) _⟩
    · have H := Lib.hid (ih (v / 128) (by omega)); clear ih
      have HV := Lib.hid (vb_big v h hv)
      have hl := vb_length (v / 128)
      have hown0 := own_new w #[.int .u8 (128 + (v : Int) % 128)] 1 5 (bs [128 + v % 128]) (by unfold maxLen; omega) rfl (by simp [bs])
      have Hown0 := Lib.hid hown0
      clear hown0
      go_enter Try.func9, Try.ntmps9
      go_wp2_with (first
        | (go_at_call 9; refine (H.out _ (by omega)).mono ?_; rintro e w1 ⟨v1, rfl, hown1, hb1⟩; obtain ⟨A1, c1, rfl, hc1, hc1', hr1⟩ := own_slice hown1)
        | (at_builtin
           refine wpList_append_any _ rfl (.tmp 12) (.tmp 15) _ rfl w.heap.size 5 i0 _ 1 1 Try.underlying22 hi0 hz0 hz1 hz2 rfl (by omega) (.slice (some ⟨w.heap.size, 0, none⟩) 1 1) 1 (bs [128 + v % 128]) rfl
             (own_below Hown0.out hb1) w1.heap.size A1 (vb (v / 128)).length c1 (bs (vb (v / 128))) rfl hr1 (bs_one _) (by unfold maxLen; omega) (by omega) (by have := hb1.size; simp at this; omega) ?_
           intro v2 w2 hown2 hg2 hat2))
      go_ret
      rw [HV.out]
      refine ⟨v2, rfl, ?_, ?_⟩
      · simpa [bs, Nat.add_comm] using hown2
      · exact (((Below.refl _ _).alloc (Nat.le_refl _) _).trans (hb1.mono (by simp))).grown hg2 (by have := hb1.size; simp at this; omega) (fun k hk => by simp [Value.ownBlock] at hk; omega)

/-- The first 'k' bytes of a fixed number, and what is left of the number. -/
theorem fx_split (k j v : Nat) : fx (k + j) v = fx k v ++ fx j (v / 256 ^ k) := by
  induction k generalizing v with
  | zero => simp [fx]
  | succ k ih =>
    rw [show k + 1 + j = (k + j) + 1 by omega]
    simp only [fx, List.cons_append]
    rw [ih (v / 256), Nat.div_div_eq_div_mul, Nat.pow_succ, Nat.mul_comm 256]
theorem fx_snoc (k v : Nat) : fx (k + 1) v = fx k v ++ [v / 256 ^ k % 256] := by rw [fx_split]; rfl

set_option maxHeartbeats 400000 in
theorem refFix_any (v : Nat) (s : Int) (w : World) (hv : v < 18446744073709551616) (hs : s ≤ 9223372036854775807) : Calls Try.prog 11 #[.int .u64 (v : Int), .int .i64 s] w (New w (bs (fx (fixSize s) v)) (fixSize s)) := by
  obtain ⟨i0, hi0, hz0, hz1, hz2⟩ := info_parts info_u8
  have hS : fixSize s ≤ 8 := by unfold fixSize; omega
  go_enter Try.func11, Try.ntmps11
  go_wp2_with fail
  go_loopw [0, 5, 6] (fun v1 out i wr => ∃ (k q : Nat), k ≤ fixSize s ∧ i = .int .i64 (k : Int) ∧ v1 = .int .u64 (q : Int) ∧ Hid (q = v / 256 ^ k) ∧ q < 18446744073709551616 ∧ wr.ownsRow w.heap.size 5 1 out k (bs (fx k v)) ∧ Below w.heap.size w wr)
    (fun _ _ i _ => 8 - (intOf i).toNat)
  case atStart => exact ⟨0, v, by omega, rfl, rfl, Lib.hid (by simp), hv, World.ownsRow_nil _ _ _ _, Below.refl _ _⟩
  case round =>
    obtain ⟨k, q, hk, rfl, rfl, hq, hq64, hown, hb⟩ := hrel
    have hsz := hb.size
    by_cases hlt : k < fixSize s
    · have h1 : (k : Int) < s := by unfold fixSize at hlt; omega
      have h2 : k < 8 := by omega
      go_wp2_with (at_builtin
                   refine wpList_append_any _ rfl (.tmp 16) (.tmp 20) _ rfl w.heap.size 5 i0 _ 1 1 Try.underlying22 hi0 hz0 hz1 hz2 rfl (by omega) u5 k (bs (fx k v)) rfl
                     (hown.alloc _) (wr.heap.size + 1) (some ⟨wr.heap.size, 0, none⟩) 1 1 [.int .u8 ((q : Int) % 256)] rfl (Reads.new wr _ _) (one_int _ _) (by unfold maxLen; omega) (by omega) (by simp; omega) ?_
                   intro v2 w2 hown2 hg2 hat2)
      have hq' := hq.out
      rw [show bs (fx k v) ++ [Value.int .u8 ((q : Int) % 256)] = bs (fx (k + 1) v) by rw [fx_snoc, bs_append, ← hq']; rfl] at hown2
      refine ⟨⟨k + 1, q / 256, by omega, by go_num, rfl, Lib.hid (by rw [hq', Nat.div_div_eq_div_mul, Nat.pow_succ]), by omega, hown2, below_app hb hown hsz hg2⟩, by simp [intOf]; omega⟩
    · have hk' : k = fixSize s := by omega
      have hout : ¬ ((k : Int) < s ∧ k < 8) := by unfold fixSize at hk'; omega
      have Hk := Lib.hid hk'
      clear hk'
      by_cases h1 : (k : Int) < s
      · have h2 : ¬ k < 8 := fun h => hout ⟨h1, h⟩
        clear hout
        go_wp2_with fail
        go_ret
        rw [← Hk.out]
        exact ⟨_, rfl, hown, hb⟩
      · clear hout
        go_wp2_with fail
        go_ret
        rw [← Hk.out]
        exact ⟨_, rfl, hown, hb⟩

set_option maxHeartbeats 400000 in
theorem refBlob_any (A : Option Addr) (m c : Nat) (p : List Nat) (w : World) (hp : Reads w w.heap.size 1 A m (bs p)) (hb : m ≤ 140737488355300) :
    Calls Try.prog 13 #[.slice A m c] w (New w (bs (blob p)) (blob p).length) := by
  obtain ⟨i0, hi0, hz0, hz1, hz2⟩ := info_parts info_u8
  have hm : m = p.length := by have := hp.1; rw [bs_length] at this; omega
  subst hm
  have hl := vb_length p.length
  go_enter Try.func13, Try.ntmps13
  go_wp2_with (first
    | (go_at_call 9; refine (refVar_any p.length w (by omega)).mono ?_; rintro e w1 ⟨v1, rfl, hown1, hb1⟩)
    | (at_builtin
       refine wpList_append_any _ rfl (.tmp 6) (.tmp 7) _ rfl w.heap.size 5 i0 _ 1 1 Try.underlying22 hi0 hz0 hz1 hz2 rfl (by omega) v1 (vb p.length).length (bs (vb p.length)) rfl
         hown1 w.heap.size A p.length c (bs p) rfl (hp.below hb1) (bs_one _) (by unfold maxLen; omega) (by omega) hb1.size ?_
       intro v2 w2 hown2 hg2 hat2))
  go_ret
  rw [blob_length]
  exact ⟨v2, rfl, by simpa [blob, bs_append] using hown2, hb1.grown hg2 hb1.size (fun k hk => (hown1.lt k hk).1)⟩

theorem refZig_any (n : Int) (w : World) (h1 : -9223372036854775808 ≤ n) (h2 : n ≤ 9223372036854775807) : Calls Try.prog 15 #[.int .i64 n] w fun e w' => e = .returned (.int .u64 (zigI n)) ∧ w = w' := by
  by_cases h : 0 ≤ n
  · have HZ := Lib.hid (show 2 * n = zigI n by unfold zigI; rw [if_pos h])
    go_enter Try.func15, Try.ntmps15
    go_wp2_with fail
    go_ret
    exact ⟨ret_of (congrArg (Value.int .u64) HZ.out), rfl⟩
  · go_enter Try.func15, Try.ntmps15
    go_wp2_with fail
    go_ret
    refine ⟨ret_of (congrArg (Value.int .u64) ?_), rfl⟩
    unfold zigI
    rw [if_neg (by omega)]
    omega
theorem refZag_any (v : Nat) (w : World) (hv : v < 18446744073709551616) : Calls Try.prog 17 #[.int .u64 (v : Int)] w fun e w' => e = .returned (.int .i64 (zagI v)) ∧ w = w' := by
  by_cases h : v % 2 = 0
  · have h' : (v : Int) % 2 = 0 := by omega
    have HZ := Lib.hid (show (v : Int) / 2 = zagI v by unfold zagI; rw [if_pos h'])
    clear h
    go_enter Try.func17, Try.ntmps17
    go_wp2_with fail
    go_ret
    exact ⟨ret_of (congrArg (Value.int .i64) HZ.out), rfl⟩
  · have h' : (v : Int) % 2 = 1 := by omega
    have HZ := Lib.hid (show -((v : Int) / 2) - 1 = zagI v by unfold zagI; rw [if_neg (by omega)])
    clear h
    go_enter Try.func17, Try.ntmps17
    go_wp2_with fail
    go_ret
    exact ⟨ret_of (congrArg (Value.int .i64) HZ.out), rfl⟩

/-- The statement's own 'front': new bytes: what it has caught, and behind it what it is handed. -/
theorem front_any (cb : Addr) (A A' : Option Addr) (n c m c' : Nat) (xs ys : List Value) (w : World) (hcell : w.cell? cb = some (.slice A n c)) (hr : Reads w w.heap.size 1 A n xs) (h1 : ∀ u ∈ xs, u.oneCell' = true)
    (hp : Reads w w.heap.size 1 A' m ys) (h2 : ∀ u ∈ ys, u.oneCell' = true) (hb : n + m ≤ 140737488355300) :
    Calls Try.prog 6 #[.slice A' m c', .pointer (some cb)] w (New w (xs ++ ys) (n + m)) := by
  obtain ⟨i0, hi0, hz0, hz1, hz2⟩ := info_parts info_u8
  have hown0 := own_new w #[] 0 5 [] (by unfold maxLen; omega) rfl rfl
  have hcell2 : (w.alloc (.cells #[] 5)).cell? cb = some (.slice A n c) := (World.cell?_alloc_lt w _ cb (World.block_lt_of_cell? w cb hcell)).trans hcell
  clear hcell
  go_enter Try.func6, Try.ntmps6
  go_wp2_with (first
    | (at_builtin
       refine wpList_append_any _ rfl (.tmp 4) (.tmp 5) _ rfl w.heap.size 5 i0 _ 1 1 Try.underlying22 hi0 hz0 hz1 hz2 rfl (by omega) (.slice (some ⟨w.heap.size, 0, none⟩) 0 0) 0 [] rfl
         hown0 w.heap.size A n c xs rfl (hr.alloc (Nat.le_refl _) _) h1 (by unfold maxLen; omega) (by omega) (by simp) ?_
       intro v1 w1 hown1 hg1 hat1
       have hb1 : Below w.heap.size w w1 := ((Below.refl _ _).alloc (Nat.le_refl _) _).grown hg1 (by simp) (fun k hk => by simp [Value.ownBlock] at hk; omega))
    | (at_builtin
       refine wpList_append_any _ rfl (.tmp 6) (.tmp 7) _ rfl w.heap.size 5 i0 _ 1 1 Try.underlying22 hi0 hz0 hz1 hz2 rfl (by omega) v1 (0 + n) ([] ++ xs) rfl
         hown1 w.heap.size A' m c' ys rfl (hp.below hb1) h2 (by unfold maxLen; omega) (by omega) hb1.size ?_
       intro v2 w2 hown2 hg2 hat2))
  go_ret
  exact ⟨v2, rfl, by simpa using hown2, hb1.grown hg2 hb1.size (fun k hk => (hown1.lt k hk).1)⟩
end Go.Proofs.Ytphecljgbnkmlaa
