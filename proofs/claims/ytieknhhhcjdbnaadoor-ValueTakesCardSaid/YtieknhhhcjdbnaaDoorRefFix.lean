/- The document's own reader: contract of its Fix. -/
import Derived.Test.YtieknhhhcjdbnaaDoorRefTake2
namespace Go.Proofs.YtieknhhhcjdbnaaDoor
open Go.RowKit
set_option linter.unusedVariables false
set_option linter.unusedSimpArgs false
set_option maxRecDepth 100000

theorem unfx_drop (l : List Nat) (k b : Nat) (hb : l[k]? = some b) : unfx (l.drop k) = 256 * unfx (l.drop (k + 1)) + b := by
  have hk : k < l.length := by
    rcases Nat.lt_or_ge k l.length with h | h
    · exact h
    · rw [List.getElem?_eq_none h] at hb; cases hb
  rw [List.getElem?_eq_getElem hk] at hb
  injection hb with hb
  rw [List.drop_eq_getElem_cons hk, hb]
  simp only [unfx]
  omega

theorem fixS_take (l : List Nat) (at_ : Nat) (x : Option (Int × Nat)) (n : Int) (h1 : ¬ (n < 0 ∨ 8 < n)) : fixS l at_ x n = (unfx (takeS l at_ x n).1, (takeS l at_ x n).2.1, (takeS l at_ x n).2.2) := by
  unfold fixS takeS
  cases x with
  | some x => rfl
  | none =>
    simp only
    rw [if_neg h1, if_neg (show ¬ n < 0 from fun h => h1 (.inl h))]
    by_cases h2 : (l.length : Int) - at_ < n
    · rw [if_pos h2, if_pos h2]; rfl
    · rw [if_neg h2, if_neg h2]
theorem unfx_take8 (l : List Nat) (h : ∀ b ∈ l, b < 256) (hl : l.length ≤ 8) (k : Nat) : unfx (l.drop k) < 18446744073709551616 := by
  have h1 := unfx_lt (l.drop k) fun b hb => h b (List.mem_of_mem_drop hb)
  have h2 : (l.drop k).length ≤ 8 := by rw [List.length_drop]; omega
  have h3 := Nat.pow_le_pow_right (show 0 < 256 by omega) h2
  have e : (256 : Nat) ^ 8 = 18446744073709551616 := by decide
  omega
theorem unfx_small (l : List Nat) (h : ∀ b ∈ l, b < 256) (hl : l.length ≤ 8) (k : Nat) (hk : 1 ≤ k) : unfx (l.drop k) < 72057594037927936 := by
  have h1 := unfx_lt (l.drop k) fun b hb => h b (List.mem_of_mem_drop hb)
  have h2 : (l.drop k).length ≤ 7 := by rw [List.length_drop]; omega
  have h3 := Nat.pow_le_pow_right (show 0 < 256 by omega) h2
  have e : (256 : Nat) ^ 7 = 72057594037927936 := by decide
  omega

set_option maxHeartbeats 1000000 in
theorem rfix_is {w : World} {g : Nat} {l : List Nat} {at_ : Nat} {x : Option (Int × Nat)} (n : Int) (h : RfS w g l at_ x) :
    Calls Tryd.prog 30 #[.pointer (some ⟨g, 0, none⟩), .int .i64 n] w
      fun e w' => e = .returned (.int .u64 ((fixS l at_ x n).1 : Int)) ∧ RfTo w g l (fixS l at_ x n).2.1 (fixS l at_ x n).2.2 w' := by
  by_cases h0 : n < 0 ∨ 8 < n
  · have hF : fixS l at_ x n = (0, at_, failS at_ x 1) := by
      unfold fixS failS
      cases x with
      | some x => rfl
      | none => simp only; rw [if_pos h0, if_neg (by omega)]
    rw [hF]
    clear hF
    rcases h0 with h0 | h0
    · go_enter Tryd.func30, Tryd.ntmps30
      go_wp2_with (go_at_call 34; refine (rfail_is 1 h).mono ?_; rintro e1 w1 ⟨rfl, hto⟩)
      go_ret
      exact ⟨rfl, hto⟩
    · have h0' : ¬ n < 0 := by omega
      go_enter Tryd.func30, Tryd.ntmps30
      go_wp2_with (go_at_call 34; refine (rfail_is 1 h).mono ?_; rintro e1 w1 ⟨rfl, hto⟩)
      go_ret
      exact ⟨rfl, hto⟩
  · rw [fixS_take l at_ x n h0]
    have hbyte : ∀ b ∈ (takeS l at_ x n).1, b < 256 := by
      obtain ⟨⟨A, m, c, hR⟩, _⟩ := h
      unfold takeS
      cases x with
      | some x => intro b hb; cases hb
      | none =>
        simp only
        split
        · intro b hb; cases hb
        · split
          · intro b hb; cases hb
          · intro b hb; exact hR.byte b (List.mem_of_mem_drop (List.mem_of_mem_take hb))
    have hlen8 : (takeS l at_ x n).1.length ≤ 8 := by
      unfold takeS
      cases x with
      | some x => simp
      | none =>
        simp only
        split
        · simp
        · split
          · simp
          · simp only [List.length_take]; omega
    obtain ⟨t, ht⟩ : ∃ t, t = takeS l at_ x n := ⟨_, rfl⟩
    have HT := rtake_is n h
    rw [← ht] at HT hbyte hlen8 ⊢
    have h1 : ¬ n < 0 := fun h' => h0 (.inl h')
    have h2 : ¬ 8 < n := fun h' => h0 (.inr h')
    clear h0 ht
    have HTH := Lib.hid HT
    clear HT
    go_enter Tryd.func30, Tryd.ntmps30
    go_wp2_with fail
    refine HTH.out.mono ?_
    rintro e1 w1 ⟨⟨A1, n1, c1, rfl, hr1⟩, hto⟩
    have hn1 : t.1.length = n1 := by have := hr1.1; rw [bs_length] at this; omega
    subst hn1
    go_wp2_with fail
    go_loop [6, 7] (fun v i => ∃ k : Nat, k ≤ t.1.length ∧ i = .int .i64 ((k : Int) - 1) ∧ v = .int .u64 ((unfx (t.1.drop k) : Nat) : Int)) (fun _ i => (intOf i + 1).toNat)
    case atStart => exact ⟨t.1.length, Nat.le_refl _, rfl, by rw [List.drop_length]; rfl⟩
    case round =>
      obtain ⟨k, hk, rfl, rfl⟩ := hrel
      by_cases hlt : 0 < k
      · obtain ⟨j, rfl⟩ : ∃ j, k = j + 1 := ⟨k - 1, by omega⟩
        obtain ⟨ad, u, rfl, _, hu, hc⟩ := hr1.at_ (k := j) (by omega)
        obtain ⟨b, hb, rfl⟩ := bs_at hu
        have hb256 := hbyte b (List.mem_of_getElem? hb)
        have hv := unfx_drop t.1 j b hb
        have hsm := unfx_small t.1 hbyte hlen8 (j + 1) (by omega)
        obtain ⟨q, hq⟩ : ∃ q, q = unfx (t.1.drop (j + 1)) := ⟨_, rfl⟩
        rw [← hq] at hv hsm ⊢
        have HV := Lib.hid hv
        have HBY := Lib.hid hbyte
        clear hv hu hb hq hbyte
        go_wp2_with fail
        refine ⟨⟨j, by omega, rfl, ?_⟩, by simp [intOf]⟩
        rw [HV.out]
        go_num
      · obtain rfl : k = 0 := by omega
        go_wp2_with fail
        go_ret
        exact ⟨rfl, hto⟩
end Go.Proofs.YtieknhhhcjdbnaaDoor
