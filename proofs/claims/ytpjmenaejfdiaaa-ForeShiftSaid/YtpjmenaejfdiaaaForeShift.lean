/- The walk of the statement ForeShift: where the same is added to all numbers, and none goes round, the form behind the least one stays. -/
import Derived.Test.YtpjmenaejfdiaaaFoAwake
import Derived.Test.YtpjmenaejfdiaaaArith64
import Derived.Test.YtpjmenaejfdiaaaRefZigN
import Derived.Test.YtpjmenaejfdiaaaRefPVar
import Derived.Test.YtpjmenaejfdiaaaI32Row
import Derived.Test.YtpjmenaejfdiaaaTwoRows
import Derived.Test.YtpjmenaejfdiaaaYields
namespace Go.Proofs.Ytpjmenaejfdiaaa
open Go.RowKit
set_option linter.unusedVariables false
set_option linter.unusedSimpArgs false
set_option maxRecDepth 100000

theorem shift_else (A : Option Addr) (n c : Nat) (d : Int) (w : World) (h : 200 < n ∨ n = 0) :
    Calls Try.prog 4 #[.slice A n c, .int .i32 d] w fun e w' => e = .returned (.bool true) ∧ Below w.heap.size w w' := by
  by_cases h1 : 200 < n
  · clear h
    go_enter Try.func4, Try.ntmps4
    go_wp2_with fail
    refine (awake_any w).mono ?_
    rintro e w1 ⟨rfl, hb⟩
    go_wp2_with fail
    go_ret
    exact ⟨rfl, hb⟩
  · obtain rfl : n = 0 := by omega
    clear h
    go_enter Try.func4, Try.ntmps4
    go_wp2_with fail
    refine (awake_any w).mono ?_
    rintro e w1 ⟨rfl, hb⟩
    go_wp2_with fail
    go_ret
    exact ⟨rfl, hb⟩
theorem awake_yields (w : World) : Yields w.heap.size w 5 #[] (.bool true) := by
  intro W hb
  refine (awake_any W).mono ?_
  rintro e w1 ⟨rfl, hb1⟩
  exact ⟨rfl, hb.trans (hb1.mono hb.size)⟩
/-- All numbers, with the same added. -/
def adl (d : Int) (l : List Int) : List Int := l.map fun z => z + d
theorem adl_step {d : Int} {l : List Int} {k : Nat} {z : Int} (h : l[k]? = some z) : (adl d l).take (k + 1) = (adl d l).take k ++ [z + d] := by
  rw [List.take_add_one]; simp [adl, h]
/-- What the walk is told of the lists. -/
structure Told (z d m q : Int) (n : Nat) (L M : List Int) (D E B : List Nat) : Prop where
  len : L.length = n
  mlen : M.length = n
  in32 : ∀ x ∈ L, -2147483648 ≤ x ∧ x ≤ 2147483647
  inL : ∀ x ∈ L, In64 x
  inM : ∀ x ∈ M, In64 x
  step : ∀ k y, L[k]? = some y → M.take (k + 1) = M.take k ++ [y + d]
  l0 : L[0]? = some z
  mm : lsF z L n = m
  qq : q = m + d
  m32 : -2147483648 ≤ m ∧ m ≤ 2147483647
  dD : D = fo L
  eE : E = fo M
  dB : D = vb (zg m) ++ B
  eB : E = vb (zg q) ++ B
  bB : 0 < B.length ∧ B.length ≤ 524290
theorem told_of (d : Int) (l : List Int) (n : Nat) (e1 : l.length = n) (h0 : 0 < n) (hn : n ≤ 200) (hl : ∀ x ∈ l, -2147483648 ≤ x ∧ x ≤ 2147483647) (hd : -2147483648 ≤ d ∧ d ≤ 2147483647) :
    ∃ z, Told z d (ls l) (ls l + d) n l (adl d l) (fo l) (fo (adl d l)) (foB l) := by
  have hne : l ≠ [] := by intro e; subst e; simp at e1; omega
  have hne2 : adl d l ≠ [] := by intro e; have := congrArg List.length e; simp [adl] at this; exact hne this
  have hz : l[0]? = some l[0] := List.getElem?_eq_getElem (by omega)
  have hi : ∀ x ∈ l, In64 x := fun x hx => by have := hl x hx; unfold In64; omega
  refine ⟨l[0], e1, by simp [adl, e1], hl, hi, ?_, fun k y h => adl_step h, hz, by subst e1; exact lsF_all hz, rfl, hl _ (ls_mem hne), rfl, rfl, fo_ne hne, ?_, ?_⟩
  · intro x hx
    obtain ⟨y, hy, rfl⟩ := List.mem_map.1 hx
    have := hl y hy
    unfold In64
    omega
  · rw [fo_ne hne2]
    unfold adl
    rw [foB_shift d hne, ls_shift d hne]
  · exact ⟨by unfold foB; simp, foB_length hi (by omega)⟩
set_option maxHeartbeats 4000000 in
theorem shift_main (A : Option Addr) (n c : Nat) (z d m q : Int) (L M : List Int) (D E B : List Nat) (w : World) (hr : Reads w w.heap.size 1 A n (hs32 L)) (h : Told z d m q n L M D E B) (hd32 : -2147483648 ≤ d ∧ d ≤ 2147483647) (hn : n ≤ 200) (h1n : 0 < n) :
    Calls Try.prog 4 #[.slice A n c, .int .i32 d] w fun e w' => e = .returned (.bool true) ∧ Below w.heap.size w w' := by
  obtain ⟨i1, hi1, hy0, hy1, hy2⟩ := info_parts info_i64
  have hm64 : In64 m := by have := h.m32; unfold In64; omega
  have hq64 : In64 q := by have := h.m32; have := h.qq; unfold In64; omega
  have hzg := (zg_int hm64).2
  have hqg := (zg_int hq64).2
  have hqw : wrap64 (m + d) = q := by rw [← h.qq]; exact w64_id hq64
  have HT := Lib.hid h
  clear h
  have d1 : decide ((200 : Int) < (n : Int)) = false := by simp; omega
  have d0 : ((n : Int) == 0) = false := by simp; omega
  obtain ⟨ad, u, rfl, _, hu, hc⟩ := hr.at_ h1n
  obtain ⟨z', hz', rfl⟩ := hs32_at hu
  obtain rfl : z' = z := by rw [HT.out.l0] at hz'; exact (Option.some.inj hz').symm
  have hc0 : w.cell? ad = some (.int .i32 z') := by simpa [Addr.add] using hc
  have hz64 : wrap64 z' = z' := w64_id (HT.out.inL z' (List.mem_of_getElem? hz'))
  have hd64 : wrap64 d = d := w64_id (by unfold In64; omega)
  clear hu hc hz'
  go_enter Try.func4, Try.ntmps4
  go_wp2_with fail
  rw [hz64]
  go_loopw [5, 6, 7, 8] (fun s5 s6 s7 s8 wr => ∃ (k : Nat) (y : Int), k ≤ n ∧ s8 = .int .i64 (k : Int) ∧ s7 = .int .i64 y ∧ Hid (y = lsF z' L k) ∧ Two wr w.heap.size 2 s5 s6 k k (zs (L.take k)) (zs (M.take k)) ∧ Below w.heap.size w wr) (fun _ _ _ i _ => n - (intOf i).toNat)
  case atStart => exact ⟨0, z', by omega, rfl, rfl, Lib.hid rfl, Two.nil _ _ _, Below.refl _ _⟩
  case round =>
    obtain ⟨k, y, hk, rfl, rfl, hy, htwo, hb⟩ := hrel
    have hsz := hb.size
    by_cases hlt : k < n
    · obtain ⟨ad', u, e', _, hu, hc⟩ := (hr.below hb).at_ hlt
      injection e' with e'
      subst e'
      obtain ⟨x, hx, rfl⟩ := hs32_at hu
      have hx32 := HT.out.in32 x (List.mem_of_getElem? hx)
      have hx64 : wrap64 x = x := w64_id (HT.out.inL x (List.mem_of_getElem? hx))
      have hxd : wrap64 (x + d) = x + d := w64_id (by unfold In64; omega)
      have HS := Lib.hid (HT.out.step k x hx)
      have HY := Lib.hid (lsF_step (z := z') hx)
      have HX := Lib.hid hx
      clear hu hx
      go_wp2_with (first
        | (at_builtin
           refine wpList_append_any _ rfl (.tmp 34) (.tmp 40) _ rfl w.heap.size 2 i1 _ 1 8 Try.underlying22 hi1 hy0 hy1 hy2 rfl (by omega) u5 k (zs (L.take k)) rfl
             (htwo.1.alloc _) (wr.heap.size + 1) (some ⟨wr.heap.size, 0, none⟩) 1 1 [.int .i64 x] rfl (Reads.new wr _ _) (one_int _ _) (by unfold maxLen; omega) (by omega) (by simp; omega) ?_
           intro v4 w4 hown4 hg4 hat4
           have htwo4 := htwo.grown hown4 hg4 hat4
           have hb4 := below_app hb htwo.1 hsz hg4
           have hsz4 := hb4.size
           obtain ⟨ad4, u4, e4, _, hu4, hc4⟩ := (hr.below hb4).at_ hlt
           injection e4 with e4
           subst e4
           have hu4' : u4 = .int .i32 x := by
             obtain ⟨x', hx', rfl⟩ := hs32_at hu4
             rw [HX.out] at hx'
             rw [Option.some.inj hx']
           subst hu4'
           clear hu4)
        | (at_builtin
           refine wpList_append_any _ rfl (.tmp 42) (.tmp 51) _ rfl w.heap.size 2 i1 _ 1 8 Try.underlying22 hi1 hy0 hy1 hy2 rfl (by omega) u6 k (zs (M.take k)) rfl
             (htwo4.2.1.alloc _) (w4.heap.size + 1) (some ⟨w4.heap.size, 0, none⟩) 1 1 [.int .i64 (x + d)] rfl (Reads.new w4 _ _) (one_int _ _) (by unfold maxLen; omega) (by omega) (by simp; omega) ?_
           intro v5 w5 hown5 hg5 hat5
           have htwo5 := (htwo4.swap.grown hown5 hg5 hat5).swap
           have hb5 := below_app hb4 htwo4.2.1 hsz4 hg5
           obtain ⟨ad5, u5', e5, _, hu5, hc5⟩ := (hr.below hb5).at_ hlt
           injection e5 with e5
           subst e5
           have hu5' : u5' = .int .i32 x := by
             obtain ⟨x', hx', rfl⟩ := hs32_at hu5
             rw [HX.out] at hx'
             rw [Option.some.inj hx']
           subst hu5'
           clear hu5))
      go_round
      case rel =>
        refine ⟨k + 1, _, by omega, by go_num, rfl, Lib.hid ?_, ?_, hb5⟩
        · rw [HY.out, ← hy.out]
        · rw [HS.out, ← zs_snoc, take_snoc HX.out, ← zs_snoc]
          exact htwo5
      case measure => simp [intOf]; omega
    · obtain rfl : k = n := by omega
      obtain rfl : y = m := by rw [hy.out, HT.out.mm]
      rw [List.take_of_length_le (by rw [HT.out.len]; omega), List.take_of_length_le (by rw [HT.out.mlen]; omega)] at htwo
      obtain ⟨A5, c5, rfl, _, _, r5⟩ := own_slice htwo.1
      obtain ⟨A6, c6, rfl, _, _, r6⟩ := own_slice htwo.2.1
      clear hy htwo hr hc0 hz64
      go_wp2_with fail
      refine (foPut_any A5 k c5 L wr r5 HT.out.inL (by omega)).mono ?_
      rintro e w9 ⟨v9, rfl, hown9, hb9⟩
      rw [← HT.out.dD] at hown9
      obtain ⟨A9, c9, rfl, hc9, _, r9⟩ := own_slice hown9
      have hb09 := hb.trans (hb9.mono hb.size)
      have r69 := r6.next hb9
      clear hown9 r5 r6 hb9 hsz
      go_wp2_with fail
      refine (foPut_any A6 k c6 M w9 r69 HT.out.inM (by omega)).mono ?_
      rintro e wa ⟨va, rfl, howna, hba⟩
      rw [← HT.out.eE] at howna
      obtain ⟨Aa, ca, rfl, hca, _, ra⟩ := own_slice howna
      have hb0a := hb09.trans (hba.mono hb09.size)
      have r9a := r9.next hba
      clear howna r69 r9 hba hb09
      go_wp2_with fail
      refine (refZigN_any y wa hm64).mono ?_
      rintro e w' ⟨rfl, rfl⟩
      go_wp2_with fail
      refine (refVar_any (zg y) wa hzg).mono ?_
      intro e2 wb hNb
      obtain ⟨Ab, cb, rfl, _, rb, hbb⟩ := hNb.opened
      have hb0b := hb0a.trans (hbb.mono hb0a.size)
      have r9b := r9a.next hbb
      have rab := ra.next hbb
      clear hNb r9a ra hbb hb0a
      go_wp2_with fail
      refine (refZigN_any q wb hq64).mono ?_
      rintro e w' ⟨rfl, rfl⟩
      go_wp2_with fail
      refine (refVar_any (zg q) wb hqg).mono ?_
      intro e2 wc hNc
      obtain ⟨Ac, cc, rfl, _, rc, hbc⟩ := hNc.opened
      have hb0c := hb0b.trans (hbc.mono hb0b.size)
      have r9c := r9b.next hbc
      have rac := rab.next hbc
      have rbc := rb.next hbc
      clear hNc r9b rab rb hbc hb0b
      have hX : D.length = (vb (zg y)).length + B.length := by rw [HT.out.dB, List.length_append]
      have hY : E.length = (vb (zg q)).length + B.length := by rw [HT.out.eB, List.length_append]
      have hDb : D.drop (vb (zg y)).length = B := by rw [HT.out.dB]; simp
      have hEb : E.drop (vb (zg q)).length = B := by rw [HT.out.eB]; simp
      have hDa : D.take (vb (zg y)).length = vb (zg y) := by rw [HT.out.dB]; simp
      have hEa : E.take (vb (zg q)).length = vb (zg q) := by rw [HT.out.eB]; simp
      obtain ⟨hb0, hb64⟩ := HT.out.bB
      have hv1 := (vb_length (zg y)).2
      have hv2 := (vb_length (zg q)).2
      obtain ⟨b, hbl⟩ : ∃ b, b = B.length := ⟨_, rfl⟩
      obtain ⟨X, hXd⟩ : ∃ X, X = D.length := ⟨_, rfl⟩
      obtain ⟨Y, hYd⟩ : ∃ Y, Y = E.length := ⟨_, rfl⟩
      obtain ⟨p1, hp1⟩ : ∃ g, g = vb (zg y) := ⟨_, rfl⟩
      obtain ⟨p2, hp2⟩ : ∃ g, g = vb (zg q) := ⟨_, rfl⟩
      rw [← hp1] at hX hDb hDa hv1 rbc
      rw [← hp2] at hY hEb hEa hv2 rc
      rw [← hp1, ← hp2]
      obtain ⟨g1, hg1⟩ : ∃ g, g = p1.length := ⟨_, rfl⟩
      obtain ⟨g2, hg2⟩ : ∃ g, g = p2.length := ⟨_, rfl⟩
      rw [← hXd] at hX r9c hc9
      rw [← hYd] at hY rac hca
      rw [← hg1] at hX hDb hDa hv1 rbc
      rw [← hg2] at hY hEb hEa hv2 rc
      rw [← hbl] at hX hY hb0 hb64
      rw [← hXd, ← hYd, ← hg1, ← hg2]
      have k9 := cutB r9c (by omega) hc9 hDb (show X - g1 = b by omega)
      have ka := cutB rac (by omega) hca hEb (show Y - g2 = b by omega)
      have f9 := r9c.fore (k := g1) (by omega)
      have fa := rac.fore (k := g2) (by omega)
      rw [Nat.mul_one, bs_take, hDa] at f9
      rw [Nat.mul_one, bs_take, hEa] at fa
      have hn9 : ¬ c9 = g1 := by omega
      have hna : ¬ ca = g2 := by omega
      rw [if_neg hn9] at k9
      rw [if_neg hna] at ka
      have S1 := Lib.hid (same_yields A9 Ab g1 c9 cb p1 wc f9 rbc (by omega))
      have S2 := Lib.hid (same_yields Aa Ac g2 ca cc p2 wc fa rc (by omega))
      have S3 := Lib.hid (same_yields (Option.map (fun x => x.add g1) A9) (Option.map (fun x => x.add g2) Aa) b (c9 - g1) (ca - g2) B wc k9 ka (by omega))
      have S4 := Lib.hid (awake_yields wc)
      have x1 : X - g1 = b := by omega
      have x2 : Y - g2 = b := by omega
      have x3 : g1 ≤ X := by omega
      have x4 : g2 ≤ Y := by omega
      have x5 : g1 < X := by omega
      have x6 : g2 < Y := by omega
      have x7 : (g1 : Int) ≤ (X : Int) := by omega
      have x8 : (g2 : Int) ≤ (Y : Int) := by omega
      have x9 : g1 ≤ c9 := by omega
      have xa : g2 ≤ ca := by omega
      clear hX hY hDb hEb hDa hEa k9 ka f9 fa r9c rac rbc rc hbl hXd hYd hg1 hg2 hp1 hp2
      go_wp2_with fail
      refine wp_region_quiet_below (by kernel_rfl) (by kernel_rfl) ?_
      repeat (go_big_quiet_step (first
        | (go_at_call 7; with_reducible exact S1.out.quiet _ _)
        | (go_at_call 7; with_reducible exact S2.out.quiet _ _)
        | (go_at_call 7; with_reducible exact S3.out.quiet _ _)
        | (go_at_call 5; exact S4.out.quiet _ _)))
      refine wpQuiet_nil ?_
      intro _ hw'
      obtain ⟨p, hw''⟩ := hw'
      subst hw''
      have hbp := below_regrown wc p.d p.os
      go_wp2_with fail
      go_ret
      exact ⟨rfl, hb0c.trans (hbp.mono hb0c.size)⟩
theorem shift_any (A : Option Addr) (n c : Nat) (d : Int) (l : List Int) (w : World) (hr : Reads w w.heap.size 1 A n (hs32 l)) (hl : ∀ x ∈ l, -2147483648 ≤ x ∧ x ≤ 2147483647) (hd : -2147483648 ≤ d ∧ d ≤ 2147483647) :
    Calls Try.prog 4 #[.slice A n c, .int .i32 d] w fun e w' => e = .returned (.bool true) ∧ Below w.heap.size w w' := by
  have e1 : l.length = n := by have := hr.1; rw [hs32_length] at this; omega
  by_cases h : 200 < n ∨ n = 0
  · exact shift_else A n c d w h
  · obtain ⟨z, ht⟩ := told_of d l n e1 (by omega) (by omega) hl hd
    exact shift_main A n c z d _ _ _ _ _ _ _ w hr ht hd (by omega) (by omega)
end Go.Proofs.Ytpjmenaejfdiaaa
