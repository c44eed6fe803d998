/- The walk of the statement DeltaShift: where the same is added to all numbers, the steps behind the first stay, and so does their form. -/
import Derived.Deep.RegionWith
import Derived.BigGuard
import Derived.Lib.QuietBelow
import Derived.Test.YteadmjgkmjeanaaDlAwake
import Derived.Test.YteadmjgkmjeanaaRefZigN
import Derived.Test.YteadmjgkmjeanaaRefPVar
import Derived.Test.YteadmjgkmjeanaaSameZ
namespace Go.Proofs.Yteadmjgkmjeanaa
open Go.RowKit
set_option linter.unusedVariables false
set_option linter.unusedSimpArgs false
set_option maxRecDepth 100000

/-- All numbers, with the same added (it goes round). -/
def shl (d : Int) (l : List Int) : List Int := l.map fun y => wrap64 (y + d)
theorem shl_length (d : Int) (l : List Int) : (shl d l).length = l.length := by simp [shl]
theorem shl_in (d : Int) (l : List Int) : ∀ z ∈ shl d l, In64 z := by
  intro z h
  obtain ⟨y, _, rfl⟩ := List.mem_map.1 h
  exact w64_in _
theorem shl_step {d : Int} {l : List Int} {k : Nat} {z : Int} (h : l[k]? = some z) : (shl d l).take (k + 1) = (shl d l).take k ++ [wrap64 (z + d)] := by
  rw [List.take_add_one]; simp [shl, h]
theorem shift_else (A : Option Addr) (n c : Nat) (d : Int) (w : World) (h : 200 < n ∨ n = 0) :
    Calls Try.prog 4 #[.slice A n c, .int .i64 d] w fun e w' => e = .returned (.bool true) ∧ Below w.heap.size w w' := by
  by_cases h1 : 200 < n
  · clear h
    go_enter Try.func4, Try.ntmps4
    go_wp2_with fail
    refine (awake_any w).mono ?_
    rintro e w1 ⟨rfl, hb⟩
    go_wp2_with fail
    go_ret
    exact ⟨rfl, hb⟩
  · obtain rfl : n = 0 := by omega
    clear h
    go_enter Try.func4, Try.ntmps4
    go_wp2_with fail
    refine (awake_any w).mono ?_
    rintro e w1 ⟨rfl, hb⟩
    go_wp2_with fail
    go_ret
    exact ⟨rfl, hb⟩
/-- What a call answers wherever what stood below stands, and that it leaves that. -/
def Yields (B : Nat) (w : World) (f : FuncId) (args : Array Value) (v : Value) : Prop :=
  ∀ W, Below B w W → Calls Try.prog f args W fun e w' => e = .returned v ∧ Below B w w'
theorem below_drew {B : Nat} {w W : World} (h : Below B w W) : Below B w W.drew := ⟨h.os, h.tape, h.output, h.size, h.block⟩
theorem Yields.quiet {w : World} {f : FuncId} {args : Array Value} {v : Value} (h : Yields w.heap.size w f args v) (d : Nat) (os : Array Obj) :
    Calls Try.prog f args (Go.Sort.grow (redrawn w d) os) fun e w'' => e = .returned v ∧ ∃ p : Regrown, w'' = Go.Sort.grow (redrawn w p.d) p.os :=
  (h _ (below_regrown w d os)).mono fun _ _ ⟨he, hb⟩ => ⟨he, regrown_of_below hb⟩
theorem sameZ_yields (A A' : Option Addr) (n c c' : Nat) (l : List Int) (w : World) (h1 : Reads w w.heap.size 1 A n (zs l)) (h2 : Reads w w.heap.size 1 A' n (zs l)) (hn : n ≤ 140737488355328) :
    Yields w.heap.size w 9 #[.slice A n c, .slice A' n c'] (.bool true) := by
  intro W hb
  refine (sameZ_true A A' n c c' l W (h1.next hb) (h2.next hb) hn).mono ?_
  rintro e w1 ⟨rfl, hd⟩
  exact ⟨rfl, hd.below hb⟩
theorem same_yields (A A' : Option Addr) (n c c' : Nat) (l : List Nat) (w : World) (h1 : Reads w w.heap.size 1 A n (bs l)) (h2 : Reads w w.heap.size 1 A' n (bs l)) (hn : n ≤ 140737488355328) :
    Yields w.heap.size w 7 #[.slice A n c, .slice A' n c'] (.bool true) := by
  intro W hb
  refine (same_true A A' n c n c' l W (h1.next hb) (h2.next hb) hn).mono ?_
  rintro e w1 ⟨rfl, hd⟩
  exact ⟨rfl, hd.below hb⟩
theorem awake_yields (w : World) : Yields w.heap.size w 5 #[] (.bool true) := by
  intro W hb
  refine (awake_any W).mono ?_
  rintro e w1 ⟨rfl, hb1⟩
  exact ⟨rfl, hb.trans (hb1.mono hb.size)⟩
/-- What the walk is told of the lists. -/
structure Told (z d q : Int) (n : Nat) (L M S T : List Int) (D E B : List Nat) : Prop where
  len : L.length = n
  mlen : M.length = n
  inL : ∀ x ∈ L, In64 x
  inM : ∀ x ∈ M, In64 x
  step : ∀ k y, L[k]? = some y → M.take (k + 1) = M.take k ++ [wrap64 (y + d)]
  l0 : L[0]? = some z
  m0 : M[0]? = some q
  s0 : S[0]? = some z
  t0 : T[0]? = some q
  back : T.drop 1 = S.drop 1
  sS : S = stp 0 L
  tT : T = stp 0 M
  dD : D = dl L
  eE : E = dl M
  dB : D = vb (zg z) ++ B
  eB : E = vb (zg q) ++ B
theorem told_of (z d : Int) (r : List Int) (n : Nat) (e1 : (z :: r).length = n) (hl : ∀ x ∈ z :: r, In64 x) :
    Told z d (wrap64 (z + d)) n (z :: r) (shl d (z :: r)) (stp 0 (z :: r)) (stp 0 (shl d (z :: r))) (dl (z :: r)) (dl (shl d (z :: r))) (dl2 (z :: r) ++ dl3 (z :: r)) := by
  have hz := hl z (by simp)
  have hq64 := w64_in (z + d)
  refine ⟨e1, by rw [shl_length, e1], hl, shl_in d _, fun k y h => shl_step h, rfl, rfl, ?_, ?_, drop_shift d _, rfl, rfl, rfl, rfl, ?_, ?_⟩
  · simp only [stp]; rw [show z - 0 = z by omega, w64_id hz]; simp
  · simp only [shl, List.map_cons, stp]; rw [show wrap64 (z + d) - 0 = wrap64 (z + d) by omega, w64_id hq64]; simp
  · unfold dl; rw [dl1_cons, List.append_assoc]
  · have := dl_shift d (z :: r)
    unfold dl
    rw [List.append_assoc]
    unfold shl
    rw [this]
    rfl
theorem cell0 {w : World} {B n : Nat} {ad : Addr} {l : List Int} {z : Int} (h : Reads w B 1 (some ad) n (zs l)) (hn : 0 < n) (h0 : l[0]? = some z) : w.cell? ad = some (.int .i64 z) := by
  obtain ⟨ad', e, _, hc⟩ := h.2 hn
  injection e with e
  subst e
  simpa [Addr.add] using hc 0 _ (zs_some h0)
theorem cutZ {w : World} {A : Option Addr} {n c : Nat} {l : List Int} (h : Reads w w.heap.size 1 A n (zs l)) (hn : 0 < n) (hc : n ≤ c) : Reads w w.heap.size 1 (if c = 1 then A else Option.map (fun x => { block := x.block, off := x.off + 1 }) A) (n - 1) (zs (l.drop 1)) := by
  have ef : (fun x : Addr => x.add 1) = fun x => { block := x.block, off := x.off + 1 } := by funext x; simp [Addr.add]
  rw [← ef]
  have := h.cut (k := 1) (cap := c) (by omega) hc
  simp only [Nat.mul_one] at this
  rwa [show (zs l).drop 1 = zs (l.drop 1) by simp [zs]] at this
theorem cutB {w : World} {A : Option Addr} {n c k m : Nat} {l t : List Nat} (h : Reads w w.heap.size 1 A n (bs l)) (hk : k ≤ n) (hc : n ≤ c) (ht : l.drop k = t) (hm : n - k = m) : Reads w w.heap.size 1 (if c = k then A else Option.map (fun x => x.add k) A) m (bs t) := by
  have := h.cut (k := k) (cap := c) hk hc
  simp only [Nat.mul_one] at this
  rwa [bs_drop, ht, hm] at this
set_option maxHeartbeats 2000000 in
theorem shift_main (A : Option Addr) (n c : Nat) (z d q : Int) (L M S T : List Int) (D E B : List Nat) (w : World) (hr : Reads w w.heap.size 1 A n (zs L)) (h : Told z d q n L M S T D E B) (hq : q = wrap64 (z + d)) (hn : n ≤ 200) (h1n : 0 < n) :
    Calls Try.prog 4 #[.slice A n c, .int .i64 d] w fun e w' => e = .returned (.bool true) ∧ Below w.heap.size w w' := by
  obtain ⟨i1, hi1, hy0, hy1, hy2⟩ := info_parts info_i64
  have hz := h.inL z (List.mem_of_getElem? h.l0)
  have hq64 := h.inM q (List.mem_of_getElem? h.m0)
  have hzg := (zg_int hz).2
  have hqg := (zg_int hq64).2
  have HT := Lib.hid h
  clear h
  have d1 : decide ((200 : Int) < (n : Int)) = false := by simp; omega
  have d0 : ((n : Int) == 0) = false := by simp; omega
  obtain ⟨ad, u, rfl, _, hu, hc⟩ := hr.at_ h1n
  have hu' : u = .int .i64 z := by rw [zs_some HT.out.l0] at hu; exact (Option.some.inj hu).symm
  subst hu'
  clear hu hc
  go_enter Try.func4, Try.ntmps4
  go_wp2_with fail
  go_loopw [5, 6] (fun s5 s6 wr => ∃ k : Nat, k ≤ n ∧ s6 = .int .i64 (k : Int) ∧ wr.ownsRow w.heap.size 2 1 s5 k (zs (M.take k)) ∧ Below w.heap.size w wr) (fun _ i _ => n - (intOf i).toNat)
  case atStart => exact ⟨0, by omega, rfl, own_nil _ _ _ _, Below.refl _ _⟩
  case round =>
    obtain ⟨k, hk, rfl, hown, hb⟩ := hrel
    have hsz := hb.size
    by_cases hlt : k < n
    · obtain ⟨ad', u, e', _, hu, hc⟩ := (hr.below hb).at_ hlt
      injection e' with e'
      subst e'
      obtain ⟨x, hx, rfl⟩ := zs_at hu
      have HS := Lib.hid (HT.out.step k x hx)
      clear hu hx
      go_wp2_with (at_builtin
                   refine wpList_append_any _ rfl (.tmp 30) (.tmp 37) _ rfl w.heap.size 2 i1 _ 1 8 Try.underlying22 hi1 hy0 hy1 hy2 rfl (by omega) u5 k (zs (M.take k)) rfl
                     (hown.alloc _) (wr.heap.size + 1) (some ⟨wr.heap.size, 0, none⟩) 1 1 [.int .i64 (wrap64 (x + d))] rfl (Reads.new wr _ _) (one_int _ _) (by unfold maxLen; omega) (by omega) (by simp; omega) ?_
                   intro v4 w4 hown4 hg4 hat4)
      go_round
      case rel =>
        refine ⟨k + 1, by omega, by go_num, ?_, below_app hb hown hsz hg4⟩
        rw [HS.out, ← zs_snoc]
        exact hown4
      case measure => simp [intOf]; omega
    · obtain rfl : k = n := by omega
      rw [List.take_of_length_le (by rw [HT.out.mlen]; omega)] at hown
      obtain ⟨A5, c5, rfl, _, _, r5⟩ := own_slice hown
      have r1 := hr.next hb
      obtain ⟨ad5, u, rfl, _, hu, hc⟩ := r5.at_ h1n
      clear hu hc hown
      go_wp2_with fail
      refine (steps_n _ k c L wr r1 (by omega)).mono ?_
      rintro e w7 ⟨A7, c7, rfl, hc7, _, r7, hb7⟩
      rw [← HT.out.sS] at r7
      have hb07 := hb.trans (hb7.mono hb.size)
      have r17 := r1.next hb7
      have r57 := r5.next hb7
      clear r1 r5 hb7 hsz
      go_wp2_with fail
      refine (steps_n _ k c5 M w7 r57 (by omega)).mono ?_
      rintro e w8 ⟨A8, c8, rfl, hc8, _, r8, hb8⟩
      rw [← HT.out.tT] at r8
      have hb08 := hb07.trans (hb8.mono hb07.size)
      have r18 := r17.next hb8
      have r58 := r57.next hb8
      have r78 := r7.next hb8
      clear r17 r57 r7 hb8 hb07
      go_wp2_with fail
      refine (dlPut_any _ k c L w8 r18 HT.out.inL (by omega)).mono ?_
      rintro e w9 ⟨v9, rfl, hown9, hb9⟩
      rw [← HT.out.dD] at hown9
      obtain ⟨A9, c9, rfl, hc9, _, r9⟩ := own_slice hown9
      have hb09 := hb08.trans (hb9.mono hb08.size)
      have r19 := r18.next hb9
      have r59 := r58.next hb9
      have r79 := r78.next hb9
      have r89 := r8.next hb9
      clear hown9 r18 r58 r78 r8 hb9 hb08
      go_wp2_with fail
      refine (dlPut_any _ k c5 M w9 r59 HT.out.inM (by omega)).mono ?_
      rintro e wa ⟨va, rfl, howna, hba⟩
      rw [← HT.out.eE] at howna
      obtain ⟨Aa, ca, rfl, hca, _, ra⟩ := own_slice howna
      have hb0a := hb09.trans (hba.mono hb09.size)
      have r1a := r19.next hba
      have r5a := r59.next hba
      have r7a := r79.next hba
      have r8a := r89.next hba
      have r9a := r9.next hba
      clear howna r19 r59 r79 r89 r9 hba hb09
      obtain ⟨ad7, u, rfl, _, _, _⟩ := r7a.at_ h1n
      obtain ⟨ad8, u, rfl, _, _, _⟩ := r8a.at_ h1n
      have hc7a := cell0 r7a h1n HT.out.s0
      have hc8a := cell0 r8a h1n HT.out.t0
      have hc1a := cell0 r1a h1n HT.out.l0
      have f1 : wrap64 (z + d) = q := hq.symm
      have f2 : IntKind.i64.wrap (z + d) = q := by rw [IntWalk.i64_left]; exact hq.symm
      clear hq
      go_wp2_with fail
      go_quiet (fail)
      obtain ⟨wx, hwx⟩ : ∃ wx, wx = wa.drewN nq := ⟨_, rfl⟩
      have hbx : Below wa.heap.size wa wx := by rw [hwx]; exact (Drawn.one wa nq).below (Below.refl _ _)
      rw [← hwx]
      have hc1x : wx.cell? ad = some (.int .i64 z) := by rw [hwx]; exact hc1a
      have r5x := r5a.next hbx
      have hb0x := hb0a.trans (hbx.mono hb0a.size)
      clear hc7a hc8a hc1a f1 f2 hwx
      go_wp2_with fail
      refine (refZigN_any z wx hz).mono ?_
      rintro e w' ⟨rfl, rfl⟩
      go_wp2_with fail
      refine (refVar_any (zg z) wx hzg).mono ?_
      intro e2 wb hNb
      obtain ⟨Ab, cb, rfl, _, rb, hbb⟩ := hNb.opened
      have hb0b := hb0x.trans (hbb.mono hb0x.size)
      have hc5b := cell0 (r5x.next hbb) h1n HT.out.m0
      have r7b := (r7a.next hbx).next hbb
      have r8b := (r8a.next hbx).next hbb
      have r9b := (r9a.next hbx).next hbb
      have rab := (ra.next hbx).next hbb
      clear hNb hc1x r5x r5a r7a r8a r9a ra r1a hbx hbb hb0a hb0x
      go_wp2_with fail
      refine (refZigN_any q wb hq64).mono ?_
      rintro e w' ⟨rfl, rfl⟩
      go_wp2_with fail
      refine (refVar_any (zg q) wb hqg).mono ?_
      intro e2 wc hNc
      obtain ⟨Ac, cc, rfl, _, rc, hbc⟩ := hNc.opened
      have hb0c := hb0b.trans (hbc.mono hb0b.size)
      have r7c := r7b.next hbc
      have r8c := r8b.next hbc
      have r9c := r9b.next hbc
      have rac := rab.next hbc
      clear hNc hc5b r7b r8b r9b rab hbc hb0b rb rc
      have hX : D.length = (vb (zg z)).length + B.length := by rw [HT.out.dB, List.length_append]
      have hY : E.length = (vb (zg q)).length + B.length := by rw [HT.out.eB, List.length_append]
      have hDb : D.drop (vb (zg z)).length = B := by rw [HT.out.dB]; simp
      have hEb : E.drop (vb (zg q)).length = B := by rw [HT.out.eB]; simp
      have hb64 : B.length ≤ 524300 := by
        have := dl_length L (by rw [HT.out.len]; omega)
        rw [← HT.out.dD] at this
        omega
      obtain ⟨b, hbl⟩ : ∃ b, b = B.length := ⟨_, rfl⟩
      obtain ⟨X, hXd⟩ : ∃ X, X = D.length := ⟨_, rfl⟩
      obtain ⟨Y, hYd⟩ : ∃ Y, Y = E.length := ⟨_, rfl⟩
      obtain ⟨g1, hg1⟩ : ∃ g, g = (vb (zg z)).length := ⟨_, rfl⟩
      obtain ⟨g2, hg2⟩ : ∃ g, g = (vb (zg q)).length := ⟨_, rfl⟩
      rw [← hXd] at hX r9c hc9
      rw [← hYd] at hY rac hca
      rw [← hg1] at hX hDb
      rw [← hg2] at hY hEb
      rw [← hbl] at hX hY hb64
      rw [← hXd, ← hYd, ← hg1, ← hg2]
      have k9 := cutB r9c (by omega) hc9 hDb (show X - g1 = b by omega)
      have ka := cutB rac (by omega) hca hEb (show Y - g2 = b by omega)
      generalize (some ad7 : Option Addr) = A7 at r7c ⊢
      generalize (some ad8 : Option Addr) = A8 at r8c ⊢
      have k7 := cutZ r7c h1n hc7
      have k8 := cutZ r8c h1n hc8
      rw [HT.out.back] at k8
      obtain ⟨P7, hP7⟩ : ∃ P, (if c7 = 1 then A7 else Option.map (fun x => { block := x.block, off := x.off + 1 }) A7) = P := ⟨_, rfl⟩
      obtain ⟨P8, hP8⟩ : ∃ P, (if c8 = 1 then A8 else Option.map (fun x => { block := x.block, off := x.off + 1 }) A8) = P := ⟨_, rfl⟩
      obtain ⟨P9, hP9⟩ : ∃ P, (if c9 = g1 then A9 else Option.map (fun x => x.add g1) A9) = P := ⟨_, rfl⟩
      obtain ⟨Pa, hPa⟩ : ∃ P, (if ca = g2 then Aa else Option.map (fun x => x.add g2) Aa) = P := ⟨_, rfl⟩
      rw [hP7] at k7
      rw [hP8] at k8
      rw [hP9] at k9
      rw [hPa] at ka
      have S1 := Lib.hid (sameZ_yields P7 P8 (k - 1) (c7 - 1) (c8 - 1) (S.drop 1) wc k7 k8 (by omega))
      have S2 := Lib.hid (same_yields P9 Pa b (c9 - g1) (ca - g2) B wc k9 ka (by omega))
      have S3 := Lib.hid (awake_yields wc)
      have x1 : X - g1 = b := by omega
      have x2 : Y - g2 = b := by omega
      have x3 : g1 ≤ X := by omega
      have x4 : g2 ≤ Y := by omega
      have x5 : 1 ≤ k := h1n
      have x6 : (1 : Int) ≤ (k : Int) := by omega
      have x7 : (g1 : Int) ≤ (X : Int) := by omega
      have x8 : (g2 : Int) ≤ (Y : Int) := by omega
      have HX := Lib.hid hX
      clear hX hY hDb hEb k7 k8 k9 ka r7c r8c r9c rac hbl hXd hYd hg1 hg2
      go_wp2_with fail
      refine wp_region_quiet_below (by kernel_rfl) (by kernel_rfl) ?_
      repeat (go_big_quiet_step (first
        | (go_at_call 9; exact S1.out.quiet _ _)
        | (go_at_call 7; exact S2.out.quiet _ _)
        | (go_at_call 5; exact S3.out.quiet _ _)))
      refine wpQuiet_nil ?_
      intro _ hw'
      obtain ⟨p, hw''⟩ := hw'
      subst hw''
      have hbp := below_regrown wc p.d p.os
      go_wp2_with fail
      go_ret
      exact ⟨rfl, hb0c.trans (hbp.mono hb0c.size)⟩
theorem shift_any (A : Option Addr) (n c : Nat) (d : Int) (l : List Int) (w : World) (hr : Reads w w.heap.size 1 A n (zs l)) (hl : ∀ x ∈ l, In64 x) :
    Calls Try.prog 4 #[.slice A n c, .int .i64 d] w fun e w' => e = .returned (.bool true) ∧ Below w.heap.size w w' := by
  have e1 : l.length = n := by have := hr.1; rw [zs_length] at this; omega
  by_cases h : 200 < n ∨ n = 0
  · exact shift_else A n c d w h
  · cases l with
    | nil => simp at e1; omega
    | cons z r => exact shift_main A n c z d _ _ _ _ _ _ _ _ w hr (told_of z d r n e1 hl) rfl (by omega) (by omega)
end Go.Proofs.Yteadmjgkmjeanaa
