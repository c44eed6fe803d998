/- Texts joined: VlTkR VlVv. -/
import Derived.Test.YtieknhhhcjdbnaaDoorJ27
import Derived.Test.YtieknhhhcjdbnaaDoorJ28
import Derived.Test.YtieknhhhcjdbnaaDoorJ12
/- Contracts of package value's takeRow and TakeRows: the rows that stand there, in new memory, and the reader behind them. -/
namespace Go.Proofs.YtieknhhhcjdbnaaDoor
open Go.RowKit
set_option linter.unusedVariables false
set_option linter.unusedSimpArgs false
set_option maxRecDepth 100000

/-- The reader stands while a value of a row behind it is stored. -/
theorem RdS.val3 {w : World} {g H k : Nat} {b : List Nat} {at_ : Nat} {x : Option (Int × Nat)} {t : TypeId} {cs : Array Value} (hS : RdS w g b at_ x) (hb : Blk w H t cs) (hg : g < H) (ht : t ≠ 98) (u0 u1 u2 : Value) :
    RdS (((w.setCell ⟨H, k * 3, none⟩ u0).setCell ⟨H, k * 3 + 1, none⟩ u1).setCell ⟨H, k * 3 + 2, none⟩ u2) g b at_ x := by
  have b1 := hb.set_ (k * 3) u0
  have b2 := b1.set_ (k * 3 + 1) u1
  exact ((hS.store hb hg ht (k * 3) u0).store b1 hg ht (k * 3 + 1) u1).store b2 hg ht (k * 3 + 2) u2
theorem only_val3 {a w : World} {g H k : Nat} (h : a.grownBy w (some g)) (hH : a.heap.size ≤ H) (u0 u1 u2 : Value) : a.grownBy (((w.setCell ⟨H, k * 3, none⟩ u0).setCell ⟨H, k * 3 + 1, none⟩ u1).setCell ⟨H, k * 3 + 2, none⟩ u2) (some g) :=
  only_setCell (p := ⟨H, k * 3 + 2, none⟩) (only_setCell (p := ⟨H, k * 3 + 1, none⟩) (only_setCell (p := ⟨H, k * 3, none⟩) h (.inr hH) u0) (.inr hH) u1) (.inr hH) u2
/-- A row in new memory, and the reader behind it. -/
def TookV (w : World) (g : Nat) (b : List Nat) (r : List Vl) (at_ : Nat) (x : Option (Int × Nat)) (e : Ending) (w' : World) : Prop :=
  ∃ v, e = .returned v ∧ w'.ownsRow w.heap.size 31 3 v r.length (vs r) ∧ RdTo w g b at_ x w'
set_option maxHeartbeats 2000000 in
theorem takeRow_any {w : World} {g : Nat} {b : List Nat} {at_ : Nat} {x : Option (Int × Nat)} (A : Option Addr) (n c : Nat) (s : List Cl) (hm : Met w) (hS : RdS w g b at_ x) (hx : XOk x) (hs : Reads w w.heap.size 3 A n (cls s)) (hap : Apart A g) (hn : n ≤ 65536) :
    Calls Tryd.prog 40 #[.pointer (some ⟨g, 0, none⟩), .slice A n c] w (TookV w g b (vsS b at_ x n).1 (vsS b at_ x n).2.1 (failS (vsS b at_ x n).2.1 (vsS b at_ x n).2.2 (rwE s (vsS b at_ x n).1))) := by
  have hgw := hS.lt
  have HM := Lib.hid fun (W : World) (h : w.grownBy W (some g)) => hm.rd3 hS h
  have HS := Lib.hid fun (W : World) (h : w.grownBy W (some g)) => hs.off h hap
  have HX := Lib.hid (xok_vsS hx b at_)
  have HNX : Hid (∀ k, vsS b at_ x (k + 1) = ((vsS b at_ x k).1 ++ [(tkV b (vsS b at_ x k).2.1 (vsS b at_ x k).2.2).1], (tkV b (vsS b at_ x k).2.1 (vsS b at_ x k).2.2).2)) := Lib.hid fun k => rfl
  have HZ : Hid (vsS b at_ x 0 = ([], at_, x)) := Lib.hid rfl
  have hol := vsS_length b at_ x n
  have HGT := Lib.hid fun k => vsS_get b at_ x (k := k) (n := n)
  obtain ⟨F, hF⟩ : ∃ f : Nat → List Vl × Nat × Option (Int × Nat), vsS b at_ x = f := ⟨_, rfl⟩
  rw [hF] at HX HNX HZ HGT hol ⊢
  obtain ⟨O, hO⟩ : ∃ O, (F n).1 = O := ⟨_, rfl⟩
  rw [hO] at HGT hol ⊢
  have hmk := fun W => run_make_vals n (by omega) W
  rw [← fillV_zero O n hol] at hmk
  have hF0 := Blk.new w 31 (fillV O 0)
  have hS0 := hS.alloc (.cells (fillV O 0) 31)
  have hG0 := only_alloc (World.grownBy.refl w (some g)) (.cells (fillV O 0) 31)
  have hft : 31 ≠ 98 := by decide
  have HOL := Lib.hid hol; have HO := Lib.hid hO; have HFT := Lib.hid hft
  clear hm hS hx hs hF hol hO hft
  go_enter Tryd.func40, Tryd.ntmps40
  go_wp2_with fail
  clear hmk
  go_loopw [6, 12] (fun _ i wr => ∃ k : Nat, k ≤ n ∧ i = .int .i64 (k : Int) ∧ Blk wr w.heap.size 31 (fillV O k) ∧ RdS wr g b (F k).2.1 (F k).2.2 ∧ w.grownBy wr (some g)) (fun _ i _ => n - (intOf i).toNat)
  case atStart => exact ⟨0, by omega, rfl, hF0, by rw [HZ.out]; exact hS0, hG0⟩
  case round =>
    clear hF0 hS0 hG0
    obtain ⟨k, hk, rfl, hF, hS, hG⟩ := hrel
    by_cases hlt : k < n
    · have htk := takeV_any (HM.out _ hG) hS (HX.out k)
      have hnx := HNX.out k
      have hgt := HGT.out k hlt
      obtain ⟨⟨⟨v0, v1, z⟩, a2, x2⟩, hC⟩ : ∃ y, tkV b (F k).2.1 (F k).2.2 = y := ⟨_, rfl⟩
      rw [hC] at htk hnx hgt
      have htk' : Calls Tryd.prog 7 #[.pointer (some ⟨g, 0, none⟩)] wr fun e w' => e = .returned (.agg #[.int .i64 v0, .int .i64 v1, .string ⟨z.toArray⟩]) ∧ RdTo wr g b a2 x2 w' := htk
      have HTK := Lib.hid htk'; have HN := Lib.hid hnx; have HGK := Lib.hid hgt
      clear htk hnx hgt hC htk' hS
      have hgl : g < w.heap.size := hgw
      go_wp2_with fail
      refine HTK.out.mono ?_
      rintro e w2 ⟨rfl, hS2, hG2⟩
      have hF2 : Blk w2 w.heap.size 31 (fillV O k) := hF.grown hG2 (by simp; omega)
      have hG02 := only_trans hG hG2
      clear hF hG hG2 HTK
      obtain ⟨y0, y1, y2⟩ := fillV_old O k k (Nat.le_refl _) (by rw [HOL.out]; exact hlt)
      rw [← hF2.cell] at y0 y1 y2
      have f0 := hF2.frozen (k * 3); have f1 := hF2.frozen (k * 3 + 1); have f2 := hF2.frozen (k * 3 + 2)
      have hFl := hF2.lt
      have HST := Lib.hid (hF2.val HGK.out)
      have HS3 := Lib.hid (hS2.val3 (k := k) hF2 hgl HFT.out (.int .i64 v0) (.int .i64 v1) (.string ⟨z.toArray⟩))
      have HG3 := Lib.hid (only_val3 (k := k) hG02 (Nat.le_refl _) (.int .i64 v0) (.int .i64 v1) (.string ⟨z.toArray⟩))
      clear hF2 hS2 hG02 HGK
      go_wp2_with fail
      go_round
      case rel => exact ⟨k + 1, by omega, by go_num, HST.out, by rw [HN.out]; exact HS3.out, HG3.out⟩
      case measure => simp [intOf]; omega
    · obtain rfl : k = n := by omega
      rw [fillV_all _ k HOL.out] at hF
      have hown := own_whole3 hF (Nat.le_refl w.heap.size) HOL.out (by unfold maxLen; omega)
      have hrow := Reads.of_own hown
      have hcl := HS.out _ hG
      have hrv := rowV_any A (some ⟨w.heap.size, 0, none⟩) k c k k s O wr hcl hrow (by omega) (by omega)
      obtain ⟨E, hE⟩ : ∃ E, rwE s O = E := ⟨_, rfl⟩
      rw [hE] at hrv
      have HEE := Lib.hid hE
      have hxk := HX.out k
      obtain ⟨a2, ha⟩ : ∃ a, (F k).2.1 = a := ⟨_, rfl⟩
      obtain ⟨x2, hx2⟩ : ∃ a, (F k).2.2 = a := ⟨_, rfl⟩
      rw [ha, hx2] at hS
      have HA := Lib.hid ha; have HX2 := Lib.hid hx2
      have HRV := Lib.hid hrv; have HFL := Lib.hid fun (W : World) (h : RdS W g b a2 x2) => fail_is E h
      clear hrv hE hxk ha hx2 hrow hcl hk hlt
      go_wp2_with fail
      refine HRV.out.mono ?_
      rintro e w2 ⟨rfl, hb2⟩
      have hown2 := own_below hown hb2
      have hS2 := hS.next hb2
      have hG2 := only_below hG hb2
      clear hown hS hG hb2 HRV hF
      go_wp2_with fail
      refine (HFL.out _ hS2).mono ?_
      rintro e w3 ⟨rfl, hS3, hG3⟩
      have hown3 := own_before hown2 hG3 (fun r hr => by injection hr with hr; omega)
      have hG03 := only_trans hG2 hG3
      go_wp2_with fail
      go_ret
      rw [HA.out, HX2.out, HEE.out]
      exact ⟨_, rfl, by rw [HOL.out]; exact hown3, hS3, hG03⟩
/-- Rows in new memory, off the reader's block, and the reader behind them. -/
def TookR (w : World) (g : Nat) (b : List Nat) (r : List (List Vl) × Nat × Option (Int × Nat)) (e : Ending) (w' : World) : Prop :=
  ∃ v us, e = .returned v ∧ w'.ownsRow w.heap.size 47 1 v r.1.length us ∧ AllOff w' v.ownBlock (fun q => q < w.heap.size) us r.1 ∧ RdTo w g b r.2.1 r.2.2 w'
set_option maxHeartbeats 2000000 in
theorem takeR_any {w : World} {g : Nat} {b : List Nat} {at_ : Nat} {x : Option (Int × Nat)} (A : Option Addr) (n c : Nat) (s : List Cl) (hm : Met w) (hS : RdS w g b at_ x) (hx : XOk x) (hs : Reads w w.heap.size 3 A n (cls s)) (hap : Apart A g) (hn : n ≤ 65536) :
    Calls Tryd.prog 14 #[.pointer (some ⟨g, 0, none⟩), .slice A n c] w (TookR w g b (tkR b s at_ x)) := by
  obtain ⟨i0, hi0, hz0, hz1, hz2⟩ := info_parts info_vals
  have hgw := hS.lt
  have hby := hS.byte
  have hsl : s.length = n := by have := hs.1; rw [cls_length] at this; omega
  have HM := Lib.hid fun (W : World) (h : w.grownBy W (some g)) => hm.rd3 hS h
  have HS := Lib.hid fun (W : World) (h : w.grownBy W (some g)) => hs.off h hap
  have hvr := var_is hS
  have hul := varS_lt b hby at_ x
  have hx0 := xok_var hx b at_
  have hT : tkR b s at_ x = (if (if 65536 < (varS b at_ x).1 then failS (varS b at_ x).2.1 (varS b at_ x).2.2 12 else (varS b at_ x).2.2) = none then
      (if (rsS b s (varS b at_ x).2.1 (if 65536 < (varS b at_ x).1 then failS (varS b at_ x).2.1 (varS b at_ x).2.2 12 else (varS b at_ x).2.2) (varS b at_ x).1).2.2 = none then (rsS b s (varS b at_ x).2.1 (if 65536 < (varS b at_ x).1 then failS (varS b at_ x).2.1 (varS b at_ x).2.2 12 else (varS b at_ x).2.2) (varS b at_ x).1).1 else [],
        (rsS b s (varS b at_ x).2.1 (if 65536 < (varS b at_ x).1 then failS (varS b at_ x).2.1 (varS b at_ x).2.2 12 else (varS b at_ x).2.2) (varS b at_ x).1).2.1, (rsS b s (varS b at_ x).2.1 (if 65536 < (varS b at_ x).1 then failS (varS b at_ x).2.1 (varS b at_ x).2.2 12 else (varS b at_ x).2.2) (varS b at_ x).1).2.2)
    else ([], (varS b at_ x).2.1, (if 65536 < (varS b at_ x).1 then failS (varS b at_ x).2.1 (varS b at_ x).2.2 12 else (varS b at_ x).2.2))) := rfl
  have hv0 : ∀ y, (varS b at_ x).2.2 = some y → (varS b at_ x).1 = 0 := by
    intro y hy
    cases x with
    | some z => rfl
    | none =>
      unfold varS at hy ⊢
      simp only at hy ⊢
      split
      · rename_i h1; rw [if_pos h1] at hy; cases hy
      · rfl
  obtain ⟨⟨u, a0, x0⟩, hF⟩ : ∃ y, varS b at_ x = y := ⟨_, rfl⟩
  rw [hF] at hvr hul hT hx0 hv0
  simp only at hvr hul hT hx0 hv0
  have HVR := Lib.hid hvr
  clear hvr hm hS hx hF hby
  by_cases hbig : 65536 < u
  · rw [if_pos hbig] at hT
    have hx0n : x0 = none := by
      cases x0 with
      | none => rfl
      | some y => have := hv0 y rfl; omega
    subst hx0n
    rw [show failS a0 none 12 = some ((12 : Int), a0) from rfl, if_neg (by simp)] at hT
    rw [hT]
    have HFL := Lib.hid fun (W : World) (h : RdS W g b a0 none) => fail_is 12 h
    have d1 : decide ((65536 : Int) < (u : Int)) = true := by simp; omega
    clear hT hx0 hv0 hs hbig
    go_enter Tryd.func14, Tryd.ntmps14
    go_wp2_with fail
    refine HVR.out.mono ?_
    rintro e w1 ⟨rfl, hS1, hG1⟩
    go_wp2_with fail
    refine (HFL.out _ hS1).mono ?_
    rintro e w2 ⟨rfl, hS2, hG2⟩
    go_wp2_with fail
    go_ret
    exact ⟨_, [], rfl, own_nil _ _ _ _, AllOff.nil _ _ _, hS2, only_trans hG1 hG2⟩
  · rw [if_neg hbig] at hT
    have hu : u ≤ 65536 := by omega
    have d1 : decide ((65536 : Int) < (u : Int)) = false := by simp; omega
    have HX := Lib.hid (xok_rsS hx0 b s a0)
    have HNX : Hid (∀ k, rsS b s a0 x0 (k + 1) = ((rsS b s a0 x0 k).1 ++ [(vsS b (rsS b s a0 x0 k).2.1 (rsS b s a0 x0 k).2.2 n).1], (vsS b (rsS b s a0 x0 k).2.1 (rsS b s a0 x0 k).2.2 n).2.1, failS (vsS b (rsS b s a0 x0 k).2.1 (rsS b s a0 x0 k).2.2 n).2.1 (vsS b (rsS b s a0 x0 k).2.1 (rsS b s a0 x0 k).2.2 n).2.2 (rwE s (vsS b (rsS b s a0 x0 k).2.1 (rsS b s a0 x0 k).2.2 n).1))) := Lib.hid fun k => by subst hsl; rfl
    have HZ : Hid (rsS b s a0 x0 0 = ([], a0, x0)) := Lib.hid rfl
    have HLN := Lib.hid (rsS_length b s a0 x0)
    have HSTOP : Hid (∀ k y, (rsS b s a0 x0 k).2.2 = some y → ∀ j, (rsS b s a0 x0 (k + j)).2 = ((rsS b s a0 x0 k).2.1, some y)) := Lib.hid fun k y h j => rsS_stop h j
    have HER : Hid (x0 = none ∨ u = 0) := Lib.hid (by
      cases x0 with
      | none => exact .inl rfl
      | some y => exact .inr (hv0 y rfl))
    have HT : Hid (∀ k y, k ≤ u → (rsS b s a0 x0 k).2.2 = some y → 0 < u → tkR b s at_ x = ([], (rsS b s a0 x0 k).2.1, some y)) := Lib.hid (by
      intro k y hk hy h0
      have hn0 : x0 = none := HER.out.resolve_right (by omega)
      have hst := HSTOP.out k y hy (u - k)
      rw [show k + (u - k) = u by omega] at hst
      rw [hT, if_pos hn0, hst]
      simp)
    have HT2 : Hid ((rsS b s a0 x0 u).2.2 = none → tkR b s at_ x = rsS b s a0 x0 u) := Lib.hid (by
      intro h0
      have hn0 : x0 = none := by
        cases hx : x0 with
        | none => rfl
        | some y =>
          have := HSTOP.out 0 y (by rw [HZ.out]; exact hx) u
          rw [Nat.zero_add] at this
          rw [this] at h0; cases h0
      rw [hT, if_pos hn0, h0, if_pos rfl]
      exact Prod.ext rfl (Prod.ext rfl h0.symm))
    have HT3 : Hid (∀ y, x0 = some y → tkR b s at_ x = ([], a0, some y)) := Lib.hid (by
      intro y hy
      rw [hT, hy, if_neg (by simp)])
    obtain ⟨F, hFd⟩ : ∃ f : Nat → List (List Vl) × Nat × Option (Int × Nat), rsS b s a0 x0 = f := ⟨_, rfl⟩
    rw [hFd] at HX HNX HZ HLN HSTOP HT HT2
    clear hT hx0 hv0 hsl hs hFd hbig
    go_enter Tryd.func14, Tryd.ntmps14
    go_wp2_with fail
    refine HVR.out.mono ?_
    rintro e w1 ⟨rfl, hS1, hG1⟩
    go_wp2_with fail
    go_loopw [6, 14] (fun v i wr => ∃ (k : Nat) (us : List Value), k ≤ u ∧ i = .int .u64 (k : Int) ∧ wr.ownsRow w.heap.size 47 1 v k us ∧ AllOff wr v.ownBlock (fun q => q < w.heap.size) us (F k).1 ∧ RdS wr g b (F k).2.1 (F k).2.2 ∧ w.grownBy wr (some g) ∧ Hid ((F k).2.2 = none ∨ u = 0)) (fun _ i _ => u - (intOf i).toNat)
    case atStart => exact ⟨0, [], Nat.zero_le _, rfl, own_nil _ _ _ _, by rw [HZ.out]; exact AllOff.nil _ _ _, by rw [HZ.out]; exact hS1, hG1, Lib.hid (by rw [HZ.out]; exact HER.out)⟩
    case round =>
      clear hS1 hG1 HVR
      obtain ⟨k, us, hk, rfl, hown, hoff, hS, hG, hE⟩ := hrel
      have hul := hown.1
      by_cases hlt : k < u
      · have htk := takeRow_any A n c s (HM.out _ hG) hS (HX.out k) (HS.out _ hG) hap hn
        have hnx := HNX.out k
        have hxk := HX.out (k + 1)
        have hT1 := HT.out (k + 1)
        have hrl := vsS_length b (F k).2.1 (F k).2.2 n
        rw [hnx] at hxk hT1
        obtain ⟨⟨r, a2, x2⟩, hC⟩ : ∃ y, vsS b (F k).2.1 (F k).2.2 n = y := ⟨_, rfl⟩
        rw [hC] at htk hnx hxk hT1 hrl
        simp only at htk hnx hxk hT1 hrl
        obtain ⟨x3, hx3⟩ : ∃ y, failS a2 x2 (rwE s r) = y := ⟨_, rfl⟩
        rw [hx3] at htk hnx hxk hT1
        have HTK := Lib.hid htk; have HN := Lib.hid hnx; have HXK := Lib.hid hxk; have HT1 := Lib.hid hT1
        have hlnk := HLN.out k
        obtain ⟨A6, c6, rfl, _, _, _⟩ := own_slice hown
        clear htk hnx hxk hT1 hC hx3 hE hS
        go_wp2_with fail
        refine HTK.out.mono ?_
        rintro e w2 ⟨v2, rfl, hown2, hS2, hG2⟩
        have ho2 := own_before hown hG2 (fun q hq => by injection hq with hq; omega)
        have hof2 := hoff.rd hG2 hgw
        have hG02 := only_trans hG hG2
        have hwz := hG.size
        have hown2b := own_base hown2 hwz
        have hnv : OffV w2 (Value.slice A6 k c6).ownBlock (fun q => q < w.heap.size) v2 r := OffV.of_own hown2 rfl (fun q hq => (hown.lt q hq).2) (fun q hq => Nat.lt_of_lt_of_le hq hwz)
        have hv1 := hnv.one
        have hnv0 := hnv
        obtain ⟨A2, c2, e2, _⟩ := hnv0
        subst e2
        clear hown hoff hG hG2 HTK hown2 hown2b
        have hb2 := hG02.size
        obtain ⟨rl, hrl2⟩ : ∃ q, r.length = q := ⟨_, rfl⟩
        have HNV := Lib.hid hnv
        rw [hrl2] at HNV
        have HBA : Hid (∀ o, Below w2.heap.size w2 (w2.alloc o)) := Lib.hid fun o => (Below.refl _ _).alloc (Nat.le_refl _) o
        have hull : us.length = k := by omega
        have HUL : Hid (us.length = (F k).1.length) := Lib.hid (by rw [hlnk, hull])
        clear hnv hrl hul hull hv1
        rw [hrl2]
        go_wp2_with (at_builtin
                     refine wpList_append_any _ rfl (.tmp 16) (.tmp 20) _ rfl w.heap.size 47 i0 _ 1 24 Tryd.underlying39 hi0 hz0 hz1 hz2 rfl (by omega) (.slice A6 k c6) k us rfl
                       (ho2.alloc _) (w2.heap.size + 1) (some ⟨w2.heap.size, 0, none⟩) 1 1 [.slice A2 rl c2] rfl (Reads.new w2 _ _) (by intro u hu; simp at hu; subst hu; rfl) (by unfold maxLen; omega) (by omega) (by simp; omega) ?_
                     intro v3 w3 hown3 hg3 hat3
                     have hof3 := ((hof2.next (HBA.out _)).grown hg3 hat3).snoc HUL.out ((HNV.out.next (HBA.out _)).grown hg3 hat3)
                     have hS3 := hS2.app ho2 (by decide) hgw _ hg3
                     have hG03 := only_rowN hG02 (Nat.le_refl _) ho2 _ hg3)
        clear hof2 hS2 hG02 ho2 hg3 hat3 HNV HBA HUL hrl2
        refine (failed_any (HM.out _ hG03) hS3 HXK.out).mono ?_
        rintro e w4 ⟨rfl, hb4⟩
        have hown4 := own_below hown3 hb4
        have hof4 := hof3.next hb4
        have hS4 := hS3.next hb4
        have hG04 := only_below hG03 hb4
        clear hown3 hof3 hS3 hG03 hb4
        cases x3 with
        | some y =>
          have HR := Lib.hid (HT1.out y (by omega) rfl (by omega))
          go_wp2_with fail
          go_ret
          rw [HR.out]
          exact ⟨_, [], rfl, own_nil _ _ _ _, AllOff.nil _ _ _, hS4, hG04⟩
        | none =>
          go_wp2_with fail
          go_round
          case rel =>
            exact ⟨k + 1, us ++ [.slice A2 rl c2], by omega, by go_num, hown4, by rw [HN.out]; exact hof4, by rw [HN.out]; exact hS4, hG04, Lib.hid (.inl (by rw [HN.out]))⟩
          case measure => simp [intOf]; omega
      · obtain rfl : k = u := by omega
        have hlnk := HLN.out k
        have hR : (tkR b s at_ x).1.length = k ∧ (tkR b s at_ x).1 = (F k).1 ∧ (tkR b s at_ x).2 = (F k).2 := by
          cases hx : (F k).2.2 with
          | none => rw [HT2.out hx]; exact ⟨hlnk, rfl, rfl⟩
          | some y =>
            have h0 : k = 0 := hE.out.resolve_left (by rw [hx]; simp)
            subst h0
            have hz := HZ.out
            rw [hz] at hx
            have hx' : x0 = some y := hx
            rw [HT3.out y hx', hz, hx']
            exact ⟨rfl, rfl, rfl⟩
        have HRR := Lib.hid hR
        clear hR hE hlnk
        go_wp2_with fail
        go_ret
        obtain ⟨h1, h2, h3⟩ := HRR.out
        refine ⟨_, us, rfl, by rw [h1]; exact hown, by rw [h2]; exact hoff, ?_⟩
        rw [h3]
        exact ⟨hS, hG⟩
end Go.Proofs.YtieknhhhcjdbnaaDoor

/- Rows of the call's own as rows that are read. No condition. -/
namespace Go.Proofs.YtieknhhhcjdbnaaDoor
open Go.RowKit
set_option linter.unusedVariables false
set_option linter.unusedSimpArgs false
set_option maxRecDepth 100000

theorem vv_of {w : World} {own : Option Nat} {P : Nat → Prop} {B n : Nat} {t : TypeId} {A : Option Addr} {c : Nat} {us : List Value} {rows : List (List Vl)} (h : AllOff w own P us rows) (hown : w.ownsRow B t 1 (.slice A n c) n us) (hn : rows.length = n) : VV w A rows :=
  ⟨us, by rw [hn]; exact Reads.of_own hown, fun k r hk => by obtain ⟨u, h1, h2⟩ := h k r hk; exact ⟨u, h1, h2.isV⟩⟩
end Go.Proofs.YtieknhhhcjdbnaaDoor
