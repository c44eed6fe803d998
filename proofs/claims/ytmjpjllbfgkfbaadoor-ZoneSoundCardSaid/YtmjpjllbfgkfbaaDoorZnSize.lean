/- Contract of the document's Size of layer 16: how big a predicate is, up to so much and so deep. -/
import Derived.BigQuiet
import Derived.Deep.QuietTactic
import Derived.WalkSmall
import Derived.Deep.DeepCutAuto
import Derived.Deep.RegionLaw
import Derived.Deep.CutBlock
import Derived.Test.YtmjpjllbfgkfbaaDoorJ3
namespace Go.Proofs.YtmjpjllbfgkfbaaDoor
open Go.RowKit
set_option linter.unusedVariables false
set_option linter.unusedSimpArgs false
set_option maxRecDepth 100000

/-- So many values, one behind the other. -/
def szV (l : List Vl) (most : Int) : Nat → Int
  | 0 => 1
  | k + 1 => if szV l most k ≤ most then szV l most k + 1 + ((l.getD k (0, 0, [])).2.2.length : Int) else szV l most k
/-- So many parts. -/
def szQ (most : Int) (d : Nat) (l : List Pd) (n : Int) : Nat → Int
  | 0 => n
  | k + 1 => if szQ most d l n k ≤ most then szQ most d l n k + szP most d (l.getD k Pd.none_) else szQ most d l n k
theorem foldl_take {α β : Type} (f : β → α → β) (z : α) (l : List α) (g : Nat → β) (hz : ∀ k, k < l.length → g (k + 1) = f (g k) (l.getD k z)) : ∀ k, k ≤ l.length → g k = (l.take k).foldl f (g 0)
  | 0, _ => by simp
  | k + 1, h => by
    rw [hz k (by omega), foldl_take f z l g hz k (by omega), List.take_add_one, List.foldl_append]
    rw [List.getD_eq_getElem?_getD, List.getElem?_eq_getElem (show k < l.length by omega)]
    simp
theorem szP_eq (most : Int) (d : Nat) (p : Pd) : szP most (d + 1) p = szQ most d p.parts (szV p.vals most p.vals.length) p.parts.length := by
  rw [szP]
  have h1 := foldl_take (fun (n : Int) (v : Vl) => if n ≤ most then n + 1 + (v.2.2.length : Int) else n) (0, 0, []) p.vals (szV p.vals most) (fun k hk => rfl) _ (Nat.le_refl _)
  rw [List.take_length] at h1
  have h2 := foldl_take (fun (n : Int) (q : Pd) => if n ≤ most then n + szP most d q else n) Pd.none_ p.parts (szQ most d p.parts (szV p.vals most p.vals.length)) (fun k hk => rfl) _ (Nat.le_refl _)
  rw [List.take_length] at h2
  rw [h2, show szQ most d p.parts (szV p.vals most p.vals.length) 0 = szV p.vals most p.vals.length from rfl, h1]
  rfl
/-- Behind so much nothing more is looked at. -/
theorem szV_stop {l : List Vl} {most : Int} {k : Nat} (h : ¬ szV l most k ≤ most) : ∀ j, szV l most (k + j) = szV l most k
  | 0 => rfl
  | j + 1 => by rw [← Nat.add_assoc, szV, szV_stop h j, if_neg h]
theorem szQ_stop {most : Int} {d : Nat} {l : List Pd} {n : Int} {k : Nat} (h : ¬ szQ most d l n k ≤ most) : ∀ j, szQ most d l n (k + j) = szQ most d l n k
  | 0 => rfl
  | j + 1 => by rw [← Nat.add_assoc, szQ, szQ_stop h j, if_neg h]
theorem szV_bound {l : List Vl} {most : Int} {M : Nat} (h1 : 1 ≤ most) (h : ∀ v ∈ l, v.2.2.length ≤ M) : ∀ k, 1 ≤ szV l most k ∧ szV l most k ≤ most + 1 + M
  | 0 => by rw [szV]; omega
  | k + 1 => by
    have ih := szV_bound h1 h k
    rw [szV]
    have hl : ((l.getD k (0, 0, [])).2.2.length : Int) ≤ M := by
      rw [List.getD_eq_getElem?_getD]
      cases hk : l[k]? with
      | none => simp
      | some v => have := h v (List.mem_of_getElem? hk); simp; omega
    split <;> omega
theorem szQ_bound {most B : Int} {d : Nat} {l : List Pd} {n : Int} (hc : ∀ q ∈ l, 1 ≤ szP most d q ∧ szP most d q ≤ B) (hn : 1 ≤ n) (hn2 : n ≤ most + B) : ∀ k, k ≤ l.length → 1 ≤ szQ most d l n k ∧ szQ most d l n k ≤ most + B
  | 0, _ => by rw [szQ]; omega
  | k + 1, h => by
    have ih := szQ_bound hc hn hn2 k (by omega)
    have hq : l.getD k Pd.none_ ∈ l := by
      rw [List.getD_eq_getElem?_getD, List.getElem?_eq_getElem (show k < l.length by omega)]
      exact List.getElem_mem _
    have h1 := hc _ hq
    rw [szQ]
    split <;> omega
theorem szP_bound {most : Int} {M : Nat} (h1 : 1 ≤ most) : ∀ {d f : Nat} {p : Pd}, d ≤ f → LenP M f p → 1 ≤ szP most d p ∧ szP most d p ≤ most * d + (most + 1 + M)
  | 0, _, p, _, _ => by rw [szP]; simp; omega
  | d + 1, 0, p, h, _ => absurd h (by omega)
  | d + 1, f + 1, p, h, hl => by
    rw [szP_eq]
    have hv := szV_bound h1 hl.1 p.vals.length
    have hm : most * ((d + 1 : Nat) : Int) = most * d + most := by
      rw [Int.natCast_add, Int.mul_add]; simp
    have h0 : 0 ≤ most * (d : Int) := Int.mul_nonneg (by omega) (by omega)
    have := szQ_bound (B := most * d + (most + 1 + M)) (fun q hq => szP_bound h1 (show d ≤ f by omega) (hl.2 q hq)) hv.1 (by omega) p.parts.length (Nat.le_refl _)
    omega
theorem szV_ge {l : List Vl} {most : Int} : ∀ {k : Nat}, szV l most k ≤ most → (k : Int) + 1 ≤ szV l most k
  | 0, _ => by rw [szV]; omega
  | k + 1, h => by
    rw [szV] at h ⊢
    by_cases hk : szV l most k ≤ most
    · rw [if_pos hk] at h ⊢
      have := szV_ge hk
      omega
    · rw [if_neg hk] at h
      exact absurd h hk
theorem szQ_ge {most : Int} {d : Nat} {l : List Pd} {n : Int} (hn : 1 ≤ n) (hc : ∀ q ∈ l, 1 ≤ szP most d q) : ∀ {k : Nat}, k ≤ l.length → szQ most d l n k ≤ most → (k : Int) + 1 ≤ szQ most d l n k
  | 0, _, _ => by rw [szQ]; omega
  | k + 1, hk, h => by
    rw [szQ] at h ⊢
    have hq : l.getD k Pd.none_ ∈ l := by
      rw [List.getD_eq_getElem?_getD, List.getElem?_eq_getElem (show k < l.length by omega)]
      exact List.getElem_mem _
    have h1 := hc _ hq
    by_cases hk2 : szQ most d l n k ≤ most
    · rw [if_pos hk2] at h ⊢
      have := szQ_ge hn hc (by omega) hk2
      omega
    · rw [if_neg hk2] at h
      exact absurd h hk2
theorem refSize_zero (most : Int) (h1 : 1 ≤ most) (h2 : most ≤ 1000000) (c0 c1 c2 c3 : Value) (w : World) :
    Calls Tryd.prog 14 #[.agg #[c0, c1, c2, c3], .int .i64 most, .int .i64 0] w fun e w' => e = .returned (.int .i64 (most + 1)) ∧ Below w.heap.size w w' := by
  have hw : IntKind.i64.wrap (most + 1) = most + 1 := IntWalk.i64_in _ (by omega)
  have HB : Hid (∀ o, Below w.heap.size w (w.alloc o)) := Lib.hid fun o => (Below.refl _ _).alloc (Nat.le_refl _) o
  go_enter Tryd.func14, Tryd.ntmps14
  go_wp2_with fail
  go_ret
  exact ⟨rfl, HB.out _⟩
set_option maxHeartbeats 4000000 in
theorem refSize_step {M : Nat} (hM : (M : Int) ≤ 4611686018427387904) (most : Int) (h1 : 1 ≤ most) (h2 : most ≤ 1000000) (d : Nat) (hd : d < 1000) (IH : ∀ (W : World) (f : Nat) (P : Nat → Prop) (c0 c1 c2 c3 : Value) (p : Pd), IsP f W P [c0, c1, c2, c3] p → (∀ k, LenP M k p) → Calls Tryd.prog 14 #[.agg #[c0, c1, c2, c3], .int .i64 most, .int .i64 (d : Int)] W fun e w' => e = .returned (.int .i64 (szP most d p)) ∧ Below W.heap.size W w')
    {w : World} {f : Nat} {P : Nat → Prop} {op col : Int} {A A' : Option Addr} {c c' : Nat} {p : Pd} (hI : IsP (f + 1) w P [.int .i64 op, .int .i64 col, .slice A p.vals.length c, .slice A' p.parts.length c'] p) (hl : ∀ k, LenP M k p) :
    Calls Tryd.prog 14 #[.agg #[.int .i64 op, .int .i64 col, .slice A p.vals.length c, .slice A' p.parts.length c'], .int .i64 most, .int .i64 (((d + 1 : Nat)) : Int)] w fun e w' => e = .returned (.int .i64 (szP most (d + 1) p)) ∧ Below w.heap.size w w' := by
  rw [szP_eq]
  obtain ⟨A0, k0, A0', k0', e4, hv, _, _, us, hul, hr, hall⟩ := hI
  injection e4 with _ e4
  injection e4 with _ e4
  injection e4 with e2 e4
  injection e4 with e3 _
  injection e2 with e2 _ ek2
  injection e3 with e3 _ ek3
  subst e2 e3 ek2 ek3
  have hAll : AllP f w P us p.parts := ⟨hul, hall⟩
  have hlv : ∀ v ∈ p.vals, v.2.2.length ≤ M := (hl 1).1
  have hlq : ∀ q ∈ p.parts, ∀ k, LenP M k q := fun q hq k => (hl (k + 1)).2 q hq
  have hqb : ∀ q ∈ p.parts, 1 ≤ szP most d q ∧ szP most d q ≤ most * d + (most + 1 + M) := fun q hq => szP_bound h1 (Nat.le_refl d) (hlq q hq d)
  obtain ⟨vals, hvals⟩ : ∃ l, p.vals = l := ⟨_, rfl⟩
  obtain ⟨parts, hparts⟩ : ∃ l, p.parts = l := ⟨_, rfl⟩
  rw [hvals] at hv hlv ⊢
  rw [hparts] at hr hAll hlq hqb ⊢
  clear hul hall hl hvals hparts
  have HVB := Lib.hid (szV_bound h1 hlv)
  have HVG : Hid (∀ k, szV vals most k ≤ most → (k : Int) + 1 ≤ szV vals most k) := Lib.hid fun k => szV_ge
  have HVS : Hid (∀ k, szV vals most (k + 1) = if szV vals most k ≤ most then szV vals most k + 1 + ((vals.getD k (0, 0, [])).2.2.length : Int) else szV vals most k) := Lib.hid fun k => rfl
  have HVE : Hid (∀ k, ¬ szV vals most k ≤ most → ∀ j, szV vals most (k + j) = szV vals most k) := Lib.hid fun k h j => szV_stop h j
  have HVZ : Hid (szV vals most 0 = 1) := Lib.hid rfl
  obtain ⟨S, hS⟩ : ∃ F : Nat → Int, szV vals most = F := ⟨_, rfl⟩
  rw [hS] at HVB HVG HVS HVE HVZ ⊢
  obtain ⟨n1, hn1⟩ : ∃ q, S vals.length = q := ⟨_, rfl⟩
  have hn1b := HVB.out vals.length
  rw [hn1] at hn1b ⊢
  have hmd : 0 ≤ most * (d : Int) := Int.mul_nonneg (by omega) (by omega)
  have hmd2 : most * (d : Int) ≤ 1000000 * 1000 := Int.mul_le_mul h2 (by omega) (by omega) (by omega)
  have HQB := Lib.hid (szQ_bound hqb hn1b.1 (by omega))
  have HQG : Hid (∀ k, k ≤ parts.length → szQ most d parts n1 k ≤ most → (k : Int) + 1 ≤ szQ most d parts n1 k) := Lib.hid fun k hk => szQ_ge hn1b.1 (fun q hq => (hqb q hq).1) hk
  have HQS : Hid (∀ k, szQ most d parts n1 (k + 1) = if szQ most d parts n1 k ≤ most then szQ most d parts n1 k + szP most d (parts.getD k Pd.none_) else szQ most d parts n1 k) := Lib.hid fun k => rfl
  have HQE : Hid (∀ k, ¬ szQ most d parts n1 k ≤ most → ∀ j, szQ most d parts n1 (k + j) = szQ most d parts n1 k) := Lib.hid fun k h j => szQ_stop h j
  have HQZ : Hid (szQ most d parts n1 0 = n1) := Lib.hid rfl
  obtain ⟨Q, hQ⟩ : ∃ F : Nat → Int, szQ most d parts n1 = F := ⟨_, rfl⟩
  rw [hQ] at HQB HQG HQS HQE HQZ ⊢
  have hdd : (((d + 1 : Nat) : Int) == 0) = false := by simp; omega
  have hd1 : IntKind.i64.wrap (((d + 1 : Nat) : Int) - 1) = (d : Int) := by rw [show (((d + 1 : Nat) : Int) - 1) = (d : Int) by omega]; exact IntWalk.i64_in _ (by omega)
  obtain ⟨D, hD⟩ : ∃ D : Int, ((d + 1 : Nat) : Int) = D := ⟨_, rfl⟩
  rw [hD] at hdd hd1 ⊢
  obtain ⟨w1, hw1⟩ : ∃ W, w.alloc (.cells #[.int .i64 op, .int .i64 col, .slice A vals.length c, .slice A' parts.length c'] 26) = W := ⟨_, rfl⟩
  have hB1 : Below w.heap.size w w1 := by rw [← hw1]; exact (Below.refl _ _).alloc (Nat.le_refl _) _
  have hX1 : Blk w1 w.heap.size 26 #[.int .i64 op, .int .i64 col, .slice A vals.length c, .slice A' parts.length c'] := by rw [← hw1]; exact Blk.new w _ _
  have HIH := Lib.hid IH; have HV := Lib.hid hv; have HR := Lib.hid hr; have HA := Lib.hid hAll; have HX := Lib.hid hX1; have HLQ := Lib.hid hlq
  have HML := Lib.hid hM
  have hzl : ∀ v ∈ vals, v.2.2.length ≤ M := hlv
  clear hv hr hAll IH hlv hqb hlq hS hQ hD hX1 hd hmd
  go_enter Tryd.func14, Tryd.ntmps14
  have HZL := Lib.hid hzl
  clear hzl
  have hB1' : Below w1.heap.size w1 (w.alloc (.cells #[.int .i64 op, .int .i64 col, .slice A vals.length c, .slice A' parts.length c'] 26)) := by rw [hw1]; exact Below.refl _ _
  clear hw1
  have HB1 := Lib.hid hB1'
  have HB0 := Lib.hid hB1
  clear hB1' hB1
  have HN1 := Lib.hid hn1
  have HM3 : Hid (most + (most * (d : Int) + (most + 1 + (M : Int))) ≤ 9000000000000000000) := Lib.hid (by omega)
  go_upto_block 0 with fail
  go_cut [7, 8] (fun n _ wx => n = .int .i64 n1 ∧ Below w1.heap.size w1 wx)
  case first =>
    go_wp2_with fail
    go_loopw [7, 8] (fun n i wr => ∃ k : Nat, k ≤ vals.length ∧ i = .int .i64 (k : Int) ∧ n = .int .i64 (S k) ∧ Below w1.heap.size w1 wr) (fun _ i _ => vals.length - (intOf i).toNat)
    case atStart => exact ⟨0, Nat.zero_le _, rfl, by rw [HVZ.out], HB1.out⟩
    case round =>
      obtain ⟨k, hk, rfl, rfl, hb⟩ := hrel
      obtain ⟨x0, x1, x2, x3⟩ := blk4' (HX.out.below hb HX.out.lt)
      have hvb := HVB.out k
      by_cases hlt : k < vals.length
      · have d1 : decide ((k : Int) < (vals.length : Int)) = true := by simp; omega
        by_cases hle : S k ≤ most
        · have d2 : decide (S k ≤ most) = true := by simpa using hle
          obtain ⟨⟨v0, v1, z⟩, hv⟩ : ∃ v, vals[k]? = some v := ⟨_, List.getElem?_eq_getElem hlt⟩
          have hbv := HB0.out.trans (hb.mono (HB0.out.size))
          obtain ⟨b, o, rfl, hb0, y0, y1, y2⟩ := (HV.out.below hbv).val hv
          have hg := HVG.out k hle
          have hz : z.length ≤ M := HZL.out _ (List.mem_of_getElem? hv)
          have hs : S (k + 1) = S k + 1 + (z.length : Int) := by
            rw [HVS.out, if_pos hle, List.getD_eq_getElem?_getD, hv]; rfl
          have hM2 := HML.out
          have hw2 : IntKind.i64.wrap (S k + 1) = S k + 1 := IntWalk.i64_in _ (by omega)
          have hw3 : IntKind.i64.wrap (S k + 1 + (z.length : Int)) = S k + 1 + (z.length : Int) := IntWalk.i64_in _ (by omega)
          have hw4 : IntKind.i64.wrap ((k : Int) + 1) = (k : Int) + 1 := IntWalk.i64_in _ (by omega)
          have HS := Lib.hid hs
          clear hs hM2 hg hvb hv hbv
          go_wp2_with fail
          go_round
          case rel => exact ⟨k + 1, by omega, by go_num, by rw [HS.out], hb⟩
          case measure => simp [intOf]; omega
        · have d2 : decide (S k ≤ most) = false := by simpa using hle
          have he := HVE.out k (by omega) (vals.length - k)
          rw [show k + (vals.length - k) = vals.length by omega, HN1.out] at he
          have HE := Lib.hid he
          clear he
          go_wp2_with fail
          go_meet
          exact ⟨by rw [HE.out], hb⟩
      · have d1 : decide ((k : Int) < (vals.length : Int)) = false := by simp; omega
        obtain rfl : k = vals.length := by omega
        go_wp2_with fail
        go_meet
        exact ⟨by rw [HN1.out], hb⟩
  case rest =>
    obtain ⟨rfl, hb⟩ := hcut
    have HB2 := Lib.hid hb
    clear hb HVB HVG HVS HVE HVZ HZL HML HB1
    go_wp2_with fail
    go_loopw [7, 9] (fun n i wr => ∃ k : Nat, k ≤ parts.length ∧ i = .int .i64 (k : Int) ∧ n = .int .i64 (Q k) ∧ Below w1.heap.size w1 wr) (fun _ i _ => parts.length - (intOf i).toNat)
    case atStart => exact ⟨0, Nat.zero_le _, rfl, by rw [HQZ.out], HB2.out⟩
    case round =>
      obtain ⟨k, hk, rfl, rfl, hb⟩ := hrel
      obtain ⟨x0, x1, x2, x3⟩ := blk4' (HX.out.below hb HX.out.lt)
      have hqb := HQB.out k hk
      have hbv := HB0.out.trans (hb.mono (HB0.out.size))
      by_cases hlt : k < parts.length
      · have d1 : decide ((k : Int) < (parts.length : Int)) = true := by simp; omega
        by_cases hle : Q k ≤ most
        · have d2 : decide (Q k ≤ most) = true := by simpa using hle
          obtain ⟨q, hq⟩ : ∃ v, parts[k]? = some v := ⟨_, List.getElem?_eq_getElem hlt⟩
          obtain ⟨b, o, g0, g1, g2, g3, rfl, hb0, hIq, y0, y1, y2, y3⟩ := (HA.out.next hbv).at_ (HR.out.below hbv) rfl hq
          have hIH := HIH.out wr f P g0 g1 g2 g3 q hIq (HLQ.out q (List.mem_of_getElem? hq))
          have hg := HQG.out k hk hle
          have hs : Q (k + 1) = Q k + szP most d q := by
            rw [HQS.out, if_pos hle, List.getD_eq_getElem?_getD, hq]; rfl
          have hqb2 := HQB.out (k + 1) hlt
          rw [hs] at hqb2
          obtain ⟨sz, hsz⟩ : ∃ x, szP most d q = x := ⟨_, rfl⟩
          rw [hsz] at hIH hs hqb2
          have hw3 : IntKind.i64.wrap (Q k + sz) = Q k + sz := IntWalk.i64_in _ (by have := HM3.out; omega)
          have hw4 : IntKind.i64.wrap ((k : Int) + 1) = (k : Int) + 1 := IntWalk.i64_in _ (by omega)
          obtain ⟨f0, f1, f2, f3⟩ : g0.oneCell' = true ∧ g1.oneCell' = true ∧ g2.oneCell' = true ∧ g3.oneCell' = true := by
            have h4 := hIq.four.2
            exact ⟨h4 _ (by simp), h4 _ (by simp), h4 _ (by simp), h4 _ (by simp)⟩
          have HS := Lib.hid hs; have HC := Lib.hid hIH
          clear hs hg hqb hqb2 hq hbv hIq hIH hsz
          go_wp2_with fail
          refine HC.out.mono ?_
          rintro e w2 ⟨rfl, hb2⟩
          go_wp2_with fail
          go_round
          case rel => exact ⟨k + 1, by omega, by go_num, by rw [HS.out], hb.trans (hb2.mono hb.size)⟩
          case measure => simp [intOf]; omega
        · have d2 : decide (Q k ≤ most) = false := by simpa using hle
          have he := HQE.out k (by omega) (parts.length - k)
          rw [show k + (parts.length - k) = parts.length by omega] at he
          have HE := Lib.hid he; have HBV := Lib.hid hbv
          clear he hbv
          go_wp2_with fail
          go_ret
          exact ⟨by rw [HE.out]; rfl, HBV.out⟩
      · have d1 : decide ((k : Int) < (parts.length : Int)) = false := by simp; omega
        obtain rfl : k = parts.length := by omega
        have HBV := Lib.hid hbv
        clear hbv
        go_wp2_with fail
        go_ret
        exact ⟨rfl, HBV.out⟩
theorem refSize_any {M : Nat} (hM : (M : Int) ≤ 4611686018427387904) (most : Int) (h1 : 1 ≤ most) (h2 : most ≤ 1000000) : ∀ (d : Nat), d ≤ 1000 → ∀ (W : World) (f : Nat) (P : Nat → Prop) (c0 c1 c2 c3 : Value) (p : Pd), IsP f W P [c0, c1, c2, c3] p → (∀ k, LenP M k p) →
    Calls Tryd.prog 14 #[.agg #[c0, c1, c2, c3], .int .i64 most, .int .i64 (d : Int)] W fun e w' => e = .returned (.int .i64 (szP most d p)) ∧ Below W.heap.size W w'
  | 0, _, W, f, P, c0, c1, c2, c3, p, _, _ => by
    rw [szP]
    exact refSize_zero most h1 h2 c0 c1 c2 c3 W
  | d + 1, hd, W, 0, P, c0, c1, c2, c3, p, hI, _ => hI.elim
  | d + 1, hd, W, f + 1, P, c0, c1, c2, c3, p, hI, hl => by
    have hI' := hI
    obtain ⟨A, c, A', c', e, _⟩ := hI'
    injection e with e0 e
    injection e with e1 e
    injection e with e2 e
    injection e with e3 _
    subst e0 e1 e2 e3
    exact refSize_step hM most h1 h2 d (by omega) (refSize_any hM most h1 h2 d (by omega)) hI hl
end Go.Proofs.YtmjpjllbfgkfbaaDoor
