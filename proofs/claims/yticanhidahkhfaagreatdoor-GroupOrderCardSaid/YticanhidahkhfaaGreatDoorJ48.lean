import Derived.Test.YticanhidahkhfaaGreatDoorJ6
import Derived.Test.YticanhidahkhfaaGreatDoorJ37
import Derived.Deep.DeepCutAuto
import Derived.Deep.CutBlock
import Derived.Test.YticanhidahkhfaaGreatDoorJ47
import Derived.Test.YticanhidahkhfaaGreatDoorJ12
import Derived.Test.YticanhidahkhfaaGreatDoorJ1
import Derived.Test.YticanhidahkhfaaGreatDoorRows
import Derived.JoinedOf
import Derived.RowKit
import Derived.RowKitTokens
import Derived.OpenShut
import Derived.ProofKit
import Derived.ChangeOld
namespace Go.Proofs.YticanhidahkhfaaGreatDoor
open Go.RowKit
set_option linter.unusedVariables false
set_option linter.unusedSimpArgs false
set_option maxRecDepth 100000
def grV (l : List (Int × Int × Tx)) (m q : Nat) : Bool := decide (m < l.length) || (l.take m).any fun s => decide (q < s.2.2.length)
theorem grV_false {l : List (Int × Int × Tx)} {m q : Nat} (h : grV l m q = false) : l.length ≤ m ∧ ∀ s ∈ l, s.2.2.length ≤ q := by
  unfold grV at h
  rw [Bool.or_eq_false_iff] at h
  obtain ⟨h1, h2⟩ := h
  have h3 : l.length ≤ m := by simpa using h1
  rw [List.take_of_length_le h3] at h2
  refine ⟨h3, fun s hs => ?_⟩
  have := List.any_eq_false.1 h2 s hs
  simpa using this
set_option maxHeartbeats 400000 in
theorem greatV_any (A : Option Addr) (n c m q : Nat) (l : List (Int × Int × Tx)) (w : World) (hr : Reads w w.heap.size 3 A n (vs l)) (hm : m ≤ 1000) (hq : q ≤ 1000) (g : Bool) (hg : g = grV l m q) :
    Calls Tryz.prog 34 #[.slice A n c, .int .i64 (m : Int), .int .i64 (q : Int)] w fun e w' => e = .returned (.bool g) ∧ w = w' := by
  have e1 : l.length = n := by have := hr.1; rw [vs_length] at this; omega
  have HE : Hid (l.length = n) := Lib.hid e1
  have HG := Lib.hid hg
  clear e1 hg
  go_enter Tryz.func34, Tryz.ntmps34
  go_wp2_with fail
  go_loop [7] (fun i => ∃ k : Nat, k ≤ n ∧ k ≤ m ∧ i = .int .i64 (k : Int) ∧ Hid (∀ s ∈ l.take k, s.2.2.length ≤ q)) (fun i => n - (intOf i).toNat)
  case atStart => exact ⟨0, Nat.zero_le _, Nat.zero_le _, rfl, Lib.hid (by simp)⟩
  case round =>
    obtain ⟨k, hk, hkm, rfl, HA⟩ := hrel
    have hend : ¬ (k < n ∧ k < m) → Hid (g = decide (m < n)) := fun h => Lib.hid (by
      rw [HG.out]
      unfold grV
      rw [HE.out]
      by_cases h1 : m < n
      · simp [h1]
      · have h2 : ((l.take m).any fun s => decide (q < s.2.2.length)) = false := by
          rw [List.any_eq_false]
          intro s hs
          have hkn : n ≤ k := by omega
          have := HA.out s (by
            rw [List.take_of_length_le (by rw [HE.out]; exact hkn)]
            exact List.mem_of_mem_take hs)
          simpa using this
        rw [h2]; simp)
    by_cases hlt : k < n
    · by_cases hltm : k < m
      · obtain ⟨⟨v0, v1, z⟩, hz⟩ : ∃ v, l[k]? = some v := ⟨_, List.getElem?_eq_getElem (by rw [HE.out]; omega)⟩
        obtain ⟨b, o, rfl, hb, x0, x1, x2⟩ := hr.val hz
        have hzs : (⟨z.toArray⟩ : ByteArray).size = z.length := by simp [ByteArray.size]
        by_cases hzl : q < z.length
        · have HR : Hid (g = true) := Lib.hid (by
            rw [HG.out]
            unfold grV
            rw [Bool.or_eq_true]
            refine .inr (List.any_eq_true.2 ⟨(v0, v1, z), ?_, by simp [hzl]⟩)
            rw [List.mem_take_iff_getElem]
            obtain ⟨h1, h2⟩ := List.getElem?_eq_some_iff.1 hz
            exact ⟨k, by omega, h2⟩)
          clear hz hend
          go_wp2_with fail
          go_ret
          exact ⟨by rw [HR.out]; rfl, rfl⟩
        · have HA2 : Hid (∀ s ∈ l.take (k + 1), s.2.2.length ≤ q) := Lib.hid (by
            rw [take_snoc hz]
            intro s hs
            rcases List.mem_append.1 hs with hs | hs
            · exact HA.out s hs
            · rw [List.mem_singleton] at hs; subst hs; simp only []; omega)
          clear hz hend
          go_wp2_with fail
          go_round
          case rel => exact ⟨k + 1, by omega, by omega, by go_num, HA2⟩
          case measure => simp [intOf]; omega
      · have HR := hend (fun h => hltm h.2)
        clear hend
        by_cases hmn : m < n
        · have d1 : decide (m < n) = true := by simp [hmn]
          go_wp2_with fail
          go_ret
          exact ⟨by rw [HR.out, d1]; rfl, rfl⟩
        · omega
    · have HR := hend (fun h => hlt h.1)
      clear hend
      by_cases hmn : m < n
      · omega
      · have d1 : decide (m < n) = false := by simp; omega
        go_wp2_with fail
        go_ret
        exact ⟨by rw [HR.out, d1]; rfl, rfl⟩
end Go.Proofs.YticanhidahkhfaaGreatDoor
namespace Go.Proofs.YticanhidahkhfaaGreatDoor
open Go.RowKit
set_option linter.unusedVariables false
set_option linter.unusedSimpArgs false
set_option maxRecDepth 100000
def grR (l : List (List (Int × Int × Tx))) (m wd q : Nat) : Bool := decide (m < l.length) || (l.take m).any fun r => grV r wd q
theorem grR_false {l : List (List (Int × Int × Tx))} {m wd q : Nat} (h : grR l m wd q = false) : l.length ≤ m ∧ ∀ r ∈ l, r.length ≤ wd ∧ ∀ s ∈ r, s.2.2.length ≤ q := by
  unfold grR at h
  rw [Bool.or_eq_false_iff] at h
  obtain ⟨h1, h2⟩ := h
  have h3 : l.length ≤ m := by simpa using h1
  rw [List.take_of_length_le h3] at h2
  refine ⟨h3, fun r hr => ?_⟩
  have := List.any_eq_false.1 h2 r hr
  exact grV_false (by simpa using this)
set_option maxHeartbeats 400000 in
theorem greatR_any (A : Option Addr) (c m wd q : Nat) (l : List (List (Int × Int × Tx))) (w : World) (hr : VV w A l) (hl : l.length ≤ 9223372036854775807) (hm : m ≤ 1000) (hwd : wd ≤ 1000) (hq : q ≤ 1000) (g : Bool) (hg : g = grR l m wd q) :
    Calls Tryz.prog 7 #[.slice A l.length c, .int .i64 (m : Int), .int .i64 (wd : Int), .int .i64 (q : Int)] w fun e w' => e = .returned (.bool g) ∧ w = w' := by
  obtain ⟨n, e1⟩ : ∃ n, l.length = n := ⟨_, rfl⟩
  obtain ⟨us, hu, hus⟩ := hr
  rw [e1] at hu hl ⊢
  have HE : Hid (l.length = n) := Lib.hid e1
  have HG := Lib.hid hg
  have HU := Lib.hid hus
  clear e1 hg hus
  go_enter Tryz.func7, Tryz.ntmps7
  go_wp2_with fail
  go_loop [9] (fun i => ∃ k : Nat, k ≤ n ∧ k ≤ m ∧ i = .int .i64 (k : Int) ∧ Hid (∀ r ∈ l.take k, grV r wd q = false)) (fun i => n - (intOf i).toNat)
  case atStart => exact ⟨0, Nat.zero_le _, Nat.zero_le _, rfl, Lib.hid (by simp)⟩
  case round =>
    obtain ⟨k, hk, hkm, rfl, HA⟩ := hrel
    have hend : ¬ (k < n ∧ k < m) → Hid (g = decide (m < n)) := fun h => Lib.hid (by
      rw [HG.out]
      unfold grR
      rw [HE.out]
      by_cases h1 : m < n
      · simp [h1]
      · have h2 : ((l.take m).any fun r => grV r wd q) = false := by
          rw [List.any_eq_false]
          intro s hs
          have hkn : n ≤ k := by omega
          have := HA.out s (by
            rw [List.take_of_length_le (by rw [HE.out]; exact hkn)]
            exact List.mem_of_mem_take hs)
          simpa using this
        rw [h2]; simp)
    by_cases hlt : k < n
    · by_cases hltm : k < m
      · obtain ⟨r, hz⟩ : ∃ r, l[k]? = some r := ⟨_, List.getElem?_eq_getElem (by rw [HE.out]; omega)⟩
        obtain ⟨u, hu1, A2, c2, rfl, hrr⟩ := HU.out k r hz
        obtain ⟨bb, oo, rfl, hbb, hcell⟩ := reads_plain2 hu (by omega) hu1
        have hck := hcell k _ hu1
        obtain ⟨y, hy⟩ : ∃ y, grV r wd q = y := ⟨_, rfl⟩
        have hcl := Lib.hid (greatV_any A2 r.length c2 wd q r w hrr hwd hq y hy.symm)
        obtain ⟨rl, hrl⟩ : ∃ rl, r.length = rl := ⟨_, rfl⟩
        rw [hrl] at hck hcl
        cases y with
        | true =>
          have HR : Hid (g = true) := Lib.hid (by
            rw [HG.out]
            unfold grR
            rw [Bool.or_eq_true]
            refine .inr (List.any_eq_true.2 ⟨r, ?_, hy⟩)
            rw [List.mem_take_iff_getElem]
            obtain ⟨h1, h2⟩ := List.getElem?_eq_some_iff.1 hz
            exact ⟨k, by omega, h2⟩)
          clear hz hy hcell hu1 hrr hend hrl
          go_wp2_with fail
          refine hcl.out.mono ?_
          rintro e w' ⟨rfl, rfl⟩
          go_wp2_with fail
          go_ret
          exact ⟨ret_of (congrArg Value.bool HR.out.symm), rfl⟩
        | false =>
          have HA2 : Hid (∀ r ∈ l.take (k + 1), grV r wd q = false) := Lib.hid (by
            rw [take_snoc hz]
            intro s hs
            rcases List.mem_append.1 hs with hs | hs
            · exact HA.out s hs
            · rw [List.mem_singleton] at hs; subst hs; exact hy)
          clear hz hy hcell hu1 hrr hend hrl
          go_wp2_with fail
          refine hcl.out.mono ?_
          rintro e w' ⟨rfl, rfl⟩
          go_wp2_with fail
          go_round
          case rel => exact ⟨k + 1, by omega, by omega, by go_num, HA2⟩
          case measure => simp [intOf]; omega
      · have HR := hend (fun h => hltm h.2)
        clear hend
        by_cases hmn : m < n
        · have d1 : decide (m < n) = true := by simp [hmn]
          go_wp2_with fail
          go_ret
          exact ⟨by rw [HR.out, d1]; rfl, rfl⟩
        · omega
    · have HR := hend (fun h => hlt h.1)
      clear hend
      by_cases hmn : m < n
      · omega
      · have d1 : decide (m < n) = false := by simp; omega
        go_wp2_with fail
        go_ret
        exact ⟨by rw [HR.out, d1]; rfl, rfl⟩
end Go.Proofs.YticanhidahkhfaaGreatDoor
namespace Go.Proofs.YticanhidahkhfaaGreatDoor
open Go.RowKit
set_option linter.unusedVariables false
set_option linter.unusedSimpArgs false
set_option maxRecDepth 100000
structure TwoG (w wr : World) (B2 ga da ha gb db hb : Nat) (rows : List (List Vl)) (hs : List (Zn × List Nat)) (ks : List (List Nat)) (n : Nat) (la lb : List Nat) : Prop where
  a : GrI wr (fun b => b < w.heap.size ∨ b = ha ∨ b = hb) ga da rows hs ks
  sa : SetIn wr w.heap.size da ha n la
  b : GrI wr (fun b => b < B2 ∨ b = hb) gb db rows hs ks
  sb : SetIn wr B2 db hb n lb
  low : Below w.heap.size w wr
  base : w.heap.size ≤ B2
  da : da < B2
  ha : ha < B2
section
variable {w wr W : World} {B2 ga da ha gb db hb n : Nat} {rows : List (List Vl)} {hs : List (Zn × List Nat)} {ks : List (List Nat)} {la lb l' : List Nat}
theorem TwoG.below (T : TwoG w wr B2 ga da ha gb db hb rows hs ks n la lb) (h : Below wr.heap.size wr W) : TwoG w W B2 ga da ha gb db hb rows hs ks n la lb :=
  ⟨T.a.step (Stp.of_below h), T.sa.below h (Nat.le_refl _), T.b.step (Stp.of_below h), T.sb.below h (Nat.le_refl _), T.low.trans (h.mono T.low.size), T.base, T.da, T.ha⟩
theorem TwoG.killA (T : TwoG w wr B2 ga da ha gb db hb rows hs ks n la lb) (s : SetIn W w.heap.size da ha n l') (hg : wr.grownBy W (some ha)) : TwoG w W B2 ga da ha gb db hb rows hs ks n l' lb := by
  have h1 := T.ha; have h2 := T.sb.bg; have h3 := T.sb.bh; have h4 := T.sa.bh
  refine ⟨T.a.step ⟨hg, fun q hq => by injection hq with hq; exact .inl (.inr (.inl hq.symm)), fun q hq => .inl hq⟩, s, T.b.step ⟨hg, fun q hq => by injection hq with hq; exact .inl (.inl (by omega)), fun q hq => .inl hq⟩, T.sb.grown hg (fun e => by injection e with e; omega) (fun e => by injection e with e; omega),
    T.low.grown hg T.low.size (fun k hk => by injection hk with hk; omega), T.base, T.da, T.ha⟩
theorem TwoG.killB (T : TwoG w wr B2 ga da ha gb db hb rows hs ks n la lb) (s : SetIn W B2 db hb n l') (hg : wr.grownBy W (some hb)) : TwoG w W B2 ga da ha gb db hb rows hs ks n la l' := by
  have h1 := T.ha; have h0 := T.da; have h2 := T.sb.bg; have h3 := T.sb.bh; have h4 := T.base
  refine ⟨T.a.step ⟨hg, fun q hq => by injection hq with hq; exact .inl (.inr (.inr hq.symm)), fun q hq => .inl hq⟩, T.sa.grown hg (fun e => by injection e with e; omega) (fun e => by injection e with e; omega), T.b.step ⟨hg, fun q hq => by injection hq with hq; exact .inl (.inr hq.symm), fun q hq => .inl hq⟩, s,
    T.low.grown hg T.low.size (fun k hk => by injection hk with hk; omega), T.base, T.da, T.ha⟩
end
theorem cnt_zeros (n m : Nat) : cnt (bit (List.replicate m 0)) n = 0 := by
  induction n with
  | zero => rfl
  | succ n ih => rw [cnt, ih, bit_zeros]; rfl
section
variable {w : World} {A S K : Option Addr} {n c m cs nk ck : Nat} {sl : List Cl} {rows : List (List Vl)} {kl : List Int}
set_option maxHeartbeats 4000000 in
theorem order_any (HP : PutG) (ht : ShTab w) (hS : Reads w w.heap.size 3 S m (cls sl)) (hm0 : m ≤ 9223372036854775807) (hci : ∀ c ∈ sl, In64 c.1 ∧ In64 c.2.2) (hV : VV w A rows) (hrn : rows.length = n) (hn0 : n ≤ 9223372036854775807) (hin : ∀ r ∈ rows, ∀ v ∈ r, In64 v.1 ∧ In64 v.2.1) (hK : Reads w w.heap.size 1 K nk (zs kl)) (hkn : nk ≤ 9223372036854775807) :
    Calls Tryz.prog 6 #[.slice S m cs, .slice A n c, .slice K nk ck] w fun e w' => e = .returned (.bool true) ∧ Below w.heap.size w w' := by
  have hkl : kl.length = nk := by have := hK.1; rw [zs_length] at this; omega
  have HGR := Lib.hid fun (W : World) (hb : Below w.heap.size w W) => greatR_any A c 60 20 100 rows W (hV.next hb) (by omega) (by omega) (by omega) (by omega) _ rfl
  rw [hrn] at HGR
  have HAW := Lib.hid (awakeG_any HP ht)
  have hsl : sl.length = m := by have := hS.1; rw [cls_length] at this; omega
  have HVV := Lib.hid hV; have HSR := Lib.hid hS; have HCI := Lib.hid hci; have HIN := Lib.hid hin; have HKK := Lib.hid hK; have HKL := Lib.hid hkl; have HE := Lib.hid hrn; have HT := Lib.hid ht; have HPP := Lib.hid HP; have HSL := Lib.hid hsl
  obtain ⟨G, hG⟩ : ∃ G, grR rows 60 20 100 = G := ⟨_, rfl⟩
  rw [hG] at HGR
  clear hS hci hV hin hK hkl hrn ht HP hsl
  have hr0 := Below.refl w.heap.size w
  go_enter Tryz.func6, Tryz.ntmps6
  by_cases h1 : 20 < m
  · have d1 : decide ((20 : Int) < (m : Int)) = true := by simp; omega
    go_wp2_with fail
    refine (HAW.out w (Below.refl _ _)).mono ?_
    rintro e w1 ⟨rfl, hb1⟩
    go_wp2_with fail
    go_ret
    exact ⟨rfl, hb1⟩
  have d1 : decide ((20 : Int) < (m : Int)) = false := by simp; omega
  go_wp2_with fail
  refine (HGR.out w hr0).mono ?_
  rintro e w1 ⟨rfl, rfl⟩
  cases G with
  | true =>
    go_wp2_with fail
    refine (HAW.out w (Below.refl _ _)).mono ?_
    rintro e w1 ⟨rfl, hb1⟩
    go_wp2_with fail
    go_ret
    exact ⟨rfl, hb1⟩
  | false =>
  obtain ⟨hg1, hg2⟩ := grR_false hG
  by_cases h2 : 60 < nk
  · have d2 : decide ((60 : Int) < (nk : Int)) = true := by simp; omega
    go_wp2_with fail
    refine (HAW.out w (Below.refl _ _)).mono ?_
    rintro e w1 ⟨rfl, hb1⟩
    go_wp2_with fail
    go_ret
    exact ⟨rfl, hb1⟩
  have d2 : decide ((60 : Int) < (nk : Int)) = false := by simp; omega
  have hn60 : n ≤ 60 := by rw [← HE.out]; exact hg1
  have HN := Lib.hid fun (W : World) (hb : Below w.heap.size w W) => newG_any (n := n) (c := c) (cs := cs) HPP.out (HT.out.next hb) ((HSR.out.below hb).more hb.size) HCI.out (by omega) (HVV.out.next hb) HE.out (by omega) HIN.out (fun r hr => by have := (hg2 r hr).1; omega)
  clear hg1 hg2 hG HGR HCI HVV HIN HSR
  by_cases he : newE sl rows = 0
  case neg =>
    simp only [if_neg he] at HN
    obtain ⟨E, hE⟩ : ∃ E, newE sl rows = E := ⟨_, rfl⟩
    rw [hE] at he HN
    have q1 : (E == 0) = false := by simpa using he
    clear hE
    go_wp2_with fail
    refine (HN.out w hr0).mono ?_
    rintro e w1 ⟨rfl, hb1⟩
    go_wp2_with fail
    refine (HN.out w1 hb1).mono ?_
    rintro e w2 ⟨rfl, hb2⟩
    have hb02 := hb1.trans (hb2.mono hb1.size)
    go_wp2_with fail
    refine (HAW.out w2 hb02).mono ?_
    rintro e w3 ⟨rfl, hb3⟩
    go_wp2_with fail
    go_ret
    exact ⟨by first | rfl | simp, hb02.trans (hb3.mono hb02.size)⟩
  simp only [if_pos he] at HN
  go_wp2_with fail
  refine (HN.out w hr0).mono ?_
  rintro e w1 ⟨ga, da, ha, rfl, hGa, hSa, hb1⟩
  have HGa := Lib.hid hGa; have HSa := Lib.hid hSa; have HB1 := Lib.hid hb1
  clear hGa hSa hb1
  go_wp2_with fail
  refine (HN.out w1 HB1.out).mono ?_
  rintro e w2 ⟨gb, db, hb, rfl, hGb, hSb, hb2⟩
  obtain ⟨hs, hhs⟩ : ∃ q, hdsG sl rows sl.length = q := ⟨_, rfl⟩
  obtain ⟨ks, hks⟩ : ∃ q, chsG sl rows sl.length = q := ⟨_, rfl⟩
  have h32 : ∀ y ∈ hs, y.2.length = 32 := by rw [← hhs]; exact hdsG_32 _ _ _
  have hhl : hs.length = m := by rw [← hhs, hdsG_length, HSL.out]
  rw [hhs, hks] at HGa hGb
  obtain ⟨Z, hZ⟩ : ∃ Z, List.replicate (siz rows.length) 0 = Z := ⟨_, rfl⟩
  have hcz : cnt (bit Z) n = 0 := by rw [← hZ]; exact cnt_zeros _ _
  rw [hZ, HE.out] at HSa hSb
  have T0 : TwoG w w2 w1.heap.size ga da ha gb db hb rows hs ks n Z Z :=
    ⟨HGa.out.step (Stp.below' hb2 (fun q hq => by
        rcases hq with h | h | h
        · exact .inl (.inl h)
        · exact .inl (.inr h)
        · exact .inr (by rw [h]; exact hSb.bh))), HSa.out.below hb2 (Nat.le_refl _), hGb, hSb, HB1.out.trans (hb2.mono HB1.out.size), HB1.out.size, HSa.out.obj.lt, HSa.out.row.lt⟩
  have HT0 := Lib.hid T0; have H32 := Lib.hid h32; have HHL := Lib.hid hhl
  have HOZ := Lib.hid HSa.out.ok
  obtain ⟨B2, hB2⟩ : ∃ B2, w1.heap.size = B2 := ⟨_, rfl⟩
  rw [hB2] at HT0
  clear T0 hGb hSb hb2 HGa HSa HB1 HN hhs hks hZ h32 hhl hB2
  go_wp2_with fail
  go_loopw [11, 12] (fun ct i wr => ∃ k : Nat, k ≤ nk ∧ i = .int .i64 (k : Int) ∧ ct = .int .i64 (cnt (bit ((kl.take k).foldl (mrk n) Z)) n : Int) ∧ TwoG w wr B2 ga da ha gb db hb rows hs ks n ((kl.take k).foldl (mrk n) Z) ((kl.reverse.take k).foldl (mrk n) Z)) (fun _ i _ => nk - (intOf i).toNat)
  case atStart => exact ⟨0, Nat.zero_le _, rfl, by simp [hcz], by simpa using HT0.out⟩
  case round =>
    clear HT0
    obtain ⟨k, hk, rfl, rfl, T⟩ := hrel
    by_cases hlt : k < nk
    · obtain ⟨v, hv⟩ : ∃ v, kl[k]? = some v := ⟨_, List.getElem?_eq_getElem (by rw [HKL.out]; exact hlt)⟩
      obtain ⟨v2, hv2⟩ : ∃ v, kl[nk - 1 - k]? = some v := ⟨_, List.getElem?_eq_getElem (by rw [HKL.out]; omega)⟩
      have hu1 : (zs kl)[k]? = some (.int .i64 v) := by unfold zs; rw [List.getElem?_map, hv]; rfl
      have hu2 : (zs kl)[nk - 1 - k]? = some (.int .i64 v2) := by unfold zs; rw [List.getElem?_map, hv2]; rfl
      obtain ⟨bb, oo, hKK, hbb, hcell⟩ := reads_plain2 HKK.out (by omega) hu1
      subst hKK
      have hx1 := hcell _ _ hu1; have hx2 := hcell _ _ hu2
      have hck := (T.low.cell (p := ⟨bb, oo + k, none⟩) hbb).trans hx1
      have HN1 := Lib.hid (show (kl.take (k + 1)).foldl (mrk n) Z = mrk n ((kl.take k).foldl (mrk n) Z) v by rw [List.take_add_one, hv]; simp [List.foldl_append])
      have HN2 := Lib.hid (show (kl.reverse.take (k + 1)).foldl (mrk n) Z = mrk n ((kl.reverse.take k).foldl (mrk n) Z) v2 by rw [List.take_add_one, List.getElem?_reverse (by rw [HKL.out]; exact hlt), HKL.out, hv2]; simp [List.foldl_append])
      have hcm := mrk_cnt T.sa.ok v
      have hcl := cnt_le (bit ((kl.take k).foldl (mrk n) Z)) n
      have HKA := Lib.hid (Kill_G T.a T.sa v)
      have HTT := Lib.hid T
      obtain ⟨la, hla⟩ : ∃ q, (kl.take k).foldl (mrk n) Z = q := ⟨_, rfl⟩
      obtain ⟨lb, hlb⟩ : ∃ q, (kl.reverse.take k).foldl (mrk n) Z = q := ⟨_, rfl⟩
      rw [hla] at HN1 hcm hcl HKA HTT ⊢
      rw [hlb] at HN2 HTT
      obtain ⟨cN, hcN⟩ : ∃ q, cnt (bit la) n = q := ⟨_, rfl⟩
      rw [hcN] at hcm hcl ⊢
      have HCM := Lib.hid hcm
      have hs1 : IntKind.i64.wrap ((nk : Int) - 1) = (nk : Int) - 1 := IntWalk.i64_in _ (by omega)
      have hs2 : IntKind.i64.wrap ((nk : Int) - 1 - (k : Int)) = ((nk - 1 - k : Nat) : Int) := by rw [IntWalk.i64_in _ (by omega)]; omega
      have hs3 : IntKind.i64.wrap ((cN : Int) + 1) = ((cN + 1 : Nat) : Int) := by rw [IntWalk.i64_in _ (by omega)]; omega
      clear hv hv2 hu1 hu2 hcell hx1 hla hlb hcN hcm T
      go_wp2_with fail
      refine HKA.out.mono ?_
      rintro e w3 ⟨rfl, hs3', hg3⟩
      have T3 := HTT.out.killA hs3' hg3
      have HKB := Lib.hid (Kill_G T3.b T3.sb v2)
      have hck2 := (T3.low.cell (p := ⟨bb, oo + (nk - 1 - k), none⟩) hbb).trans hx2
      have HT3 := Lib.hid T3
      obtain ⟨q, hq⟩ : ∃ q, canM n la v = q := ⟨_, rfl⟩
      rw [hq] at HCM ⊢
      clear hs3' hg3 T3 HKA HTT hck hq hx2
      cases q
      case' false => have HQ := Lib.hid (show cnt (bit (mrk n la v)) n = cN by rw [HCM.out]; simp)
      case' true => have HQ := Lib.hid (show cnt (bit (mrk n la v)) n = cN + 1 by rw [HCM.out]; simp)
      all_goals
        go_wp2_with fail
        refine HKB.out.mono ?_
        rintro e w4 ⟨rfl, hs4, hg4⟩
        have HT4 := Lib.hid (HT3.out.killB hs4 hg4)
        clear hs4 hg4 HT3 HKB hck2
        go_wp2_with fail
        go_round
        case rel => exact ⟨k + 1, by omega, by go_num, by rw [HN1.out, HQ.out]; first | done | rfl | go_num | (congr 1; omega), by rw [HN1.out, HN2.out]; exact HT4.out⟩
        case measure => simp [intOf]; omega
    · obtain rfl : k = nk := by omega
      rw [List.take_of_length_le (by rw [HKL.out]; exact Nat.le_refl _), List.take_of_length_le (by rw [List.length_reverse, HKL.out]; exact Nat.le_refl _), fold_rev kl HOZ.out] at T
      rw [List.take_of_length_le (by rw [HKL.out]; exact Nat.le_refl _)]
      obtain ⟨M, hM⟩ : ∃ M, kl.foldl (mrk n) Z = M := ⟨_, rfl⟩
      rw [hM] at T ⊢
      have hcl := cnt_le (bit M) n
      have hsaE : ∀ {V : World}, SetIn V w.heap.size da ha n M → SetIn V w.heap.size da ha rows.length M := fun h => by rw [HE.out]; exact h
      have hsbE : ∀ {V : World}, SetIn V B2 db hb n M → SetIn V B2 db hb rows.length M := fun h => by rw [HE.out]; exact h
      have hha := fun (V : World) (X : TwoG w V B2 ga da ha gb db hb rows hs ks n M M) => Header_G X.a (hsaE X.sa) (HT.out.next X.low) (by rw [HHL.out]; omega)
      have hhb := fun (V : World) (X : TwoG w V B2 ga da ha gb db hb rows hs ks n M M) => Header_G X.b (hsbE X.sb) (HT.out.next X.low) (by rw [HHL.out]; omega)
      have hla := fun (V : World) (X : TwoG w V B2 ga da ha gb db hb rows hs ks n M M) => Live_G X.a (hsaE X.sa)
      simp only [HE.out, HHL.out] at hha hhb hla
      obtain ⟨cN, hcN⟩ : ∃ q, cnt (bit M) n = q := ⟨_, rfl⟩
      rw [hcN] at hha hhb hla hcl ⊢
      have hsub : IntKind.i64.wrap ((n : Int) - (cN : Int)) = (n : Int) - (cN : Int) := IntWalk.i64_in _ (by omega)
      have HHA := Lib.hid hha; have HHB := Lib.hid hhb; have HLA := Lib.hid hla; have HTT := Lib.hid T
      clear hha hhb hla T hM hcN HKK HKL
      go_wp2_with fail
      refine (HHA.out wr HTT.out).mono ?_
      rintro e w5 ⟨va, rfl, hoa, hb5⟩
      have HT5 := Lib.hid (HTT.out.below hb5)
      have HOA := Lib.hid hoa
      clear hoa hb5 HTT
      go_wp2_with fail
      refine (HHB.out w5 HT5.out).mono ?_
      rintro e w6 ⟨vb, rfl, hob, hb6⟩
      have HT6 := Lib.hid (HT5.out.below hb6)
      obtain ⟨Aa, ca, rfl, _, _, ra⟩ := own_slice (own_below HOA.out hb6)
      obtain ⟨Ab, cb, rfl, _, _, rb⟩ := own_slice hob
      have HSM := Lib.hid (sameH_true (c := ca) (c' := cb) (n := (n : Int)) (L := (n : Int) - (cN : Int)) (l := shaN M) ra rb (shaN_length _) H32.out HHL.out (by omega))
      clear hob hb6 HOA HT5 ra rb
      go_wp2_with fail
      refine HSM.out.mono ?_
      rintro e w7 ⟨rfl, hb7⟩
      have HT7 := Lib.hid (HT6.out.below hb7)
      clear hb7 HT6 HSM
      go_wp2_with fail
      refine (HLA.out w7 HT7.out).mono ?_
      rintro e w8 ⟨rfl, hb8⟩
      have HT8 := Lib.hid (HT7.out.below hb8)
      clear hb8 HT7
      go_wp2_with fail
      refine (HHA.out w8 HT8.out).mono ?_
      rintro e w9 ⟨vc, rfl, _, hb9⟩
      obtain ⟨F9, hF9, _, f9, _⟩ := hd_parts (n : Int) ((n : Int) - (cN : Int)) (bs (shaN M)) vc (by rw [bs_length, shaN_length])
      have HF9 := Lib.hid hF9
      rw [HF9.out]
      have ff := run_field_live f9 w9
      have HT9 := Lib.hid (HT8.out.below hb9)
      clear hb9 HT8 f9 hF9
      go_wp2_with fail
      refine (HLA.out w9 HT9.out).mono ?_
      rintro e w10 ⟨rfl, hb10⟩
      have HT10 := Lib.hid (HT9.out.below hb10)
      clear hb10 HT9 ff
      go_wp2_with fail
      refine (HAW.out w10 HT10.out.low).mono ?_
      rintro e w11 ⟨rfl, hb11⟩
      go_wp2_with fail
      go_ret
      exact ⟨by first | rfl | simp, HT10.out.low.trans (hb11.mono HT10.out.low.size)⟩
end
end Go.Proofs.YticanhidahkhfaaGreatDoor
namespace Go.Proofs.YticanhidahkhfaaGreatDoor
open Go.RowKit
set_option linter.unusedVariables false
set_option linter.unusedSimpArgs false
theorem IsRow.ints {w : World} {a : Option Addr} {len cap : Nat} {z : List Int} (h : IsRow .i64 w a len cap z) :
    ∃ l : List Int, l.length = len ∧ Reads w w.heap.size 1 a len (zs l) ∧ ∀ b ∈ l, -9223372036854775808 ≤ b ∧ b ≤ 9223372036854775807 := by
  rcases h with ⟨rfl, rfl, rfl, rfl⟩ | ⟨x, rfl, hl, hm, hz, hcell, hw⟩
  · exact ⟨[], rfl, Reads.none_, by simp⟩
  · refine ⟨z.take len, by simp; omega, ⟨by simp [zs]; omega, fun hn => ⟨x, rfl, ?_, fun j u hu => ?_⟩⟩, fun b hb => i64_of (hw b (List.mem_of_mem_take hb))⟩
    · have := World.block_lt_of_cell? w _ (hcell 0 (by omega))
      rwa [block_of_add] at this
    · obtain ⟨b, hb, rfl⟩ := zs_at hu
      rw [List.getElem?_take] at hb
      split at hb
      · rename_i hj
        have hjz : j < z.length := by omega
        rw [List.getElem?_eq_getElem hjz] at hb
        simp at hb
        rw [hcell j hjz]
        simp only [List.getD, List.getElem?_eq_getElem hjz, Option.getD]
        rw [hb]
      · cases hb
theorem IsRow.room {k : IntKind} {w : World} {a : Option Addr} {len cap : Nat} {z : List Int} (h : IsRow k w a len cap z) : len ≤ cap := by
  rcases h with ⟨_, h1, h2, _⟩ | ⟨_, _, h, _⟩
  · omega
  · exact h
end Go.Proofs.YticanhidahkhfaaGreatDoor
namespace Go.Proofs.YticanhidahkhfaaGreatDoor.groupOrder
open Go.ChangeShapes Go.WideShapes Go.ChangeAt Go.RowKit
set_option linter.unusedVariables false
set_option linter.unusedSimpArgs false
set_option maxRecDepth 100000
set_option maxHeartbeats 2000000 in
theorem closed : joinedFacts Tryz.pinned.checked.prog 6 Tryz.f6 Rows.groupOrderSpec Rows.groupOrderRow = true := by
  unfold joinedFacts
  iterate 23 (rw [Bool.and_eq_true_iff]; refine ⟨?_, by as_aux_lemma => kernel_rfl⟩)
  as_aux_lemma => kernel_rfl
theorem inst : Tryz.f6.isInstance Tryz.pinned.checked.prog Rows.groupOrderRow.origin Rows.groupOrderRow.targs := of_decide_eq_true (by kernel_rfl)
theorem named : Tryz.pinned.checked.prog.funcNamed Rows.groupOrderRow.func = some 6 := by kernel_rfl
theorem wrap : Tryz.f6.isWrapper Tryz.pinned.checked.prog Rows.groupOrderRow.wrapper Rows.groupOrderRow.mainSum := by
  unfold Func.isWrapper; first | (rw [if_pos (by decide +kernel)]; kernel_rfl) | (rw [if_neg (by decide +kernel)]; exact ⟨rfl, rfl⟩)
end Go.Proofs.YticanhidahkhfaaGreatDoor.groupOrder
