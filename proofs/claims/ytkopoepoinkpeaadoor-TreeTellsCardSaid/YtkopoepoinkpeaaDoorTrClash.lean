/- Contract of the document's Clash, where there is one: it is found. No condition. -/
import Derived.Deep.DeepCutAuto
import Derived.Deep.CutBlock
import Derived.Test.YtkopoepoinkpeaaDoorTrTextsB
import Derived.Test.YtkopoepoinkpeaaDoorJ25
import Derived.Test.YtkopoepoinkpeaaDoorGrFold
import Derived.Test.YtkopoepoinkpeaaDoorTxBack
namespace Go.Proofs.YtkopoepoinkpeaaDoor
open Go.RowKit
set_option linter.unusedVariables false
set_option linter.unusedSimpArgs false
set_option maxRecDepth 100000
attribute [local go_sem ↓] Go.wp_at_zero Go.wp_at_succ

theorem Dg.sums (ls : List (List Nat)) : Dg (ls.map shaN) := fun d hd => by
  obtain ⟨x, _, rfl⟩ := List.mem_map.1 hd
  exact ⟨shaN_length x, shaN_lt _⟩
theorem tb_inj {x y : List Nat} (hx : ∀ b ∈ x, b < 256) (hy : ∀ b ∈ y, b < 256) (h : tb x = tb y) : x = y := by
  have h2 := congrArg (List.map UInt8.toNat) h
  unfold tb at h2
  rw [List.map_map, List.map_map] at h2
  have e : ∀ z : List Nat, (∀ b ∈ z, b < 256) → z.map (UInt8.toNat ∘ UInt8.ofNat) = z := by
    intro z hz
    conv => rhs; rw [← List.map_id z]
    apply List.map_congr_left
    intro b hb
    have := hz b hb
    simp only [Function.comp, id]
    exact UInt8.toNat_ofNat_of_lt' (by simpa using this)
  rwa [e x hx, e y hy] at h2
/-- The pair at two places is no clash. -/
def NoClash (ls : List (List Nat)) (i k : Nat) : Prop := ∀ x y, ls[i]? = some x → ls[k]? = some y → shaN x = shaN y → x = y
theorem no_clash {ls : List (List Nat)} (h : ∀ i k, i < ls.length → k < i → NoClash ls i k) : ¬ ClashIn ls := by
  rintro ⟨x, hx, y, hy, hne, he⟩
  obtain ⟨i, hi, rfl⟩ := List.mem_iff_getElem.1 hx
  obtain ⟨k, hk, rfl⟩ := List.mem_iff_getElem.1 hy
  rcases Nat.lt_trichotomy i k with hlt | rfl | hgt
  · exact hne (h k i hk hlt _ _ (List.getElem?_eq_getElem hk) (List.getElem?_eq_getElem hi) he.symm).symm
  · exact hne rfl
  · exact hne (h i k hi hgt _ _ (List.getElem?_eq_getElem hi) (List.getElem?_eq_getElem hk) he)
set_option maxHeartbeats 8000000 in
theorem clash_any (A : Option Addr) (n c : Nat) (ls : List (List Nat)) (w : World) (hn : ls.length = n) (hm : n ≤ 10000) (hp : LC w A ls) (hbt : ∀ l ∈ ls, ∀ b ∈ l, b < 256) (hlong : ∀ l ∈ ls, l.length ≤ 1000000) (hcl : ClashIn ls) :
    Calls Tryd.prog 25 #[.slice A n c] w fun e w' => e = .returned (.bool true) ∧ Below w.heap.size w w' := by
  obtain ⟨i0, hi0, hz0, hz1, hz2⟩ := info_parts info_hashB
  have HP := Lib.hid hp; have HBT := Lib.hid hbt; have HLG := Lib.hid hlong; have HN := Lib.hid hn; have HCL := Lib.hid hcl
  clear hp hbt hlong hn hcl
  go_enter Tryd.func25, Tryd.ntmps25
  go_wp2_with fail
  go_loopg [3, 4] n (fun gk s3 s4 wr => ∃ i : Nat, i + gk = n ∧ s4 = .int .i64 (i : Int) ∧ Hid (wr.ownsRow w.heap.size 31 32 s3 i (bs ((ls.take i).map shaN).flatten)) ∧ Hid (Below w.heap.size w wr))
  case atStart => exact ⟨0, by omega, rfl, Lib.hid (own_nil _ _ _ _), Lib.hid (Below.refl _ _)⟩
  case round =>
    obtain ⟨i, hig, rfl, hown, hb⟩ := hrel
    obtain ⟨A3, c3, e3, hc3, _, _⟩ := own_slice hown.out
    subst e3
    cases gk with
    | succ gk =>
      have hin2 : i < n := by omega
      have hii : (i : Int) < (n : Int) := by omega
      obtain ⟨l, hl⟩ : ∃ l, ls[i]? = some l := ⟨_, List.getElem?_eq_getElem (by rw [HN.out]; exact hin2)⟩
      obtain ⟨ad, u, hA, hcell, Ap, cp, hu, hcp, hrp⟩ := HP.out.at_ hl
      subst hA hu
      have hlt : (ad.add i).block < w.heap.size := World.block_lt_of_cell? w _ hcell
      have hcr : wr.cell? (ad.add i) = some (.slice Ap l.length cp) := (hb.out.cell hlt).trans hcell
      have HC := Lib.hid (refSum_any Ap l.length cp l wr ((hrp.below hb.out).more hb.out.size) (HBT.out l (List.mem_of_getElem? hl)) (by have := HLG.out l (List.mem_of_getElem? hl); omega))
      have htk : ((ls.take (i + 1)).map shaN).flatten = ((ls.take i).map shaN).flatten ++ shaN l := by
        rw [List.take_add_one, hl]; simp
      have HTK := Lib.hid htk
      obtain ⟨F, hF, hFs, hFo, hFi⟩ := hash_ok (shaN l) (shaN_length l)
      have hfold := fold_whole #[.int .u8 0, .int .u8 0, .int .u8 0, .int .u8 0, .int .u8 0, .int .u8 0, .int .u8 0, .int .u8 0, .int .u8 0, .int .u8 0, .int .u8 0, .int .u8 0, .int .u8 0, .int .u8 0, .int .u8 0, .int .u8 0, .int .u8 0, .int .u8 0, .int .u8 0, .int .u8 0, .int .u8 0, .int .u8 0, .int .u8 0, .int .u8 0, .int .u8 0, .int .u8 0, .int .u8 0, .int .u8 0, .int .u8 0, .int .u8 0, .int .u8 0, .int .u8 0] F (by rw [hFs]; rfl)
      rw [hFs] at hfold
      have HF := Lib.hid hF
      have HSZ := Lib.hid hb.out.size
      clear hcell hrp hl htk hF
      go_wp2_with fail
      refine HC.out.mono ?_
      rintro _ w2 ⟨rfl, hb2⟩
      rw [HF.out]
      have HOW := Lib.hid (own_below hown.out hb2)
      have HBW := Lib.hid (hb.out.trans (hb2.mono HSZ.out))
      have HSZ2 := Lib.hid HBW.out.size
      clear hb2
      go_wp2_with (at_builtin
                   refine wpList_append_any _ rfl (.tmp 13) (.tmp 19) _ rfl w.heap.size 31 i0 _ 32 32 Tryd.underlying25 hi0 hz0 hz1 hz2 (by simp [Value.cells]) (by omega) (.slice A3 i c3) i _ rfl
                     (HOW.out.alloc _) (w2.heap.size + 1) (some ⟨w2.heap.size, 0, none⟩) 1 1 (bs (shaN l)) rfl (reads_whole w2 _ F _ 32 HF.out (by rw [bs_length, shaN_length])) (bs_one _) (by unfold maxLen; omega) (by omega) (by simp; have := HSZ2.out; omega) ?_
                   intro v4 w4 hown4 hg4 hat4)
      go_roundg gk
      case measure => omega
      case rel => exact ⟨i + 1, by omega, by go_num, Lib.hid (by rw [HTK.out, bs_append]; exact hown4), Lib.hid (below_app HBW.out HOW.out HSZ2.out hg4)⟩
    | zero =>
      obtain rfl : i = n := by omega
      clear hig
      rename World => wa
      have HH : Hid (HsAt wa A3 (ls.map shaN)) := Lib.hid (by
        have h1 := hown.out
        rw [List.take_of_length_le (by rw [HN.out]; exact Nat.le_refl _)] at h1
        have h2 : (ls.map shaN).length = i := by rw [List.length_map]; exact HN.out
        exact HsAt.of_own (c := c3) (by rw [h2]; exact h1))
      have HPW := Lib.hid (HP.out.next hb.out)
      have HBW := Lib.hid hb.out
      have hin : ¬ (i : Int) < (i : Int) := by omega
      clear hown hb
      go_wp2_with fail
      go_loopg [5, 6] i (fun gk s5 s6 w2 => ∃ a : Nat, a + gk = i ∧ s5 = .int .i64 (a : Int) ∧ Hid (∀ p k, p < a → k < p → NoClash ls p k) ∧ Hid (Below wa.heap.size wa w2))
      case atStart => exact ⟨0, by omega, rfl, Lib.hid (by intro p k hp; omega), Lib.hid (Below.refl _ _)⟩
      case round =>
        rename World => w2
        obtain ⟨a, hag, rfl, hno, hb2⟩ := hrel
        cases gk with
        | zero =>
          obtain rfl : a = i := by omega
          exact (no_clash (fun p k hp hk => hno.out p k (by rw [HN.out] at hp; exact hp) hk) HCL.out).elim
        | succ ga =>
          have hai : a < i := by omega
          have haI : (a : Int) < (i : Int) := by omega
          obtain ⟨x, hx⟩ : ∃ x, ls[a]? = some x := ⟨_, List.getElem?_eq_getElem (by rw [HN.out]; exact hai)⟩
          go_wp2_with fail
          go_loopg [6] a (fun gk2 s6 w3 => ∃ k : Nat, k + gk2 = a ∧ s6 = .int .i64 (k : Int) ∧ Hid (∀ p, p < k → NoClash ls a p) ∧ Hid (Below wa.heap.size wa w3))
          case atStart => exact ⟨0, by omega, rfl, Lib.hid (by intro p hp; omega), hb2⟩
          case round =>
            rename World => w3
            rename Nat => gk2
            obtain ⟨k, hkg, rfl, hno2, hb3⟩ := hrel
            cases gk2 with
            | zero =>
              obtain rfl : k = a := by omega
              have hkk : ¬ (k : Int) < (k : Int) := by omega
              go_wp2_with fail
              go_roundg ga
              case measure => omega
              case rel =>
                refine ⟨k + 1, by omega, by go_num, Lib.hid fun p q hp hq => ?_, hb3⟩
                by_cases hpk : p < k
                · exact hno.out p q hpk hq
                · obtain rfl : p = k := by omega
                  exact hno2.out q hq
            | succ gk2 =>
              have hka : k < a := by omega
              have hkI : (k : Int) < (a : Int) := by omega
              have hkI2 : (k : Int) < (i : Int) := by omega
              obtain ⟨y, hy⟩ : ∃ y, ls[k]? = some y := ⟨_, List.getElem?_eq_getElem (by rw [HN.out]; omega)⟩
              have hb03 := HBW.out.trans (hb3.out.mono HBW.out.size)
              obtain ⟨b1, o1, hA1, hb1, hr1⟩ := (HH.out.next hb3.out).at_ (Dg.sums ls) (k := a) (d := shaN x) (by rw [List.getElem?_map, hx]; rfl)
              obtain ⟨b2, o2, hA2, _, hr2⟩ := (HH.out.next hb3.out).at_ (Dg.sums ls) (k := k) (d := shaN y) (by rw [List.getElem?_map, hy]; rfl)
              subst hA1
              injection hA2 with hA2
              injection hA2 with hA3 hA4
              subst hA3 hA4
              obtain ⟨bq, oq, hAq, _⟩ := HP.out.plain (by rw [HN.out]; omega)
              obtain ⟨ad, u, hAx, hcx, Ax, cx, hux, hcxx, hrx⟩ := (HP.out.next hb03).at_ hx
              obtain ⟨ad', u', hAy, hcy, Ay, cy, huy, hcyy, hry⟩ := (HP.out.next hb03).at_ hy
              subst hAq
              injection hAx with hAx
              injection hAy with hAy
              subst hAx hAy hux huy
              rw [plain_add] at hcx hcy
              have Hcx := Lib.hid (cell_regrown hcx); have Hcy := Lib.hid (cell_regrown hcy)
              have HX := Lib.hid fun (d : Nat) (os : Array Obj) => text_of cx ((hrx.below (below_regrown w3 d os)).more (below_regrown w3 d os).size) (HBT.out x (List.mem_of_getElem? hx))
              have HY := Lib.hid fun (d : Nat) (os : Array Obj) => text_of cy ((hry.below (below_regrown w3 d os)).more (below_regrown w3 d os).size) (HBT.out y (List.mem_of_getElem? hy))
              obtain ⟨TX, hTX⟩ : ∃ TX : ByteArray, (⟨(tb x).toArray⟩ : ByteArray) = TX := ⟨_, rfl⟩
              obtain ⟨TY, hTY⟩ : ∃ TY : ByteArray, (⟨(tb y).toArray⟩ : ByteArray) = TY := ⟨_, rfl⟩
              rw [hTX] at HX
              rw [hTY] at HY
              have HR1 := Lib.hid (range_regrown hr1); have HR2 := Lib.hid (range_regrown hr2)
              have HI1 := Lib.hid (hash_size (shaN x) (shaN_length x)); have HI2 := Lib.hid (hash_size (shaN y) (shaN_length y))
              obtain ⟨r, hr⟩ : ∃ r, decide (shaN x = shaN y) = r := ⟨_, rfl⟩
              have HE := Lib.hid fun W => eql_hash W (shaN x) (shaN y) (shaN_length x) (shaN_length y)
              rw [hr] at HE
              have HRR := Lib.hid hr
              have HTX := Lib.hid hTX; have HTY := Lib.hid hTY
              have HXX := Lib.hid hx; have HYY := Lib.hid hy
              clear hr1 hr2 hcx hcy hrx hry hr hTX hTY hx hy
              go_upto_region 12 with fail
              refine wp_region_quiet_below (by kernel_rfl) (by kernel_rfl) ?_
              go_big_quiet_step (fail)
              go_big_quiet_step (fail)
              go_big_quiet_step (fail)
              refine wpQuiet_load (by rfl) 31 (.tmp 34) rfl b1 (o1 + a * 32) rfl (bs (shaN x)) _ rfl _ HR1.out Tryd.underlying31 rfl HI1.out ?_
              try simp only [Act.put, List.setIfInBounds_toArray, List.set_cons_zero, List.set_cons_succ]
              go_big_quiet_step (fail)
              go_big_quiet_step (fail)
              go_big_quiet_step (fail)
              refine wpQuiet_load (by rfl) 31 (.tmp 38) rfl b1 (o1 + k * 32) rfl (bs (shaN y)) _ rfl _ HR2.out Tryd.underlying31 rfl HI2.out ?_
              try simp only [Act.put, List.setIfInBounds_toArray, List.set_cons_zero, List.set_cons_succ]
              refine wpQuiet_bin (by rfl) .eql 31 _ (.tmp 35) (.tmp 39) rfl _ _ rfl rfl hash_guard _ HE.out ?_
              try simp only [Act.put, List.setIfInBounds_toArray, List.set_cons_zero, List.set_cons_succ]
              cases r with
              | false =>
                repeat (go_big_quiet_step (fail))
                refine wpQuiet_nil ?_
                intro _ hw'
                obtain ⟨p, hw''⟩ := hw'
                subst hw''
                have HB4 := Lib.hid (hb3.out.trans ((below_regrown w3 p.d p.os).mono hb3.out.size))
                have HNO : Hid (∀ p, p < k + 1 → NoClash ls a p) := Lib.hid fun p hp => by
                  by_cases hpk : p < k
                  · exact hno2.out p hpk
                  · obtain rfl : p = k := by omega
                    intro x' y' h1 h2 h3
                    rw [HXX.out] at h1
                    rw [HYY.out] at h2
                    injection h1 with h1
                    injection h2 with h2
                    subst h1 h2
                    exact absurd h3 (of_decide_eq_false HRR.out)
                go_wp2_with fail
                go_roundg gk2
                case measure => omega
                case rel => exact ⟨k + 1, by omega, by go_num, HNO, HB4⟩
              | true =>
                have hcx := Hcx.out; have hcy := Hcy.out
                have hX := HX.out; have hY := HY.out
                have HNE : Hid (TX.toList = TY.toList → x = y) := Lib.hid fun h => by
                  rw [ByteArray.toList_eq, ByteArray.toList_eq, ← HTX.out, ← HTY.out] at h
                  exact tb_inj (HBT.out x (List.mem_of_getElem? HXX.out)) (HBT.out y (List.mem_of_getElem? HYY.out)) (by simpa using h)
                obtain ⟨s, hs⟩ : ∃ s, (TX.toList == TY.toList) = s := ⟨_, rfl⟩
                cases s with
                | false =>
                  repeat (go_big_quiet_step (fail))
                  refine wpQuiet_nil ?_
                  intro _ hw'
                  obtain ⟨p, hw''⟩ := hw'
                  subst hw''
                  go_wp2_with fail
                  go_ret
                  exact ⟨rfl, HBW.out.trans ((hb3.out.trans ((below_regrown w3 p.d p.os).mono hb3.out.size)).mono HBW.out.size)⟩
                | true =>
                  have HS := Lib.hid hs
                  repeat (go_big_quiet_step (fail))
                  refine wpQuiet_nil ?_
                  intro _ hw'
                  obtain ⟨p, hw''⟩ := hw'
                  subst hw''
                  have HB4 := Lib.hid (hb3.out.trans ((below_regrown w3 p.d p.os).mono hb3.out.size))
                  have HNO : Hid (∀ p, p < k + 1 → NoClash ls a p) := Lib.hid fun p hp => by
                    by_cases hpk : p < k
                    · exact hno2.out p hpk
                    · obtain rfl : p = k := by omega
                      intro x' y' h1 h2 h3
                      rw [HXX.out] at h1
                      rw [HYY.out] at h2
                      injection h1 with h1
                      injection h2 with h2
                      subst h1 h2
                      exact HNE.out (by simpa using HS.out)
                  go_wp2_with fail
                  go_roundg gk2
                  case measure => omega
                  case rel => exact ⟨k + 1, by omega, by go_num, HNO, HB4⟩
end Go.Proofs.YtkopoepoinkpeaaDoor
