/- Texts joined: TrRefRoot GrFold OwnNew. -/
import Derived.Test.YtfpbijnlmlaloaaDoorTrRoot
import Derived.Test.YtfpbijnlmlaloaaDoorJ34
import Derived.Test.YtfpbijnlmlaloaaDoorWords
/- Contract of the document's Root. No condition. -/
namespace Go.Proofs.YtfpbijnlmlaloaaDoor
open Go.RowKit
set_option linter.unusedVariables false
set_option linter.unusedSimpArgs false
set_option maxRecDepth 100000
attribute [local go_sem ↓] Go.wp_at_zero Go.wp_at_succ

theorem LC.plain {w : World} {A : Option Addr} {ls : List (List Nat)} (h : LC w A ls) (hn : 0 < ls.length) : ∃ b o, A = some ⟨b, o, none⟩ ∧ b < w.heap.size := by
  obtain ⟨vs, hr, he⟩ := h
  obtain ⟨b, o, h1, h2, _⟩ := hr.plain hn
  exact ⟨b, o, h1, h2⟩
set_option maxHeartbeats 4000000 in
theorem refRoot_any : ∀ (N : Nat) (ls : List (List Nat)) (A : Option Addr) (c : Nat) (w : World), ls.length = N → N ≤ 1000000 → LC w A ls → (∀ l ∈ ls, ∀ b ∈ l, b < 256) → (∀ l ∈ ls, l.length ≤ 4294960000) → N ≤ c →
    Calls Tryd.prog 21 #[.slice A N c] w (HashTo w w.heap.size (rootL ls)) := by
  intro N
  induction N using Nat.strongRecOn with
  | _ N ih =>
    intro ls A c w hN hmax hp hbt hlong hc
    have hz := (zero_of_info info_hash).1
    have hR1 := Blk.new w 33 (Array.replicate 32 (.int .u8 0))
    have hb1 : Below w.heap.size w (w.alloc (.cells (Array.replicate 32 (.int .u8 0)) 33)) := (Below.refl _ _).alloc (Nat.le_refl _) _
    obtain ⟨w1, hw1⟩ : ∃ w1 : World, w.alloc (.cells (Array.replicate 32 (.int .u8 0)) 33) = w1 := ⟨_, rfl⟩
    have hs1 : w1.heap.size = w.heap.size + 1 := by rw [← hw1]; simp
    rw [hw1] at hR1 hb1
    have HP := Lib.hid (hp.next hb1)
    have HRES := Lib.hid hR1; have HB1 := Lib.hid hb1; have HS1 := Lib.hid hs1; have HBT := Lib.hid hbt; have HLG := Lib.hid hlong; have HN := Lib.hid hN; have HIH := Lib.hid ih
    obtain ⟨V, hV, hvz, hon, hvi⟩ := hash_ok (rootL ls) (rootL_len ls)
    have HV := Lib.hid hV; have HVZ := Lib.hid hvz; have HON := Lib.hid hon; have HVI := Lib.hid hvi
    clear hV hvz hon hvi hR1 hb1 hs1 hbt hlong hN ih hp
    by_cases h0 : N = 0
    · subst h0
      obtain rfl : ls = [] := List.eq_nil_of_length_eq_zero HN.out
      have HC := Lib.hid (refSum_any none 0 0 [] w1 Reads.none_ (by simp) (by omega))
      go_enter Tryd.func21, Tryd.ntmps21
      go_wp2_with fail
      refine HC.out.mono ?_
      rintro _ w2 ⟨rfl, hb2⟩
      have e1 : (bs (shaN [])).toArray = V := HV.out
      rw [e1]
      have HK := Lib.hid (HRES.out.below hb2 HRES.out.lt)
      have HB := Lib.hid (HB1.out.trans (hb2.mono HB1.out.size))
      clear e1 hb2
      go_wp2_with (refine wpList_store_row (by rfl) (.tmp 2) (.tmp 7) (by rfl) (by rfl) (by rfl) HK.out HVI.out (by rw [HVZ.out]; simp) HON.out ?_)
      refine bodyPost_ret (v := .agg V) (results_cell_row rfl _ _ _ _ _ _ _ (by rfl) (HK.out.row V) Tryd.underlying33 rfl HVI.out) rfl ⟨by rw [HV.out], Below.row HB.out (Nat.le_refl _) _⟩
    · by_cases h1 : N = 1
      · subst h1
        obtain ⟨l, rfl⟩ : ∃ l, ls = [l] := by
          match ls, HN.out with
          | [l], _ => exact ⟨l, rfl⟩
        obtain ⟨ad, u, rfl, hcell, A', c', rfl, hcc, hrr⟩ := HP.out.at_ (i := 0) (l := l) rfl
        have hadd : ad.add 0 = ad := by unfold Addr.add; rw [if_pos rfl]
        rw [hadd] at hcell
        obtain ⟨b, o, e, _⟩ := HP.out.plain (by simp)
        injection e with e
        subst e
        have HC := Lib.hid (refLeaf_any A' l.length c' l w1 hrr (HBT.out l (by simp)) hcc (HLG.out l (by simp)))
        clear hrr hadd
        go_enter Tryd.func21, Tryd.ntmps21
        go_wp2_with fail
        refine HC.out.mono ?_
        rintro _ w2 ⟨rfl, hb2⟩
        have e1 : (bs (leafD l)).toArray = V := by rw [← HV.out, rootL_one]
        rw [e1]
        have HK := Lib.hid (HRES.out.below hb2 HRES.out.lt)
        have HB := Lib.hid (HB1.out.trans (hb2.mono HB1.out.size))
        clear e1 hb2
        go_wp2_with (refine wpList_store_row (by rfl) (.tmp 2) (.tmp 14) (by rfl) (by rfl) (by rfl) HK.out HVI.out (by rw [HVZ.out]; simp) HON.out ?_)
        refine bodyPost_ret (v := .agg V) (results_cell_row rfl _ _ _ _ _ _ _ (by rfl) (HK.out.row V) Tryd.underlying33 rfl HVI.out) rfl ⟨by rw [HV.out], Below.row HB.out (Nat.le_refl _) _⟩
      · have h2 : 2 ≤ N := by omega
        have hk1 := spl_lt h2
        have hk2 := spl_pos h2
        obtain ⟨b, o, rfl, _⟩ := HP.out.plain (by rw [HN.out]; omega)
        have HSP := Lib.hid (refSplit_any (N : Int) w1 (by omega) (by omega))
        rw [Int.toNat_natCast] at HSP
        have hr2 := rootL_two (l := ls) (by rw [HN.out]; exact h2)
        rw [HN.out] at hr2
        have hl1 := HP.out.fore (k := spl N) (by rw [HN.out]; omega)
        have hl2 := HP.out.cut (k := spl N) (cap := c) (by rw [HN.out]; omega) (by rw [HN.out]; exact hc)
        rw [if_neg (by omega)] at hl2
        have hn1 : (ls.take (spl N)).length = spl N := by rw [List.length_take, HN.out]; omega
        have hn2 : (ls.drop (spl N)).length = N - spl N := by rw [List.length_drop, HN.out]
        obtain ⟨k, hk⟩ : ∃ k, spl N = k := ⟨_, rfl⟩
        rw [hk] at hk1 hk2 hr2 hl1 hl2 hn1 hn2 HSP
        have hl3 : LC w1 (some ⟨b, o + k, none⟩) (ls.drop k) := by simpa [plain_add] using hl2
        obtain ⟨VA, hVA⟩ : ∃ VA, (bs (rootL (ls.take k))).toArray = VA := ⟨_, rfl⟩
        obtain ⟨VB, hVB⟩ : ∃ VB, (bs (rootL (ls.drop k))).toArray = VB := ⟨_, rfl⟩
        have HL : Hid (∀ W, Below w1.heap.size w1 W → Calls Tryd.prog 21 #[.slice (some ⟨b, o, none⟩) k c] W fun e w' => e = .returned (.agg VA) ∧ Below W.heap.size W w') := Lib.hid fun W hW => by
          have := HIH.out k hk1 (ls.take k) (some ⟨b, o, none⟩) c W hn1 (by omega) (hl1.next hW) (fun l hl => HBT.out l (List.mem_of_mem_take hl)) (fun l hl => HLG.out l (List.mem_of_mem_take hl)) (by omega)
          unfold HashTo at this
          rw [hVA] at this
          exact this
        have HR : Hid (∀ W, Below w1.heap.size w1 W → Calls Tryd.prog 21 #[.slice (some ⟨b, o + k, none⟩) (N - k) (c - k)] W fun e w' => e = .returned (.agg VB) ∧ Below W.heap.size W w') := Lib.hid fun W hW => by
          have := HIH.out (N - k) (by omega) (ls.drop k) (some ⟨b, o + k, none⟩) (c - k) W hn2 (by omega) (hl3.next hW) (fun l hl => HBT.out l (List.mem_of_mem_drop hl)) (fun l hl => HLG.out l (List.mem_of_mem_drop hl)) (by omega)
          unfold HashTo at this
          rw [hVB] at this
          exact this
        have HND : Hid (∀ (W : World), Calls Tryd.prog 32 #[.agg VA, .agg VB] W fun e w' => e = .returned (.agg V) ∧ Below W.heap.size W w') := Lib.hid fun W => by
          have := refNode_any (rootL (ls.take k)) (rootL (ls.drop k)) W (rootL_len _) (rootL_len _) (rootL_byte _) (rootL_byte _)
          unfold HashTo at this
          rw [hVA, hVB, ← hr2, HV.out] at this
          exact this
        have h0' : ¬ (N : Int) = 0 := by omega
        have h1' : ¬ (N : Int) = 1 := by omega
        have q1 : (k : Int) ≤ (N : Int) := by omega
        have q2 : (N : Int) ≤ (c : Int) := by omega
        have q3 : (k : Int) ≤ (c : Int) := by omega
        have q4 : ¬ c = k := by omega
        have q5 : ((N : Int) - (k : Int)).toNat = N - k := by omega
        have q6 : ((c : Int) - (k : Int)).toNat = c - k := by omega
        clear hk hr2 hl1 hl2 hl3 hn1 hn2 hVA hVB
        go_enter Tryd.func21, Tryd.ntmps21
        go_wp2_with fail
        refine HSP.out.mono ?_
        rintro _ _ ⟨rfl, rfl⟩
        go_upto_region 6 with fail
        have HB := Below.refl w1.heap.size w1
        have hvv := HVZ.out
        go_region_law (first
          | (go_simp; go_at_call 21
             first
               | with_reducible refine (HL.out _ (by first | exact HB | exact Below.drew HB | exact Below.drew (Below.drew HB))).mono ?_
               | with_reducible refine (HR.out _ (by first | exact HB | exact Below.drew HB | exact Below.drew (Below.drew HB))).mono ?_
             rintro e V1 ⟨rfl, hv⟩
             have HBn : Below w1.heap.size w1 V1 := (by first | exact Below.trans HB (hv.mono HB.size) | exact Below.trans (Below.drew HB) (hv.mono HB.size) | exact Below.trans (Below.drew (Below.drew HB)) (hv.mono HB.size))
             clear HB hv
             have HB := HBn
             clear HBn
             show _)
          | (go_simp; go_at_call 32
             refine (HND.out _).mono ?_
             rintro e V1 ⟨rfl, hv⟩
             have HBn : Below w1.heap.size w1 V1 := (by first | exact Below.trans HB (hv.mono HB.size) | exact Below.trans (Below.drew HB) (hv.mono HB.size) | exact Below.trans (Below.drew (Below.drew HB)) (hv.mono HB.size))
             have K7 := HRES.out.below HBn HRES.out.lt
             have hst := run_storeCells_row (P := Tryd.prog) K7 (cs' := V) HVI.out (by rw [HVZ.out]; simp) HON.out
             clear HB hv
             show _))
        all_goals
          have KK := Lib.hid (K7.row V)
          have BB := Lib.hid (Below.row (HB1.out.trans (HBn.mono HB1.out.size)) (Nat.le_refl w.heap.size) V)
          clear hst K7 HBn
          go_wp2_with fail
          exact bodyPost_ret (v := .agg V) (results_cell_row rfl _ _ _ _ _ _ _ (by rfl) KK.out Tryd.underlying33 rfl HVI.out) rfl ⟨by rw [HV.out], BB.out⟩
end Go.Proofs.YtfpbijnlmlaloaaDoor

/- What is told of a column as one value: a struct whose last part is an array. No program; no condition. -/
namespace Go.Proofs.YtfpbijnlmlaloaaDoor
open Go.RowKit
set_option linter.unusedVariables false
set_option linter.unusedSimpArgs false

theorem fold_set (k : Nat) : ∀ (D : List Value) (i : Nat) (cs : Array Value), k + i + D.length = cs.size → (D.zipIdx i).foldl (fun cs x => cs.setIfInBounds (k + x.2) x.1) cs = (cs.toList.take (k + i) ++ D).toArray
  | [], i, cs, h => by
    simp at h
    rw [List.take_of_length_le (by simp; omega)]
    simp
  | d :: D, i, cs, h => by
    rw [List.length_cons] at h
    rw [List.zipIdx_cons, List.foldl_cons, fold_set k D (i + 1) _ (by simp; omega)]
    congr 1
    rw [show k + (i + 1) = k + i + 1 by omega, List.take_add_one]
    simp only [Array.toList_setIfInBounds]
    rw [List.take_set_of_le (by omega), List.getElem?_set_self (by simp; omega)]
    simp
theorem fold_setT (k : Nat) : ∀ (D : List Value) (i : Nat) (cs : Array Value), k + i + D.length ≤ cs.size → (D.zipIdx i).foldl (fun cs x => cs.setIfInBounds (k + x.2) x.1) cs = (cs.toList.take (k + i) ++ D ++ cs.toList.drop (k + i + D.length)).toArray
  | [], i, cs, h => by simp
  | d :: D, i, cs, h => by
    rw [List.length_cons] at h
    rw [List.zipIdx_cons, List.foldl_cons, fold_setT k D (i + 1) _ (by simp; omega)]
    congr 1
    rw [show k + (i + 1) = k + i + 1 by omega, List.take_add_one, List.length_cons, show k + i + (D.length + 1) = k + i + 1 + D.length by omega]
    simp only [Array.toList_setIfInBounds]
    rw [List.take_set_of_le (by omega), List.getElem?_set_self (by simp; omega), List.drop_set_of_lt (by omega)]
    simp
theorem head_set (a b v v' : Value) (D : List Value) (hD : D.length = 32) : ([a, b] ++ D ++ [v]).toArray.setIfInBounds 34 v' = ([a, b] ++ D ++ [v']).toArray := by
  rw [List.setIfInBounds_toArray]
  congr 1
  rw [List.set_append, if_neg (by simp; omega)]
  simp [hD]
theorem fold_whole (cs F : Array Value) (h : F.size = cs.size) : Array.foldl (fun cs x => cs.setIfInBounds x.2 x.1) cs F.zipIdx 0 F.size = F := by
  have h1 := fold_set 0 F.toList 0 cs (by simp; omega)
  simp only [Nat.zero_add, List.take_zero, List.nil_append] at h1
  rw [show F.size = F.zipIdx.size by simp, ← Array.foldl_toList, Array.toList_zipIdx]
  simpa using h1
theorem reads_whole (W : World) (t : TypeId) (F : Array Value) (l : List Value) (s : Nat) (h : l.toArray = F) (hl : l.length = s) : Reads (W.alloc (.cells F t)) (W.heap.size + 1) s (some ⟨W.heap.size, 0, none⟩) 1 l := by
  subst h
  refine ⟨by omega, fun _ => ⟨_, rfl, Nat.lt_succ_self _, fun j u hu => ?_⟩⟩
  rw [plain_add, Nat.zero_add, (Blk.new W t l.toArray).cell]
  simpa using hu
end Go.Proofs.YtfpbijnlmlaloaaDoor

/- A row that was just made whole is the call's own. No program. -/
namespace Go.Proofs.YtfpbijnlmlaloaaDoor
open Go.RowKit
set_option linter.unusedVariables false
set_option linter.unusedSimpArgs false
set_option maxRecDepth 100000

theorem own_new (w : World) (cs : Array Value) (n : Nat) (t : TypeId) (xs : List Value) (hm : n ≤ maxLen) (hs : cs.size = n) (hx : cs.toList = xs) :
    (w.alloc (.cells cs t)).ownsRow w.heap.size t 1 (.slice (some ⟨w.heap.size, 0, none⟩) n n) n xs := by
  subst hx
  exact ⟨by simp [hs], .inr ⟨w.heap.size, n, cs, rfl, Nat.le_refl _, heap_alloc_new w _, Nat.le_refl _, hm, by omega, by rw [Nat.mul_one, ← hs, ← Array.length_toList, List.take_length]⟩⟩

end Go.Proofs.YtfpbijnlmlaloaaDoor
