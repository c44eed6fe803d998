/- The walk of the statement ShaTagged. -/
import Derived.Test.YtbejglmmcmcleaaDoorShaAwake
import Derived.Test.YtbejglmmcmcleaaDoorShaRefTagged
import Derived.Test.YtbejglmmcmcleaaDoorShaEql
import Derived.Test.YtbejglmmcmcleaaDoorShaHexLaw
namespace Go.Proofs.YtbejglmmcmcleaaDoor
open Go.RowKit
set_option linter.unusedVariables false
set_option maxRecDepth 100000
attribute [local go_sem ↓] Go.wp_at_zero Go.wp_at_succ

theorem flat_bound : ∀ (ls : List (List Nat)) (m : Nat), (∀ l ∈ ls, l.length ≤ m) → ls.flatten.length ≤ ls.length * m := by
  intro ls m
  induction ls with
  | nil => intro _; simp
  | cons l ls ih =>
    intro h
    have h1 := h l (by simp)
    have h2 := ih (fun x hx => h x (by simp [hx]))
    rw [List.flatten_cons, List.length_append, List.length_cons, Nat.add_mul, Nat.one_mul]
    omega
theorem sum_yieldsT (A : Option Addr) (n c : Nat) (l : List Nat) (w : World) (hr : Reads w w.heap.size 1 A n (bs l)) (hl : ∀ b ∈ l, b < 256) (hc : n ≤ c) (hn : n ≤ 4294967296) (ht : Tab w) : Yields w.heap.size w 6 #[.slice A n c] (.agg (bs (shaN l)).toArray) := fun W hb =>
  (sum_any A n c l W ((hr.below hb).more hb.size) hl hc hn (ht.next hb)).mono fun e w' ⟨he, h⟩ => ⟨he, hb.trans (h.mono hb.size)⟩
theorem refTagged_yields (x : Nat) (A : Option Addr) (n c : Nat) (ls : List (List Nat)) (w : World) (hx : x < 256) (hn : ls.length = n) (hn2 : n ≤ 1000000) (hp : LC w A ls) (hbt : ∀ l ∈ ls, ∀ b ∈ l, b < 256) (hs : ls.flatten.length ≤ 4294967000) :
    Yields w.heap.size w 10 #[.int .u8 (x : Int), .slice A n c] (.agg (bs (shaN (x :: ls.flatten))).toArray) := fun W hb =>
  (refTagged_any x A n c ls W hx hn hn2 (hp.next hb) hbt hs).mono fun e w' ⟨he, h⟩ => ⟨he, hb.trans (h.mono hb.size)⟩
set_option maxHeartbeats 4000000 in
theorem taggedLaw_any (x : Nat) (A : Option Addr) (n c : Nat) (ls : List (List Nat)) (w : World) (hx : x < 256) (hn : ls.length = n) (hp : LC w A ls) (hbt : ∀ l ∈ ls, ∀ b ∈ l, b < 256) (ht : Tab w) :
    Calls Tryd.prog 4 #[.int .u8 (x : Int), .slice A n c] w fun e w' => e = .returned (.bool true) ∧ Below w.heap.size w w' := by
  have HT := Lib.hid ht; clear ht
  by_cases h10 : 10 < n
  · go_enter Tryd.func4, Tryd.ntmps4
    go_wp2_with fail
    refine (awake_any w HT.out).mono ?_
    rintro _ w1 ⟨rfl, hb⟩
    go_wp2_with fail
    go_ret
    exact ⟨rfl, hb⟩
  · obtain ⟨i0, hi0, hz0, hz1, hz2⟩ := info_parts info_u8
    have hz := (zero_of_info info_hash).1
    have hszc := Lib.hid (zero_of_info info_hash).2
    have hown := own_of_blk (base := w.heap.size) (n := 1) (cap := 1) (Blk.new w 5 #[.int .u8 (x : Int)]) (Nat.le_refl _) (Nat.le_refl _) (by unfold maxLen; omega) rfl (xs := bs [x]) rfl
    have HOWN := Lib.hid (show (w.alloc (.cells #[.int .u8 (x : Int)] 5)).ownsRow w.heap.size 5 1 (.slice (some ⟨w.heap.size, 0, none⟩) 1 1) (x :: (ls.take 0).flatten).length (bs (x :: (ls.take 0).flatten)) from hown)
    have HBO := Lib.hid (show Below w.heap.size w (w.alloc (.cells #[.int .u8 (x : Int)] 5)) from (Below.refl _ _).alloc (Nat.le_refl _) _)
    have HP := Lib.hid hp; have HBT := Lib.hid hbt; have HNN := Lib.hid hn
    clear hp hbt hn hown
    go_enter Tryd.func4, Tryd.ntmps4
    go_wp2_with fail
    obtain ⟨w2, hw2⟩ : ∃ w2 : World, w2 = w.alloc (.cells #[.int .u8 (x : Int)] 5) := ⟨_, rfl⟩
    rw [← hw2] at HOWN HBO
    rw [← hw2]
    clear hw2
    go_loopg [5, 6] n (fun gk s5 s6 wr => ∃ (i m : Nat), i + gk = n ∧ s6 = .int .i64 (i : Int) ∧ Hid (m = (x :: (ls.take i).flatten).length) ∧ Hid (∀ l ∈ ls.take i, l.length ≤ 100) ∧ Hid (wr.ownsRow w.heap.size 5 1 s5 m (bs (x :: (ls.take i).flatten))) ∧ Hid (Below w.heap.size w wr))
    case atStart => exact ⟨0, _, by omega, rfl, Lib.hid rfl, Lib.hid (by simp), HOWN, HBO⟩
    case round =>
      clear HOWN HBO
      obtain ⟨i, m, hig, rfl, hm, hall, hown, hb⟩ := hrel
      obtain ⟨Av, cv, rfl, hmc, _, hrv⟩ := own_slice hown.out
      have HRV := Lib.hid hrv; clear hrv
      have hml : m ≤ 1001 := by
        have h1 := hm.out
        rw [List.length_cons] at h1
        have h2 := flat_bound (ls.take i) 100 hall.out
        have h3 : (ls.take i).length ≤ 10 := by rw [List.length_take, HNN.out]; omega
        have h4 : (ls.take i).length * 100 ≤ 10 * 100 := Nat.mul_le_mul_right _ h3
        omega
      cases gk with
      | zero =>
        obtain rfl : i = n := by omega
        clear hig
        have hin : ¬ (i : Int) < (i : Int) := by omega
        have hfull : (ls.take i) = ls := List.take_of_length_le (by rw [HNN.out]; exact Nat.le_refl _)
        rw [hfull] at HRV hm
        have hflat : ls.flatten.length ≤ 1000 := by have := hm.out; rw [List.length_cons] at this; omega
        have HTG := Lib.hid (tagged_any x A i c ls wr hx HNN.out (by omega) (HP.out.next hb.out) HBT.out (by omega) (HT.out.next hb.out))
        have HFB := Lib.hid (show ∀ b ∈ x :: ls.flatten, b < 256 by
          intro b hb
          rcases List.mem_cons.1 hb with rfl | hb
          · exact hx
          · exact flat_bytes HBT.out b hb)
        clear hfull
        go_wp2_with fail
        refine HTG.out.mono ?_
        rintro _ w3 ⟨rfl, hb3⟩
        have HB3 := Lib.hid (hb.out.trans (hb3.mono hb.out.size))
        have HRV3 := Lib.hid ((HRV.out.below hb3).more hb3.size)
        have HBN := Lib.hid (Blk.new w3 24 (Array.replicate 32 (.int .u8 0)))
        have hsz2 : ((bs (shaN (x :: ls.flatten))).toArray).size = 32 := by simp [bs_length, shaN_length]
        have hone : ((bs (shaN (x :: ls.flatten))).toArray).all (·.oneCell') = true := by
          rw [Array.all_eq_true]
          intro j h
          exact bs_one (shaN (x :: ls.flatten)) _ (by simp)
        have HZ2 := Lib.hid hsz2; have HON := Lib.hid hone
        clear hsz2 hone hb3
        obtain ⟨VV, hVV⟩ : ∃ V : Array Value, V = (bs (shaN (x :: ls.flatten))).toArray := ⟨_, rfl⟩
        rw [← hVV] at HZ2 HON ⊢
        have HVV := Lib.hid hVV; clear hVV
        go_wp2_with (refine wpList_store_row (by rfl) (.tmp 7) (.tmp 35) (by rfl) (by rfl) (by rfl) HBN.out (by rw [HZ2.out]; exact hszc.out) (by rw [HZ2.out]; simp) HON.out ?_)
        have hb4 : Below w3.heap.size w3 ((w3.alloc (.cells (Array.replicate 32 (.int .u8 0)) 24)).setRow w3.heap.size VV) := Below.row ((Below.refl _ _).alloc (Nat.le_refl _) _) (Nat.le_refl _) _
        have hB4 := HBN.out.row VV
        have hs4 : ((w3.alloc (.cells (Array.replicate 32 (.int .u8 0)) 24)).setRow w3.heap.size VV).heap.size = w3.heap.size + 1 := by rw [setRow_size]; simp
        obtain ⟨w4, hw4⟩ : ∃ w4 : World, w4 = (w3.alloc (.cells (Array.replicate 32 (.int .u8 0)) 24)).setRow w3.heap.size VV := ⟨_, rfl⟩
        rw [← hw4] at hb4 hB4 hs4
        rw [← hw4]
        clear hw4
        obtain ⟨kb, hkb⟩ : ∃ k, k = w3.heap.size := ⟨_, rfl⟩
        rw [← hkb] at hB4 hs4 ⊢
        have HKB := Lib.hid hkb; clear hkb
        rw [HVV.out] at hB4 ⊢
        have hql := fun W => eql_hash W (shaN (x :: ls.flatten)) (shaN (x :: ls.flatten)) (shaN_length _) (shaN_length _)
        rw [decide_eq_true (rfl : shaN (x :: ls.flatten) = shaN (x :: ls.flatten))] at hql
        have HB04 := Lib.hid (HB3.out.trans (hb4.mono HB3.out.size))
        have S1 := Lib.hid (sum_yieldsT Av m cv (x :: ls.flatten) w4 ((HRV3.out.below hb4).more hb4.size) HFB.out hmc (by omega) (HT.out.next HB04.out))
        have S3 := Lib.hid (refTagged_yields x A i c ls w4 hx HNN.out (by omega) (HP.out.next HB04.out) HBT.out (by omega))
        have S4 := Lib.hid (awake_yields w4 (HT.out.next HB04.out))
        have hu := Tryd.underlying24
        have hi1 : (Tryd.prog.info? 24).map (·.size) = some (bs (shaN (x :: ls.flatten))).length := by rw [hszc.out, bs_length, shaN_length]
        have hcell : ∀ j v, (bs (shaN (x :: ls.flatten)))[j]? = some v → w4.cell? ⟨kb, 0 + j, none⟩ = some v := by
          intro j v hv
          rw [Nat.zero_add, hB4.cell]
          simpa using hv
        obtain ⟨VL, hVL⟩ : ∃ V, V = bs (shaN (x :: ls.flatten)) := ⟨_, rfl⟩
        rw [← hVL] at S1 S3 hi1 hql hcell ⊢
        have HKEEP := Lib.hid (fun (W : World) (h : Below w4.heap.size w4 W) => (show W.rangeAt kb 0 VL from
          fun j v hv => (h.cell (p := ⟨kb, 0 + j, none⟩) (show kb < w4.heap.size by omega)).trans (hcell j v hv)))
        have HB := Below.refl w4.heap.size w4
        clear hVL hcell hB4 hb4
        go_wp2_with fail
        refine wp_region_noPanic ?_
        refine wp_region_held_drew (S := fun w' => w'.rangeAt kb 0 VL) (by kernel_rfl) (HKEEP.out _ (below_drew HB)) (fun hHeld => ?_)
        refine wpAnyH_take (i := 0) (v := .agg VL.toArray) rfl (by kernel_rfl) (by kernel_rfl) (by kernel_rfl) (fun _ _ _ h => h) (yieldsIf_load_mid (by rfl) _ (.tmp 7) rfl (kb) 0 rfl VL _ (fun w' hS => hS) hu rfl hi1) (by assumption) ?_
        try simp only [Act.put, List.setIfInBounds_toArray, List.set_cons_zero, List.set_cons_succ]
        refine wpAnyH_take (i := 1) (v := ?_) rfl (by kernel_rfl) (by kernel_rfl) (by kernel_rfl) (fun _ _ _ h => h) (Or.inl ⟨by rfl, ?_⟩) (by assumption) ?_
        rotate_left
        · (intro _ hSw; (try dsimp only at hSw); clear hSw; go_simp; try with_reducible rfl)
        try simp only [Act.put, List.setIfInBounds_toArray, List.set_cons_zero, List.set_cons_succ]
        refine wpAnyH_ready (rs := [2]) (by kernel_rfl) (by simp) ?_
        refine AllReadyH.cons rfl (fun K hK => ?_) AllReadyH.nil
        go_simp
        go_at_call 6
        refine (S1.out _ ?_).mono ?_
        · first | exact HB | exact below_drew HB
        clear HB hHeld
        rintro _ w9 ⟨rfl, HB⟩
        go_wp2_with fail
        refine hK.out _ _ (HKEEP.out _ HB) (fun hHeld => ?_)
        clear hK K
        try simp only [Act.put, List.setIfInBounds_toArray, List.set_cons_zero, List.set_cons_succ]
        refine wpAnyH_take (i := 3) (v := ?_) rfl (by kernel_rfl) (by kernel_rfl) (by kernel_rfl) (fun _ _ _ h => h) (Or.inl ⟨by rfl, ?_⟩) (by assumption) ?_
        rotate_left
        · (intro _ hSw; (try dsimp only at hSw); clear hSw; go_simp; try with_reducible rfl)
        try simp only [Act.put, List.setIfInBounds_toArray, List.set_cons_zero, List.set_cons_succ]
        refine wpAnyH_take (i := 4) (v := ?_) rfl (by kernel_rfl) (by kernel_rfl) (by kernel_rfl) (fun _ _ _ h => h) (Or.inl ⟨by rfl, ?_⟩) (by assumption) ?_
        rotate_left
        · (intro _ hSw; (try dsimp only at hSw); clear hSw; go_simp; try with_reducible rfl)
        try simp only [Act.put, List.setIfInBounds_toArray, List.set_cons_zero, List.set_cons_succ]
        refine wpAnyH_take (i := 5) (v := .agg VL.toArray) rfl (by kernel_rfl) (by kernel_rfl) (by kernel_rfl) (fun _ _ _ h => h) (yieldsIf_load_mid (by rfl) _ (.tmp 7) rfl (kb) 0 rfl VL _ (fun w' hS => hS) hu rfl hi1) (by assumption) ?_
        try simp only [Act.put, List.setIfInBounds_toArray, List.set_cons_zero, List.set_cons_succ]
        refine wpAnyH_take (i := 6) (v := ?_) rfl (by kernel_rfl) (by kernel_rfl) (by kernel_rfl) (fun _ _ _ h => h) (Or.inl ⟨by rfl, ?_⟩) (by assumption) ?_
        rotate_left
        · (intro _ hSw; (try dsimp only at hSw); clear hSw; go_simp; try with_reducible rfl)
        try simp only [Act.put, List.setIfInBounds_toArray, List.set_cons_zero, List.set_cons_succ]
        refine wpAnyH_take (i := 7) (v := ?_) rfl (by kernel_rfl) (by kernel_rfl) (by kernel_rfl) (fun _ _ _ h => h) (Or.inl ⟨by rfl, ?_⟩) (by assumption) ?_
        rotate_left
        · (intro _ hSw; (try dsimp only at hSw); clear hSw; go_simp; try with_reducible rfl)
        try simp only [Act.put, List.setIfInBounds_toArray, List.set_cons_zero, List.set_cons_succ]
        refine wpAnyH_ready (rs := [8]) (by kernel_rfl) (by simp) ?_
        refine AllReadyH.cons rfl (fun K hK => ?_) AllReadyH.nil
        go_simp
        go_at_call 10
        refine (S3.out _ ?_).mono ?_
        · first | exact HB | exact below_drew HB
        clear HB hHeld
        rintro _ w9 ⟨rfl, HB⟩
        go_wp2_with fail
        refine hK.out _ _ (HKEEP.out _ HB) (fun hHeld => ?_)
        clear hK K
        try simp only [Act.put, List.setIfInBounds_toArray, List.set_cons_zero, List.set_cons_succ]
        refine wpAnyH_take (i := 9) (v := ?_) rfl (by kernel_rfl) (by kernel_rfl) (by kernel_rfl) (fun _ _ _ h => h) (Or.inl ⟨by rfl, ?_⟩) (by assumption) ?_
        rotate_left
        · (intro _ hSw; (try dsimp only at hSw); clear hSw; go_simp; try with_reducible rfl)
        try simp only [Act.put, List.setIfInBounds_toArray, List.set_cons_zero, List.set_cons_succ]
        refine wpAnyH_take (i := 10) (v := ?_) rfl (by kernel_rfl) (by kernel_rfl) (by kernel_rfl) (fun _ _ _ h => h) (Or.inl ⟨by rfl, ?_⟩) (by assumption) ?_
        rotate_left
        · (intro _ hSw; (try dsimp only at hSw); clear hSw; go_simp; try with_reducible rfl)
        try simp only [Act.put, List.setIfInBounds_toArray, List.set_cons_zero, List.set_cons_succ]
        refine wpAnyH_take (i := 11) (v := ?_) rfl (by kernel_rfl) (by kernel_rfl) (by kernel_rfl) (fun _ _ _ h => h) (Or.inl ⟨by rfl, ?_⟩) (by assumption) ?_
        rotate_left
        · (intro _ hSw; (try dsimp only at hSw); clear hSw; go_simp; try with_reducible rfl)
        try simp only [Act.put, List.setIfInBounds_toArray, List.set_cons_zero, List.set_cons_succ]
        refine wpAnyH_ready (rs := [12]) (by kernel_rfl) (by simp) ?_
        refine AllReadyH.cons rfl (fun K hK => ?_) AllReadyH.nil
        go_simp
        go_at_call 8
        refine (S4.out _ ?_).mono ?_
        · first | exact HB | exact below_drew HB
        clear HB hHeld
        rintro _ w9 ⟨rfl, HB⟩
        go_wp2_with fail
        refine hK.out _ _ (HKEEP.out _ HB) (fun hHeld => ?_)
        clear hK K
        try simp only [Act.put, List.setIfInBounds_toArray, List.set_cons_zero, List.set_cons_succ]
        refine wpAnyH_take (i := 13) (oi := { dst := some 49, op := Op.pick (Operand.tmp 47) (Operand.tmp 48) (Operand.const (Value.bool false)), type := 4, pos := "law.go:31", after := #[{ on := 11, ground := Ground.data }, { on := 12, ground := Ground.data }], guard := none }) (v := ?_) rfl (by kernel_rfl) (by kernel_rfl) (by kernel_rfl) (fun _ _ _ h => h) (Or.inl ⟨by rfl, ?_⟩) (by assumption) ?_
        rotate_left
        · (intro _ hSw; (try dsimp only at hSw); clear hSw; go_simp; try with_reducible rfl)
        try simp only [Act.put, List.setIfInBounds_toArray, List.set_cons_zero, List.set_cons_succ]
        refine wpAnyH_take (i := 14) (oi := { dst := some 4, op := Op.assign (Operand.tmp 49), type := 4, pos := "law.go:31", after := #[{ on := 13, ground := Ground.data }, { on := 12, ground := Ground.chain }, { on := 0, ground := Ground.phase }, { on := 1, ground := Ground.phase }, { on := 2, ground := Ground.phase }, { on := 3, ground := Ground.phase }, { on := 4, ground := Ground.phase }, { on := 5, ground := Ground.phase }, { on := 6, ground := Ground.phase }, { on := 7, ground := Ground.phase }, { on := 8, ground := Ground.phase }, { on := 9, ground := Ground.phase }, { on := 10, ground := Ground.phase }, { on := 11, ground := Ground.phase }, { on := 12, ground := Ground.phase }, { on := 13, ground := Ground.phase }], guard := none }) (v := ?_) rfl (by kernel_rfl) (by kernel_rfl) (by kernel_rfl) (fun _ _ _ h => h) (Or.inl ⟨by rfl, ?_⟩) (by assumption) ?_
        rotate_left
        · (intro _ hSw; (try dsimp only at hSw); clear hSw; go_simp; try with_reducible rfl)
        try simp only [Act.put, List.setIfInBounds_toArray, List.set_cons_zero, List.set_cons_succ]
        refine wpAnyH_done (by kernel_rfl) ?_ _
        refine NoPanic.normal ?_
        go_wp2_with fail
        go_ret
        exact ⟨rfl, HB04.out.trans (HB.mono HB04.out.size)⟩
      | succ gk =>
        have hi : i < n := by omega
        have hii : (i : Int) < (n : Int) := by omega
        obtain ⟨l, hl⟩ : ∃ l, ls[i]? = some l := ⟨_, List.getElem?_eq_getElem (by rw [HNN.out]; exact hi)⟩
        obtain ⟨ad, u, hA, hcell, Ap, cp, hu, hcp, hrp⟩ := HP.out.at_ hl
        subst hA hu
        have hlt : (ad.add i).block < w.heap.size := World.block_lt_of_cell? w _ hcell
        have hcr : wr.cell? (ad.add i) = some (.slice Ap l.length cp) := (hb.out.cell hlt).trans hcell
        have HRP := Lib.hid ((hrp.below hb.out).more hb.out.size)
        by_cases hl100 : 100 < l.length
        · have hl100i : (100 : Int) < (l.length : Int) := by omega
          clear hcell hrp hl
          go_wp2_with fail
          refine (awake_any wr (HT.out.next hb.out)).mono ?_
          rintro _ w9 ⟨rfl, hb9⟩
          go_wp2_with fail
          go_ret
          exact ⟨rfl, hb.out.trans (hb9.mono hb.out.size)⟩
        · have hl100i : ¬ (100 : Int) < (l.length : Int) := by omega
          have hfl := flat_next hl
          have HAL := Lib.hid (show ∀ y ∈ ls.take (i + 1), y.length ≤ 100 by
            intro y hy
            rw [List.take_add_one, hl] at hy
            rcases List.mem_append.1 hy with hy | hy
            · exact hall.out y hy
            · simp at hy; subst hy; omega)
          have HSZ := Lib.hid hb.out.size
          have HFL := Lib.hid hfl
          clear hcell hrp hl hfl
          go_wp2_with (at_builtin
                       refine wpList_append_any _ rfl (.tmp 27) (.tmp 31) _ rfl w.heap.size 5 i0 _ 1 1 Tryd.underlying22 hi0 hz0 hz1 hz2 rfl (by omega) (.slice Av m cv) m _ rfl
                         hown.out wr.heap.size Ap l.length cp (bs l) rfl HRP.out (bs_one _) (by unfold maxLen; omega) (by omega) HSZ.out ?_
                       intro v3 w3 hown3 hg3 hat3)
          go_roundg gk
          case measure => omega
          case rel =>
            refine ⟨i + 1, m + l.length, by omega, by go_num, Lib.hid ?_, HAL, Lib.hid ?_, Lib.hid (hb.out.grown hg3 HSZ.out (fun k hk => (hown.out.lt k hk).1))⟩
            · rw [hm.out, HFL.out]; simp; omega
            · rw [HFL.out, ← List.cons_append, bs_append]
              exact hown3
end Go.Proofs.YtbejglmmcmcleaaDoor
