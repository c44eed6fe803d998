/- The document's own reader: contract of its Blob. -/
import Derived.Test.YtieknhhhcjdbnaaDoorRefTake2
import Derived.Test.YtieknhhhcjdbnaaDoorRefVar
import Derived.Test.YtieknhhhcjdbnaaDoorRBlob
namespace Go.Proofs.YtieknhhhcjdbnaaDoor
open Go.RowKit
set_option linter.unusedVariables false
set_option linter.unusedSimpArgs false
set_option maxRecDepth 100000

set_option maxHeartbeats 2000000 in
theorem rblob_is {w : World} {g : Nat} {l : List Nat} {at_ : Nat} {x : Option (Int × Nat)} (most : Int) (h : RfS w g l at_ x) (hm1 : -9223372036854775808 ≤ most) (hm2 : most ≤ 9223372036854775807) :
    Calls Tryd.prog 33 #[.pointer (some ⟨g, 0, none⟩), .int .i64 most] w
      fun e w' => Bytes (blobS l at_ x most).1 e w' ∧ RfTo w g l (blobS l at_ x most).2.1 (blobS l at_ x most).2.2 w' := by
  have h0 := h
  obtain ⟨⟨A, n, c, hR⟩, hX⟩ := h
  have hc0 := hR.blk.cell 0
  have hc1 := hR.blk.cell 1
  have hc2 := hR.blk.cell 2
  simp only [List.getElem?_toArray, List.getElem?_cons_succ, List.getElem?_cons_zero] at hc0 hc1 hc2
  cases x with
  | some x =>
    obtain ⟨k0, on⟩ := x
    have hk0 : (k0 == 0) = false := by have := hX _ rfl; simp at this; simp [this]
    have hk1 : (k0 != 0) = true := by have := hX _ rfl; simp at this; simp [this]
    have hc2' : w.cell? ⟨g, 2, none⟩ = some (.int .i64 k0) := hc2
    clear hc2
    go_enter Tryd.func33, Tryd.ntmps33
    go_wp2_with fail
    go_ret
    exact ⟨⟨none, 0, 0, rfl, Reads.none_⟩, RfTo.same h0 (Drawn.refl w)⟩
  | none =>
    have hc2' : w.cell? ⟨g, 2, none⟩ = some (.int .i64 0) := hc2
    clear hc2
    have hz := hR.size
    have hp := hR.place
    have hcap := hR.cap
    have hf1 := hR.blk.frozen 1
    have hcut : Reads w g 1 (if c = at_ then A else Option.map (fun x => x.add at_) A) (n - at_) (bs (l.drop at_)) := by
      have := hR.reads.cut hp hcap
      simpa [bs_drop] using this
    have hby : ∀ b ∈ l.drop at_, b < 256 := fun b hb => hR.byte b (List.mem_of_mem_drop hb)
    have hrv := fun (W : World) (hW : Reads W g 1 (if c = at_ then A else Option.map (fun x => x.add at_) A) (n - at_) (bs (l.drop at_))) => refLook_any (c - at_) hW hby (by omega)
    have hlen := look_len (l.drop at_) 0 0
    have hlt64 := look_lt (l.drop at_) 0 0 (by omega)
    have hln := hR.length
    rcases hlk : lookF 0 0 (l.drop at_) with ⟨v, m, e⟩
    rw [hlk] at hlen hrv hlt64
    rw [List.length_drop] at hlen
    have hv64 : v < 18446744073709551616 := hlt64
    have hrv2 : ∀ W : World, Reads W g 1 (if c = at_ then A else Option.map (fun x => x.add at_) A) (n - at_) (bs (l.drop at_)) → Calls Tryd.prog 58 #[.slice (if c = at_ then A else Option.map (fun x => x.add at_) A) (n - at_) (c - at_)] W (fun ev w' => ev = Ending.returned (Value.tuple #[.int .u64 (v : Int), .int .i64 (m : Int), .int .i64 (e : Int)]) ∧ W = w') :=
      fun W hW => (hrv W hW).mono fun ev w' ⟨h1, h2⟩ => ⟨h1, h2⟩
    have HRV := Lib.hid hrv2
    have hBS : ∀ r : Nat × Nat × Nat, lookB (l.drop at_) most = r → r.2.2 ≠ 0 → blobS l at_ none most = ([], at_, failS at_ none (r.2.2 : Int)) := by
      intro r hr he
      unfold blobS failS
      rw [hr]
      have : ((r.2.2 : Int) = 0) = False := by simp; omega
      simp [he]
    by_cases he : e = 0
    · subst he
      have hl2 : m ≤ 0 + (l.length - at_) ∧ 0 < m := hlen rfl
      have hmn : at_ + m ≤ n := by omega
      by_cases hq : most < 0 ∨ most < (v : Int)
      · have hB : lookB (l.drop at_) most = (0, 0, 12) := by unfold lookB; rw [hlk]; simp only [if_true]; rw [if_pos hq]
        rw [hBS _ hB (by decide)]
        clear hrv hrv2 hlen hlk hlt64 hln hby hBS hB hl2
        by_cases hq0 : most < 0
        · clear hmn
          go_enter Tryd.func33, Tryd.ntmps33
          go_wp2_with fail
          go_quiet ((go_at_call 58; first | exact quiet_same0 (HRV.out _ (hcut.drewN _)) | exact quiet_same (HRV.out _ (hcut.drewN _))))
          go_wp2_with fail
          all_goals
            go_quiet (fail)
            go_wp2_with fail
            refine (rfail_is 12 (h0.next ((Drawn.one w _).below (Below.refl w.heap.size w)))).mono ?_
            rintro e2 w2 ⟨rfl, hto1, hto2⟩
            go_wp2_with fail
            go_ret
            exact ⟨⟨none, 0, 0, rfl, Reads.none_⟩, hto1, (only_drewN (World.grownBy.refl w _) _).trans hto2⟩
        · obtain ⟨q, rfl⟩ := Int.eq_ofNat_of_zero_le (show 0 ≤ most by omega)
          have hqv : q < v := by omega
          clear hmn hq
          go_enter Tryd.func33, Tryd.ntmps33
          go_wp2_with fail
          go_quiet ((go_at_call 58; first | exact quiet_same0 (HRV.out _ (hcut.drewN _)) | exact quiet_same (HRV.out _ (hcut.drewN _))))
          go_wp2_with fail
          all_goals
            go_quiet (fail)
            go_wp2_with fail
            refine (rfail_is 12 (h0.next ((Drawn.one w _).below (Below.refl w.heap.size w)))).mono ?_
            rintro e2 w2 ⟨rfl, hto1, hto2⟩
            go_wp2_with fail
            go_ret
            exact ⟨⟨none, 0, 0, rfl, Reads.none_⟩, hto1, (only_drewN (World.grownBy.refl w _) _).trans hto2⟩
      · obtain ⟨q, rfl⟩ := Int.eq_ofNat_of_zero_le (show 0 ≤ most by omega)
        have hqv : ¬ q < v := by omega
        by_cases h3 : (l.drop at_).length - m < v
        · have hB : lookB (l.drop at_) (q : Int) = (0, 0, 2) := by unfold lookB; rw [hlk]; simp only [if_true]; rw [if_neg hq, if_pos h3]
          rw [hBS _ hB (by decide)]
          rw [List.length_drop] at h3
          have hd : (n : Int) - (at_ : Int) - (m : Int) < (v : Int) := by omega
          have hd2 : decide ((n : Int) - (at_ : Int) - (m : Int) < (v : Int)) = true := by simpa using hd
          have hd3 : 0 ≤ (n : Int) - (at_ : Int) - (m : Int) := by omega
          clear hrv hrv2 hlen hlk hlt64 hln hby hBS hB hl2 h3 hq
          go_enter Tryd.func33, Tryd.ntmps33
          go_wp2_with fail
          go_quiet ((go_at_call 58; first | exact quiet_same0 (HRV.out _ (hcut.drewN _)) | exact quiet_same (HRV.out _ (hcut.drewN _))))
          go_wp2_with fail
          all_goals
            go_quiet (fail)
            go_wp2_with fail
            refine (rfail_is 2 (h0.next ((Drawn.one w _).below (Below.refl w.heap.size w)))).mono ?_
            rintro e2 w2 ⟨rfl, hto1, hto2⟩
            go_wp2_with fail
            go_ret
            exact ⟨⟨none, 0, 0, rfl, Reads.none_⟩, hto1, (only_drewN (World.grownBy.refl w _) _).trans hto2⟩
        · have hB : blobS l at_ none (q : Int) = ((l.drop (at_ + m)).take v, at_ + m + v, none) := by
            have hB0 : lookB (l.drop at_) (q : Int) = (m, m + v, 0) := by unfold lookB; rw [hlk]; simp only [if_true]; rw [if_neg hq, if_neg h3]
            unfold blobS
            simp only [hB0, if_true]
            rw [List.drop_take, Nat.add_sub_cancel_left, List.drop_drop, Nat.add_assoc]
          rw [List.length_drop] at h3
          have hT : takeS l (at_ + m) none (v : Int) = ((l.drop (at_ + m)).take v, at_ + m + v, none) := by
            unfold takeS
            simp only
            rw [if_neg (by omega), if_neg (by omega)]
            rfl
          rw [hB]
          have HT := Lib.hid hT
          have hd : ¬ (n : Int) - (at_ : Int) - (m : Int) < (v : Int) := by omega
          have hd2 : decide ((n : Int) - (at_ : Int) - (m : Int) < (v : Int)) = false := by simpa using hd
          have hd3 : 0 ≤ (n : Int) - (at_ : Int) - (m : Int) := by omega
          have hv63 : v ≤ 9223372036854775807 := by omega
          clear hrv hrv2 hlen hlk hlt64 hln hby hBS hB hl2 h3 hq hT
          go_enter Tryd.func33, Tryd.ntmps33
          go_wp2_with fail
          go_quiet ((go_at_call 58; first | exact quiet_same0 (HRV.out _ (hcut.drewN _)) | exact quiet_same (HRV.out _ (hcut.drewN _))))
          go_wp2_with fail
          all_goals
            go_quiet (fail)
            go_wp2_with fail
            have hs := fun k => hR.set (w1 := w.drewN k) ((Drawn.one w k).below (Below.refl w.heap.size w)) 1 (.int .i64 ((at_ : Int) + (m : Int))) (at_ + m) 0 0 hmn rfl
            refine (rtake_is (v : Int) (x := none) ⟨⟨A, n, c, (hs _).1⟩, fun y hy => by cases hy⟩).mono ?_
            rw [HT.out]
            rintro e2 w2 ⟨hby2, hto1, hto2⟩
            obtain ⟨A2, n2, c2, rfl, hr2⟩ := hby2
            go_wp2_with fail
            go_ret
            exact ⟨⟨A2, n2, c2, rfl, hr2⟩, hto1, (hs _).2.trans hto2⟩
    · have hB : lookB (l.drop at_) most = (0, 0, e) := by unfold lookB; rw [hlk]; simp only [if_neg he]
      rw [hBS _ hB he]
      have he1 : ((e : Int) == 0) = false := by simp; omega
      have he2 : ((e : Int) != 0) = true := by simp; omega
      clear hrv hrv2 hlen hlk hlt64 hln hby hBS hB
      go_enter Tryd.func33, Tryd.ntmps33
      go_wp2_with fail
      go_quiet ((go_at_call 58; first | exact quiet_same0 (HRV.out _ (hcut.drewN _)) | exact quiet_same (HRV.out _ (hcut.drewN _))))
      go_wp2_with fail
      all_goals
        go_quiet (fail)
        go_wp2_with fail
        refine (rfail_is (e : Int) (h0.next ((Drawn.one w _).below (Below.refl w.heap.size w)))).mono ?_
        rintro e2 w2 ⟨rfl, hto1, hto2⟩
        go_wp2_with fail
        go_ret
        exact ⟨⟨none, 0, 0, rfl, Reads.none_⟩, hto1, (only_drewN (World.grownBy.refl w _) _).trans hto2⟩
end Go.Proofs.YtieknhhhcjdbnaaDoor
