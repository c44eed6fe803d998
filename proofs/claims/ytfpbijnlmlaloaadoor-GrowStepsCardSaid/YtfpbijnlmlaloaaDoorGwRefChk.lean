/- Contract of the document's Check of layer 20. No condition but at most 1,000,000 digests. -/
import Derived.Test.YtfpbijnlmlaloaaDoorGwRefPutR
import Derived.Test.YtfpbijnlmlaloaaDoorJ41
import Derived.Test.YtfpbijnlmlaloaaDoorJ13
namespace Go.Proofs.YtfpbijnlmlaloaaDoor
open Go.RowKit
set_option linter.unusedVariables false
set_option linter.unusedSimpArgs false
set_option maxRecDepth 100000

theorem wpQ_loadw {P : Program} {ops : Array Oper} {rest : List Oper} {op : Oper} {a : Act} {w : World} {Q : Exit → Act → World → Prop} (hgd : Region.wanted op (yielded ops a.tmps) = true) (ty : TypeId) (x : Operand) (ho : op.op = .load ty x)
    (b o : Nat) (hx : a.eval x = .pointer (some ⟨b, o, none⟩)) (cs : List Value) (X : Array Value) (hX : cs.toArray = X) (d : TypeDesc) (hc : w.rangeAt b o cs)
    (hu : P.underlying ty = some d) (hd : d.isRow = true) (hi : (P.info? ty).map (·.size) = some cs.length)
    (h : wpList P ops Q rest (a.put op.dst (.agg X)) w) : wpList P ops Q (op :: rest) a w := by
  subst hX
  refine wpList_step fun _ hK => ?_
  rw [if_pos hgd]
  exact wp_load_mid ty x ho b o hx cs d hc hu hd hi (hK _ _ h)
set_option maxHeartbeats 4000000 in
theorem refCheck20_any (m n : Int) (a b : List Nat) (ds : List (List Nat)) (A : Option Addr) (q c : Nat) (w : World) (ha : a.length = 32) (hab : ∀ x ∈ a, x < 256) (hb : b.length = 32) (hq : ds.length = q) (hdg : Dg ds) (hat : HsAt w A ds) (hc : q ≤ c) (hq1 : q ≤ 1000000) :
    Calls Tryd.prog 13 #[.int .i64 m, .int .i64 n, .agg (bs a).toArray, .agg (bs b).toArray, .slice A q c] w fun e w' => e = .returned (.bool (checkD m n a b ds)) ∧ Below w.heap.size w w' := by
  have hzr := (zero_of_info info_both).1
  have hszr := Lib.hid (zero_of_info info_both).2
  obtain ⟨ZB, hZB⟩ : ∃ ZB : Array Value, Array.replicate 64 (.int .u8 0) ++ #[.bool false] = ZB := ⟨_, rfl⟩
  rw [hZB] at hzr
  have hZS : ZB.size = 65 := by rw [← hZB]; simp
  have HZS := Lib.hid hZS
  obtain ⟨VD, hVD, hvz, hon, hvi⟩ := hash_ok a ha
  obtain ⟨VE, hVE, hez, heo, hei⟩ := hash_ok b hb
  have b1 := (Below.refl w.heap.size w).alloc (Nat.le_refl _) (.cells VD 33)
  have b2 := b1.alloc b1.size (.cells VE 33)
  have k1 := (Blk.new w 33 VD).alloc (.cells VE 33)
  have k2 := Blk.new (w.alloc (.cells VD 33)) 33 VE
  simp only [World.size_alloc] at k2
  obtain ⟨W0, hW0⟩ : ∃ W0, (w.alloc (.cells VD 33)).alloc (.cells VE 33) = W0 := ⟨_, rfl⟩
  have hs0 : W0.heap.size = w.heap.size + 1 + 1 := by rw [← hW0]; simp
  rw [hW0] at b2 k1 k2
  rw [hVD, hVE]
  have HR1 : Hid (W0.rangeAt w.heap.size 0 (bs a)) := Lib.hid (by rw [← hVD] at k1; exact k1.range)
  have HR2 : Hid (W0.rangeAt (w.heap.size + 1) 0 (bs b)) := Lib.hid (by rw [← hVE] at k2; exact k2.range)
  have HG1 := Lib.hid (range_regrown HR1.out); have HG2 := Lib.hid (range_regrown HR2.out)
  have HB2 := Lib.hid b2; have HS0 := Lib.hid hs0
  have HVD := Lib.hid hVD; have HVE := Lib.hid hVE
  have HI1 := Lib.hid (hash_size a ha); have HI2 := Lib.hid (hash_size b hb)
  have HAT := Lib.hid (hat.next b2)
  have HA := Lib.hid ha; have HAB := Lib.hid hab; have HBB := Lib.hid hb; have HDG := Lib.hid hdg; have HQ := Lib.hid hq
  clear b1 b2 k1 k2 hat hVD hVE hvz hon hvi hez heo hei ha hab hb hdg hq hs0 hZB hZS
  unfold checkD
  rw [HQ.out]
  by_cases hout : n < 0 ∨ 1099511627776 < n ∨ m < 0 ∨ n < m
  · rw [if_pos hout]
    by_cases h1 : n < 0
    · clear hout
      go_enter Tryd.func13, Tryd.ntmps13
      go_wp2_with fail
      go_ret
      exact ⟨rfl, HB2.out⟩
    · by_cases h2 : 1099511627776 < n
      · clear hout
        go_enter Tryd.func13, Tryd.ntmps13
        go_wp2_with fail
        go_ret
        exact ⟨rfl, HB2.out⟩
      · by_cases h3 : m < 0
        · clear hout
          go_enter Tryd.func13, Tryd.ntmps13
          go_wp2_with fail
          go_ret
          exact ⟨rfl, HB2.out⟩
        · have h4 : n < m := by omega
          clear hout
          go_enter Tryd.func13, Tryd.ntmps13
          go_wp2_with fail
          go_ret
          exact ⟨rfl, HB2.out⟩
  · rw [if_neg hout]
    have g1 : ¬ n < 0 := by omega
    have g2 : ¬ 1099511627776 < n := by omega
    have g3 : ¬ m < 0 := by omega
    have g4 : ¬ n < m := by omega
    clear hout
    by_cases hm0 : m = 0
    · rw [if_pos hm0]
      subst hm0
      obtain ⟨r, hr⟩ : ∃ r, decide (a = rootL []) = r := ⟨_, rfl⟩
      rw [hr]
      obtain ⟨VR, hVR⟩ : ∃ VR, (bs (rootL [])).toArray = VR := ⟨_, rfl⟩
      have HE : Hid (∀ W, (binOp .eql 33 (.agg VD) (.agg VR)).run Tryd.prog W = .ok (.bool r) W) := Lib.hid fun W => by
        have := eql_hash W a (rootL []) HA.out (rootL_len _)
        rw [HVD.out, hVR, hr] at this
        exact this
      have YR : Hid (Yields W0.heap.size W0 21 #[.slice none 0 0] (.agg VR)) := Lib.hid fun W hW => by
        have := refRoot_any 0 [] none 0 W rfl (by omega) LC.none_ (by intro l hl; cases hl) (by intro l hl; cases hl) (by omega)
        unfold HashTo at this
        rw [hVR] at this
        exact this.mono fun e w' ⟨he, h⟩ => ⟨he, hW.trans (h.mono hW.size)⟩
      clear hVR hr
      by_cases hq0 : q = 0
      · subst hq0
        go_enter Tryd.func13, Tryd.ntmps13
        go_upto_region 4 with fail
        refine wp_region_quiet_below (by kernel_rfl) (by kernel_rfl) ?_
        repeat (first
          | (refine wpQuiet_load (by rfl) 33 (.tmp 7) rfl w.heap.size 0 rfl (bs a) VD HVD.out _ HG1.out Tryd.underlying33 rfl HI1.out ?_
             try simp only [Act.put, List.setIfInBounds_toArray, List.set_cons_zero, List.set_cons_succ])
          | (refine wpQuiet_bin (by rfl) .eql 33 _ (.tmp 33) (.tmp 34) rfl VD VR rfl rfl hash_guard _ HE.out ?_
             try simp only [Act.put, List.setIfInBounds_toArray, List.set_cons_zero, List.set_cons_succ])
          | go_big_quiet_step (first
              | (go_at_call 21; with_reducible exact YR.out.quiet _ _)))
        refine wpQuiet_nil ?_
        intro _ hw'
        obtain ⟨p, hw''⟩ := hw'
        subst hw''
        have HBE := Lib.hid (HB2.out.trans ((below_regrown W0 p.d p.os).mono HB2.out.size))
        go_wp2_with fail
        go_ret
        exact ⟨by simp, HBE.out⟩
      · have hq0' : ¬ (q : Int) = 0 := by omega
        have hq0n : ¬ q = 0 := hq0
        have hq0b : ((q : Int) == 0) = false := by simpa using hq0'
        have hq0d : decide ((q : Int) = 0) = false := by simpa using hq0'
        rw [decide_eq_false hq0, Bool.false_and]
        go_enter Tryd.func13, Tryd.ntmps13
        go_upto_region 4 with fail
        refine wp_region_quiet_below (by kernel_rfl) (by kernel_rfl) ?_
        repeat (go_big_quiet_step (fail))
        refine wpQuiet_nil ?_
        intro _ hw'
        obtain ⟨p, hw''⟩ := hw'
        subst hw''
        have HBE := Lib.hid (HB2.out.trans ((below_regrown W0 p.d p.os).mono HB2.out.size))
        go_wp2_with fail
        go_ret
        exact ⟨rfl, HBE.out⟩
    · rw [if_neg hm0]
      obtain ⟨M, rfl⟩ : ∃ M : Nat, m = (M : Int) := ⟨m.toNat, by omega⟩
      obtain ⟨N, rfl⟩ : ∃ N : Nat, n = (N : Int) := ⟨n.toNat, by omega⟩
      rw [Int.toNat_natCast, Int.toNat_natCast]
      have hl := putD_len N M a ds false HA.out HDG.out
      obtain ⟨⟨O, X, ok⟩, hOX⟩ : ∃ B, putD M N a ds false = B := ⟨_, rfl⟩
      rw [hOX] at hl
      rw [hOX]
      show Calls _ _ _ _ fun e w' => e = .returned (.bool (ok && (decide (O = a) && decide (X = b)))) ∧ Below w.heap.size w w'
      obtain ⟨hO32, hX32⟩ : O.length = 32 ∧ X.length = 32 := hl
      obtain ⟨VX, hVX, hxs, hxo, hxi⟩ := bothV_ok O X ok hO32 hX32
      obtain ⟨VO, hVO⟩ : ∃ VO, (bs O).toArray = VO := ⟨_, rfl⟩
      obtain ⟨VN, hVN⟩ : ∃ VN, (bs X).toArray = VN := ⟨_, rfl⟩
      obtain ⟨r1, hr1⟩ : ∃ r, decide (O = a) = r := ⟨_, rfl⟩
      obtain ⟨r2, hr2⟩ : ∃ r, decide (X = b) = r := ⟨_, rfl⟩
      rw [hr1, hr2]
      have HE1 : Hid (∀ W, (binOp .eql 33 (.agg VO) (.agg VD)).run Tryd.prog W = .ok (.bool r1) W) := Lib.hid fun W => by
        have := eql_hash W O a hO32 HA.out
        rw [HVD.out, hVO, hr1] at this
        exact this
      have HE2 : Hid (∀ W, (binOp .eql 33 (.agg VN) (.agg VE)).run Tryd.prog W = .ok (.bool r2) W) := Lib.hid fun W => by
        have := eql_hash W X b hX32 HBB.out
        rw [HVE.out, hVN, hr2] at this
        exact this
      have HC : Hid (Calls Tryd.prog 22 #[.int .i64 (M : Int), .int .i64 (N : Int), .agg VD, .slice A q c, .bool false] W0 fun e w' => e = .returned (.agg VX) ∧ Below W0.heap.size W0 w') := Lib.hid (by
        have := refPut_any N M a ds false A c W0 (by omega) (by omega) (by omega) HA.out HAB.out (by rw [HQ.out]; exact hq1) HDG.out HAT.out (by rw [HQ.out]; exact hc)
        rw [HQ.out, hOX, hVX, HVD.out] at this
        exact this)
      have HVX := Lib.hid hVX; have HXS := Lib.hid hxs; have HXO := Lib.hid hxo; have HXI := Lib.hid hxi
      have HVO := Lib.hid hVO; have HVN := Lib.hid hVN; have HIO := Lib.hid (hash_size O hO32); have HIN := Lib.hid (hash_size X hX32)
      have HOL : Hid ((bs O).length = 32) := Lib.hid (by rw [bs_length, hO32])
      have HXL : Hid ((bs O ++ bs X).length = 64) := Lib.hid (by rw [List.length_append, bs_length, bs_length, hO32, hX32])
      clear hOX hVX hxs hxo hxi hVO hVN hr1 hr2 hO32 hX32
      go_enter Tryd.func13, Tryd.ntmps13
      go_wp2_with (refine wpQ_load (by rfl) 33 (.tmp 7) rfl w.heap.size 0 rfl (bs a) VD HVD.out _ HR1.out Tryd.underlying33 rfl HI1.out ?_)
      refine HC.out.mono ?_
      rintro _ w6 ⟨rfl, hb6⟩
      have HK6 := Lib.hid (Blk.new w6 44 ZB)
      have HB6 := Lib.hid hb6
      clear hb6
      go_upto_region 6 with (refine wpList_store_row (by rfl) (.tmp 11) (.tmp 41) (by rfl) (by rfl) (by rfl) HK6.out HXI.out (by rw [HXS.out, HZS.out]) HXO.out ?_)
      have b4 := Below.row (HB6.out.alloc HB6.out.size (.cells ZB 44)) HB6.out.size VX
      have k4 := HK6.out.row VX
      obtain ⟨W3, hW3⟩ : ∃ W3, (w6.alloc (.cells ZB 44)).setRow w6.heap.size VX = W3 := ⟨_, rfl⟩
      rw [hW3] at b4 k4 ⊢
      clear hW3
      have hss := HS0.out
      have hk4r : W3.rangeAt w6.heap.size 0 ((bs O ++ bs X) ++ [.bool ok]) := by rw [← HVX.out] at k4; exact k4.range
      obtain ⟨rox, rk⟩ := range_two hk4r
      obtain ⟨ro, rx⟩ := range_two rox
      rw [HOL.out] at rx
      rw [HXL.out] at rk
      have hcell : W3.cell? ⟨w6.heap.size, 64, none⟩ = some (.bool ok) := rk 0 _ rfl
      have ra := range_next HR1.out (by omega) b4
      have rb := range_next HR2.out (by omega) b4
      have HRO := Lib.hid ro; have HRX := Lib.hid rx; have HRA := Lib.hid ra; have HRB := Lib.hid rb
      have HBE := Lib.hid (HB2.out.trans (b4.mono HB2.out.size))
      clear rox rk ro rx ra rb hk4r k4 b4 hss
      cases ok with
      | false =>
        go_wp2_with fail
        go_ret
        exact ⟨rfl, HBE.out⟩
      | true =>
        cases r1 with
        | false =>
          go_wp2_with (first
            | refine wpQ_loadw (by rfl) 33 (.tmp 45) rfl w6.heap.size 0 rfl (bs O) VO HVO.out _ HRO.out Tryd.underlying33 rfl HIO.out ?_
            | refine wpQ_loadw (by rfl) 33 (.tmp 7) rfl w.heap.size 0 rfl (bs a) VD HVD.out _ HRA.out Tryd.underlying33 rfl HI1.out ?_
            | refine wpList_binw (by rfl) .eql 33 _ (.tmp 46) (.tmp 47) rfl VO VD rfl rfl hash_guard _ HE1.out ?_)
          go_ret
          exact ⟨rfl, HBE.out⟩
        | true =>
          go_wp2_with (first
            | refine wpQ_loadw (by rfl) 33 (.tmp 45) rfl w6.heap.size 0 rfl (bs O) VO HVO.out _ HRO.out Tryd.underlying33 rfl HIO.out ?_
            | refine wpQ_loadw (by rfl) 33 (.tmp 7) rfl w.heap.size 0 rfl (bs a) VD HVD.out _ HRA.out Tryd.underlying33 rfl HI1.out ?_
            | refine wpList_binw (by rfl) .eql 33 _ (.tmp 46) (.tmp 47) rfl VO VD rfl rfl hash_guard _ HE1.out ?_
            | refine wpQ_loadw (by rfl) 33 (.tmp 51) rfl w6.heap.size 32 rfl (bs X) VN HVN.out _ HRX.out Tryd.underlying33 rfl HIN.out ?_
            | refine wpQ_loadw (by rfl) 33 (.tmp 8) rfl (w.heap.size + 1) 0 rfl (bs b) VE HVE.out _ HRB.out Tryd.underlying33 rfl HI2.out ?_
            | refine wpList_binw (by rfl) .eql 33 _ (.tmp 52) (.tmp 53) rfl VN VE rfl rfl hash_guard _ HE2.out ?_)
          go_ret
          exact ⟨rfl, HBE.out⟩
end Go.Proofs.YtfpbijnlmlaloaaDoor
