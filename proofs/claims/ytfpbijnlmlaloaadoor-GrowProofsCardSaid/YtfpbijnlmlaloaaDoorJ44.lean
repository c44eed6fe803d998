/- Texts joined: GwCheck TrYields Laid. -/
import Derived.Test.YtfpbijnlmlaloaaDoorJ41
import Derived.Test.YtfpbijnlmlaloaaDoorGwTogR
import Derived.Test.YtfpbijnlmlaloaaDoorJ13
import Derived.Test.YtfpbijnlmlaloaaDoorTrRoot
import Derived.Test.YtfpbijnlmlaloaaDoorWords
import Derived.Lib.SlBytesConst
/- Contract of package grow's Check. No condition. -/
namespace Go.Proofs.YtfpbijnlmlaloaaDoor
open Go.RowKit
set_option linter.unusedVariables false
set_option linter.unusedSimpArgs false
set_option maxRecDepth 100000

set_option maxHeartbeats 4000000 in
theorem gwCheck_any (m n : Int) (a b : List Nat) (ds : List (List Nat)) (A : Option Addr) (q c : Nat) (w : World) (hn0 : -9223372036854775808 ≤ n) (ha : a.length = 32) (hab : ∀ x ∈ a, x < 256) (hb : b.length = 32) (hq : ds.length = q) (hdg : Dg ds) (hat : HsAt w A ds) (hc : q ≤ c) (hq1 : q ≤ 9223372036854775807) (ht : ShTab w) :
    Calls Tryd.prog 12 #[.int .i64 m, .int .i64 n, .agg (bs a).toArray, .agg (bs b).toArray, .slice A q c] w fun e w' => e = .returned (.bool (checkD m n a b ds)) ∧ Below w.heap.size w w' := by
  rw [checkD_size, hq]
  obtain ⟨VD, hVD, hvz, hon, hvi⟩ := hash_ok a ha
  obtain ⟨VE, hVE, hez, heo, hei⟩ := hash_ok b hb
  have b1 := (Below.refl w.heap.size w).alloc (Nat.le_refl _) (.cells VD 33)
  have b2 := b1.alloc b1.size (.cells VE 33)
  have k1 := (Blk.new w 33 VD).alloc (.cells VE 33)
  have k2 := Blk.new (w.alloc (.cells VD 33)) 33 VE
  simp only [World.size_alloc] at k2
  obtain ⟨W0, hW0⟩ : ∃ W0, (w.alloc (.cells VD 33)).alloc (.cells VE 33) = W0 := ⟨_, rfl⟩
  rw [hW0] at b2 k1 k2
  rw [hVD, hVE]
  have HR1 : Hid (W0.rangeAt w.heap.size 0 (bs a)) := Lib.hid (by rw [← hVD] at k1; exact k1.range)
  have HR2 : Hid (W0.rangeAt (w.heap.size + 1) 0 (bs b)) := Lib.hid (by rw [← hVE] at k2; exact k2.range)
  have HG1 := Lib.hid (range_regrown HR1.out); have HG2 := Lib.hid (range_regrown HR2.out)
  have HB2 := Lib.hid b2
  have HVD := Lib.hid hVD; have HVE := Lib.hid hVE
  have HI1 := Lib.hid (hash_size a ha); have HI2 := Lib.hid (hash_size b hb)
  have HAT := Lib.hid (hat.next b2); have HT := Lib.hid (ht.next b2)
  have HA := Lib.hid ha; have HAB := Lib.hid hab; have HBB := Lib.hid hb; have HDG := Lib.hid hdg; have HQ := Lib.hid hq
  clear b1 b2 k1 k2 hat ht hVD hVE hvz hon hvi hez heo hei ha hab hb hdg hq
  by_cases hbig : 1099511627776 < n
  · rw [if_pos (.inl hbig)]
    go_enter Tryd.func12, Tryd.ntmps12
    go_wp2_with fail
    go_ret
    exact ⟨rfl, HB2.out⟩
  · have HS := Lib.hid (gwSize_any m n W0 hn0 (by omega))
    by_cases hs : sizeD m n = (q : Int)
    · rw [if_neg (by rintro (h | h) <;> omega)]
      rw [hs] at HS
      by_cases hm0 : m = 0
      · rw [if_pos hm0]
        subst hm0
        obtain ⟨r, hr⟩ : ∃ r, decide (a = rootL []) = r := ⟨_, rfl⟩
        rw [hr]
        obtain ⟨VR, hVR⟩ : ∃ VR, (bs (rootL [])).toArray = VR := ⟨_, rfl⟩
        have HE : Hid (∀ W, (binOp .eql 33 (.agg VD) (.agg VR)).run Tryd.prog W = .ok (.bool r) W) := Lib.hid fun W => by
          have := eql_hash W a (rootL []) HA.out (rootL_len _)
          rw [HVD.out, hVR, hr] at this
          exact this
        have YR : Hid (Yields W0.heap.size W0 15 #[.slice none 0 0] (.agg VR)) := Lib.hid fun W hW => by
          have := root_any none 0 0 [] W rfl (by omega) LC.none_ (by intro l hl; cases hl) (by intro l hl; cases hl) (HT.out.next hW)
          unfold HashTo at this
          rw [hVR] at this
          exact this.mono fun e w' ⟨he, h⟩ => ⟨he, hW.trans (h.mono hW.size)⟩
        clear hVR hr hs
        go_enter Tryd.func12, Tryd.ntmps12
        go_wp2_with fail
        refine HS.out.mono ?_
        rintro _ _ ⟨rfl, rfl⟩
        go_upto_region 4 with fail
        refine wp_region_quiet_below (by kernel_rfl) (by kernel_rfl) ?_
        repeat (first
          | (refine wpQuiet_load (by rfl) 33 (.tmp 7) rfl w.heap.size 0 rfl (bs a) VD HVD.out _ HG1.out Tryd.underlying33 rfl HI1.out ?_
             try simp only [Act.put, List.setIfInBounds_toArray, List.set_cons_zero, List.set_cons_succ])
          | (refine wpQuiet_bin (by rfl) .eql 33 _ (.tmp 23) (.tmp 24) rfl VD VR rfl rfl hash_guard _ HE.out ?_
             try simp only [Act.put, List.setIfInBounds_toArray, List.set_cons_zero, List.set_cons_succ])
          | go_big_quiet_step (first
              | (go_at_call 15; with_reducible exact YR.out.quiet _ _)))
        refine wpQuiet_nil ?_
        intro _ hw'
        obtain ⟨p, hw''⟩ := hw'
        subst hw''
        have HBE := Lib.hid (HB2.out.trans ((below_regrown W0 p.d p.os).mono HB2.out.size))
        go_wp2_with fail
        go_ret
        exact ⟨rfl, HBE.out⟩
      · rw [if_neg hm0]
        have hmn : 0 ≤ m ∧ m ≤ n := by
          unfold sizeD at hs
          by_cases h : m < 0 ∨ n < m
          · rw [if_pos h] at hs; omega
          · omega
        obtain ⟨M, rfl⟩ : ∃ M : Nat, m = (M : Int) := ⟨m.toNat, by omega⟩
        obtain ⟨N, rfl⟩ : ∃ N : Nat, n = (N : Int) := ⟨n.toNat, by omega⟩
        have hsz : q = szD M N false := by
          unfold sizeD at hs
          rw [if_neg (by omega), if_neg hm0] at hs
          simp only [Int.toNat_natCast] at hs
          omega
        rw [Int.toNat_natCast, Int.toNat_natCast]
        obtain ⟨O, hO⟩ : ∃ O, (putD M N a ds false).old = O := ⟨_, rfl⟩
        obtain ⟨X, hX⟩ : ∃ X, (putD M N a ds false).new = X := ⟨_, rfl⟩
        have hl := putD_len N M a ds false HA.out HDG.out
        rw [hO, hX] at hl
        rw [hO, hX]
        obtain ⟨VX, hVX⟩ : ∃ VX, (rootsV O X).toArray = VX := ⟨_, rfl⟩
        obtain ⟨VY, hVY⟩ : ∃ VY, (rootsV a b).toArray = VY := ⟨_, rfl⟩
        obtain ⟨r, hr⟩ : ∃ r, (decide (O = a) && decide (X = b)) = r := ⟨_, rfl⟩
        rw [hr]
        have HE : Hid (∀ W, (binOp .eql 41 (.agg VX) (.agg VY)).run Tryd.prog W = .ok (.bool r) W) := Lib.hid fun W => by
          have := eql_roots W O X a b hl.1 hl.2 HA.out HBB.out
          rw [hVX, hVY, hr] at this
          exact this
        have HBD : Hid (∀ W, (Instr.build 41 #[(0, .agg VD), (1, .agg VE)]).run Tryd.prog W = .ok (.agg VY) W) := Lib.hid fun W => by
          rw [build_roots W VD VE (by rw [← HVD.out]; simp [bs_length, HA.out]) (by rw [← HVE.out]; simp [bs_length, HBB.out]), ← hVY, ← HVD.out, ← HVE.out]
          rfl
        have YT : Hid (Yields W0.heap.size W0 20 #[.int .i64 (M : Int), .int .i64 (N : Int), .agg VD, .slice A q c] (.agg VX)) := Lib.hid fun W hW => by
          have := together_any N M a ds false A c W (by omega) (by omega) (by omega) HA.out HAB.out (by rw [HQ.out]; exact hsz) HDG.out (HAT.out.next hW) (by rw [HQ.out]; exact hc) (HT.out.next hW)
          unfold RootsTo at this
          rw [HQ.out, hO, hX, hVX, HVD.out] at this
          exact this.mono fun e w' ⟨he, h⟩ => ⟨he, hW.trans (h.mono hW.size)⟩
        have HGD := Lib.hid (show Tryd.prog.eqGuardType Tryd.prog.depth 41 = false by kernel_rfl)
        clear hO hX hl hVX hVY hr hsz hs
        go_enter Tryd.func12, Tryd.ntmps12
        go_wp2_with fail
        refine HS.out.mono ?_
        rintro _ _ ⟨rfl, rfl⟩
        go_upto_region 5 with fail
        refine wp_region_quiet_below (by kernel_rfl) (by kernel_rfl) ?_
        repeat (first
          | (refine wpQuiet_load (by rfl) 33 (.tmp 7) rfl w.heap.size 0 rfl (bs a) VD HVD.out _ HG1.out Tryd.underlying33 rfl HI1.out ?_
             try simp only [Act.put, List.setIfInBounds_toArray, List.set_cons_zero, List.set_cons_succ])
          | (refine wpQuiet_load (by rfl) 33 (.tmp 8) rfl (w.heap.size + 1) 0 rfl (bs b) VE HVE.out _ HG2.out Tryd.underlying33 rfl HI2.out ?_
             try simp only [Act.put, List.setIfInBounds_toArray, List.set_cons_zero, List.set_cons_succ])
          | (refine wpQuiet_buildV (by rfl) 41 #[(0, .tmp 31), (1, .tmp 32)] rfl #[(0, .agg VD), (1, .agg VE)] (by first | rfl | (simp [Act.eval, Act.put]; done) | simp [Act.eval]) _ HBD.out ?_
             try simp only [Act.put, List.setIfInBounds_toArray, List.set_cons_zero, List.set_cons_succ])
          | (refine wpQuiet_bin (by rfl) .eql 41 _ (.tmp 30) (.tmp 33) rfl VX VY rfl rfl HGD.out _ HE.out ?_
             try simp only [Act.put, List.setIfInBounds_toArray, List.set_cons_zero, List.set_cons_succ])
          | go_big_quiet_step (first
              | (go_at_call 20; with_reducible exact YT.out.quiet _ _)))
        refine wpQuiet_nil ?_
        intro _ hw'
        obtain ⟨p, hw''⟩ := hw'
        subst hw''
        have HBE := Lib.hid (HB2.out.trans ((below_regrown W0 p.d p.os).mono HB2.out.size))
        go_wp2_with fail
        go_ret
        exact ⟨rfl, HBE.out⟩
    · rw [if_pos (.inr hs)]
      obtain ⟨s, hse⟩ : ∃ s, sizeD m n = s := ⟨_, rfl⟩
      rw [hse] at hs HS
      clear hse
      go_enter Tryd.func12, Tryd.ntmps12
      go_wp2_with fail
      refine HS.out.mono ?_
      rintro _ _ ⟨rfl, rfl⟩
      go_wp2_with fail
      go_ret
      exact ⟨rfl, HB2.out⟩
end Go.Proofs.YtfpbijnlmlaloaaDoor

/- What package tree's Root, Node and Split answer wherever what stood below stands. No condition. -/
namespace Go.Proofs.YtfpbijnlmlaloaaDoor
open Go.RowKit
set_option linter.unusedVariables false
set_option linter.unusedSimpArgs false
set_option maxRecDepth 100000

theorem root_yields (A : Option Addr) (n c : Nat) (ls : List (List Nat)) (w : World) (hn : ls.length = n) (hn2 : n ≤ 1000000) (hp : LC w A ls) (hbt : ∀ l ∈ ls, ∀ b ∈ l, b < 256) (hlong : ∀ l ∈ ls, l.length ≤ 4294960000) (ht : ShTab w) (V : Array Value) (hV : (bs (rootL ls)).toArray = V) :
    Yields w.heap.size w 15 #[.slice A n c] (.agg V) := fun W hb => by
  have := root_any A n c ls W hn hn2 (hp.next hb) hbt hlong (ht.next hb)
  unfold HashTo at this
  rw [hV] at this
  exact this.mono fun e w' ⟨he, h⟩ => ⟨he, hb.trans (h.mono hb.size)⟩
theorem node_yields (a b : List Nat) (w : World) (ha : a.length = 32) (hb : b.length = 32) (ha2 : ∀ x ∈ a, x < 256) (hb2 : ∀ x ∈ b, x < 256) (ht : ShTab w) (VA VB V : Array Value) (hVA : (bs a).toArray = VA) (hVB : (bs b).toArray = VB) (hV : (bs (nodeD a b)).toArray = V) :
    Yields w.heap.size w 29 #[.agg VA, .agg VB] (.agg V) := fun W hW => by
  have := node_any a b W ha hb ha2 hb2 (ht.next hW)
  unfold HashTo at this
  rw [hVA, hVB, hV] at this
  exact this.mono fun e w' ⟨he, h⟩ => ⟨he, hW.trans (h.mono hW.size)⟩
theorem split_yields (n : Int) (w : World) (h0 : -9223372036854775808 ≤ n) (h1 : n ≤ 9223372036854775807) : Yields w.heap.size w 18 #[.int .i64 n] (.int .i64 (spl n.toNat : Int)) := fun W hb =>
  (split_any n W h0 h1).mono fun e w' ⟨he, h⟩ => ⟨he, by subst h; exact hb⟩
end Go.Proofs.YtfpbijnlmlaloaaDoor

/- A row that was laid last reads as its cells, whatever is frozen of it. No program. -/
namespace Go.Proofs.YtfpbijnlmlaloaaDoor
open Go.RowKit

/-- A row that was laid last reads as its cells, whatever is frozen of it. -/
theorem reads_laid (w : World) (cs : Array Value) (t : TypeId) (fr : Nat × Nat) (B n : Nat) (xs : List Value) (hB : w.heap.size < B) (hn : xs.length = n) (hx : cs.toList.take n = xs) :
    Reads (w.alloc (.cells cs t fr)) B 1 (some ⟨w.heap.size, 0, none⟩) n xs := by
  refine ⟨by omega, fun _ => ⟨_, rfl, hB, fun j u hu => ?_⟩⟩
  rw [plain_add, Nat.zero_add, cell_of_row _ _ j cs t fr (heap_alloc_new w _)]
  subst hx
  rw [List.getElem?_take] at hu
  split at hu
  · simpa using hu
  · cases hu
end Go.Proofs.YtfpbijnlmlaloaaDoor
