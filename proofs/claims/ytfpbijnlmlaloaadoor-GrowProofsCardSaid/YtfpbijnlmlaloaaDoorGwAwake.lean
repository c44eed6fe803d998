/- Contract of the statements' awake of layer 20: the document's example holds; it answers true. -/
import Derived.Lib.SlBytesConst
import Derived.Test.YtfpbijnlmlaloaaDoorJ13
import Derived.Test.YtfpbijnlmlaloaaDoorJ38
import Derived.Test.YtfpbijnlmlaloaaDoorJ44
namespace Go.Proofs.YtfpbijnlmlaloaaDoor
open Go.RowKit
set_option linter.unusedVariables false
set_option linter.unusedSimpArgs false
set_option maxRecDepth 100000

theorem gwCheck_yields (m n : Int) (a b : List Nat) (ds : List (List Nat)) (A : Option Addr) (q c : Nat) (w : World) (hn0 : -9223372036854775808 ≤ n) (ha : a.length = 32) (hab : ∀ x ∈ a, x < 256) (hb : b.length = 32) (hq : ds.length = q) (hdg : Dg ds) (hat : HsAt w A ds) (hc : q ≤ c) (hq1 : q ≤ 9223372036854775807) (ht : ShTab w)
    (VA VB : Array Value) (hVA : (bs a).toArray = VA) (hVB : (bs b).toArray = VB) (r : Bool) (hr : checkD m n a b ds = r) :
    Yields w.heap.size w 12 #[.int .i64 m, .int .i64 n, .agg VA, .agg VB, .slice A q c] (.bool r) := fun W hW => by
  have := gwCheck_any m n a b ds A q c W hn0 ha hab hb hq hdg (hat.next hW) hc hq1 (ht.next hW)
  rw [hVA, hVB, hr] at this
  exact this.mono fun e w' ⟨he, h⟩ => ⟨he, hW.trans (h.mono hW.size)⟩
set_option maxHeartbeats 4000000 in
theorem awake20_any (w : World) (ht : ShTab w) : Calls Tryd.prog 7 #[] w fun e w' => e = .returned (.bool true) ∧ Below w.heap.size w w' := by
  have b1 := (Below.refl w.heap.size w).alloc (Nat.le_refl _) (.cells #[.int .u8 97] 5 (1, 2))
  have b2 := b1.alloc b1.size (.cells #[.int .u8 98] 5 (1, 2))
  have b3 := b2.alloc b2.size (.cells #[.int .u8 99] 5 (1, 2))
  have lay : ∀ (W : World) (a : Nat), IsC (W.alloc (.cells #[.int .u8 (a : Int)] 5 (1, 2))) (.slice (some ⟨W.heap.size, 0, none⟩) 1 1) [a] := fun W a => ⟨_, _, rfl, Nat.le_refl _, reads_laid W _ _ _ _ _ _ (by simp) (by simp [bs]) (by simp [bs])⟩
  have i1 := ((lay w 97).next ((Below.refl _ _).alloc (Nat.le_refl _) (.cells #[.int .u8 98] 5 (1, 2)))).next ((Below.refl _ _).alloc (Nat.le_refl _) (.cells #[.int .u8 99] 5 (1, 2)))
  have i2 := (lay (w.alloc (.cells #[.int .u8 97] 5 (1, 2))) 98).next ((Below.refl _ _).alloc (Nat.le_refl _) (.cells #[.int .u8 99] 5 (1, 2)))
  have i3 := lay ((w.alloc (.cells #[.int .u8 97] 5 (1, 2))).alloc (.cells #[.int .u8 98] 5 (1, 2))) 99
  simp only [World.size_alloc] at i2 i3
  have hcv := fun (W : World) (a : Int) => Lib.run_convert_bytes_const (P := Tryd.prog) W 36 5 #[.int .u8 a] 1 1 Tryd.underlying36 Tryd.underlying5
  simp only [List.size_toArray, List.length_cons, List.length_nil, Nat.zero_add, Nat.reduceAdd] at hcv
  have hcv2 := hcv (w.alloc (.cells #[.int .u8 97] 5 (1, 2))) 98
  have hcv3 := hcv ((w.alloc (.cells #[.int .u8 97] 5 (1, 2))).alloc (.cells #[.int .u8 98] 5 (1, 2))) 99
  simp only [World.size_alloc] at hcv2 hcv3
  obtain ⟨W3, hW3⟩ : ∃ W3, ((w.alloc (.cells #[.int .u8 97] 5 (1, 2))).alloc (.cells #[.int .u8 98] 5 (1, 2))).alloc (.cells #[.int .u8 99] 5 (1, 2)) = W3 := ⟨_, rfl⟩
  have hs3 : W3.heap.size = w.heap.size + 1 + 1 + 1 := by rw [← hW3]; simp
  have i1 : IsC W3 (.slice (some ⟨w.heap.size, 0, none⟩) 1 1) [97] := by rw [← hW3]; exact i1
  have i2 : IsC W3 (.slice (some ⟨w.heap.size + 1, 0, none⟩) 1 1) [98] := by rw [← hW3]; exact i2
  have i3 : IsC W3 (.slice (some ⟨w.heap.size + 1 + 1, 0, none⟩) 1 1) [99] := by rw [← hW3]; exact i3
  rw [hW3] at b3
  have hlc := LC.laid (t := 36) (vs := [.slice (some ⟨w.heap.size, 0, none⟩) 1 1, .slice (some ⟨w.heap.size + 1, 0, none⟩) 1 1, .slice (some ⟨w.heap.size + 1 + 1, 0, none⟩) 1 1]) (ls := [[97], [98], [99]]) (w := W3) ⟨i1, i2, i3, trivial⟩ (by simp)
  have b4 : Below w.heap.size w (W3.alloc (.cells #[.slice (some ⟨w.heap.size, 0, none⟩) 1 1, .slice (some ⟨w.heap.size + 1, 0, none⟩) 1 1, .slice (some ⟨w.heap.size + 1 + 1, 0, none⟩) 1 1] 36)) := b3.alloc b3.size _
  have kb := Blk.new W3 36 #[.slice (some ⟨w.heap.size, 0, none⟩) 1 1, .slice (some ⟨w.heap.size + 1, 0, none⟩) 1 1, .slice (some ⟨w.heap.size + 1 + 1, 0, none⟩) 1 1]
  have b43 : Below W3.heap.size W3 (W3.alloc (.cells #[.slice (some ⟨w.heap.size, 0, none⟩) 1 1, .slice (some ⟨w.heap.size + 1, 0, none⟩) 1 1, .slice (some ⟨w.heap.size + 1 + 1, 0, none⟩) 1 1] 36)) := (Below.refl _ _).alloc (Nat.le_refl _) _
  have HC := Lib.hid (gwProof_yes 3 2 [[97], [98], [99]] (some ⟨W3.heap.size, 0, none⟩) 3 _ rfl (by omega) (by omega) hlc (by decide) (by decide) (by omega) (ht.next b4))
  rw [proof_abc] at HC
  have HB4 := Lib.hid b4; have HI3 := Lib.hid (i3.next b43); have HLC := Lib.hid hlc; have HT := Lib.hid (ht.next b4); have HKB := Lib.hid kb
  clear b1 b2 b3 lay i1 i2 i3 hlc b4 b43 ht hs3 kb
  go_enter Tryd.func7, Tryd.ntmps7
  go_wp2_with fail
  refine HC.out.mono ?_
  rintro _ w5 ⟨v, rfl, hown, hb5⟩
  obtain ⟨A, c, rfl, hc, _, _⟩ := own_slice hown
  have hat := HsAt.of_own hown
  have hdg : Dg [leafD [99]] := by
    intro d hd
    rw [List.mem_singleton.1 hd]
    exact ⟨leafD_len _, shaN_lt _⟩
  have hat0 := hat
  obtain ⟨pb, po, rfl, hpb, hpr⟩ := hat.at_ hdg (k := 0) (d := leafD [99]) rfl
  rw [Nat.zero_mul, Nat.add_zero] at hpr
  have hb45 := HB4.out.trans (hb5.mono HB4.out.size)
  have hlc5 := HLC.out.next hb5
  have hi5 := HI3.out.next hb5
  have ht5 := HT.out.next hb5
  have kb5 := HKB.out.below hb5 HKB.out.lt
  have hcell : w5.cell? ⟨W3.heap.size, 2, none⟩ = some (.slice (some ⟨w.heap.size + 1 + 1, 0, none⟩) 1 1) := by rw [kb5.cell]; rfl
  have kc := cell_regrown hcell
  obtain ⟨VA, hVA⟩ : ∃ VA, (bs (rootL [[97], [98]])).toArray = VA := ⟨_, rfl⟩
  obtain ⟨VB, hVB⟩ : ∃ VB, (bs (rootL [[97], [98], [99]])).toArray = VB := ⟨_, rfl⟩
  obtain ⟨VC, hVC⟩ : ∃ VC, (bs (leafD [99])).toArray = VC := ⟨_, rfl⟩
  have Y1 := Lib.hid (root_yields (some ⟨W3.heap.size, 0, none⟩) 2 3 [[97], [98]] w5 rfl (by omega) (hlc5.fore (k := 2) (by simp)) (by decide) (by decide) ht5 VA hVA)
  have Y2 := Lib.hid (root_yields (some ⟨W3.heap.size, 0, none⟩) 3 3 [[97], [98], [99]] w5 rfl (by omega) hlc5 (by decide) (by decide) ht5 VB hVB)
  have Y3 := Lib.hid (gwCheck_yields 2 3 _ _ _ (some ⟨pb, po, none⟩) 1 c w5 (by omega) (rootL_len _) (rootL_byte _) (rootL_len _) rfl hdg hat0 hc (by omega) ht5 VA VB hVA hVB true check_abc)
  have Y4 := Lib.hid (gwCheck_yields 2 3 _ _ _ (some ⟨pb, po, none⟩) 1 c w5 (by omega) (rootL_len _) (rootL_byte _) (rootL_len _) rfl hdg hat0 hc (by omega) ht5 VB VB hVB hVB false check_not)
  have Y5 : Hid (Yields w5.heap.size w5 16 #[.slice (some ⟨w.heap.size + 1 + 1, 0, none⟩) 1 1] (.agg VC)) := Lib.hid fun W hW => by
    obtain ⟨A', c', e, hc', hr⟩ := hi5.next hW
    injection e with e1 e2 e3
    subst e1
    have := leaf_any (some ⟨w.heap.size + 1 + 1, 0, none⟩) 1 1 [99] W hr (by decide) (Nat.le_refl _) (by omega) (ht5.next hW)
    unfold HashTo at this
    rw [hVC] at this
    exact this.mono fun e w' ⟨he, h⟩ => ⟨he, hW.trans (h.mono hW.size)⟩
  have HE : Hid (∀ W, (binOp .eql 33 (.agg VC) (.agg VC)).run Tryd.prog W = .ok (.bool true) W) := Lib.hid fun W => by
    have := eqlD W (leafD [99]) (leafD [99]) (leafD_len _) (leafD_len _)
    rw [hVC] at this
    simpa using this
  have HVC := Lib.hid hVC; have HPR := Lib.hid (range_regrown hpr); have HIC := Lib.hid (hash_size (leafD [99]) (leafD_len _)); have HB45 := Lib.hid hb45
  have hcn : 1 ≤ c := hc
  have hc1 : (1 : Int) ≤ (c : Int) := by omega
  clear hown hat hat0 hdg hpr hb45 hlc5 hi5 ht5 kb5 hVA hVB hVC hb5
  go_upto_region 3 with fail
  refine wp_region_quiet_below (by kernel_rfl) (by kernel_rfl) ?_
  repeat (first
    | (refine wpQuiet_load (by rfl) 33 (.tmp 24) rfl pb po rfl (bs (leafD [99])) VC HVC.out _ HPR.out Tryd.underlying33 rfl HIC.out ?_
       try simp only [Act.put, List.setIfInBounds_toArray, List.set_cons_zero, List.set_cons_succ])
    | (refine wpQuiet_bin (by rfl) .eql 33 _ (.tmp 25) (.tmp 29) rfl VC VC rfl rfl hash_guard _ HE.out ?_
       try simp only [Act.put, List.setIfInBounds_toArray, List.set_cons_zero, List.set_cons_succ])
    | go_big_quiet_step (first
        | (go_at_call 15; first | with_reducible exact Y1.out.quiet _ _ | with_reducible exact Y2.out.quiet _ _)
        | (go_at_call 12; first | with_reducible exact Y3.out.quiet _ _ | with_reducible exact Y4.out.quiet _ _)
        | (go_at_call 16; with_reducible exact Y5.out.quiet _ _)))
  refine wpQuiet_nil ?_
  intro _ hw'
  obtain ⟨p, hw''⟩ := hw'
  subst hw''
  have HBE := Lib.hid (HB45.out.trans ((below_regrown w5 p.d p.os).mono HB45.out.size))
  go_wp2_with fail
  go_ret
  exact ⟨rfl, HBE.out⟩
theorem awake20_yields (w : World) (ht : ShTab w) : Yields w.heap.size w 7 #[] (.bool true) := fun W hb =>
  (awake20_any W (ht.next hb)).mono fun e w' ⟨he, h⟩ => ⟨he, hb.trans (h.mono hb.size)⟩
end Go.Proofs.YtfpbijnlmlaloaaDoor
