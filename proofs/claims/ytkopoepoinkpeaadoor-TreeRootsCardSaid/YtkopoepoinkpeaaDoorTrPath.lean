/- Contract of package tree's Path where there is such a leaf. No condition. -/
import Derived.Deep.RegionHeld3
import Derived.Test.YtkopoepoinkpeaaDoorTrPathS
import Derived.Test.YtkopoepoinkpeaaDoorJ31
namespace Go.Proofs.YtkopoepoinkpeaaDoor
open Go.RowKit
set_option linter.unusedVariables false
set_option linter.unusedSimpArgs false
set_option maxRecDepth 100000
attribute [local go_sem] Oper.semAt_some wide_fn wide_depth

set_option maxHeartbeats 8000000 in
theorem path_in (A : Option Addr) (n c a : Nat) (ls : List (List Nat)) (w : World) (hn : ls.length = n) (hn2 : n ≤ 1000000) (ha : a < n) (hp : LC w A ls) (hbt : ∀ l ∈ ls, ∀ b ∈ l, b < 256) (hlong : ∀ l ∈ ls, l.length ≤ 4294960000) (ht : ShTab w) :
    Calls Tryd.prog 9 #[.slice A n c, .int .i64 (a : Int)] w fun e w' => ∃ q, e = .returned (.tuple #[.slice (some ⟨q, 0, none⟩) (depD a n) (depD a n), .bool true]) ∧ HsAt w' (some ⟨q, 0, none⟩) (pathD (ls.map leafD) a) ∧ Below w.heap.size w w' := by
  refine (callsIn_wide (n := 0)).1 ?_
  refine callsIn_of_wp_marks Tryd.func9 rfl trivial ?_ rfl
  simp only [Tryd.ntmps9, List.size_toArray, List.length_cons, List.length_nil, Nat.reduceAdd, Nat.reduceSub, Array.replicate_succ, Array.replicate_zero, List.push_toArray, List.append_toArray, List.nil_append, List.cons_append]
  have HDEP := Lib.hid fun W => depth_any (a : Int) (n : Int) W (by omega) (by omega)
  simp only [depI_in ha] at HDEP
  have hpl : (pathD (ls.map leafD) a).length = depD a n := pathD_len n _ a (by rw [List.length_map]; exact hn) ha
  have hDn := depD_lt n a ha
  obtain ⟨D, hD⟩ : ∃ D, depD a n = D := ⟨_, rfl⟩
  rw [hD] at HDEP hpl hDn ⊢
  obtain ⟨full, hfull⟩ : ∃ full, pathD (ls.map leafD) a = full := ⟨_, rfl⟩
  rw [hfull] at hpl ⊢
  obtain ⟨h, hh⟩ : ∃ h, w.heap.size = h := ⟨_, rfl⟩
  obtain ⟨i, hi, hz0, hz1, hz2⟩ := info_parts info_hashB
  have b0 := (Below.refl h w).alloc (by omega) (.cells #[.int .i64 (a : Int)] 3)
  have k0 := Blk.new w 3 #[.int .i64 (a : Int)]
  rw [hh] at k0
  obtain ⟨W0, hW0⟩ : ∃ W0, w.alloc (.cells #[.int .i64 (a : Int)] 3) = W0 := ⟨_, rfl⟩
  have hs0 : W0.heap.size = h + 1 := by rw [← hW0]; simp [hh]
  rw [hW0] at b0 k0
  have y0 : W0.cell? ⟨h, 0, none⟩ = some (.int .i64 (a : Int)) := k0.cell 0
  have hmk1 := run_make (P := Tryd.prog) W0 25 31 i _ Tryd.underlying25 hi hz0 .i64 .i64 D D (by omega) (by omega) (by rw [hz2]; omega) (by omega)
  rw [hz1] at hmk1
  have hz3 : madeCells (Value.cells (.agg (Array.replicate 32 (.int .u8 0)))) (D * 32) = (List.replicate (D * 32) (Value.int .u8 0)).toArray := by
    rw [show Value.cells (.agg (Array.replicate 32 (.int .u8 0))) = Array.replicate 32 (.int .u8 0) from rfl, made_rep _ _ _ (by omega), List.toArray_replicate]
  rw [Int.toNat_natCast, hz3, hs0] at hmk1
  have b1 := b0.alloc (by omega) (.cells (List.replicate (D * 32) (Value.int .u8 0)).toArray 31)
  have k01 := k0.alloc (.cells (List.replicate (D * 32) (Value.int .u8 0)).toArray 31)
  have k1 := Blk.new W0 31 (List.replicate (D * 32) (Value.int .u8 0)).toArray
  rw [hs0] at k1
  obtain ⟨W1, hW1⟩ : ∃ W1, W0.alloc (.cells (List.replicate (D * 32) (Value.int .u8 0)).toArray 31) = W1 := ⟨_, rfl⟩
  have hs1 : W1.heap.size = h + 1 + 1 := by rw [← hW1]; simp [hs0]
  rw [hW1] at b1 k01 k1 hmk1
  have HT := Lib.hid ht; have HP := Lib.hid hp; have HBT := Lib.hid hbt; have HLG := Lib.hid hlong; have HN := Lib.hid hn; have HFU := Lib.hid hfull; have HDD := Lib.hid hD; have HPL := Lib.hid hpl
  have HB1 := Lib.hid b1; have HK01 := Lib.hid k01; have HK1 := Lib.hid k1
  clear ht hp hbt hlong hn hfull hD b0 k0 b1 k01 k1 hW1 hz3 hpl
  have hD0 : ¬ (D : Int) < 0 := by omega
  have b2 := HB1.out.alloc (by omega) (.cells #[.slice (some ⟨h + 1, 0, none⟩) D D] 25)
  have k02 := HK01.out.alloc (.cells #[.slice (some ⟨h + 1, 0, none⟩) D D] 25)
  have k12 := HK1.out.alloc (.cells #[.slice (some ⟨h + 1, 0, none⟩) D D] 25)
  have k2 := Blk.new W1 25 #[.slice (some ⟨h + 1, 0, none⟩) D D]
  rw [hs1] at k2
  obtain ⟨W2, hW2⟩ : ∃ W2, W1.alloc (.cells #[.slice (some ⟨h + 1, 0, none⟩) D D] 25) = W2 := ⟨_, rfl⟩
  have hs2 : W2.heap.size = h + 1 + 1 + 1 := by rw [← hW2]; simp [hs1]
  rw [hW2] at b2 k02 k12 k2
  have HDG := digests_any A n c ls W2 HN.out hn2 (HP.out.next (by rw [hh]; exact b2)) HBT.out HLG.out (HT.out.next (by rw [hh]; exact b2))
  rw [hs2] at HDG
  have HB2 := Lib.hid b2; have HK02 := Lib.hid k02; have HK12 := Lib.hid k12; have HK2 := Lib.hid k2; have HDG1 := Lib.hid HDG
  clear b2 k02 k12 k2 HDG HB1 HK01 HK1
  gi_wp2_with (first
    | (gi_at_call 16; refine (callsIn_wide.2 (HDEP.out _)).mono ?_; rintro _ _ ⟨rfl, rfl⟩)
    | (gi_at_call 27
       refine (callsIn_wide.2 HDG1.out).mono ?_
       rintro _ w3 ⟨rfl, hk3, hb3⟩
       obtain ⟨p, hp3⟩ : ∃ p, w3.heap.size = p := ⟨_, rfl⟩
       have hfar : h + 4 ≤ p := by have := hk3.lt; omega
       have HB3 := Lib.hid (HB2.out.trans (hb3.mono (by omega)))
       have HK03 := Lib.hid (HK02.out.below hb3 (by omega))
       have HK13 := Lib.hid (HK12.out.below hb3 (by omega))
       have HK23 := Lib.hid (HK2.out.below hb3 (by omega))
       have HK33 := Lib.hid hk3
       have hk4 := Blk.new w3 25 #[.slice (some ⟨h + 1 + 1 + 1, 0, none⟩) n n]
       obtain ⟨W4, hW4⟩ : ∃ W4, w3.alloc (.cells #[.slice (some ⟨h + 1 + 1 + 1, 0, none⟩) n n] 25) = W4 := ⟨_, rfl⟩
       rw [hp3, hW4] at hk4
       have HK43 := Lib.hid hk4
       have hs4 : W4.heap.size = p + 1 := by rw [← hW4]; simp [hp3]
       have HB4 : Hid (Below p w3 W4) := Lib.hid (by rw [← hW4, ← hp3]; exact (Below.refl _ _).alloc (Nat.le_refl _) _)
       have y7 : W4.cell? ⟨h + 1 + 1, 0, none⟩ = some (.slice (some ⟨h + 1, 0, none⟩) D D) := (HK23.out.below HB4.out (by omega)).cell 0
       clear hk3 hb3 hk4)
    | (gi_at_call 28
       refine (callsIn_wide.2 (backH_any _ _ _ _)).mono ?_
       rintro _ _ ⟨rfl, rfl⟩))
  obtain ⟨W5, hW5⟩ : ∃ W5, W4.alloc (.cells #[.slice (some ⟨h + 1, 0, none⟩) D D] 25) = W5 := ⟨_, rfl⟩
  have hs5 : W5.heap.size = p + 1 + 1 := by rw [← hW5]; simp [hs4]
  have b5 : Below (p + 1) W4 W5 := by rw [← hW5]; exact (Below.refl _ _).alloc (by omega) _
  have k95 := Blk.new W4 25 #[.slice (some ⟨h + 1, 0, none⟩) D D]
  rw [hs4, hW5] at k95
  have b35 : Below p w3 W5 := HB4.out.trans (b5.mono (by omega))
  have hrow : Reads w3 p 32 (some ⟨h + 1 + 1 + 1, 0, none⟩) n (bs (ls.map leafD).flatten) := by
    have := HsAt.blk HK33.out (Dg.leaves ls)
    unfold HsAt at this
    rw [hp3, List.length_map, HN.out] at this
    exact this
  have hP0 : PathS w h p D full 0 (ls.map leafD) [] a 0 n n W5 := ⟨by rw [List.length_map]; exact HN.out, Dg.leaves ls, ha, HDD.out, hn2, Nat.le_refl _, by rw [List.append_nil]; exact HFU.out, rfl, (fun d hd => nomatch hd), HK03.out.below b35 (by omega), HK23.out.below b35 (by omega), HK43.out.below b5 (by omega), hrow.below b35, by simpa [bs] using HK13.out.below b35 (by omega), HB3.out.trans (b35.mono (by omega)), by omega, hfar⟩
  obtain ⟨Z, hZ⟩ : ∃ Z : Array Value, (List.replicate 32 (Value.int .u8 0)).toArray = Z := ⟨_, rfl⟩
  have hgv := backH_gives (h + 1) D D (p + 1) _ Z W5 hZ (by simp) (k95.cell 0) (by omega) (by omega)
  rw [hW5]
  clear hW5 hW4 hW2 hW0 hmk1 y0 y7 HDG1 HDEP b5 b35 k95 hrow hs0 hs1 hs2 hs4 HK02 HK12 HK2 HB2 HK03 HK13 HK23 HK33 HK43 HB3 HB4 hi hz0 hz1 hz2
  refine range_givesQ (gf := 39) (lb := #[.pointer (some ⟨p + 1, 0, none⟩)]) rfl (enters_of Tryd.func39 (by kernel_rfl) rfl) hgv
    (fun q hq => by have : q = p + 1 := hq; omega) (fun _ => rfl)
    (fun k Cin W => Cin = (fun j => j < p + 2) ∧ ∃ ds fl a oo len cap, PathS w h p D full k ds fl a oo len cap W)
    (fun k => { tmps := #[.slice A n c, .int .i64 (a : Int), undef, .pointer (some ⟨h, 0, none⟩), .slice none 0 0, .bool false, .int .i64 (D : Int), .pointer (some ⟨h + 1 + 1, 0, none⟩), .pointer (some ⟨p, 0, none⟩), .int .i64 ((D - 1 - k : Nat) : Int), undef, undef, .int .i64 (a : Int), .slice A n c, .int .i64 (n : Int), .int .i64 (D : Int), .int .i64 (D : Int), .bool (decide ((D : Int) < 0)), .int .i64 (D : Int), .slice (some ⟨h + 1, 0, none⟩) D D, .slice A n c, .slice (some ⟨h + 1 + 1 + 1, 0, none⟩) n n, .slice (some ⟨h + 1, 0, none⟩) D D, .func (.func 39) #[] #[.pointer (some ⟨p + 1, 0, none⟩)], .int .i64 ((D - 1 - k : Nat) : Int), .agg Z, undef, undef, undef, undef, undef, undef, undef, undef, undef, undef, undef, undef, undef, undef, undef, undef, undef, undef, undef, undef, undef, undef, undef, undef, undef, undef], defers := [] })
    _ ⟨rfl, _, _, _, _, _, _, hP0⟩ ?hI ?hF ?hIt ?hIC ?hassign ?hbody ?hdone
  case hI =>
    rintro k Cin Wa Wb ⟨rfl, ds, fl, a2, oo, len, cp, Q⟩ hk
    exact ⟨rfl, _, _, _, _, _, _, Q.on hk⟩
  case hF =>
    rintro k Cin Wa hk ⟨rfl, ds, fl, a2, oo, len, cp, Q⟩
    exact Q.cells hk
  case hIt =>
    rintro k Cin Wa ⟨rfl, ds, fl, a2, oo, len, cp, Q⟩ q hq
    have := Q.size
    have : q < p + 2 := hq
    omega
  case hIC =>
    rintro k Cin Wa ⟨rfl, _⟩
    rw [hs5]
    exact ⟨fun h => by have : p + 1 + 1 < p + 2 := h; omega, fun h => by have : p + 1 + 1 + 1 < p + 2 := h; omega⟩
  case hassign =>
    intro lp2 k Wa K hK
    gi_wp2
    exact hK
  case hbody =>
    rintro lp k Cin V hk hsi ⟨rfl, ds, fl, a2, oo, len, cp, Q⟩
    rw [hs5] at hsi
    have hdep := Q.dep; have hbig := Q.big; have hroom := Q.room; have hlt := Q.lt; have hnum := Q.num; have hsz := Q.size; have hbel := Q.below
    have h2 : 2 ≤ len := by
      rcases Nat.lt_or_ge len 2 with h | h
      · rw [depD_one a2 h] at hdep; omega
      · exact h
    have h3 := spl_lt h2
    have h4 := spl_pos h2
    have HH := Lib.hid (halves_any (h + 1 + 1 + 1) oo len cp V h2 hroom hbig)
    have y3 : V.cell? ⟨h, 0, none⟩ = some (.int .i64 (a2 : Int)) := Q.box.cell 0
    have y7 : V.cell? ⟨h + 1 + 1, 0, none⟩ = some (.slice (some ⟨h + 1, 0, none⟩) D D) := Q.b7.cell 0
    have y8 : V.cell? ⟨p, 0, none⟩ = some (.slice (some ⟨h + 1 + 1 + 1, oo, none⟩) len cp) := Q.b8.cell 0
    have hat : HsAt V (some ⟨h + 1 + 1 + 1, oo, none⟩) ds := by
      unfold HsAt
      rw [hnum]
      exact Q.row.more (by omega)
    have hdl : Dg (ds.drop (spl len)) := Q.dg.drop _
    have hdt : Dg (ds.take (spl len)) := Q.dg.take _
    have hnl : (ds.drop (spl len)).length = len - spl len := by rw [List.length_drop, hnum]
    have hnt : (ds.take (spl len)).length = spl len := by rw [List.length_take, hnum]; omega
    have ha1 : HsAt V (some ⟨h + 1 + 1 + 1, oo, none⟩) (ds.take (spl len)) := hat.fore Q.dg (by omega)
    have ha2 : HsAt V (some ⟨h + 1 + 1 + 1, oo + spl len * 32, none⟩) (ds.drop (spl len)) := by
      have := hat.cut Q.dg (k := spl len) (cap := len) (by omega) (by omega)
      rw [if_neg (by omega)] at this
      simpa [plain_add] using this
    have hT : ∀ W, Below V.heap.size V W → ShTab W := fun W hb => HT.out.next (hh ▸ hbel.trans (hb.mono (by omega)))
    have HK0 := Lib.hid Q.b8; have HK1 := Lib.hid Q.box; have HKO := Lib.hid Q.out; have HK7 := Lib.hid Q.b7
    have hm1 : D - 1 - k < D := by omega
    by_cases hl : a2 < spl len
    · have hsd := fun V3 hb => Q.left (V2 := V3) hk hb hl
      have hst := fun V3 hb v u R i => Q.still (k := k) (V2 := V3) hb v u R (i := i)
      obtain ⟨R, hR⟩ : ∃ R, rootD (ds.drop (spl len)) = R := ⟨_, rfl⟩
      have hRO : ∀ W, Below V.heap.size V W → Calls Tryd.prog 30 #[.slice (some ⟨h + 1 + 1 + 1, oo + spl len * 32, none⟩) (len - spl len) (len - spl len)] W (HashTo W W.heap.size R) := fun W hb => by
        have := rootOf_any (len - spl len) _ _ _ (len - spl len) W hnl (by omega) (by omega) hdl (ha2.next hb) (Nat.le_refl _) (hT W hb)
        rwa [hR] at this
      have hR32 : R.length = 32 := by rw [← hR]; exact rootD_len (by omega) fun d hd => (hdl d hd).1
      obtain ⟨VR, hVR, hvz, hon, hvi⟩ := hash_ok R hR32
      have hVL : VR.toList = bs R := by rw [← hVR]
      have hfin : ∀ V3, Below V.heap.size V V3 → After (fun j => j = p + 1) (fun Cin W => Cin = (fun j => j < p + 2) ∧ ∃ ds fl a oo len cap, PathS w h p D full (k + 1) ds fl a oo len cap W) (fun j => j < p + 2) V ((V3.setCell ⟨p, 0, none⟩ (.slice (some ⟨h + 1 + 1 + 1, oo, none⟩) (spl len) (spl len))).setCells (h + 1) ((D - 1 - k) * 32) VR.toList) := fun V3 hb => by
        have h1 := hsd V3 hb
        rw [hR] at h1
        rw [hVL]
        refine ⟨⟨_, ⟨rfl, _, _, _, _, _, _, h1⟩, fun j h => .inl h⟩, ?_, fun i hi hx => ?_⟩
        · have := setCells_more (V3.setCell ⟨p, 0, none⟩ (.slice (some ⟨h + 1 + 1 + 1, oo, none⟩) (spl len) (spl len))) (h + 1) ((D - 1 - k) * 32) (bs R)
          have h5 : (V3.setCell ⟨p, 0, none⟩ (.slice (some ⟨h + 1 + 1 + 1, oo, none⟩) (spl len) (spl len))).heap.size = V3.heap.size := by simp [World.setCell]
          have := hb.size
          omega
        · exact (hst V3 hb _ (.int .i64 0) R i hi (by rcases hx with hx | hx <;> omega)).1
      obtain ⟨m, hm⟩ : ∃ m, D - 1 - k = m := ⟨_, rfl⟩
      obtain ⟨s, hs⟩ : ∃ s, spl len = s := ⟨_, rfl⟩
      simp only [hm] at hfin hm1 ⊢
      rw [hs] at hl h3 h4 HH hRO
      simp only [hs] at hfin
      have HRO := Lib.hid hRO; have HFIN := Lib.hid hfin; have HVR := Lib.hid hVR; have HVZ := Lib.hid hvz; have HON := Lib.hid hon; have HVI := Lib.hid hvi
      have hlI : (a2 : Int) < (s : Int) := by omega
      have hmI : (m : Int) < (D : Int) := by omega
      have hthere : ∀ V3, Below V.heap.size V V3 → ∀ v, (V3.setCell ⟨p, 0, none⟩ v).there (h + 1) (m * 32) VR.size := fun V3 hb v =>
        Blk.there ((HKO.out.below hb (by omega)).far (p := ⟨p, 0, none⟩) (by show h + 1 ≠ p; omega) v) (by rw [HVZ.out]; simp; omega)
      have HTH := Lib.hid hthere
      clear hthere hRO hfin hVR hvz hon hvi hVL hsd hst hT ha1 ha2 hdl hdt hnl hnt hat hdep hs hm hR32 hR Q hP0 hgv
      gi_wp2_with (gi_at_call 29
                   refine (callsIn_wide.2 HH.out).mono ?_
                   rintro _ V2 ⟨rfl, hd2⟩
                   have B2 := hd2.belowW
                   have z3 := (B2.cell (p := ⟨h, 0, none⟩) (by show h < _; omega)).trans y3
                   clear y3 y8
                   clear hd2)
      refine region_in (by kernel_rfl) (by kernel_rfl) (fun _ _ h => by cases h.1) (wpAny_of_held (S := fun w' => w'.cell? ⟨h + 1 + 1, 0, none⟩ = some (.slice (some ⟨h + 1, 0, none⟩) D D)) _ _ _ _ ?_)
      have B2d := Below.drew B2
      have hHeld : V2.drew.cell? ⟨h + 1 + 1, 0, none⟩ = some (.slice (some ⟨h + 1, 0, none⟩) D D) := (HK7.out.below B2d (by omega)).cell 0
      clear y7
      refine wpAnyH_take (i := 0) (oi := { dst := some 35, op := Go.Op.load 25 (Go.Operand.tmp 7), type := 25, pos := "tree.go:80", after := #[{ on := 5, ground := Go.Ground.gcOnly Go.Departure.lateStores }], guard := none }) (v := ?_) rfl (by kernel_rfl) (by kernel_rfl) (by kernel_rfl) (fun _ _ _ h => by cases h.1) (Or.inl ⟨by rfl, ?_⟩) (by assumption) ?_
      rotate_left
      · (intro _ hSw; (try dsimp only at hSw); have y7 := hSw; clear hSw; go_simp; try with_reducible rfl)
      try simp only [Act.put, List.setIfInBounds_toArray, List.set_cons_zero, List.set_cons_succ]
      refine wpAnyH_take (i := 1) (oi := { dst := some 36, op := Go.Op.move (Go.Operand.tmp 9), type := 3, pos := "tree.go:80", after := #[{ on := 5, ground := Go.Ground.gcOnly Go.Departure.lateStores }], guard := none }) (v := ?_) rfl (by kernel_rfl) (by kernel_rfl) (by kernel_rfl) (fun _ _ _ h => by cases h.1) (Or.inl ⟨by rfl, ?_⟩) (by assumption) ?_
      rotate_left
      · (intro _ hSw; (try dsimp only at hSw); clear hSw; go_simp; try with_reducible rfl)
      try simp only [Act.put, List.setIfInBounds_toArray, List.set_cons_zero, List.set_cons_succ]
      refine wpAnyH_take (i := 2) (oi := { dst := some 37, op := Go.Op.move (Go.Operand.tmp 10), type := 25, pos := "tree.go:80", after := #[], guard := none }) (v := ?_) rfl (by kernel_rfl) (by kernel_rfl) (by kernel_rfl) (fun _ _ _ h => by cases h.1) (Or.inl ⟨by rfl, ?_⟩) (by assumption) ?_
      rotate_left
      · (intro _ hSw; (try dsimp only at hSw); clear hSw; go_simp; try with_reducible rfl)
      try simp only [Act.put, List.setIfInBounds_toArray, List.set_cons_zero, List.set_cons_succ]
      refine wpAnyH_take (i := 3) (oi := { dst := some 38, op := Go.Op.move (Go.Operand.tmp 11), type := 25, pos := "tree.go:80", after := #[], guard := none }) (v := ?_) rfl (by kernel_rfl) (by kernel_rfl) (by kernel_rfl) (fun _ _ _ h => by cases h.1) (Or.inl ⟨by rfl, ?_⟩) (by assumption) ?_
      rotate_left
      · (intro _ hSw; (try dsimp only at hSw); clear hSw; go_simp; try with_reducible rfl)
      try simp only [Act.put, List.setIfInBounds_toArray, List.set_cons_zero, List.set_cons_succ]
      refine wpAnyH_ready (rs := [4]) (by kernel_rfl) (by simp) ?_
      refine AllReadyH.cons rfl (fun K hK => ?_) AllReadyH.nil
      go_simp
      go_at_call 30
      with_reducible refine (HRO.out _ B2d).mono ?_
      rintro e V3 ⟨rfl, hb3⟩
      have B3 := B2d.trans (hb3.mono B2d.size)
      rw [HVR.out]
      refine hK.out _ _ ((HK7.out.below B3 (by omega)).cell 0) (fun hHeld => ?_)
      clear hK K
      try simp only [Act.put, List.setIfInBounds_toArray, List.set_cons_zero, List.set_cons_succ]
      clear hHeld
      have y8 : V3.cell? ⟨p, 0, none⟩ = some (.slice (some ⟨h + 1 + 1 + 1, oo, none⟩) len cp) := (HK0.out.below B3 (by omega)).cell 0
      have f8 : V3.frozen? ⟨p, 0, none⟩ = false := (HK0.out.below B3 (by omega)).frozen 0
      refine wpAnyH_ready (rs := [5]) (by kernel_rfl) (by simp) ?_
      refine AllReadyH.cons rfl (fun K hK => ?_) AllReadyH.nil
      go_simp
      refine hK.out _ _ (((HK7.out.below B3 (by omega)).far (p := ⟨p, 0, none⟩) (by show h + 1 + 1 ≠ p; omega) _).cell 0) (fun hHeld => ?_)
      clear hK K
      try simp only [Act.put, List.setIfInBounds_toArray, List.set_cons_zero, List.set_cons_succ]
      refine wpAnyH_take (i := 6) (oi := { dst := some 40, op := Go.Op.indexAddr 25 (Go.Operand.tmp 35) (Go.Operand.tmp 36), type := 0, pos := "tree.go:80", after := #[{ on := 0, ground := Go.Ground.data }, { on := 1, ground := Go.Ground.data }, { on := 0, ground := Go.Ground.phase }, { on := 1, ground := Go.Ground.phase }, { on := 2, ground := Go.Ground.phase }, { on := 3, ground := Go.Ground.phase }, { on := 4, ground := Go.Ground.phase }, { on := 5, ground := Go.Ground.phase }], guard := none }) (v := ?_) rfl (by kernel_rfl) (by kernel_rfl) (by kernel_rfl) (fun _ _ _ h => by cases h.1) (Or.inl ⟨by rfl, ?_⟩) (by assumption) ?_
      rotate_left
      · (intro _ hSw; (try dsimp only at hSw); clear hSw; go_simp; try with_reducible rfl)
      try simp only [Act.put, List.setIfInBounds_toArray, List.set_cons_zero, List.set_cons_succ]
      clear hHeld
      have hth := HTH.out V3 B3 (.slice (some ⟨h + 1 + 1 + 1, oo, none⟩) s s)
      refine wpAnyH_ready (rs := [7]) (by kernel_rfl) (by simp) ?_
      refine AllReadyH.cons rfl (fun K hK => ?_) AllReadyH.nil
      refine wp_store_mid 31 (.tmp 40) (.tmp 39) rfl (h + 1) (m * 32) VR rfl rfl hth HVI.out HON.out ?_
      refine hK.out _ _ ?_ (fun hHeld => ?_)
      · exact (World.cell?_of_block (a := ⟨h + 1 + 1, 0, none⟩) (setCells_other _ _ (by simp [World.setCell]; have := B3.size; omega) (by show h + 1 + 1 ≠ h + 1; omega))).trans (((HK7.out.below B3 (by omega)).far (p := ⟨p, 0, none⟩) (by show h + 1 + 1 ≠ p; omega) _).cell 0)
      clear hK K
      refine wpAnyH_done (by kernel_rfl) ?_ _
      exact ⟨rfl, HFIN.out V3 B3⟩
    · have hsd := fun V3 hb => Q.right (V2 := V3) hk hb hl
      have hst := fun V3 hb v u R i => Q.still (k := k) (V2 := V3) hb v u R (i := i)
      obtain ⟨R, hR⟩ : ∃ R, rootD (ds.take (spl len)) = R := ⟨_, rfl⟩
      have hRO : ∀ W, Below V.heap.size V W → Calls Tryd.prog 30 #[.slice (some ⟨h + 1 + 1 + 1, oo, none⟩) (spl len) (spl len)] W (HashTo W W.heap.size R) := fun W hb => by
        have := rootOf_any (spl len) _ _ _ (spl len) W hnt (by omega) (by omega) hdt (ha1.next hb) (Nat.le_refl _) (hT W hb)
        rwa [hR] at this
      have hR32 : R.length = 32 := by rw [← hR]; exact rootD_len (by omega) fun d hd => (hdt d hd).1
      obtain ⟨VR, hVR, hvz, hon, hvi⟩ := hash_ok R hR32
      have hVL : VR.toList = bs R := by rw [← hVR]
      have hfin : ∀ V3, Below V.heap.size V V3 → After (fun j => j = p + 1) (fun Cin W => Cin = (fun j => j < p + 2) ∧ ∃ ds fl a oo len cap, PathS w h p D full (k + 1) ds fl a oo len cap W) (fun j => j < p + 2) V (((V3.setCell ⟨p, 0, none⟩ (.slice (some ⟨h + 1 + 1 + 1, oo + spl len * 32, none⟩) (len - spl len) (len - spl len))).setCells (h + 1) ((D - 1 - k) * 32) VR.toList).setCell ⟨h, 0, none⟩ (.int .i64 ((a2 : Int) - (spl len : Int)))) := fun V3 hb => by
        have h1 := hsd V3 hb
        rw [hR, show ((a2 - spl len : Nat) : Int) = (a2 : Int) - (spl len : Int) by omega] at h1
        rw [hVL]
        refine ⟨⟨_, ⟨rfl, _, _, _, _, _, _, h1⟩, fun j h => .inl h⟩, ?_, fun i hi hx => ?_⟩
        · have := setCells_more (V3.setCell ⟨p, 0, none⟩ (.slice (some ⟨h + 1 + 1 + 1, oo + spl len * 32, none⟩) (len - spl len) (len - spl len))) (h + 1) ((D - 1 - k) * 32) (bs R)
          have h5 : (V3.setCell ⟨p, 0, none⟩ (.slice (some ⟨h + 1 + 1 + 1, oo + spl len * 32, none⟩) (len - spl len) (len - spl len))).heap.size = V3.heap.size := by simp [World.setCell]
          have := hb.size
          have h6 : (((V3.setCell ⟨p, 0, none⟩ (.slice (some ⟨h + 1 + 1 + 1, oo + spl len * 32, none⟩) (len - spl len) (len - spl len))).setCells (h + 1) ((D - 1 - k) * 32) (bs R)).setCell ⟨h, 0, none⟩ (.int .i64 ((a2 : Int) - (spl len : Int)))).heap.size = ((V3.setCell ⟨p, 0, none⟩ (.slice (some ⟨h + 1 + 1 + 1, oo + spl len * 32, none⟩) (len - spl len) (len - spl len))).setCells (h + 1) ((D - 1 - k) * 32) (bs R)).heap.size := by simp [World.setCell]
          omega
        · exact (hst V3 hb _ (.int .i64 ((a2 : Int) - (spl len : Int))) R i hi (by rcases hx with hx | hx <;> omega)).2
      obtain ⟨m, hm⟩ : ∃ m, D - 1 - k = m := ⟨_, rfl⟩
      obtain ⟨s, hs⟩ : ∃ s, spl len = s := ⟨_, rfl⟩
      simp only [hm] at hfin hm1 ⊢
      rw [hs] at hl h3 h4 HH hRO
      simp only [hs] at hfin
      have HRO := Lib.hid hRO; have HFIN := Lib.hid hfin; have HVR := Lib.hid hVR; have HVZ := Lib.hid hvz; have HON := Lib.hid hon; have HVI := Lib.hid hvi
      have hlI : ¬ (a2 : Int) < (s : Int) := by omega
      have hwr : IntKind.i64.wrap ((a2 : Int) - (s : Int)) = (a2 : Int) - (s : Int) := IntWalk.i64_in _ (by omega)
      have hmI : (m : Int) < (D : Int) := by omega
      have hthere : ∀ V3, Below V.heap.size V V3 → ∀ v, (V3.setCell ⟨p, 0, none⟩ v).there (h + 1) (m * 32) VR.size := fun V3 hb v =>
        Blk.there ((HKO.out.below hb (by omega)).far (p := ⟨p, 0, none⟩) (by show h + 1 ≠ p; omega) v) (by rw [HVZ.out]; simp; omega)
      have HTH := Lib.hid hthere
      clear hthere hRO hfin hVR hvz hon hvi hVL hsd hst hT ha1 ha2 hdl hdt hnl hnt hat hdep hs hm hR32 hR Q hP0 hgv
      gi_wp2_with (gi_at_call 29
                   refine (callsIn_wide.2 HH.out).mono ?_
                   rintro _ V2 ⟨rfl, hd2⟩
                   have B2 := hd2.belowW
                   have z3 := (B2.cell (p := ⟨h, 0, none⟩) (by show h < _; omega)).trans y3
                   clear y3 y8
                   clear hd2)
      refine region_in (by kernel_rfl) (by kernel_rfl) (fun _ _ h => by cases h.1) (wpAny_of_held (S := fun w' => w'.cell? ⟨h + 1 + 1, 0, none⟩ = some (.slice (some ⟨h + 1, 0, none⟩) D D)) _ _ _ _ ?_)
      have B2d := Below.drew B2
      have hHeld : V2.drew.cell? ⟨h + 1 + 1, 0, none⟩ = some (.slice (some ⟨h + 1, 0, none⟩) D D) := (HK7.out.below B2d (by omega)).cell 0
      clear y7
      refine wpAnyH_take (i := 0) (oi := { dst := some 41, op := Go.Op.load 25 (Go.Operand.tmp 7), type := 25, pos := "tree.go:82", after := #[{ on := 5, ground := Go.Ground.gcOnly Go.Departure.lateStores }], guard := none }) (v := ?_) rfl (by kernel_rfl) (by kernel_rfl) (by kernel_rfl) (fun _ _ _ h => by cases h.1) (Or.inl ⟨by rfl, ?_⟩) (by assumption) ?_
      rotate_left
      · (intro _ hSw; (try dsimp only at hSw); have y7 := hSw; clear hSw; go_simp; try with_reducible rfl)
      try simp only [Act.put, List.setIfInBounds_toArray, List.set_cons_zero, List.set_cons_succ]
      refine wpAnyH_take (i := 1) (oi := { dst := some 42, op := Go.Op.move (Go.Operand.tmp 9), type := 3, pos := "tree.go:82", after := #[{ on := 5, ground := Go.Ground.gcOnly Go.Departure.lateStores }], guard := none }) (v := ?_) rfl (by kernel_rfl) (by kernel_rfl) (by kernel_rfl) (fun _ _ _ h => by cases h.1) (Or.inl ⟨by rfl, ?_⟩) (by assumption) ?_
      rotate_left
      · (intro _ hSw; (try dsimp only at hSw); clear hSw; go_simp; try with_reducible rfl)
      try simp only [Act.put, List.setIfInBounds_toArray, List.set_cons_zero, List.set_cons_succ]
      refine wpAnyH_take (i := 2) (oi := { dst := some 43, op := Go.Op.move (Go.Operand.tmp 11), type := 25, pos := "tree.go:82", after := #[], guard := none }) (v := ?_) rfl (by kernel_rfl) (by kernel_rfl) (by kernel_rfl) (fun _ _ _ h => by cases h.1) (Or.inl ⟨by rfl, ?_⟩) (by assumption) ?_
      rotate_left
      · (intro _ hSw; (try dsimp only at hSw); clear hSw; go_simp; try with_reducible rfl)
      try simp only [Act.put, List.setIfInBounds_toArray, List.set_cons_zero, List.set_cons_succ]
      refine wpAnyH_take (i := 3) (oi := { dst := some 44, op := Go.Op.move (Go.Operand.tmp 10), type := 25, pos := "tree.go:82", after := #[], guard := none }) (v := ?_) rfl (by kernel_rfl) (by kernel_rfl) (by kernel_rfl) (fun _ _ _ h => by cases h.1) (Or.inl ⟨by rfl, ?_⟩) (by assumption) ?_
      rotate_left
      · (intro _ hSw; (try dsimp only at hSw); clear hSw; go_simp; try with_reducible rfl)
      try simp only [Act.put, List.setIfInBounds_toArray, List.set_cons_zero, List.set_cons_succ]
      refine wpAnyH_ready (rs := [4]) (by kernel_rfl) (by simp) ?_
      refine AllReadyH.cons rfl (fun K hK => ?_) AllReadyH.nil
      go_simp
      go_at_call 30
      with_reducible refine (HRO.out _ B2d).mono ?_
      rintro e V3 ⟨rfl, hb3⟩
      have B3 := B2d.trans (hb3.mono B2d.size)
      rw [HVR.out]
      refine hK.out _ _ ((HK7.out.below B3 (by omega)).cell 0) (fun hHeld => ?_)
      clear hK K
      try simp only [Act.put, List.setIfInBounds_toArray, List.set_cons_zero, List.set_cons_succ]
      clear hHeld
      have y8 : V3.cell? ⟨p, 0, none⟩ = some (.slice (some ⟨h + 1 + 1 + 1, oo, none⟩) len cp) := (HK0.out.below B3 (by omega)).cell 0
      have f8 : V3.frozen? ⟨p, 0, none⟩ = false := (HK0.out.below B3 (by omega)).frozen 0
      refine wpAnyH_ready (rs := [5]) (by kernel_rfl) (by simp) ?_
      refine AllReadyH.cons rfl (fun K hK => ?_) AllReadyH.nil
      go_simp
      refine hK.out _ _ (((HK7.out.below B3 (by omega)).far (p := ⟨p, 0, none⟩) (by show h + 1 + 1 ≠ p; omega) _).cell 0) (fun hHeld => ?_)
      clear hK K
      try simp only [Act.put, List.setIfInBounds_toArray, List.set_cons_zero, List.set_cons_succ]
      refine wpAnyH_take (i := 6) (oi := { dst := some 46, op := Go.Op.indexAddr 25 (Go.Operand.tmp 41) (Go.Operand.tmp 42), type := 0, pos := "tree.go:82", after := #[{ on := 0, ground := Go.Ground.data }, { on := 1, ground := Go.Ground.data }, { on := 0, ground := Go.Ground.phase }, { on := 1, ground := Go.Ground.phase }, { on := 2, ground := Go.Ground.phase }, { on := 3, ground := Go.Ground.phase }, { on := 4, ground := Go.Ground.phase }, { on := 5, ground := Go.Ground.phase }], guard := none }) (v := ?_) rfl (by kernel_rfl) (by kernel_rfl) (by kernel_rfl) (fun _ _ _ h => by cases h.1) (Or.inl ⟨by rfl, ?_⟩) (by assumption) ?_
      rotate_left
      · (intro _ hSw; (try dsimp only at hSw); clear hSw; go_simp; try with_reducible rfl)
      try simp only [Act.put, List.setIfInBounds_toArray, List.set_cons_zero, List.set_cons_succ]
      clear hHeld
      have hth := HTH.out V3 B3 (.slice (some ⟨h + 1 + 1 + 1, oo + s * 32, none⟩) (len - s) (len - s))
      refine wpAnyH_ready (rs := [7]) (by kernel_rfl) (by simp) ?_
      refine AllReadyH.cons rfl (fun K hK => ?_) AllReadyH.nil
      refine wp_store_mid 31 (.tmp 46) (.tmp 45) rfl (h + 1) (m * 32) VR rfl rfl hth HVI.out HON.out ?_
      refine hK.out _ _ ?_ (fun hHeld => ?_)
      · exact (World.cell?_of_block (a := ⟨h + 1 + 1, 0, none⟩) (setCells_other _ _ (by simp [World.setCell]; have := B3.size; omega) (by show h + 1 + 1 ≠ h + 1; omega))).trans (((HK7.out.below B3 (by omega)).far (p := ⟨p, 0, none⟩) (by show h + 1 + 1 ≠ p; omega) _).cell 0)
      clear hK K
      refine wpAnyH_done (by kernel_rfl) ?_ _
      have kb := ((HK1.out.below B3 (by omega)).far (p := ⟨p, 0, none⟩) (by show h ≠ p; omega) (.slice (some ⟨h + 1 + 1 + 1, oo + s * 32, none⟩) (len - s) (len - s)))
      have kb2 := (setCells_other (g := h + 1) (m * 32) VR.toList kb.lt (by omega)).trans kb
      have y3 := Blk.cell kb2 0
      have f3 := Blk.frozen kb2 0
      have HF := Lib.hid (HFIN.out V3 B3)
      clear kb kb2 hth y8 f8
      simp only [List.getElem?_toArray, List.getElem?_cons_zero] at y3
      gi_wp2
      exact HF.out
  case hdone =>
    rintro Dd Cin Wd hDd ⟨rfl, ds, fl, a2, oo, len, cp, Q⟩ hK
    rw [hs5] at hDd
    subst hDd
    have hsz := Q.size
    have hfl : full = fl := by
      have h1 := pathD_len len ds a2 Q.num Q.lt
      have h2 := Q.dep
      have h3 : pathD ds a2 = [] := List.eq_nil_of_length_eq_zero (by omega)
      rw [← Q.all, h3]
      rfl
    have y7 : Wd.cell? ⟨h + 1 + 1, 0, none⟩ = some (.slice (some ⟨h + 1, 0, none⟩) D D) := Q.b7.cell 0
    have hout : Blk Wd (h + 1) 31 (bs fl.flatten).toArray := by
      have := Q.out
      rw [Nat.sub_self, Nat.zero_mul] at this
      simpa using this
    have hbelow := Q.below
    have hfdg := Q.fdg
    have HO := Lib.hid hout; have HBL := Lib.hid hbelow; have HFD := Lib.hid hfdg; have HFL := Lib.hid hfl
    clear hout hbelow hfdg hfl Q hgv hP0
    gi_wp2
    refine ⟨by simp, .inl ⟨_, _, rfl, run_takeDeferred hK, ?_⟩⟩
    have hblk : Blk (Wd.putObj (p + 1 + 1) (.deferred none)) (h + 1) 31 (bs fl.flatten).toArray := (World.putObj_heap_other (by omega)).trans HO.out
    refine ⟨_, results_tmp2 rfl _ _ _, h + 1, rfl, ?_, ?_⟩
    · rw [HFL.out]
      exact HsAt.blk hblk HFD.out
    · rw [hh]
      exact HBL.out.trans (hh ▸ belowK_b (w := w) (Nat.le_refl _) Wd (p + 1 + 1) _ _ (by omega) hK rfl rfl)
end Go.Proofs.YtkopoepoinkpeaaDoor
