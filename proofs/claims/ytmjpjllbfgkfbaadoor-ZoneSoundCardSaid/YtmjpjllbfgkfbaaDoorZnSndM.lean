/- The law's walk: ZoneSound where its rows are looked at, under the contracts. No condition. -/
import Derived.Test.YtmjpjllbfgkfbaaDoorZnSndW
import Derived.Test.YtmjpjllbfgkfbaaDoorVlRefRow
import Derived.Test.YtmjpjllbfgkfbaaDoorJ6
import Derived.Test.YtmjpjllbfgkfbaaDoorJ5
import Derived.Test.YtmjpjllbfgkfbaaDoorZwSndV
import Derived.Test.YtmjpjllbfgkfbaaDoorZnColV
namespace Go.Proofs.YtmjpjllbfgkfbaaDoor
open Go.RowKit
set_option linter.unusedVariables false
set_option linter.unusedSimpArgs false
set_option maxRecDepth 100000

/-- The document's Schema, as a contract. -/
def SchC (w0 : World) (S : Option Addr) (m cs : Nat) (sl : List Cl) : Prop := ∀ W : World, Below w0.heap.size w0 W → Calls Tryd.prog 5 #[.slice S m cs] W fun e w' => e = .returned (.int .i64 (scE sl)) ∧ Below W.heap.size W w'
theorem rw_len {s : List Cl} {r : List Vl} (h : rwE s r = 0) : r.length = s.length := by
  unfold rwE at h
  split at h
  · cases h
  · rename_i h1; omega
theorem info_zone : (Tryd.prog.info? 39).map (fun i => (i.zero, i.size, i.bytes)) = some (some (.agg #[.int .i64 0, .bool false, .int .i64 0, .int .i64 0, .string ⟨#[]⟩, .int .i64 0, .int .i64 0, .string ⟨#[]⟩]), 8, 80) := by kernel_rfl
theorem reads8z (w : World) (t : TypeId) (a b c d e f g h : Value) : Reads (w.alloc (.cells #[a, b, c, d, e, f, g, h] t)) (w.heap.size + 1) 8 (some ⟨w.heap.size, 0, none⟩) 1 [a, b, c, d, e, f, g, h] := by
  refine ⟨rfl, fun _ => ⟨_, rfl, Nat.lt_succ_self _, fun j u hu => ?_⟩⟩
  rw [plain_add, Nat.zero_add, (Blk.new w t #[a, b, c, d, e, f, g, h]).cell]
  simpa using hu
theorem zc_cell (z : Zn) : ∀ u ∈ zc z, u.oneCell' = true := by
  intro u hu
  simp [zc, vc] at hu
  rcases hu with rfl | rfl | rfl | rfl | rfl | rfl | rfl | rfl <;> rfl
theorem vs_take : ∀ (l : List Vl) (k : Nat), (vs l).take (k * 3) = vs (l.take k)
  | [], k => by simp [vs]
  | v :: l, 0 => by simp [vs]
  | v :: l, k + 1 => by
    have h := vs_take l k
    rw [show v :: l = [v] ++ l from rfl, vs_append, vs_one, List.take_append, List.take_of_length_le (by simp [vc]; omega), show (k + 1) * 3 - (vc v).length = k * 3 by simp [vc]; omega, h, show ([v] ++ l).take (k + 1) = [v] ++ l.take k by simp, vs_append, vs_one]
theorem zcs_snoc (l : List Zn) (z : Zn) : zcs (l ++ [z]) = zcs l ++ zc z := by simp [zcs]
/-- Rows in blocks that were made at different times are apart. -/
theorem own_ne {w wq : World} {B B' : Nat} {e e' : TypeId} {s s' n n' : Nat} {v v2 : Value} {xs xs' : List Value} (h : w.ownsRow B e s v n xs) (h2 : wq.ownsRow B' e' s' v2 n' xs') (hle : wq.heap.size ≤ B) : v.ownBlock = none ∨ v.ownBlock ≠ v2.ownBlock := by
  cases hb : v.ownBlock with
  | none => exact .inl rfl
  | some q =>
    refine .inr fun he => ?_
    have h3 := (h.lt q hb).1
    have h4 := (h2.lt q he.symm).2
    omega
section
variable {f M : Nat} {P : Nat → Prop} {c0 c1 c2 c3 : Value} {p : Pd} {S A : Option Addr} {m cs n cp : Nat} {sl : List Cl} {rows : List (List Vl)} {cut : Int} {w : World}
set_option maxHeartbeats 4000000 in
theorem sndW_main (hM : (M : Int) ≤ 4611686018427387904) (ha : AwakeZC w) (hck : ChkC w S m cs c0 c1 c2 c3) (hsch : SchC w S m cs sl) (hR : RefuC w) (hI : IsP f w P [c0, c1, c2, c3] p) (hl : ∀ k, LenP M k p) (hwf : ∀ k, WfP k p) (hs : szP 400 40 p ≤ 400) (hm : m ≤ 64) (hn : n ≤ 100)
    (hS : Reads w w.heap.size 3 S m (cls sl)) (hV : VV w A rows) (hrn : rows.length = n) (hbig : ∀ r ∈ rows, r.length ≤ 9223372036854775807) :
    Calls Tryd.prog 3 #[.slice S m cs, .agg #[c0, c1, c2, c3], .slice A n cp, .int .i64 cut] w fun e w' => e = .returned (.bool true) ∧ Below w.heap.size w w' := by
  have HS := Lib.hid fun (W : World) (hb : Below w.heap.size w W) => small_any hM (hI.next hb) hl
  have HA := Lib.hid ha; have HCK := Lib.hid hck; have HSCH := Lib.hid hsch
  have hsl : sl.length = m := by have := hS.1; rw [cls_length] at this; omega
  have HSL := Lib.hid hsl; have HSR := Lib.hid hS
  have HRF := Lib.hid fun (W : World) (hb : Below w.heap.size w W) (rw_ : Int) (B : Option Addr) (l c : Nat) (zl : List Zn) (hr : Reads W W.heap.size 8 B l (zcs zl)) (h1 : l ≤ 100) (h2 : In64 rw_) => hR W hb f P c0 c1 c2 c3 p rw_ B l c zl (hI.next hb) hwf hs hr h1 h2
  have HCO := Lib.hid fun (W : World) (hb : Below w.heap.size w W) (ci : Nat) (h1 : ci < m) (h2 : ∀ r ∈ rows, rwE sl r = 0) => column_any (w := W) (A := A) (n := n) (cp := cp) (ci := ci) (rows := rows) hrn (hV.next hb) (by omega) (by omega) (fun r hr => by have := rw_len (h2 r hr); omega)
  rw [show decide (szP 400 40 p ≤ 400) = true by simpa using hs] at HS
  have h4 := hI.four.2
  have f0 := h4 c0 (by simp); have f1 := h4 c1 (by simp); have f2 := h4 c2 (by simp); have f3 := h4 c3 (by simp)
  have d1 : decide ((64 : Int) < (m : Int)) = false := by simp; omega
  have d2 : decide ((100 : Int) < (n : Int)) = false := by simp; omega
  have B0 : Below w.heap.size w (w.alloc (.cells #[c0, c1, c2, c3] 26)) := (Below.refl _ _).alloc (Nat.le_refl _) _
  have K0 := Blk.new w 26 #[c0, c1, c2, c3]
  have HB0 := Lib.hid B0; have HK0 := Lib.hid K0
  obtain ⟨us, hu, hus⟩ := hV
  rw [hrn] at hu
  have HU := Lib.hid hus; have HE := Lib.hid hrn; have HBG := Lib.hid hbig
  have HRW := Lib.hid fun (W : World) (hb : Below w.heap.size w W) (r : List Vl) (B : Option Addr) (l c : Nat) (hr : Reads w w.heap.size 3 B l (vs r)) (hl : l ≤ 9223372036854775807) => refRow_any S B m cs l c sl r W ((hS.below hb).more hb.size) ((hr.below hb).more hb.size) (by omega) hl
  clear ha hck hsch hI hl hs h4 B0 K0 hus hrn hS hbig hR hwf hsl
  go_enter Tryd.func3, Tryd.ntmps3
  go_wp2_with fail
  refine (HS.out _ HB0.out).mono ?_
  rintro e w1 ⟨rfl, hb1⟩
  have A1 := HB0.out.trans (hb1.mono HB0.out.size)
  have K1 := HK0.out.below hb1 HK0.out.lt
  have HA1 := Lib.hid A1; have HK1 := Lib.hid K1
  clear A1 K1 hb1 HB0 HK0 HS
  go_wp2_with fail
  refine (HSCH.out _ HA1.out).mono ?_
  rintro e w2 ⟨rfl, hb2⟩
  have A2 := HA1.out.trans (hb2.mono HA1.out.size)
  have K2 := HK1.out.below hb2 HK1.out.lt
  have HA2 := Lib.hid A2; have HK2 := Lib.hid K2
  obtain ⟨x0, x1, x2, x3⟩ := blk4' K2
  clear A2 K2 hb2 HA1 HK1 HSCH
  by_cases hsc : scE sl = 0
  case neg =>
    obtain ⟨E, hE⟩ : ∃ E, scE sl = E := ⟨_, rfl⟩
    rw [hE] at hsc ⊢
    have q1 : (E == 0) = false := by simpa using hsc
    clear hE
    go_wp2_with fail
    refine (HA.out _ HA2.out).mono ?_
    rintro e w3 ⟨rfl, hb3⟩
    go_wp2_with fail
    go_ret
    exact ⟨rfl, HA2.out.trans (hb3.mono HA2.out.size)⟩
  rw [hsc]
  have HSC := Lib.hid hsc
  clear hsc
  go_wp2_with fail
  refine (HCK.out _ HA2.out).mono ?_
  rintro e w3 ⟨⟨r, rfl⟩, hb3⟩
  have A3 := HA2.out.trans (hb3.mono HA2.out.size)
  have K3 := HK2.out.below hb3 HK2.out.lt
  have HA3 := Lib.hid A3; have HK3 := Lib.hid K3
  clear A3 K3 hb3 HA2 HK2 HCK x0 x1 x2 x3
  by_cases hr : r = 0
  case neg =>
    have q1 : (r == 0) = false := by simpa using hr
    go_wp2_with fail
    refine (HA.out _ HA3.out).mono ?_
    rintro e w4 ⟨rfl, hb4⟩
    go_wp2_with fail
    go_ret
    exact ⟨rfl, HA3.out.trans (hb4.mono HA3.out.size)⟩
  subst hr
  go_wp2_with fail
  go_loopw [9] (fun i wr => ∃ k : Nat, k ≤ n ∧ i = .int .i64 (k : Int) ∧ Below w.heap.size w wr ∧ Blk wr w.heap.size 26 #[c0, c1, c2, c3] ∧ ∀ r ∈ rows.take k, rwE sl r = 0) (fun i _ => n - (intOf i).toNat)
  case atStart => exact ⟨0, Nat.zero_le _, rfl, HA3.out, HK3.out, by simp⟩
  case round =>
    clear HA3 HK3
    obtain ⟨k, hk, rfl, hb, hK, hok⟩ := hrel
    by_cases hlt : k < n
    · obtain ⟨r, hz⟩ : ∃ r, rows[k]? = some r := ⟨_, List.getElem?_eq_getElem (by rw [HE.out]; omega)⟩
      obtain ⟨u, hu1, A2, c2', rfl, hrr⟩ := HU.out k r hz
      obtain ⟨bb, oo, rfl, hbb, hcell⟩ := reads_plain2 hu (by omega) hu1
      have hck := (hb.cell (p := ⟨bb, oo + k, none⟩) hbb).trans (hcell k _ hu1)
      have hR := HRW.out wr hb r A2 r.length c2' hrr (HBG.out r (List.mem_of_getElem? hz))
      have HT := Lib.hid (List.take_add_one (l := rows) (i := k)); have HZ := Lib.hid hz
      obtain ⟨l, hl⟩ : ∃ l, r.length = l := ⟨_, rfl⟩
      rw [hl] at hck hR
      obtain ⟨E, hE⟩ : ∃ E, rwE sl r = E := ⟨_, rfl⟩
      rw [hE] at hR
      have HR := Lib.hid hR; have HEE := Lib.hid hE; have HOK := Lib.hid hok; have HB := Lib.hid hb; have HK := Lib.hid hK
      clear hR hE hok hb hK hz hu1 hcell hrr hl hu
      go_wp2_with fail
      refine HR.out.mono ?_
      rintro e w4 ⟨rfl, hb4⟩
      have A4 := HB.out.trans (hb4.mono HB.out.size)
      have HA4 := Lib.hid A4; have HK4 := Lib.hid (HK.out.below hb4 HK.out.lt)
      clear A4 hb4 HB HK HR
      by_cases h0 : E = 0
      · subst h0
        go_wp2_with fail
        go_round
        case rel =>
          refine ⟨k + 1, by omega, by go_num, HA4.out, HK4.out, fun q hq => ?_⟩
          rw [HT.out, HZ.out] at hq
          rcases List.mem_append.1 hq with hq | hq
          · exact HOK.out q hq
          · have : q = r := by simpa using hq
            rw [this]; exact HEE.out
        case measure => simp [intOf]; omega
      · have q1 : (E == 0) = false := by simpa using h0
        go_wp2_with fail
        refine (HA.out _ HA4.out).mono ?_
        rintro e w5 ⟨rfl, hb5⟩
        go_wp2_with fail
        go_ret
        exact ⟨rfl, HA4.out.trans (hb5.mono HA4.out.size)⟩
    · obtain rfl : k = n := by omega
      rw [List.take_of_length_le (by rw [HE.out]; exact Nat.le_refl _)] at hok
      obtain ⟨A5, hA5⟩ : ∃ q, q = wr := ⟨_, rfl⟩
      have hn63 : (k : Int) ≤ 100 := by omega
      go_upto_if 56 with fail
      go_cut [10] (fun q wx => wx = wr ∧ ∃ t : Nat, q = .int .i64 (t : Int) ∧ t ≤ k ∧ (0 < k → 1 ≤ t))
      case first =>
        by_cases hk0 : k = 0
        · subst hk0
          go_wp2_with fail
          go_meet
          exact ⟨rfl, 0, rfl, Nat.le_refl _, fun h => by omega⟩
        · have d3 : decide ((0 : Int) < (k : Int)) = true := by simp; omega
          have q3 : ((k : Int) == 0) = false := by simp; omega
          have hlt2 : cut.tmod (k : Int) < (k : Int) := Int.tmod_lt_of_pos cut (by omega)
          go_wp2_with fail
          case inr =>
            go_meet
            exact ⟨rfl, 1, by rfl, by omega, fun _ => Nat.le_refl _⟩
          case inl h =>
            obtain ⟨t, ht⟩ : ∃ t : Nat, 1 + cut.tmod (k : Int) = (t : Int) := ⟨(1 + cut.tmod (k : Int)).toNat, by omega⟩
            rw [ht]
            go_meet
            exact ⟨rfl, t, by go_num, by omega, fun _ => by omega⟩
      obtain ⟨rfl, t, rfl, ht1, ht2⟩ := hcut
      obtain ⟨jz, hjz, hjz0, hjz1, hjz2⟩ := info_parts info_zone
      have HOK := Lib.hid hok; have HB := Lib.hid hb; have HK := Lib.hid hK
      clear hok hb hK HRW HBG HU hu hA5
      go_wp2_with fail
      go_loopw [11, 12, 13, 14] (fun vz vy i vl wq => ∃ c : Nat, c ≤ m ∧ i = .int .i64 (c : Int) ∧ TwoS wq (w.heap.size + 1) 39 8 vz vy c c (zcs (zonesV rows c)) (zcs (zonesV (rows.take t) c)) ∧ Below w.heap.size w wq ∧ Blk wq w.heap.size 26 #[c0, c1, c2, c3]) (fun _ _ i _ _ => m - (intOf i).toNat)
      case atStart => exact ⟨0, Nat.zero_le _, rfl, by simpa [zonesV, zcs] using TwoS.nil _ _ _ _, HB.out, HK.out⟩
      case round =>
        clear HB HK
        obtain ⟨c, hc, rfl, hT, hbq, hKq⟩ := hrel
        by_cases hlt2 : c < m
        · have HT := Lib.hid hT; have HB := Lib.hid hbq; have HK := Lib.hid hKq
          clear hT hbq hKq
          go_wp2_with fail
          refine (HCO.out _ HB.out c hlt2 HOK.out).mono ?_
          rintro e w5 ⟨v5, rfl, ho5, hb5⟩
          obtain ⟨A5, c5, rfl, hc5a, hc5b, hr5⟩ := own_slice ho5
          have HO5 := Lib.hid ho5; have HB5 := Lib.hid hb5
          have HOF := Lib.hid (zoneOf_any (c := c5) hr5 (by omega))
          clear ho5 hb5 hr5
          go_wp2_with fail
          refine HOF.out.mono ?_
          rintro e w6 ⟨rfl, hb6⟩
          have HT6 := Lib.hid ((HT.out.below HB5.out).below hb6)
          have A5' := HB.out.trans (HB5.out.mono HB.out.size)
          have A6 := A5'.trans (hb6.mono A5'.size)
          have K6 := (HK.out.below HB5.out HK.out.lt).below hb6 (HK.out.below HB5.out HK.out.lt).lt
          have o6 := own_below HO5.out hb6
          have n6 := own_ne HO5.out HT.out.1 (Nat.le_refl _)
          have hsz6 := A6.size
          have HA6 := Lib.hid A6; have HK6 := Lib.hid K6; have HO6 := Lib.hid o6; have HN6 := Lib.hid n6
          have HSZ := Lib.hid (zonesV_succ rows c); have HSY := Lib.hid (zonesV_succ (rows.take t) c)
          have HVT := Lib.hid (colV_take rows c t)
          obtain ⟨V, hV⟩ : ∃ V, colV rows c = V := ⟨_, rfl⟩
          have HVV := Lib.hid hV
          rw [hV] at HSZ HVT HO6 ⊢
          obtain ⟨⟨z0, z1, ⟨za0, za1, zat⟩, ⟨zb0, zb1, zbt⟩⟩, hz⟩ : ∃ z, zoV V = z := ⟨_, rfl⟩
          have HZ := Lib.hid hz
          rw [hz] at HSZ ⊢
          rw [show zW (z0, z1, (za0, za1, zat), (zb0, zb1, zbt)) = .agg #[.int .i64 z0, .bool z1, .int .i64 za0, .int .i64 za1, .string ⟨zat.toArray⟩, .int .i64 zb0, .int .i64 zb1, .string ⟨zbt.toArray⟩] from rfl]
          clear hb6 A5' A6 K6 o6 n6 hz hV HOF HO5 HB5 HB HK HT
          go_wp2_with (at_builtin
                       refine wpList_append_any _ rfl (.tmp 72) (.tmp 75) _ rfl (w.heap.size + 1) 39 jz _ 8 80 Tryd.underlying34 hjz hjz0 hjz1 hjz2 rfl (by omega) u11 c (zcs (zonesV rows c)) rfl
                         (HT6.out.1.alloc _) (w6.heap.size + 1) (some ⟨w6.heap.size, 0, none⟩) 1 1 (zc (z0, z1, (za0, za1, zat), (zb0, zb1, zbt))) rfl (reads8z w6 _ _ _ _ _ _ _ _ _) (zc_cell _) (by unfold maxLen; omega) (by omega) (by simp; omega) ?_
                       intro v7 w7 hown7 hg7 hat7)
          have T7 := HT6.out.grown hown7 hg7 hat7
          have A7 := below_app HA6.out (own_base HT6.out.1 (Nat.le_succ _)) hsz6 hg7
          have K7 := (HK6.out.alloc _).grown hg7 (fun e => by have := (HT6.out.1.lt _ e.symm).1; omega)
          have r7 := ((Reads.of_own ((HO6.out.alloc _).kept hg7 HN6.out)).fore ht1)
          rw [vs_take, HVT.out] at r7
          have HT7 := Lib.hid T7; have HA7 := Lib.hid A7; have HK7 := Lib.hid K7
          have HOF := Lib.hid (zoneOf_any (c := c5) r7 (by omega))
          clear T7 A7 K7 r7 hown7 hg7 hat7 HT6 HA6 HK6 HO6 HN6 hsz6
          refine HOF.out.mono ?_
          rintro e w8 ⟨rfl, hb8⟩
          have A8 := HA7.out.trans (hb8.mono HA7.out.size)
          have HT8 := Lib.hid (HT7.out.below hb8); have HK8 := Lib.hid (HK7.out.below hb8 HK7.out.lt)
          have hsz8 := A8.size
          have HA8 := Lib.hid A8
          obtain ⟨⟨y0, y1, ⟨ya0, ya1, yat⟩, ⟨yb0, yb1, ybt⟩⟩, hy⟩ : ∃ z, zoV (colV (rows.take t) c) = z := ⟨_, rfl⟩
          rw [hy] at HSY ⊢
          rw [show zW (y0, y1, (ya0, ya1, yat), (yb0, yb1, ybt)) = .agg #[.int .i64 y0, .bool y1, .int .i64 ya0, .int .i64 ya1, .string ⟨yat.toArray⟩, .int .i64 yb0, .int .i64 yb1, .string ⟨ybt.toArray⟩] from rfl]
          clear hb8 A8 hy HOF HT7 HA7 HK7
          go_wp2_with (at_builtin
                       refine wpList_append_any _ rfl (.tmp 77) (.tmp 82) _ rfl (w.heap.size + 1) 39 jz _ 8 80 Tryd.underlying34 hjz hjz0 hjz1 hjz2 rfl (by omega) u12 c (zcs (zonesV (rows.take t) c)) rfl
                         (HT8.out.swap.1.alloc _) (w8.heap.size + 1) (some ⟨w8.heap.size, 0, none⟩) 1 1 (zc (y0, y1, (ya0, ya1, yat), (yb0, yb1, ybt))) rfl (reads8z w8 _ _ _ _ _ _ _ _ _) (zc_cell _) (by unfold maxLen; omega) (by omega) (by simp; omega) ?_
                       intro v9 w9 hown9 hg9 hat9)
          have T9 := (HT8.out.swap.grown hown9 hg9 hat9).swap
          have A9 := below_app HA8.out (own_base HT8.out.swap.1 (Nat.le_succ _)) hsz8 hg9
          have K9 := (HK8.out.alloc _).grown hg9 (fun e => by have := (HT8.out.swap.1.lt _ e.symm).1; omega)
          rw [← zcs_snoc, ← zcs_snoc, ← HSZ.out, ← HSY.out] at T9
          have HT9 := Lib.hid T9; have HA9 := Lib.hid A9; have HK9 := Lib.hid K9
          obtain ⟨A7, c7, hv7, _, _, r7⟩ := own_slice T9.1
          have hidx : (zonesV rows (c + 1))[c]? = some (z0, z1, (za0, za1, zat), (zb0, zb1, zbt)) := by rw [HSZ.out, List.getElem?_append_right (by rw [zonesV_length]; exact Nat.le_refl _), zonesV_length]; simp
          obtain ⟨zb, zo, hA7, _, hzc⟩ := r7.zone hidx
          have s0 := hzc 0 (by omega); have s1 := hzc 1 (by omega); have s2 := hzc 2 (by omega); have s3 := hzc 3 (by omega)
          have s4 := hzc 4 (by omega); have s5 := hzc 5 (by omega); have s6 := hzc 6 (by omega); have s7 := hzc 7 (by omega)
          simp only [zc, vc, List.cons_append, List.nil_append, List.getElem?_cons_zero, List.getElem?_cons_succ, Nat.add_zero] at s0 s1 s2 s3 s4 s5 s6 s7
          obtain ⟨⟨kd, nu, wy⟩, hsc⟩ : ∃ q, sl[c]? = some q := ⟨_, List.getElem?_eq_getElem (by rw [HSL.out]; exact hlt2)⟩
          obtain ⟨sb, so, hS', _, t0, _, _⟩ := (HSR.out.below A9).col hsc
          have hkk := kind_of_schema HSC.out (List.mem_of_getElem? hsc)
          have hft := fit_col HOK.out hsc
          rw [HVV.out] at hft
          have hof := zoV_of V
          rw [HZ.out] at hof
          have hvl : V.length = k := by rw [← HVV.out, colV_length, HE.out]
          have hle := hof.least hft
          have g1 : Hid (Yields w9.heap.size w9 11 #[.agg #[.int .i64 z0, .bool z1, .int .i64 za0, .int .i64 za1, .string ⟨zat.toArray⟩, .int .i64 zb0, .int .i64 zb1, .string ⟨zbt.toArray⟩], .int .i64 (k : Int), .int .i64 kd] (.bool true)) := Lib.hid fun W hb => by
            have h := soundV_any hof hkk hft W
            rw [hvl] at h
            exact h.mono fun e w' ⟨he, hb'⟩ => ⟨he, hb.trans (hb'.mono hb.size)⟩
          have g2 : Hid (z1 = true → Yields w9.heap.size w9 12 #[.agg #[.int .i64 za0, .int .i64 za1, .string ⟨zat.toArray⟩], .int .i64 kd] (.bool true)) := Lib.hid fun hz1 W hb => by
            have h := refRight_any (za0, za1, zat) kd W
            rw [(hle hz1).2.1] at h
            exact h.mono fun e w' ⟨he, hb'⟩ => ⟨he, hb.trans (hb'.mono hb.size)⟩
          subst hv7 hA7 hS'
          clear T9 A9 K9 hown9 hg9 hat9 HT8 HA8 HK8 hsz8 r7 hidx hzc hsc hkk hft hof hvl hle HSZ HSY HVT HVV HZ
          have x0 := cell_regrown s0; have x1 := cell_regrown s1; have x2 := cell_regrown s2; have x3 := cell_regrown s3
          have x4 := cell_regrown s4; have x5 := cell_regrown s5; have x6 := cell_regrown s6; have x7 := cell_regrown s7
          have y0' := cell_regrown t0
          clear s0 s1 s2 s3 s4 s5 s6 s7 t0
          cases z1 with
          | false =>
            clear g2
            refine wp_region_quiet_below (by kernel_rfl) (by kernel_rfl) ?_
            repeat (go_big_quiet_step (first | (go_at_call 11; with_reducible exact g1.out.quiet _ _)))
            refine wpQuiet_nil ?_
            intro W hW
            have hbp : Below w9.heap.size w9 W := by obtain ⟨pp, e⟩ := hW; subst e; exact below_regrown w9 pp.d pp.os
            have HT10 := Lib.hid (HT9.out.below hbp); have HA10 := Lib.hid (HA9.out.trans (hbp.mono HA9.out.size)); have HK10 := Lib.hid (HK9.out.below hbp HK9.out.lt)
            clear hW hbp g1 x0 x1 x2 x3 x4 x5 x6 x7 y0' HT9 HA9 HK9
            go_wp2_with fail
            go_round
            case rel => exact ⟨c + 1, by omega, by go_num, HT10.out, HA10.out, HK10.out⟩
            case measure => simp [intOf]; omega
          | true =>
            have g3 := Lib.hid (g2.out rfl)
            clear g2
            refine wp_region_quiet_below (by kernel_rfl) (by kernel_rfl) ?_
            repeat (go_big_quiet_step (first | (go_at_call 11; with_reducible exact g1.out.quiet _ _) | (go_at_call 12; with_reducible exact g3.out.quiet _ _)))
            refine wpQuiet_nil ?_
            intro W hW
            have hbp : Below w9.heap.size w9 W := by obtain ⟨pp, e⟩ := hW; subst e; exact below_regrown w9 pp.d pp.os
            have HT10 := Lib.hid (HT9.out.below hbp); have HA10 := Lib.hid (HA9.out.trans (hbp.mono HA9.out.size)); have HK10 := Lib.hid (HK9.out.below hbp HK9.out.lt)
            clear hW hbp g1 g3 x0 x1 x2 x3 x4 x5 x6 x7 y0' HT9 HA9 HK9
            go_wp2_with fail
            go_round
            case rel => exact ⟨c + 1, by omega, by go_num, HT10.out, HA10.out, HK10.out⟩
            case measure => simp [intOf]; omega
        · obtain rfl : c = m := by omega
          obtain ⟨B1, e1, rfl, _, _, r1⟩ := own_slice hT.1
          obtain ⟨B2, e2, rfl, _, _, r2⟩ := own_slice hT.2.1
          obtain ⟨s0, s1, s2, s3⟩ := blk4' hKq
          have hab : (mayP (k : Int) (zonesV rows c) p).2.2 = false → (mayP (t : Int) (zonesV (rows.take t) c) p).2.2 = false := by
            intro h
            by_cases hk0 : 0 < k
            · exact refutes_sub c (ht2 hk0) (by rw [HE.out]; exact ht1) p (by rw [HE.out]; exact h)
            · obtain rfl : t = 0 := by omega
              exact refutes_none _ p
          have G1 : Hid (Yields wr.heap.size wr 13 #[.agg #[c0, c1, c2, c3], .int .i64 (k : Int), .slice B1 c e1] (.bool (!(mayP (k : Int) (zonesV rows c) p).2.2))) := Lib.hid fun W hb => (HRF.out W (hbq.trans (hb.mono hbq.size)) (k : Int) B1 c e1 (zonesV rows c) ((r1.below hb).more hb.size) (by omega) (by unfold In64; omega)).mono fun e w' ⟨he, hb'⟩ => ⟨he, hb.trans (hb'.mono hb.size)⟩
          have G2 : Hid (Yields wr.heap.size wr 13 #[.agg #[c0, c1, c2, c3], .int .i64 (t : Int), .slice B2 c e2] (.bool (!(mayP (t : Int) (zonesV (rows.take t) c) p).2.2))) := Lib.hid fun W hb => (HRF.out W (hbq.trans (hb.mono hbq.size)) (t : Int) B2 c e2 (zonesV (rows.take t) c) ((r2.below hb).more hb.size) (by omega) (by unfold In64; omega)).mono fun e w' ⟨he, hb'⟩ => ⟨he, hb.trans (hb'.mono hb.size)⟩
          have g3 : Hid (Yields wr.heap.size wr 7 #[] (.bool true)) := Lib.hid fun V hbV => (HA.out V (hbq.trans (hbV.mono hbq.size))).mono fun e w' ⟨he, hb'⟩ => ⟨he, hbV.trans (hb'.mono hbV.size)⟩
          obtain ⟨a, ha⟩ : ∃ a, (mayP (k : Int) (zonesV rows c) p).2.2 = a := ⟨_, rfl⟩
          obtain ⟨d, hd⟩ : ∃ d, (mayP (t : Int) (zonesV (rows.take t) c) p).2.2 = d := ⟨_, rfl⟩
          rw [ha] at G1 hab
          rw [hd] at G2 hab
          have HBQ := Lib.hid hbq; have HKQ := Lib.hid hKq
          clear hT r1 r2 ha hd hbq hKq
          cases a with
          | true =>
            go_wp2_with fail
            refine (G1.out _ (Below.refl _ _)).mono ?_
            rintro e w5 ⟨rfl, hb5⟩
            clear s0 s1 s2 s3
            go_wp2_with fail
            refine (g3.out _ hb5).mono ?_
            rintro e w6 ⟨rfl, hb6⟩
            go_wp2_with fail
            go_ret
            exact ⟨by first | rfl | simp, HBQ.out.trans (hb6.mono HBQ.out.size)⟩
          | false =>
            obtain rfl : d = false := hab rfl
            go_wp2_with fail
            refine (G1.out _ (Below.refl _ _)).mono ?_
            rintro e w5 ⟨rfl, hb5⟩
            clear s0 s1 s2 s3
            obtain ⟨s0, s1, s2, s3⟩ := blk4' (HKQ.out.below hb5 HKQ.out.lt)
            go_wp2_with fail
            refine (G2.out _ hb5).mono ?_
            rintro e w6 ⟨rfl, hb6⟩
            clear s0 s1 s2 s3
            go_wp2_with fail
            refine (g3.out _ hb6).mono ?_
            rintro e w7 ⟨rfl, hb7⟩
            go_wp2_with fail
            go_ret
            exact ⟨by first | rfl | simp, HBQ.out.trans (hb7.mono HBQ.out.size)⟩
end
end Go.Proofs.YtmjpjllbfgkfbaaDoor
