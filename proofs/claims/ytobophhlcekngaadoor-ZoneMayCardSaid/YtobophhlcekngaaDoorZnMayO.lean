/- Contract of the document's May of layer 17 at POr, under those of its parts. -/
import Derived.Lib.QuietBelow
import Derived.Deep.RegionLaw
import Derived.Deep.QuietTactic
import Derived.Test.YtobophhlcekngaaDoorZnMayJ
namespace Go.Proofs.YtobophhlcekngaaDoor
open Go.RowKit
set_option linter.unusedVariables false
set_option linter.unusedSimpArgs false
set_option maxRecDepth 100000

section
variable {w : World} {rows : Int} {A A' Az : Option Addr} {c c' n m cz : Nat}
set_option maxHeartbeats 16000000 in
theorem may_or {f : Nat} {P : Nat → Prop} {us : List (List Value)} {parts : List Pd} {zl : List Zn} (hr : 1 ≤ rows) (hn : parts.length = n) (hn1 : 1 ≤ n ∧ n ≤ 256) (hR : Reads w w.heap.size 4 A' n us.flatten) (hA : AllP f w P us parts)
    (IH : ∀ W, Below w.heap.size w W → ∀ g0 g1 g2 g3 q, q ∈ parts → IsP f W P [g0, g1, g2, g3] q → Calls Tryd.prog 6 #[.agg #[g0, g1, g2, g3], .int .i64 rows, .slice Az m cz] W fun e w' => e = .returned (tW (mayP rows zl q)) ∧ Below W.heap.size W w')
    {t : Tr3} {ts : List Tr3} (ht : parts.map (mayP rows zl) = t :: ts) :
    Calls Tryd.prog 6 #[.agg #[.int .i64 11, .int .i64 0, .slice A 0 c, .slice A' n c'], .int .i64 rows, .slice Az m cz] w fun e w' => e = .returned (tW (ts.foldl (jn3 11) t)) ∧ Below w.heap.size w w' := by
  obtain ⟨t0, t1, t2⟩ := t
  have d1 : decide (rows < 1) = false := by simp; omega
  obtain ⟨⟨R0, R1, R2⟩, hRR⟩ : ∃ q, ts.foldl (jn3 11) (t0, t1, t2) = q := ⟨_, rfl⟩
  rw [hRR]
  have HF := Lib.hid fun (W : World) => refFormed_any 11 0 A A' 0 c n c' W
  rw [show decide (frmZ 11 0 0 n) = true from by simp [frmZ]; omega] at HF
  simp only [tW] at IH ⊢
  have hp0 : ∃ q, parts[0]? = some q := ⟨_, List.getElem?_eq_getElem (by omega)⟩
  obtain ⟨q0, hq0⟩ := hp0
  have ht0 : mayP rows zl q0 = (t0, t1, t2) := by
    have h1 := congrArg (·[0]?) ht
    simp only [List.getElem?_map, hq0] at h1
    simpa using h1
  have HTS : Hid (∀ k q, parts[k + 1]? = some q → ts[k]? = some (mayP rows zl q)) := Lib.hid fun k q hk => by
    have h1 := congrArg (·[k + 1]?) ht
    simp only [List.getElem?_map, hk] at h1
    simpa using h1.symm
  have HTL : Hid (ts.length + 1 = n) := Lib.hid (by have h1 := congrArg List.length ht; simp at h1; omega)
  have HI := Lib.hid IH; have HAL := Lib.hid hA; have HRD := Lib.hid hR; have HPL := Lib.hid hn
  have HQ0 : Hid ((ts.drop 0).foldl (jn3 11) (t0, t1, t2) = (R0, R1, R2)) := Lib.hid (by simpa using hRR)
  obtain ⟨b0, o0, g0, g1, g2, g3, rfl, hb0, hI0, e0, e1, e2, e3⟩ := hA.at_ hR hn hq0
  rw [Nat.zero_mul, Nat.add_zero] at e0 e1 e2 e3
  have h4 := hI0.four.2
  have f0 := h4 g0 (by simp); have f1 := h4 g1 (by simp); have f2 := h4 g2 (by simp); have f3 := h4 g3 (by simp)
  have HI0 := Lib.hid hI0; have HM0 := Lib.hid (List.mem_of_getElem? hq0)
  have HT0 := Lib.hid ht0
  have K1 := Blk.new (w.alloc (.cells #[.int .i64 11, .int .i64 0, .slice A 0 c, .slice (some ⟨b0, o0, none⟩) n c'] 25)) 29 #[.bool false, .bool false, .bool false]
  have K0 := (Blk.new w 25 #[.int .i64 11, .int .i64 0, .slice A 0 c, .slice (some ⟨b0, o0, none⟩) n c']).alloc (.cells #[.bool false, .bool false, .bool false] 29)
  have HB := ((Below.refl w.heap.size w).alloc (Nat.le_refl _) (.cells #[.int .i64 11, .int .i64 0, .slice A 0 c, .slice (some ⟨b0, o0, none⟩) n c'] 25)).alloc (by simp) (.cells #[.bool false, .bool false, .bool false] 29)
  rw [World.size_alloc] at K1
  have HK1 := Lib.hid K1; have HK0 := Lib.hid K0; have HHB := Lib.hid HB
  clear K1 K0 HB hr IH hA hR hn hRR ht ht0 hq0 hI0 h4
  go_enter Tryd.func6, Tryd.ntmps6
  go_wp2_with fail
  refine (HF.out _).mono ?_
  rintro e w1 ⟨rfl, hb⟩
  have hb1 := HHB.out.trans (hb.mono HHB.out.size)
  have k1 := HK1.out.below hb HK1.out.lt
  have k0 := HK0.out.below hb HK0.out.lt
  obtain ⟨x0, x1, x2, x3⟩ := blk4' k0
  have u0 := (hb1.cell hb0).trans e0; have u1 := (hb1.cell hb0).trans e1; have u2 := (hb1.cell hb0).trans e2; have u3 := (hb1.cell hb0).trans e3
  have HB1 := Lib.hid hb1; have HK2 := Lib.hid k1; have HK3 := Lib.hid k0
  have hNN : n ≤ 256 := hn1.2
  have hN1 : 1 ≤ n := hn1.1
  have d9 : decide ((n : Int) ≤ 0) = false := by simp; omega
  have d8 : decide ((0 : Int) < (n : Int)) = true := by simp; omega
  clear hb hb1 k1 k0 HK1 HK0 HHB hn1
  go_wp2_with fail
  refine (HI.out _ HB1.out g0 g1 g2 g3 q0 HM0.out (HI0.out.next HB1.out)).mono ?_
  rintro e w2 ⟨rfl, hb⟩
  have hbb := HB1.out.trans (hb.mono HB1.out.size)
  have J0 : JL w w.heap.size (w.heap.size + 1) w2.heap.size #[.int .i64 11, .int .i64 0, .slice A 0 c, .slice (some ⟨b0, o0, none⟩) n c'] (t0, t1, t2) (w2.alloc (.cells #[.bool t0, .bool t1, .bool t2] 29)) :=
    ⟨hbb.alloc hbb.size _, (HK3.out.below hb HK3.out.lt).alloc _, (HK2.out.below hb HK2.out.lt).alloc _, Blk.new w2 _ _⟩
  have hgg : w.heap.size + 1 < w2.heap.size := (HK2.out.below hb HK2.out.lt).lt
  rw [HT0.out]
  have HJ0 := Lib.hid J0
  clear x0 x1 x2 x3 u0 u1 u2 u3
  obtain ⟨x0, x1, x2, x3⟩ := blk4' J0.kp
  obtain ⟨g10, hg10⟩ : ∃ g, w2.heap.size = g := ⟨_, rfl⟩
  have HG := Lib.hid hg10
  rw [hg10] at HJ0 hgg
  clear hb hbb J0 HK2 HK3 HB1 hg10
  go_wp2_with fail
  rw [HG.out]
  clear x0 x1 x2 x3
  go_loopw [11] (fun i wr => ∃ (k : Nat) (M : Tr3), k + 1 ≤ n ∧ i = .int .i64 ((k : Int) + 1) ∧ Hid ((ts.drop k).foldl (jn3 11) M = (R0, R1, R2)) ∧ JL w w.heap.size (w.heap.size + 1) g10 #[.int .i64 11, .int .i64 0, .slice A 0 c, .slice (some ⟨b0, o0, none⟩) n c'] M wr) (fun i _ => n - (intOf i).toNat)
  case atStart => exact ⟨0, (t0, t1, t2), by omega, rfl, HQ0, HJ0.out⟩
  case round =>
    clear HQ0 HJ0 HT0 HI0 HM0 e0 e1 e2 e3 f0 f1 f2 f3
    obtain ⟨k, ⟨M0, M1, M2⟩, hk, rfl, HQ, J⟩ := hrel
    obtain ⟨x0, x1, x2, x3⟩ := blk4' J.kp
    have hwk : IntKind.i64.wrap ((k : Int) + 1 + 1) = (k : Int) + 1 + 1 := IntWalk.i64_in _ (by omega)
    by_cases hlt : k + 1 < n
    · have d2 : decide ((k : Int) + 1 < (n : Int)) = true := by simp; omega
      obtain ⟨q, hq⟩ : ∃ q, parts[k + 1]? = some q := ⟨_, List.getElem?_eq_getElem (by rw [HPL.out]; exact hlt)⟩
      obtain ⟨bq, oq, g0, g1, g2, g3, eA, hbq, hIq, e0, e1, e2, e3⟩ := (HAL.out.next J.b).at_ (HRD.out.below J.b) HPL.out hq
      injection eA with eA
      injection eA with eb eo
      subst eb eo
      have hix : ((k + 1) * 4 : Nat) = (k + 1) * 4 := rfl
      have h4 := hIq.four.2
      have f0 := h4 g0 (by simp); have f1 := h4 g1 (by simp); have f2 := h4 g2 (by simp); have f3 := h4 g3 (by simp)
      have hc := HI.out wr J.b g0 g1 g2 g3 q (List.mem_of_getElem? hq) hIq
      have htk := HTS.out k q hq
      obtain ⟨⟨z0, z1, z2⟩, hz⟩ : ∃ z, mayP rows zl q = z := ⟨_, rfl⟩
      rw [hz] at hc htk
      have hd : ts.drop k = (z0, z1, z2) :: ts.drop (k + 1) := by rw [List.drop_eq_getElem_cons (List.getElem?_eq_some_iff.1 htk).1, (List.getElem?_eq_some_iff.1 htk).2]
      have hq2 := HQ.out
      rw [hd, List.foldl_cons] at hq2
      have HQ2 := Lib.hid hq2
      have HC := Lib.hid hc; have HJ := Lib.hid J
      have hi1 : ((k : Int) + 1).toNat = k + 1 := by omega
      have d4 : decide ((k : Int) + 1 < 0) = false := by simp; omega
      have d5 : decide ((n : Int) ≤ (k : Int) + 1) = false := by simp; omega
      clear HQ hc htk hz hd hq2 hq hIq h4 J hix
      go_wp2_with fail
      refine HC.out.mono ?_
      rintro e w4 ⟨rfl, hb4⟩
      have J4 := HJ.out.next hb4
      have b1 := (Below.refl w4.heap.size w4).alloc (Nat.le_refl _) (.cells #[.bool z0, .bool z1, .bool z2] 29)
      have b2 := b1.alloc b1.size (.cells #[.bool false, .bool false, .bool false] 29)
      have kx := (Blk.new w4 29 #[.bool z0, .bool z1, .bool z2]).alloc (.cells #[.bool false, .bool false, .bool false] 29)
      have kt := Blk.new (w4.alloc (.cells #[.bool z0, .bool z1, .bool z2] 29)) 29 #[.bool false, .bool false, .bool false]
      rw [World.size_alloc] at kt
      have hg12 : g10 < w4.heap.size := J4.ko.lt
      have J5 : JR w w.heap.size (w.heap.size + 1) g10 w4.heap.size (w4.heap.size + 1) #[.int .i64 11, .int .i64 0, .slice A 0 c, .slice (some ⟨b0, o0, none⟩) n c'] (M0, M1, M2) (z0, z1, z2) (false, false, false) ((w4.alloc (.cells #[.bool z0, .bool z1, .bool z2] 29)).alloc (.cells #[.bool false, .bool false, .bool false] 29)) := ⟨J4.next b2, kx, kt⟩
      have HJ5 := Lib.hid J5
      obtain ⟨g12, hg⟩ : ∃ g, w4.heap.size = g := ⟨_, rfl⟩
      have HG := Lib.hid hg
      rw [hg] at HJ5 hg12
      clear hb4 J4 b1 b2 kx kt J5 hg x0 x1 x2 x3 e0 e1 e2 e3 HC HJ
      go_wp2_with fail
      rw [HG.out]
      clear HG
      go_loopw [14] (fun a wr => ∃ ka : Nat, ka ≤ 3 ∧ a = .int .i64 (ka : Int) ∧ JR w w.heap.size (w.heap.size + 1) g10 g12 (g12 + 1) #[.int .i64 11, .int .i64 0, .slice A 0 c, .slice (some ⟨b0, o0, none⟩) n c'] (M0, M1, M2) (z0, z1, z2) (jnA 11 (M0, M1, M2) (z0, z1, z2) ka) wr) (fun a _ => 3 - (intOf a).toNat)
      case atStart => exact ⟨0, by omega, rfl, HJ5.out⟩
      case round =>
        clear HJ5
        obtain ⟨ka, hka, rfl, J⟩ := hrel
        by_cases hl3 : ka < 3
        · have d3 : decide ((ka : Int) < 3) = true := by simp; omega
          have d6 : decide ((ka : Int) < 0) = false := by simp
          have d7 : decide ((3 : Int) ≤ (ka : Int)) = false := by simp; omega
          obtain ⟨tA, htA⟩ : ∃ q, jnA 11 (M0, M1, M2) (z0, z1, z2) ka = q := ⟨_, rfl⟩
          rw [htA] at J
          have HTA := Lib.hid htA; have HJ6 := Lib.hid J
          clear htA J
          go_wp2_with fail
          go_loopw [15] (fun b wr => ∃ kb : Nat, kb ≤ 3 ∧ b = .int .i64 (kb : Int) ∧ JR w w.heap.size (w.heap.size + 1) g10 g12 (g12 + 1) #[.int .i64 11, .int .i64 0, .slice A 0 c, .slice (some ⟨b0, o0, none⟩) n c'] (M0, M1, M2) (z0, z1, z2) (jnB 11 (M0, M1, M2) (z0, z1, z2) ka tA kb) wr) (fun b _ => 3 - (intOf b).toNat)
          case atStart => exact ⟨0, by omega, rfl, HJ6.out⟩
          case round =>
            clear HJ6
            obtain ⟨kb, hkb, rfl, J⟩ := hrel
            by_cases hb3 : kb < 3
            · have d10 : decide ((kb : Int) < 3) = true := by simp; omega
              have d11 : decide ((kb : Int) < 0) = false := by simp
              have d12 : decide ((3 : Int) ≤ (kb : Int)) = false := by simp; omega
              obtain ⟨tt, htt⟩ : ∃ q, jnB 11 (M0, M1, M2) (z0, z1, z2) ka tA kb = q := ⟨_, rfl⟩
              obtain ⟨p, hp⟩ : ∃ p, at3 (M0, M1, M2) ka = p := ⟨_, rfl⟩
              obtain ⟨r, hr2⟩ : ∃ p, at3 (z0, z1, z2) kb = p := ⟨_, rfl⟩
              have hs : jnB 11 (M0, M1, M2) (z0, z1, z2) ka tA (kb + 1) = put3 tt (p && r) (of2 11 ka kb) := by rw [← htt, ← hp, ← hr2]; rfl
              rw [htt] at J
              have ca : wr.cell? ⟨g10, ka, none⟩ = some (.bool p) := by rw [J.l.ko.cell ka, cs3_at _ hl3, hp]
              have cb : wr.cell? ⟨g12, kb, none⟩ = some (.bool r) := by rw [J.kx.cell kb, cs3_at _ hb3, hr2]
              have ta : wr.cell? ⟨g12 + 1, ka, none⟩ = some (.bool (at3 tt ka)) := by rw [J.kt.cell ka, cs3_at _ hl3]
              have tb : wr.cell? ⟨g12 + 1, kb, none⟩ = some (.bool (at3 tt kb)) := by rw [J.kt.cell kb, cs3_at _ hb3]
              have fa := J.kt.frozen ka; have fb := J.kt.frozen kb
              obtain ⟨x0, x1, x2, x3⟩ := blk4' J.l.kp
              have HS := Lib.hid hs; have HJ7 := Lib.hid J
              clear hs J htt hp hr2
              cases p
              · go_wp2_with fail
                go_round
                case rel => exact ⟨kb + 1, by omega, by go_num, by rw [HS.out, Bool.false_and, put3_none]; exact HJ7.out⟩
                case measure => simp [intOf]; omega
              · cases r
                · go_wp2_with fail
                  go_round
                  case rel => exact ⟨kb + 1, by omega, by go_num, by rw [HS.out, Bool.and_false, put3_none]; exact HJ7.out⟩
                  case measure => simp [intOf]; omega
                · go_wp2_with fail
                  all_goals
                    go_round
                    case rel =>
                      refine ⟨kb + 1, by omega, by go_num, ?_⟩
                      rw [HS.out, Bool.and_self]
                      first
                        | (rw [show of2 11 ka kb = ka by unfold of2; simp; omega]; exact HJ7.out.put (by omega) (by omega) (by omega) (by omega) (by omega) hl3)
                        | (rw [show of2 11 ka kb = kb by unfold of2; simp; omega]; exact HJ7.out.put (by omega) (by omega) (by omega) (by omega) (by omega) hb3)
                    case measure => simp [intOf]; omega
            · obtain rfl : kb = 3 := by omega
              have HJ7 := Lib.hid J
              clear J
              go_wp2_with fail
              go_round
              case rel => exact ⟨ka + 1, by omega, by go_num, by rw [show jnA 11 (M0, M1, M2) (z0, z1, z2) (ka + 1) = jnB 11 (M0, M1, M2) (z0, z1, z2) ka tA 3 by rw [← HTA.out]; rfl]; exact HJ7.out⟩
              case measure => simp [intOf]; omega
        · obtain rfl : ka = 3 := by omega
          obtain ⟨⟨s0, s1, s2⟩, hs⟩ : ∃ q, jnA 11 (M0, M1, M2) (z0, z1, z2) 3 = q := ⟨_, rfl⟩
          have hj : jn3 11 (M0, M1, M2) (z0, z1, z2) = (s0, s1, s2) := hs
          rw [hs] at J
          have HQ3 := Lib.hid (show (ts.drop (k + 1)).foldl (jn3 11) (s0, s1, s2) = (R0, R1, R2) by rw [← hj]; exact HQ2.out)
          obtain ⟨v0, v1, v2⟩ := blk3 (show Blk _ _ _ #[.bool s0, .bool s1, .bool s2] from J.kt)
          obtain ⟨r0, r1, r2⟩ := blk3 (show Blk _ _ _ #[.bool M0, .bool M1, .bool M2] from J.l.ko)
          have y0 := J.l.ko.frozen 0; have y1 := J.l.ko.frozen 1; have y2 := J.l.ko.frozen 2
          obtain ⟨p1, p2⟩ := store3 (show Blk _ _ _ #[.bool M0, .bool M1, .bool M2] from J.l.ko) J.l.b (by omega) (.bool s0) (.bool s1) (.bool s2)
          have kp := ((J.l.kp.far (p := ⟨g10, 0, none⟩) (show w.heap.size ≠ g10 by omega) (.bool s0)).far (p := ⟨g10, 1, none⟩) (show w.heap.size ≠ g10 by omega) (.bool s1)).far (p := ⟨g10, 2, none⟩) (show w.heap.size ≠ g10 by omega) (.bool s2)
          have kr := ((J.l.kr.far (p := ⟨g10, 0, none⟩) (show w.heap.size + 1 ≠ g10 by omega) (.bool s0)).far (p := ⟨g10, 1, none⟩) (show w.heap.size + 1 ≠ g10 by omega) (.bool s1)).far (p := ⟨g10, 2, none⟩) (show w.heap.size + 1 ≠ g10 by omega) (.bool s2)
          have HJ8 := Lib.hid (JL.mk (o := (s0, s1, s2)) p2 kp kr p1)
          clear J hs hj p1 p2 kp kr HQ2
          go_wp2_with fail
          go_round
          case rel => exact ⟨k + 1, (s0, s1, s2), by omega, by go_num, HQ3, HJ8.out⟩
          case measure => simp [intOf]; omega
    · obtain rfl : n = k + 1 := by omega
      have d2 : decide ((k : Int) + 1 < ((k + 1 : Nat) : Int)) = false := by simp
      have hq := HQ.out
      rw [List.drop_eq_nil_of_le (by have := HTL.out; omega), List.foldl_nil] at hq
      injection hq with h0 hq
      injection hq with h1 h2
      subst h0 h1 h2
      obtain ⟨r0, r1, r2⟩ := blk3 (show Blk _ _ _ #[.bool M0, .bool M1, .bool M2] from J.ko)
      obtain ⟨v0, v1, v2⟩ := blk3 J.kr
      have y0 := J.kr.frozen 0; have y1 := J.kr.frozen 1; have y2 := J.kr.frozen 2
      obtain ⟨p1, p2⟩ := store3 J.kr J.b (by omega) (.bool M0) (.bool M1) (.bool M2)
      have F1 := Lib.hid p1; have F2 := Lib.hid p2
      clear p1 p2 J HQ
      go_wp2_with fail
      exact bodyPost_ret (v := .agg #[.bool M0, .bool M1, .bool M2]) (results_cell_row rfl _ _ _ _ _ _ _ (by rfl) F1.out Tryd.underlying29 rfl (by kernel_rfl)) rfl ⟨rfl, F2.out⟩
end
end Go.Proofs.YtobophhlcekngaaDoor
