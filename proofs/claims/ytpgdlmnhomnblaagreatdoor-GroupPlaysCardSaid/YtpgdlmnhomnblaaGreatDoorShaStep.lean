import Derived.Test.YtpgdlmnhomnblaaGreatDoorJ3
import Derived.Deep.RegionLaw
import Derived.Deep.RegionHeldLaw
import Derived.Deep.DrawnRows
namespace Go.Proofs.YtpgdlmnhomnblaaGreatDoor
open Go.RowKit
set_option linter.unusedVariables false
set_option linter.unusedSimpArgs false
set_option maxRecDepth 100000
attribute [local go_sem ↓] Go.wp_at_zero Go.wp_at_succ
def u4 (l : List Nat) : List Value := l.map fun x : Nat => Value.int .u32 (x : Int)
theorem u4_append (l m : List Nat) : u4 (l ++ m) = u4 l ++ u4 m := by simp [u4]
theorem u4_at {l : List Nat} {i x : Nat} (h : l[i]? = some x) : (u4 l)[i]? = some (.int .u32 (x : Int)) := by unfold u4; rw [List.getElem?_map, h]; rfl
theorem u4_one (x : Nat) : ∀ u ∈ u4 [x], u.oneCell' = true := by intro u hu; simp [u4] at hu; rw [hu]; rfl
theorem info_u32r : (Tryz.prog.info? 129).map (fun i => (i.zero, i.size, i.bytes)) = some (some (.int .u32 0), 1, 4) := by kernel_rfl
theorem reads_one32 (w : World) (x : Nat) : Reads (w.alloc (.cells #[.int .u32 (x : Int)] 129)) (w.heap.size + 1) 1 (some ⟨w.heap.size, 0, none⟩) 1 (u4 [x]) := reads_blk (Blk.new w _ _) _ _ _ (by omega) rfl rfl
def StepTo (w : World) (s : S8) (e : Ending) (w' : World) : Prop := ∃ v, e = .returned v ∧ w'.ownsRow w.heap.size 129 1 v 8 (u4 s.list) ∧ Below w.heap.size w w'
theorem add8_at (s r : S8) {i x y : Nat} (hx : s.list[i]? = some x) (hy : r.list[i]? = some y) : (add8 s r).list[i]? = some (ad x y) := by
  have e : (add8 s r).list = List.zipWith ad s.list r.list := rfl
  rw [e, List.getElem?_zipWith, hx, hy]
theorem own_made0 (w : World) (t : TypeId) : (w.alloc (.cells #[] t)).ownsRow w.heap.size t 1 (.slice (some ⟨w.heap.size, 0, none⟩) 0 0) 0 [] := World.ownsRow_made w #[] 0 (Nat.le_refl _) (by unfold maxLen; omega) (by simp)
theorem u4_all (l : List Nat) : ∀ u ∈ u4 l, u.oneCell' = true := by
  intro u hu
  unfold u4 at hu
  obtain ⟨x, _, rfl⟩ := List.mem_map.1 hu
  rfl
theorem own_far_row4 {w w' : World} {base : Nat} {e : TypeId} {size : Nat} {v : Value} {n : Nat} {xs : List Value} {o : Obj} {r : Option Nat} (h : w.ownsRow base e size v n xs) (hg : (w.alloc o).grownBy w' r) (hr : r = some w.heap.size := by rfl) : w'.ownsRow base e size v n xs := by
  subst hr
  refine (h.alloc o).kept hg ?_
  cases hv : v.ownBlock with
  | none => exact .inl rfl
  | some g =>
    refine .inr ?_
    intro he
    injection he with he
    have := (h.lt g hv).2
    omega
theorem wrap_in (n : Int) (h0 : 0 ≤ n) (h1 : n < 4294967296) : IntKind.u32.wrap n = n := by
  show n % 4294967296 = n
  omega
theorem wsN_some {l : List Nat} {t i : Nat} (hi : i < t) (ht : t ≤ 64) : (wsN l t)[i]? = some (wAt l i) := by
  rw [← wsN_getD l t i hi ht, List.getD_eq_getElem?_getD, List.getElem?_eq_getElem (by rw [wsN_length]; exact hi)]
  rfl
theorem wAt_bytes {l : List Nat} {t x0 x1 x2 x3 : Nat} (ht : t < 16) (h0 : l[4 * t]? = some x0) (h1 : l[4 * t + 1]? = some x1) (h2 : l[4 * t + 2]? = some x2) (h3 : l[4 * t + 3]? = some x3) : wAt l t = ((x0 * 256 + x1) * 256 + x2) * 256 + x3 := by
  rw [wAt_own l t ht]
  unfold wd4
  simp only [List.getD_eq_getElem?_getD, List.getElem?_drop, Nat.mul_zero, Nat.zero_add, Nat.add_zero]
  rw [h0, h1, h2, h3]
  rfl
set_option maxHeartbeats 8000000 in
theorem refStep_any (As Ab Ak : Option Addr) (cs cb ck : Nat) (s : S8) (l : List Nat) (w : World) (hs : s.ok) (hrs : Reads w w.heap.size 1 As 8 (u4 s.list)) (hrb : Reads w w.heap.size 1 Ab 64 (bs l)) (hl : ∀ b ∈ l, b < 256) (hrk : Reads w w.heap.size 1 Ak 64 (u4 tabK)) :
    Calls Tryz.prog 99 #[.slice As 8 cs, .slice Ab 64 cb, .slice Ak 64 ck] w (StepTo w (blk s l)) := by
  obtain ⟨i0, hi0, hz0, hz1, hz2⟩ := info_parts info_u32r
  have hlen : l.length = 64 := by have := hrb.1; rw [bs_length] at this; omega
  obtain ⟨bb, ob, hAb, hbb, hcb⟩ := hrb.plain (by omega)
  subst hAb
  have HCB := Lib.hid hcb; have HLEN := Lib.hid hlen; have HL := Lib.hid hl; have HS := Lib.hid hs; have HRS := Lib.hid hrs; have HRK := Lib.hid hrk
  clear hcb hlen hl hs hrs hrk hrb
  go_enter Tryz.func99, Tryz.ntmps99
  go_wp2_with fail
  go_loopg [7, 8, 9, 10, 11, 12] 64 (fun gk s7 s8 s9 s10 s11 s12 wr => ∃ t : Nat, t + gk = 64 ∧ s8 = .int .i64 (t : Int) ∧ Hid (wr.ownsRow w.heap.size 129 1 s7 t (u4 (wsN l t))) ∧ Hid (Below w.heap.size w wr))
  case atStart => exact ⟨0, by omega, rfl, Lib.hid (World.ownsRow_nil _ _ _ _), Lib.hid (Below.refl _ _)⟩
  case round =>
    obtain ⟨t, htg, rfl, hown, hb⟩ := hrel
    obtain ⟨Av, cv, rfl, _, _, hrv⟩ := own_slice hown.out
    have HRV := Lib.hid hrv; clear hrv
    have HSZ := Lib.hid hb.out.size
    cases gk with
    | zero =>
      obtain rfl : t = 64 := by omega
      clear htg
      have HOW := hown
      obtain ⟨bk, ok, hAk, hbk, hck⟩ := HRK.out.plain (by omega)
      subst hAk
      obtain ⟨bz, oz, hAs, hbz, hcz⟩ := HRS.out.plain (by omega)
      subst hAs
      have HO0 := Lib.hid (own_made0 wr 129)
      have HR0 := Lib.hid ((((HRS.out.below hb.out).more hb.out.size).alloc (Nat.le_refl _) (.cells #[] 129)))
      have HCK := Lib.hid hck; have HCZ := Lib.hid hcz
      clear hck hcz
      go_wp2_with (at_builtin
                   refine wpList_append_any _ rfl (.tmp 115) (.tmp 116) _ rfl wr.heap.size 129 i0 _ 1 4 Tryz.underlying136 hi0 hz0 hz1 hz2 rfl (by omega) (.slice (some ⟨wr.heap.size, 0, none⟩) 0 0) 0 [] rfl
                     HO0.out wr.heap.size (some ⟨bz, oz, none⟩) 8 cs (u4 s.list) rfl HR0.out (u4_all _) (by unfold maxLen; omega) (by omega) (by simp) ?_
                   intro v2 w2 hown2 hg2 hat2
                   simp only [Nat.zero_add, List.nil_append] at hown2
                   obtain ⟨A2, c2, rfl, _⟩ := own_slice hown2)
      have hrow := own_far_row4 hown.out hg2
      have HW := Lib.hid (Reads.of_own hrow)
      have HX := Lib.hid (Reads.of_own hown2)
      have hb2 : Below w.heap.size w w2 := (hb.out.alloc hb.out.size _).grown hg2 (by have := hb.out.size; simp; omega) (fun k hk => by simp [Value.ownBlock] at hk; have := hb.out.size; omega)
      have HB2 := Lib.hid hb2
      obtain ⟨bv, ov, hAv, hbv, hcv⟩ := (Reads.of_own hrow).plain (by omega)
      have hAv' : Av = some ⟨bv, ov, none⟩ := hAv
      subst hAv'
      have HCV := Lib.hid hcv
      clear hcv hg2 hat2 hown2 hrow hb2 hAv
      go_loopg [13, 14] 64 (fun gk s13 s14 wr => ∃ (t : Nat) (A : Option Addr) (c a b cc d e f g h : Nat), t + gk = 64 ∧ s14 = .int .i64 (t : Int) ∧ s13 = .slice A 8 c ∧ Hid (Reads wr wr.heap.size 1 A 8 (u4 [a, b, cc, d, e, f, g, h])) ∧ Hid ((⟨a, b, cc, d, e, f, g, h⟩ : S8) = rnds s (wsN l 64) t) ∧ Hid (Below w2.heap.size w2 wr))
      case atStart => exact ⟨0, A2, c2, s.a, s.b, s.c, s.d, s.e, s.f, s.g, s.h, by omega, rfl, rfl, HX, Lib.hid rfl, Lib.hid (Below.refl _ _)⟩
      case round =>
        clear HX hb
        obtain ⟨t, Ax, cx, a, b, c, d, e, f, g, h, htg, rfl, rfl, hrx, hst, hb⟩ := hrel
        obtain ⟨bx, ox, hAx, hbx, hcx⟩ := hrx.out.plain (by omega)
        subst hAx
        cases gk with
        | zero =>
          obtain rfl : t = 64 := by omega
          clear htg
          have hrok := rnds_ok (s := s) HS.out (wsN l 64) 64
          rw [← hst.out] at hrok
          have HROK := Lib.hid hrok; clear hrok
          have HBW := Lib.hid (HB2.out.trans (hb.out.mono HB2.out.size))
          have hxlt : bx < wr.heap.size := hbx
          have HXC := Lib.hid hcx
          clear hcx hrx
          go_wp2_with fail
          go_loopg [27, 28] 8 (fun gk s27 s28 wr => ∃ i : Nat, i + gk = 8 ∧ s28 = .int .i64 (i : Int) ∧ Hid (wr.ownsRow w.heap.size 129 1 s27 i (u4 ((add8 s ⟨a, b, c, d, e, f, g, h⟩).list.take i))) ∧ Hid (s27.ownBlock ≠ some bx) ∧ Hid (Below w.heap.size w wr) ∧ Hid (bx < wr.heap.size ∧ ∀ (j : Nat) (v : Value), (u4 [a, b, c, d, e, f, g, h])[j]? = some v → wr.cell? ⟨bx, ox + j, none⟩ = some v))
          case atStart => exact ⟨0, by omega, rfl, Lib.hid (World.ownsRow_nil _ _ _ _), Lib.hid (by simp [Value.ownBlock]), HBW, Lib.hid ⟨hxlt, HXC.out⟩⟩
          case round =>
            clear hxlt HXC HBW
            obtain ⟨i, hig, rfl, hown, hne, hbw, hxc⟩ := hrel
            obtain ⟨Ao, co, rfl, _⟩ := own_slice hown.out
            cases gk with
            | zero =>
              obtain rfl : i = 8 := by omega
              clear hig
              go_wp2_with fail
              go_ret
              refine ⟨_, rfl, ?_, hbw.out⟩
              have ho := hown.out
              rw [List.take_of_length_le (by show (8 : Nat) ≤ 8; omega)] at ho
              unfold blk
              rw [← hst.out]
              exact ho
            | succ gk =>
              have hi : i < 8 := by omega
              have hii : (i : Int) < 8 := by omega
              obtain ⟨si, hsi⟩ : ∃ x, s.list[i]? = some x := ⟨_, List.getElem?_eq_getElem (by rw [list_length]; exact hi)⟩
              obtain ⟨ri, hri⟩ : ∃ x, [a, b, c, d, e, f, g, h][i]? = some x := ⟨_, List.getElem?_eq_getElem (by simp; omega)⟩
              have hnx : (add8 s ⟨a, b, c, d, e, f, g, h⟩).list.take (i + 1) = (add8 s ⟨a, b, c, d, e, f, g, h⟩).list.take i ++ [ad si ri] := by
                rw [List.take_add_one, add8_at s ⟨a, b, c, d, e, f, g, h⟩ hsi hri]
                rfl
              have c1 : wr.cell? ⟨bz, oz + i, none⟩ = some (.int .u32 (si : Int)) := (hbw.out.cell (p := ⟨bz, oz + i, none⟩) hbz).trans (HCZ.out i _ (u4_at hsi))
              have c2 : wr.cell? ⟨bx, ox + i, none⟩ = some (.int .u32 (ri : Int)) := hxc.out.2 i _ (u4_at hri)
              have hw := wrap_ad si ri
              obtain ⟨y, hy⟩ : ∃ y : Nat, ad si ri = y := ⟨_, rfl⟩
              rw [hy] at hw hnx
              have HN := Lib.hid hnx
              have ww : IntKind.i64.wrap (i : Int) = (i : Int) := IntWalk.i64_in _ (by omega)
              have HO := Lib.hid ((show wr.drew.ownsRow _ _ _ _ _ _ from hown.out).alloc (.cells #[.int .u32 (y : Int)] 129))
              have HR := Lib.hid (reads_one32 wr.drew y)
              have HSZ2 := Lib.hid (show w.heap.size ≤ (wr.drew.alloc (.cells #[.int .u32 (y : Int)] 129)).heap.size by have := hbw.out.size; simp; omega)
              clear hsi hri hnx hy
              have hbzl : bz < wr.heap.size := Nat.lt_of_lt_of_le hbz hbw.out.size
              have hbxl : bx < wr.heap.size := hxc.out.1
              have nn1 := World.new_ne wr _ c1
              have nn2 := World.new_ne wr _ c2
              have HK2 := Lib.hid (fun (W : World) (hg : (wr.drew.alloc (.cells #[.int .u32 (y : Int)] 129)).grownBy W (Value.slice Ao i co).ownBlock) =>
                have hn1 : some bz ≠ (Value.slice Ao i co).ownBlock := fun e => by have := (HO.out.lt _ e.symm).1; omega
                And.intro (hg.cell (a := ⟨bz, oz + i, none⟩) ((World.cell?_alloc_lt wr.drew _ _ hbzl).trans c1) hn1) (hg.cell (a := ⟨bx, ox + i, none⟩) ((World.cell?_alloc_lt wr.drew _ _ hbxl).trans c2) (fun e => hne.out e.symm)))
              go_wp2_with fail
              go_region_held_law (fun w' => w'.cell? ⟨bz, oz + i, none⟩ = some (.int .u32 (si : Int)) ∧ w'.cell? ⟨bx, ox + i, none⟩ = some (.int .u32 (ri : Int)))
                (first | go_keep | exact HK2.out _ hg3)
                ((refine step_append_any _ (by rfl) (.tmp 214) (.tmp 224) _ rfl w.heap.size 129 i0 _ 1 4 Tryz.underlying136 hi0 hz0 hz1 hz2 rfl (by omega) (.slice Ao i co) i (u4 ((add8 s ⟨a, b, c, d, e, f, g, h⟩).list.take i)) (by simp [Act.eval, Act.put])
                     (by exact HO.out) (wr.heap.size + 1) (some ⟨wr.heap.size, 0, none⟩) 1 1 (u4 [y]) (by simp [Act.eval, Act.put]) (by exact HR.out) (u4_one y) (by unfold maxLen; omega) (by omega) (by exact HSZ2.out) ?_
                  intro v3 w3 hown3 hg3 hat3))
              all_goals
                go_wp2_with fail
                go_roundg gk
                case measure => omega
                case rel =>
                  refine ⟨i + 1, by omega, by go_num, Lib.hid ?_, Lib.hid ?_, Lib.hid ?_, Lib.hid ⟨?_, ?_⟩⟩
                  · rw [HN.out, u4_append]
                    exact hown3
                  · rcases hat3 with h1 | h1
                    · rw [h1]; exact hne.out
                    · rw [h1]
                      intro he
                      injection he with he
                      have := hxc.out.1
                      simp at he
                      omega
                  · exact (Below.trans hbw.out (Below.mono (((Below.refl wr.heap.size wr).alloc (Nat.le_refl _) _).drew) hbw.out.size)).grown hg3 HSZ2.out (fun k hk => (HO.out.lt k hk).1)
                  · have h1 := hg3.size
                    have h2 := hxc.out.1
                    simp only [World.size_drew, World.size_alloc] at h1
                    omega
                  · intro j v hv
                    exact hg3.cell (a := ⟨bx, ox + j, none⟩) ((World.cell?_alloc_lt wr.drew _ _ hxc.out.1).trans (hxc.out.2 j v hv)) (fun e => hne.out e.symm)
        | succ gk =>
          have ht : t < 64 := by omega
          have hti : (t : Int) < 64 := by omega
          have hok := rnds_ok (s := s) HS.out (wsN l 64) t
          rw [← hst.out, S8.ok_iff] at hok
          simp only at hok
          obtain ⟨ba, bb', bc, bd, be, bf, bg, bh⟩ := hok
          have y0 := hcx 0 (.int .u32 (a : Int)) rfl
          have y1 := hcx 1 (.int .u32 (b : Int)) rfl
          have y2 := hcx 2 (.int .u32 (c : Int)) rfl
          have y3 := hcx 3 (.int .u32 (d : Int)) rfl
          have y4 := hcx 4 (.int .u32 (e : Int)) rfl
          have y5 := hcx 5 (.int .u32 (f : Int)) rfl
          have y6 := hcx 6 (.int .u32 (g : Int)) rfl
          have y7 := hcx 7 (.int .u32 (h : Int)) rfl
          rw [Nat.add_zero] at y0
          have hw : wr.cell? ⟨bv, ov + t, none⟩ = some (.int .u32 (wAt l t : Int)) := (hb.out.cell (p := ⟨bv, ov + t, none⟩) hbv).trans (HCV.out t _ (u4_at (wsN_some ht (Nat.le_refl _))))
          have hk : wr.cell? ⟨bk, ok + t, none⟩ = some (.int .u32 (tabK.getD t 0 : Int)) := (hb.out.cell (p := ⟨bk, ok + t, none⟩) (Nat.lt_of_lt_of_le hbk HB2.out.size)).trans ((HB2.out.cell (p := ⟨bk, ok + t, none⟩) hbk).trans (HCK.out t _ (u4_at (by rw [List.getD_eq_getElem?_getD, List.getElem?_eq_getElem (by rw [tabK_length]; exact ht)]; rfl))))
          have hnx : rnds s (wsN l 64) (t + 1) = rnd ⟨a, b, c, d, e, f, g, h⟩ (tabK.getD t 0) (wAt l t) := by
            rw [hst.out, ← wsN_getD l 64 t ht (Nat.le_refl _)]
            rfl
          generalize tabK.getD t 0 = kt at hk hnx
          generalize wAt l t = wt at hw hnx
          obtain ⟨m1, hm1, hm1'⟩ := bg1_bits e be
          obtain ⟨m2, n2, p2, hc1, hc2, hc3, hc4, hc5⟩ := ch_bits e f g be bf bg
          obtain ⟨m3, hm3, hm3'⟩ := bg0_bits a ba
          obtain ⟨m4, n4, p4, q4, hj1, hj2, hj3, hj4, hj5⟩ := maj_bits a b c ba bb' bc
          unfold rnd uOf vOf at hnx
          simp only at hnx
          have hw1 := wrap_ad h (bg1 e)
          have hw2 := wrap_ad (ad h (bg1 e)) (ch e f g)
          have hw3 := wrap_ad (ad (ad h (bg1 e)) (ch e f g)) kt
          have hw4 := wrap_ad (ad (ad (ad h (bg1 e)) (ch e f g)) kt) wt
          generalize ad (ad (ad (ad h (bg1 e)) (ch e f g)) kt) wt = u at hw4 hnx
          have hw5 := wrap_ad (bg0 a) (maj a b c)
          generalize ad (bg0 a) (maj a b c) = v at hw5 hnx
          have hw6 := wrap_ad d u
          have hw7 := wrap_ad u v
          have HN := Lib.hid hnx
          have HX0 := Lib.hid hrx.out
          have T6 := Lib.hid fun W => r_6 e W be
          have T11 := Lib.hid fun W => r_11 e W be
          have T25 := Lib.hid fun W => r_25 e W be
          have HM1 := Lib.hid (And.intro hm1 hm1'); have HW14 := Lib.hid (And.intro hw1 (And.intro hw2 (And.intro hw3 hw4)))
          have HM3 := Lib.hid (And.intro hm3 hm3'); have HW57 := Lib.hid (And.intro hw5 (And.intro hw6 hw7))
          have HJ := Lib.hid (And.intro hj1 (And.intro hj2 (And.intro hj3 (And.intro hj4 hj5))))
          have HCH := Lib.hid (And.intro hc1 (And.intro hc3 (And.intro hc4 hc5)))
          have HK := Lib.hid hk; have HWW := Lib.hid hw
          clear hnx hm1 hm1' hw1 hw2 hw3 hw4 hm3 hm3' hw5 hw6 hw7 hj1 hj2 hj3 hj4 hj5 hc1 hc2 hc3 hc4 hc5 hk hw hcx bb' bc bd bf bg bh
          go_wp2_with fail
          go_quiet (fail)
          clear y0 y1 y2 y3 y4 y5 y6 y7
          obtain ⟨hj1, hj2, hj3, hj4, hj5⟩ := HJ.out
          obtain ⟨hc1, hc3, hc4, hc5⟩ := HCH.out
          go_wp2_with fail
          clear hj1 hj2 hj3 hj4 hj5 hc1 hc3 hc4 hc5
          obtain ⟨wq, hwq⟩ : ∃ wq : World, wq = wr.drewN nq := ⟨_, rfl⟩
          have hk : wq.cell? ⟨bk, ok + t, none⟩ = some (.int .u32 (kt : Int)) := by rw [hwq]; exact HK.out
          have hw : wq.cell? ⟨bv, ov + t, none⟩ = some (.int .u32 (wt : Int)) := by rw [hwq]; exact HWW.out
          have HBQ := Lib.hid (show Below w2.heap.size w2 wq by rw [hwq]; exact (Drawn.one wr nq).below hb.out)
          rw [← hwq]
          clear hwq
          obtain ⟨hm1, hm1'⟩ := HM1.out
          obtain ⟨hw1, hw2, hw3, hw4⟩ := HW14.out
          go_quiet (first
            | (go_at_call 152; with_reducible first | exact quiet_wd0 (T6.out _) | exact quiet_wd0 (T11.out _) | exact quiet_wd0 (T25.out _) | exact quiet_wd (T6.out _) | exact quiet_wd (T11.out _) | exact quiet_wd (T25.out _)))
          clear hm1 hm1' hw1 hw2 hw3 hw4 hk hw
          obtain ⟨hm3, hm3'⟩ := HM3.out
          obtain ⟨hw5, hw6, hw7⟩ := HW57.out
          go_wp2_with fail
          refine (r_2 a _ ba).mono ?_
          rintro _ _ ⟨rfl, rfl⟩
          go_wp2_with fail
          refine (r_13 a _ ba).mono ?_
          rintro _ _ ⟨rfl, rfl⟩
          go_wp2_with fail
          refine (r_22 a _ ba).mono ?_
          rintro _ _ ⟨rfl, rfl⟩
          go_wp2_with fail
          go_roundg gk
          case measure => omega
          case rel =>
            exact ⟨t + 1, _, _, ad u v, a, b, c, ad d u, e, f, g, by omega, by go_num, rfl, Lib.hid (reads_blk (Blk.new _ _ _) _ 8 _ (by simp) rfl rfl), Lib.hid HN.out.symm, Lib.hid (((Drawn.one wq _).below HBQ.out).alloc HBQ.out.size _)⟩
    | succ gk =>
      have ht : t < 64 := by omega
      have hti : (t : Int) < 64 := by omega
      by_cases h16 : t < 16
      · have h16i : (t : Int) < 16 := by omega
        obtain ⟨q, hq⟩ : ∃ q : Nat, q = 4 * t := ⟨_, rfl⟩
        have hqi : 4 * (t : Int) = (q : Int) := by omega
        have hq60 : q ≤ 60 := by omega
        obtain ⟨x0, h0⟩ : ∃ x, l[q]? = some x := ⟨_, List.getElem?_eq_getElem (by rw [HLEN.out]; omega)⟩
        obtain ⟨x1, h1⟩ : ∃ x, l[q + 1]? = some x := ⟨_, List.getElem?_eq_getElem (by rw [HLEN.out]; omega)⟩
        obtain ⟨x2, h2⟩ : ∃ x, l[q + 2]? = some x := ⟨_, List.getElem?_eq_getElem (by rw [HLEN.out]; omega)⟩
        obtain ⟨x3, h3⟩ : ∃ x, l[q + 3]? = some x := ⟨_, List.getElem?_eq_getElem (by rw [HLEN.out]; omega)⟩
        have l0 := HL.out _ (List.mem_of_getElem? h0)
        have l1 := HL.out _ (List.mem_of_getElem? h1)
        have l2 := HL.out _ (List.mem_of_getElem? h2)
        have l3 := HL.out _ (List.mem_of_getElem? h3)
        have hcell : ∀ j x : Nat, l[j]? = some x → wr.cell? ⟨bb, ob + j, none⟩ = some (.int .u8 (x : Int)) := fun j x hx =>
          (hb.out.cell (p := ⟨bb, ob + j, none⟩) hbb).trans (HCB.out j _ (by unfold bs; rw [List.getElem?_map, hx]; rfl))
        have c0 := hcell _ _ h0
        have c1 := hcell _ _ h1
        have c2 := hcell _ _ h2
        have c3 := hcell _ _ h3
        have hwat : wAt l t = ((x0 * 256 + x1) * 256 + x2) * 256 + x3 := wAt_bytes h16 (by rw [← hq]; exact h0) (by rw [← hq]; exact h1) (by rw [← hq]; exact h2) (by rw [← hq]; exact h3)
        have hnx : wsN l (t + 1) = wsN l t ++ [wAt l t] := by rw [wAt_next l t ht]; rfl
        obtain ⟨x, hx⟩ : ∃ x : Nat, wAt l t = x := ⟨_, rfl⟩
        have hxi : (((x0 : Int) * 256 + x1) * 256 + x2) * 256 + x3 = (x : Int) := by rw [← hx, hwat]; omega
        rw [hx] at hnx
        have HN := Lib.hid hnx
        clear h0 h1 h2 h3 hcell hwat hx hnx hq
        have g0 : IntKind.i64.wrap (q : Int) = (q : Int) := IntWalk.i64_in _ (by omega)
        have g1 : IntKind.i64.wrap ((q : Int) + 1) = (q : Int) + 1 := IntWalk.i64_in _ (by omega)
        have g2 : IntKind.i64.wrap ((q : Int) + 2) = (q : Int) + 2 := IntWalk.i64_in _ (by omega)
        have g3 : IntKind.i64.wrap ((q : Int) + 3) = (q : Int) + 3 := IntWalk.i64_in _ (by omega)
        have n1 : ((q : Int) + 1).toNat = q + 1 := by omega
        have n2 : ((q : Int) + 2).toNat = q + 2 := by omega
        have n3 : ((q : Int) + 3).toNat = q + 3 := by omega
        have p1 : (0 : Int) ≤ (q : Int) + 1 := by omega
        have p2 : (0 : Int) ≤ (q : Int) + 2 := by omega
        have p3 : (0 : Int) ≤ (q : Int) + 3 := by omega
        have b0 : (q : Int) < 64 := by omega
        have b1 : (q : Int) + 1 < 64 := by omega
        have b2 : (q : Int) + 2 < 64 := by omega
        have b3 : (q : Int) + 3 < 64 := by omega
        have HO := Lib.hid ((show wr.drew.ownsRow _ _ _ _ _ _ from hown.out).alloc (.cells #[.int .u32 (x : Int)] 129))
        have HR := Lib.hid (reads_one32 wr.drew x)
        have HSZ2 := Lib.hid (show w.heap.size ≤ (wr.drew.alloc (.cells #[.int .u32 (x : Int)] 129)).heap.size by have := hb.out.size; simp; omega)
        obtain ⟨a1, ha1⟩ : ∃ a : Nat, a = x0 * 256 := ⟨_, rfl⟩
        obtain ⟨a2, ha2⟩ : ∃ a : Nat, a = a1 + x1 := ⟨_, rfl⟩
        obtain ⟨a3, ha3⟩ : ∃ a : Nat, a = a2 * 256 := ⟨_, rfl⟩
        obtain ⟨a4, ha4⟩ : ∃ a : Nat, a = a3 + x2 := ⟨_, rfl⟩
        obtain ⟨a5, ha5⟩ : ∃ a : Nat, a = a4 * 256 := ⟨_, rfl⟩
        have k0 : IntKind.u32.wrap (x0 : Int) = (x0 : Int) := wrap_in _ (by omega) (by omega)
        have k1 : IntKind.u32.wrap (x1 : Int) = (x1 : Int) := wrap_in _ (by omega) (by omega)
        have k2 : IntKind.u32.wrap (x2 : Int) = (x2 : Int) := wrap_in _ (by omega) (by omega)
        have k3 : IntKind.u32.wrap (x3 : Int) = (x3 : Int) := wrap_in _ (by omega) (by omega)
        have k4 : IntKind.u32.wrap ((x0 : Int) * 256) = (a1 : Int) := by rw [wrap_in _ (by omega) (by omega)]; omega
        have k5 : IntKind.u32.wrap ((a1 : Int) + (x1 : Int)) = (a2 : Int) := by rw [wrap_in _ (by omega) (by omega)]; omega
        have k6 : IntKind.u32.wrap ((a2 : Int) * 256) = (a3 : Int) := by rw [wrap_in _ (by omega) (by omega)]; omega
        have k7 : IntKind.u32.wrap ((a3 : Int) + (x2 : Int)) = (a4 : Int) := by rw [wrap_in _ (by omega) (by omega)]; omega
        have k8 : IntKind.u32.wrap ((a4 : Int) * 256) = (a5 : Int) := by rw [wrap_in _ (by omega) (by omega)]; omega
        have k9 : IntKind.u32.wrap ((a5 : Int) + (x3 : Int)) = (x : Int) := by rw [wrap_in _ (by omega) (by omega)]; omega
        clear ha1 ha2 ha3 ha4 ha5 hxi
        have hbbl : bb < wr.heap.size := Nat.lt_of_lt_of_le hbb hb.out.size
        have nn0 := World.new_ne wr _ c0
        have nn1 := World.new_ne wr _ c1
        have nn2 := World.new_ne wr _ c2
        have nn3 := World.new_ne wr _ c3
        have HK4 := Lib.hid (fun (W : World) (hg : (wr.drew.alloc (.cells #[.int .u32 (x : Int)] 129)).grownBy W (Value.slice Av t cv).ownBlock) =>
          have hne : some bb ≠ (Value.slice Av t cv).ownBlock := fun e => by have := (HO.out.lt _ e.symm).1; omega
          have hk : ∀ (j : Nat) (v : Value), wr.cell? ⟨bb, j, none⟩ = some v → W.cell? ⟨bb, j, none⟩ = some v := fun j v h => hg.cell (a := ⟨bb, j, none⟩) ((World.cell?_alloc_lt wr.drew _ _ hbbl).trans h) hne
          And.intro (hk _ _ c0) (And.intro (hk _ _ c1) (And.intro (hk _ _ c2) (hk _ _ c3))))
        go_wp2_with fail
        go_region_held_law (fun w' => w'.cell? ⟨bb, ob + q, none⟩ = some (.int .u8 (x0 : Int)) ∧ w'.cell? ⟨bb, ob + (q + 1), none⟩ = some (.int .u8 (x1 : Int)) ∧ w'.cell? ⟨bb, ob + (q + 2), none⟩ = some (.int .u8 (x2 : Int)) ∧ w'.cell? ⟨bb, ob + (q + 3), none⟩ = some (.int .u8 (x3 : Int)))
          (first | go_keep | exact HK4.out _ hg3)
          ((refine step_append_any _ (by rfl) (.tmp 35) (.tmp 69) _ rfl w.heap.size 129 i0 _ 1 4 Tryz.underlying136 hi0 hz0 hz1 hz2 rfl (by omega) (.slice Av t cv) t (u4 (wsN l t)) (by simp [Act.eval, Act.put])
               (by exact HO.out) (wr.heap.size + 1) (some ⟨wr.heap.size, 0, none⟩) 1 1 (u4 [x]) (by simp [Act.eval, Act.put]) (by exact HR.out) (u4_one x) (by unfold maxLen; omega) (by omega) (by exact HSZ2.out) ?_
            intro v3 w3 hown3 hg3 hat3))
        all_goals
          go_wp2_with fail
          go_roundg gk
          case measure => omega
          case rel =>
            refine ⟨t + 1, by omega, by go_num, Lib.hid ?_, Lib.hid ?_⟩
            · rw [HN.out, u4_append]
              exact hown3
            · exact (Below.trans hb.out (Below.mono (((Below.refl wr.heap.size wr).alloc (Nat.le_refl _) _).drew) hb.out.size)).grown hg3 HSZ2.out (fun k hk => (HO.out.lt k hk).1)
      · have h16i : ¬ (t : Int) < 16 := by omega
        obtain ⟨i15, h15⟩ : ∃ i : Nat, i = t - 15 := ⟨_, rfl⟩
        obtain ⟨i2, h2⟩ : ∃ i : Nat, i = t - 2 := ⟨_, rfl⟩
        obtain ⟨i16, h16'⟩ : ∃ i : Nat, i = t - 16 := ⟨_, rfl⟩
        obtain ⟨i7, h7⟩ : ∃ i : Nat, i = t - 7 := ⟨_, rfl⟩
        have e15 : (t : Int) - 15 = (i15 : Int) := by omega
        have e2 : (t : Int) - 2 = (i2 : Int) := by omega
        have e16 : (t : Int) - 16 = (i16 : Int) := by omega
        have e7 : (t : Int) - 7 = (i7 : Int) := by omega
        have l15 : i15 < t := by omega
        have l2 : i2 < t := by omega
        have l16 : i16 < t := by omega
        have l7 : i7 < t := by omega
        have m15 : (i15 : Int) < (t : Int) := by omega
        have m2 : (i2 : Int) < (t : Int) := by omega
        have m16 : (i16 : Int) < (t : Int) := by omega
        have m7 : (i7 : Int) < (t : Int) := by omega
        obtain ⟨bv, ov, hAv, _, hcv⟩ := HRV.out.plain (by omega)
        subst hAv
        have hcell : ∀ i, i < t → wr.cell? ⟨bv, ov + i, none⟩ = some (.int .u32 (wAt l i : Int)) := fun i hi => hcv i _ (u4_at (wsN_some hi (by omega)))
        have c15 := hcell i15 l15
        have c2 := hcell i2 l2
        have c16 := hcell i16 l16
        have c7 := hcell i7 l7
        have hmade := wAt_made l t (by omega) ht
        have hnx : wsN l (t + 1) = wsN l t ++ [wAt l t] := by rw [wAt_next l t ht]; rfl
        rw [← h15, ← h2, ← h16', ← h7] at hmade
        have b15 := wAt_lt HL.out i15
        have b2 := wAt_lt HL.out i2
        generalize wAt l i15 = x at c15 hmade b15
        generalize wAt l i2 = y at c2 hmade b2
        generalize wAt l i16 = z at c16 hmade
        generalize wAt l i7 = v at c7 hmade
        obtain ⟨m0, hm0, hm0'⟩ := sg0_bits x b15
        obtain ⟨m1, hm1, hm1'⟩ := sg1_bits y b2
        have hw1 := wrap_ad z (sg0 x)
        have hw2 := wrap_ad (ad z (sg0 x)) v
        have hw3 := wrap_ad (ad (ad z (sg0 x)) v) (sg1 y)
        rw [← hmade] at hw3
        obtain ⟨r, hr⟩ : ∃ r : Nat, wAt l t = r := ⟨_, rfl⟩
        rw [hr] at hw3 hnx
        have HN := Lib.hid hnx
        have ww16 : IntKind.i64.wrap (i16 : Int) = (i16 : Int) := IntWalk.i64_in _ (by omega)
        have ww7 : IntKind.i64.wrap (i7 : Int) = (i7 : Int) := IntWalk.i64_in _ (by omega)
        have C16 := Lib.hid c16; have C7 := Lib.hid c7
        clear hmade hcell h15 h2 h16' h7 hnx hr hcv
        go_wp2_with fail
        go_quiet (fail)
        go_wp2_with fail
        refine (r_7 x _ b15).mono ?_
        rintro _ _ ⟨rfl, rfl⟩
        go_wp2_with fail
        refine (r_18 x _ b15).mono ?_
        rintro _ _ ⟨rfl, rfl⟩
        go_wp2_with fail
        refine (div_3 x _ b15).mono ?_
        rintro _ _ ⟨rfl, rfl⟩
        rw [Int.natCast_ediv]
        go_wp2_with fail
        refine (r_17 y _ b2).mono ?_
        rintro _ _ ⟨rfl, rfl⟩
        go_wp2_with fail
        refine (r_19 y _ b2).mono ?_
        rintro _ _ ⟨rfl, rfl⟩
        go_wp2_with fail
        refine (div_10 y _ b2).mono ?_
        rintro _ _ ⟨rfl, rfl⟩
        rw [Int.natCast_ediv]
        go_wp2_with fail
        obtain ⟨wq, hwq⟩ : ∃ wq : World, wq = wr.drewN nq := ⟨_, rfl⟩
        have hownq : wq.ownsRow w.heap.size 129 1 (.slice (some ⟨bv, ov, none⟩) t cv) t (u4 (wsN l t)) := by rw [hwq]; exact hown.out
        have hbq : Below w.heap.size w wq := by rw [hwq]; exact (Drawn.one wr nq).below hb.out
        have d16 : wq.cell? ⟨bv, ov + i16, none⟩ = some (.int .u32 (z : Int)) := by rw [hwq]; exact C16.out
        have d7 : wq.cell? ⟨bv, ov + i7, none⟩ = some (.int .u32 (v : Int)) := by rw [hwq]; exact C7.out
        rw [← hwq]
        clear hwq c15 c2 c16 c7 hm0 hm0' hm1 hm1'
        have HO := Lib.hid ((show wq.drew.ownsRow _ _ _ _ _ _ from hownq).alloc (.cells #[.int .u32 (r : Int)] 129))
        have HR := Lib.hid (reads_one32 wq.drew r)
        have HSZ2 := Lib.hid (show w.heap.size ≤ (wq.drew.alloc (.cells #[.int .u32 (r : Int)] 129)).heap.size by have := hbq.size; simp; omega)
        have HBQ := Lib.hid hbq
        clear hownq hbq
        go_region_law (first
          | (refine step_append_any _ rfl (.tmp 97) (.tmp 113) _ rfl w.heap.size 129 i0 _ 1 4 Tryz.underlying136 hi0 hz0 hz1 hz2 rfl (by omega) (.slice (some ⟨bv, ov, none⟩) t cv) t (u4 (wsN l t)) (by simp [Act.eval, Act.put])
               (by exact HO.out) (wq.heap.size + 1) (some ⟨wq.heap.size, 0, none⟩) 1 1 (u4 [r]) (by simp [Act.eval, Act.put]) (by exact HR.out) (u4_one r) (by unfold maxLen; omega) (by omega) (by exact HSZ2.out) ?_
             intro v3 w3 hown3 hg3 hat3))
        all_goals
          go_wp2_with fail
          go_roundg gk
          case measure => omega
          case rel =>
            refine ⟨t + 1, by omega, by go_num, Lib.hid ?_, Lib.hid ?_⟩
            · rw [HN.out, u4_append]
              exact hown3
            · exact (Below.trans HBQ.out (Below.mono (((Below.refl wq.heap.size wq).alloc (Nat.le_refl _) _).drew) HBQ.out.size)).grown hg3 HSZ2.out (fun k hk => (HO.out.lt k hk).1)
end Go.Proofs.YtpgdlmnhomnblaaGreatDoor
