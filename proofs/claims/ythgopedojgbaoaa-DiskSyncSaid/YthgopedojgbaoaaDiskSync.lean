/- The law DiskSync: where all files are synced, a power failure changes nothing, whatever is kept. -/
import Derived.Test.YthgopedojgbaoaaDiskRoom
import Derived.Test.YthgopedojgbaoaaSyncMem
import Derived.BigQuiet
import Derived.Deep.QuietTactic
namespace Go.Proofs.Ythgopedojgbaoaa
open Go.RowKit Go.Maps Go.WideMaps Go.ChangeMaps
set_option linter.unusedVariables false
set_option linter.unusedSimpArgs false
set_option maxRecDepth 100000

/-- Ahead of the k-th act. -/
def AtAny (w : World) (d : Nat) (wr : World) : Prop := ∃ X S, Dsk wr X d S ∧ Step w (fun _ => False) wr X
/-- Ahead of the k-th name. -/
def AtName (w : World) (d : Nat) (S1 : St) (ts : List (List UInt8)) (An : Option Addr) (N : Nat) (k : Nat) (v : Value) (wr : World) : Prop :=
  ∃ X S vs, Dsk wr X d S ∧ Half S1 S (ts.take k) ∧ Step w (fun _ => False) wr X ∧ Kept wr X v.ownBlock An N (ts.map Go.Proofs.encStr) ∧ SlRow w.heap.size wr X v vs ((ts.take k).map (bytesOf S1.V))
theorem AtName.next {w wr w6 w7 w8 : World} {d i N n6 c6 : Nat} {S1 S' : St} {ts : List (List UInt8)} {tn : List UInt8} {An A6 : Option Addr} {v v' : Value} {vs : List Value} {X X7 : Nat → Prop} (hlt : ∀ j, X j → j < wr.heap.size) (hH : Half S1 S' (ts.take i ++ [tn])) (htk : ts.take (i + 1) = ts.take i ++ [tn]) (hs : Step w (fun _ => False) wr X)
    (hK : Kept wr X v.ownBlock An N (ts.map Go.Proofs.encStr)) (hR : SlRow w.heap.size wr X v vs ((ts.take i).map (bytesOf S1.V))) (hln : ((ts.take i).map (bytesOf S1.V)).length = i) (ho6 : w6.ownsRow wr.heap.size 5 1 (.slice A6 n6 c6) n6 (bs (bytesOf S1.V tn))) (hl : (bytesOf S1.V tn).length = n6) (hb6 : Below wr.heap.size wr w6)
    (hD7 : Dsk w7 X7 d S') (hs7 : Step w6 X w7 X7) (ho8 : w8.ownsRow w.heap.size 26 1 v' (i + 1) (vs ++ [.slice A6 n6 c6])) (hg8 : (w7.alloc (.cells #[.slice A6 n6 c6] 26)).grownBy w8 v.ownBlock) (hv : v'.ownBlock = v.ownBlock ∨ v'.ownBlock = some (w7.alloc (.cells #[.slice A6 n6 c6] 26)).heap.size) : AtName w d S1 ts An N (i + 1) v' w8 := by
  have hba : Below w7.heap.size w7 (w7.alloc (.cells #[.slice A6 n6 c6] 26)) := (Below.refl w7.heap.size w7).alloc (Nat.le_refl _) _
  have hI6 : Item w6 X v.ownBlock (.slice A6 n6 c6) (bytesOf S1.V tn) := ⟨A6, c6, by rw [hl], by rw [hl]; exact Kept.made ho6 hlt (fun g e => (hR.own.lt g e).2)⟩
  have hR7 := ((hR.below hb6).step hs7).below hba
  have hD7a := hD7.below hba
  have hs07 := ((hs.trans (Step.of_below hb6 X)).trans hs7).alloc (.cells #[.slice A6 n6 c6] 26)
  refine ⟨X7, S', vs ++ [.slice A6 n6 c6], hD7a.grown hg8 hR7.off, by rw [htk]; exact hH, hs07.grown hg8 (fun g e => .inr (hR7.own.lt g e).1), (((hK.below hb6).step hs7).below hba).grown hg8 hv, ?_⟩
  rw [htk, List.map_append]
  exact hR7.app hD7a.lt ((hI6.step hs7).below hba) (by rw [hln]; exact ho8) hg8 hv
set_option maxHeartbeats 4000000 in
theorem sync_main (A kA : Option Addr) (n c kn kc : Nat) (al : List Ac) (ks : List Int) (w : World) (h : Acts w A n al) (hn : n ≤ maxLen) (hkl : ks.length = kn) (hkc : kn ≤ kc) (hkm : kc ≤ maxLen) (hkr : Reads w w.heap.size 1 kA kn (ks.map (Value.int .i64)))
    (hkz : ∀ z ∈ ks, -9223372036854775808 ≤ z ∧ z < 9223372036854775808) :
    Calls Try.prog 6 #[.slice A n c, .slice kA kn kc] w (Yes6 w) := by
  have hg := great_any A n c al w h hn
  obtain ⟨i0, hi0, hz0, hz1, hz2⟩ := info_parts info_bytes
  obtain ⟨hl, hc⟩ := h
  unfold maxLen at hn
  have HC := Lib.hid hc
  have HL := Lib.hid hl
  have HK := Lib.hid (⟨hkl, hkc, hkm, hkr, hkz⟩ : ks.length = kn ∧ kn ≤ kc ∧ kc ≤ maxLen ∧ Reads w w.heap.size 1 kA kn (ks.map (Value.int .i64)) ∧ ∀ z ∈ ks, -9223372036854775808 ≤ z ∧ z < 9223372036854775808)
  clear hc hl hkl hkc hkm hkr hkz
  go_enter Try.func6, Try.ntmps6
  go_wp2_with fail
  refine hg.mono ?_
  clear hg
  rintro e w1 ⟨b, rfl, hd⟩
  cases b with
  | true =>
    go_wp2_with fail
    refine (awake_any w1).mono ?_
    rintro e w2 ⟨rfl, hb2⟩
    go_wp2_with fail
    go_ret
    exact Yes6.mk' (hd.below (Below.refl w.heap.size w)) hb2
  | false =>
    by_cases h50 : 50 < kn
    · have q1 : decide ((50 : Int) < (kn : Int)) = true := decide_eq_true (by omega)
      go_wp2_with fail
      refine (awake_any w1).mono ?_
      rintro e w2 ⟨rfl, hb2⟩
      go_wp2_with fail
      go_ret
      exact Yes6.mk' (hd.below (Below.refl w.heap.size w)) hb2
    have q1 : decide ((50 : Int) < (kn : Int)) = false := decide_eq_false (by omega)
    go_wp2_with fail
    refine (New_yes 100000 (by omega) w1).mono ?_
    rintro e w2 ⟨d, X, rfl, hD, hs⟩
    have hat : AtAny w d w2 := ⟨X, _, hD, (Step.of_drawn hd (fun _ => False)).trans hs⟩
    clear hD hs q1 h50 hd
    go_wp2_with fail
    go_loopg [6] n (fun g s6 wr => ∃ k : Nat, k + g = n ∧ s6 = .int .i64 (k : Int) ∧ AtAny w d wr)
    case atStart => exact ⟨0, by omega, rfl, hat⟩
    case round =>
      clear hat
      obtain ⟨k, hkg, rfl, X, S, hD, hs⟩ := hrel
      cases gk with
      | succ g =>
        have hk0 : k < n := by omega
        obtain ⟨b, o, rfl, hb, hx⟩ := HC.out (by omega)
        obtain ⟨x, hx0⟩ : ∃ x, al[k]? = some x := ⟨al[k]'(by rw [HL.out]; omega), List.getElem?_eq_getElem _⟩
        obtain ⟨hxi, hxc⟩ := hx k x hx0
        have hcell := act_cells hb hxc hs.below0
        have d0 : wr.cell? ⟨b, o + k * 6, none⟩ = _ := hcell 0 _ rfl
        have d1 : wr.cell? ⟨b, o + k * 6 + 1, none⟩ = _ := hcell 1 _ rfl
        have d2 : wr.cell? ⟨b, o + k * 6 + 2, none⟩ = _ := hcell 2 _ rfl
        have d3 : wr.cell? ⟨b, o + k * 6 + 3, none⟩ = _ := hcell 3 _ rfl
        have d4 : wr.cell? ⟨b, o + k * 6 + 4, none⟩ = _ := hcell 4 _ rfl
        have d5 : wr.cell? ⟨b, o + k * 6 + 5, none⟩ = _ := hcell 5 _ rfl
        have HD := Lib.hid (do_any hD (hxi.at_ hs))
        have HS := Lib.hid hs
        clear hD hs hcell hx hxc hxi hx0
        go_wp2_with fail
        refine HD.out.mono ?_
        clear HD
        rintro e w4 ⟨⟨rn, S4⟩, hr4, rfl, X4, hD4, hs4⟩
        have hat6 : AtAny w d w4 := ⟨X4, S4, hD4, HS.out.trans hs4⟩
        clear hr4 hD4 hs4 d0 d1 d2 d3 d4 d5 HS
        go_wp2_with fail
        go_roundg g
        case rel => exact ⟨k + 1, by omega, by go_num, hat6⟩
        case measure => exact Nat.lt_succ_self _
      | zero =>
        obtain rfl : k = n := by omega
        clear hkg
        go_wp2_with fail
        refine (Down_any hD).mono ?_
        rintro e w3 ⟨rfl, hd3⟩
        have hD3 := hD.drawn hd3
        have hs3 := hs.trans (Step.of_drawn hd3 X)
        clear hD hs hd3
        cases hdn : S.down with
        | true =>
          go_wp2_with fail
          refine (awake_any w3).mono ?_
          rintro e w4 ⟨rfl, hb4⟩
          go_wp2_with fail
          go_ret
          exact Yes6.mk' hs3.below0 hb4
        | false =>
          go_wp2_with fail
          refine (Fuse_any hD3 (-1) (by omega)).mono ?_
          rintro e w4 ⟨rfl, X4, hD4, hs4⟩
          obtain ⟨S1, hS1⟩ : ∃ S1, ({ S with fuse := -1 } : St) = S1 := ⟨_, rfl⟩
          have hd1 : S1.down = false := by rw [← hS1]; exact hdn
          have hf1 : S1.fuse = -1 := by rw [← hS1]
          rw [hS1] at hD4
          have hs04 := hs3.trans hs4
          clear hS1 hdn hD3 hs3 hs4
          go_wp2_with fail
          refine (Names_up hD4 hd1).mono ?_
          rintro e w5 ⟨vn, ts, rfl, hts, hrow, hb5⟩
          have hlen := hts.len hD4.1.tot
          have hcnt := hD4.1.cnt
          obtain ⟨An, cn, rfl, hn1, hn2, _⟩ := own_slice hrow
          have hkn := Kept.made (X := X4) (own := none) hrow hD4.lt (fun g e => by cases e)
          have hD5 := hD4.below hb5
          have hs05 := hs04.trans (Step.of_below hb5 X4)
          obtain ⟨N, hN⟩ : ∃ N, ts.length = N := ⟨_, rfl⟩
          have hat : AtName w d S1 ts An N 0 (.slice none 0 0) w5 := ⟨X4, S1, [], hD5, Half.start hd1 hf1, hs05, by rw [← hN]; exact hkn, SlRow.none_ _ _ _⟩
          rw [hN] at hn1 hlen ⊢
          rw [← hlen] at hcnt
          have HN := Lib.hid hN
          have HTS := Lib.hid hts
          clear hD4 hs04 hrow hb5 hkn hD5 hs05 hlen hN hts hd1 hf1
          unfold maxLen at hn2
          go_wp2_with fail
          go_loopg [8, 9] N (fun g s8 s9 wr => ∃ k : Nat, k + g = N ∧ s9 = .int .i64 (k : Int) ∧ AtName w d S1 ts An N k s8 wr)
          case atStart => exact ⟨0, by omega, rfl, hat⟩
          case round =>
            clear hat
            obtain ⟨i, hig, rfl, X, S, vs, hD, hH, hs, hK, hR⟩ := hrel
            cases gk with
            | succ g =>
              have hi : i < N := by omega
              obtain ⟨t, ht⟩ : ∃ t, ts[i]? = some t := ⟨ts[i]'(by rw [HN.out]; omega), List.getElem?_eq_getElem _⟩
              have htm : (S1.V t).isSome = true := (HTS.out.mem t).1 (List.mem_of_getElem? ht)
              obtain ⟨bn, on, rfl, hbn, hnc⟩ := hK.1.plain (by omega)
              have hstr : Go.Proofs.encStr t = .string ⟨t.toArray⟩ := rfl
              have hcell : wr.cell? ⟨bn, on + i, none⟩ = some (.string ⟨t.toArray⟩) := by
                have h0 := hnc i (Go.Proofs.encStr t) (by rw [List.getElem?_map, ht]; rfl)
                rw [hstr] at h0
                exact h0
              have htd : (⟨t.toArray⟩ : ByteArray).data.toList = t := by simp
              have hrd := Read_any hD ⟨t.toArray⟩
              rw [htd, hH.read hD.1 htm] at hrd
              obtain ⟨S', hS', hH'⟩ := hH.sync hD.1 htm
              have htk : ts.take (i + 1) = ts.take i ++ [t] := by rw [List.take_add_one, ht]; rfl
              have hln : ((ts.take i).map (bytesOf S1.V)).length = i := by rw [List.length_map, List.length_take, HN.out]; omega
              have HRD := Lib.hid hrd
              have hown := hR.own
              rw [hln] at hown
              obtain ⟨Av, cv, hv8, _, _, _⟩ := own_slice hown
              subst hv8
              have HH := Lib.hid (⟨hH', htk, hs, hK, hR, hln⟩ : Half S1 S' (ts.take i ++ [t]) ∧ ts.take (i + 1) = ts.take i ++ [t] ∧ Step w (fun _ => False) wr X ∧ Kept wr X (Value.slice Av i cv).ownBlock (some ⟨bn, on, none⟩) N (ts.map Go.Proofs.encStr) ∧ SlRow w.heap.size wr X (.slice Av i cv) vs ((ts.take i).map (bytesOf S1.V)) ∧ ((ts.take i).map (bytesOf S1.V)).length = i)
              have hoff := hR.off
              clear hrd hnc hH hH' htk hs hK hR hln hstr
              go_wp2_with fail
              refine HRD.out.mono ?_
              clear HRD
              rintro e w6 ⟨v6, rfl, ho6, hb6⟩
              obtain ⟨n6, hn6⟩ : ∃ n, (bytesOf S1.V t).length = n := ⟨_, rfl⟩
              have ho6' : w6.ownsRow wr.heap.size 5 1 v6 n6 (bs (bytesOf S1.V t)) := by rw [← hn6]; exact ho6
              obtain ⟨A6, c6, rfl, _, _, _⟩ := own_slice ho6'
              have hD6 := hD.below hb6
              have hlt := hD.lt
              have hcell6 : w6.cell? ⟨bn, on + i, none⟩ = some (.string ⟨t.toArray⟩) := (hb6.cell (p := ⟨bn, on + i, none⟩) hbn).trans hcell
              have hsy := Sync_any hD6 ⟨t.toArray⟩
              rw [show (⟨t.toArray⟩ : ByteArray).data.toList = t by simp, hS'] at hsy
              have hown6 := own_below hown hb6
              have hsz6 := hb6.size
              have HO6 := Lib.hid ho6'
              have HB6 := Lib.hid hb6
              have HN6 := Lib.hid hn6
              have HSY := Lib.hid hsy
              clear hD ho6 ho6' hb6 hD6 hn6 hsy hS' hcell hown
              go_wp2_with fail
              refine HSY.out.mono ?_
              clear HSY
              rintro e w7 ⟨rfl, X7, hD7, hs7⟩
              have hown7 := own_keep hown6 (fun g e => hs7.same g (hown6.lt g e).2 (hoff g e))
              have hsz7 := hs7.size
              have HD7 := Lib.hid hD7
              have HS7 := Lib.hid hs7
              have hbase : w.heap.size ≤ w7.heap.size := Nat.le_trans HH.out.2.2.1.size (Nat.le_trans hsz6 hsz7)
              clear hD7 hs7 hown6 hcell6
              go_wp2_with (at_builtin
                           refine wpList_append_any _ rfl (.tmp 71) (.tmp 73) _ rfl w.heap.size 26 i0 _ 1 24 Try.underlying22 hi0 hz0 hz1 hz2 rfl (by omega) (.slice Av i cv) i vs rfl
                             (hown7.alloc _) (w7.heap.size + 1) (some ⟨w7.heap.size, 0, none⟩) 1 1 [.slice A6 n6 c6] rfl (Reads.new w7 _ _) (by intro u hu; simp at hu; subst hu; rfl) (by unfold maxLen; omega) (by omega) (by simp; omega) ?_
                           intro v8 w8 hown8 hg8 hat8)
              go_roundg g
              case rel => exact ⟨i + 1, by omega, by go_num, AtName.next hlt HH.out.1 HH.out.2.1 HH.out.2.2.1 HH.out.2.2.2.1 HH.out.2.2.2.2.1 HH.out.2.2.2.2.2 HO6.out HN6.out HB6.out HD7.out HS7.out hown8 hg8 hat8⟩
              case measure => exact Nat.lt_succ_self _
            | zero =>
              obtain rfl : N = i := by omega
              clear hig
              rw [show ts.take N = ts by rw [← HN.out]; exact List.take_length] at hH hR
              have hown := hR.own
              rw [List.length_map, HN.out] at hown
              obtain ⟨Av, cv, hv8, _, _, _⟩ := own_slice hown
              subst hv8
              obtain ⟨hks, hkc, hkm, hkr, hkz⟩ := HK.out
              have hints : Ints wr X kA kn kc ks := ⟨(hkr.below hs.below0).more hs.size, off_of hkr hs, hkz, hkc, hkm⟩
              clear hown hks hkc hkm hkr hkz
              go_wp2_with fail
              refine (used_any hD).mono ?_
              rintro e w6 ⟨rfl, hd6⟩
              have hst6 := Step.of_drawn hd6 X
              have hD6 := hD.drawn hd6
              have hK6 := hK.step hst6
              have hR6 := hR.step hst6
              have hI6 := hints.step hst6
              have hs6 := hs.trans hst6
              clear hD hK hR hints hs hst6 hd6
              go_wp2_with fail
              refine (Boot_any hD6 kA kn kc ks hI6).mono ?_
              rintro e w7 ⟨rfl, ts7, hts7, hD7, hs7⟩
              rw [hH.boot HTS.out] at hD7
              have hK7 := hK6.step hs7
              have hR7 := hR6.step hs7
              have hs07 := hs6.trans hs7
              clear hD6 hK6 hR6 hI6 hs6 hts7 hs7
              go_wp2_with fail
              refine (Names_up hD7 hH.down).mono ?_
              rintro e w8 ⟨vm, ts8, rfl, hts8, hrow8, hb8⟩
              obtain rfl := hH.names HTS.out hts8
              have hlt7 := hD7.lt
              have hD8 := hD7.below hb8
              have hK8 := hK7.below hb8
              have hR8 := hR7.below hb8
              have hs8 := hs07.trans (Step.of_below hb8 X)
              obtain ⟨Am, cm, rfl, hm1, hm2, hmr⟩ := own_slice hrow8
              rw [HN.out] at hm1 hmr ⊢
              have HU8 := Lib.hid (used_any hD8)
              clear hD7 hK7 hR7 hs07 hrow8 hb8 hlt7 hts8
              go_wp2_with fail
              refine HU8.out.mono ?_
              rintro e w9 ⟨rfl, hd9⟩
              have hst9 := Step.of_drawn hd9 X
              have hD9 := hD8.drawn hd9
              have hK9 := hK8.step hst9
              have hR9 := hR8.step hst9
              have hs9 := hs8.trans hst9
              have hmr9 : Reads w9 w9.heap.size 1 Am N (ts8.map Go.Proofs.encStr) := by obtain ⟨q, rfl⟩ := hd9; exact hmr
              clear hD8 hK8 hR8 hs8 hst9 hmr hd9 HU8
              go_wp2_with fail
              go_loopg [14] N (fun g s14 wr => ∃ i : Nat, i + g = N ∧ s14 = .int .i64 (i : Int) ∧ Below w9.heap.size w9 wr)
              case atStart => exact ⟨0, by omega, rfl, Below.refl _ _⟩
              case round =>
                obtain ⟨i, hig, rfl, hb⟩ := hrel
                have hs := hs9.trans (Step.of_below hb X)
                cases gk with
                | zero =>
                  obtain rfl : N = i := by omega
                  go_wp2_with fail
                  refine (awake_any wr).mono ?_
                  rintro e w10 ⟨rfl, hb10⟩
                  go_wp2_with fail
                  go_ret
                  exact Yes6.mk' hs.below0 hb10
                | succ g =>
                  have hi : i < N := by omega
                  obtain ⟨t, ht⟩ : ∃ t, ts8[i]? = some t := ⟨ts8[i]'(by rw [HN.out]; omega), List.getElem?_eq_getElem _⟩
                  have htm : (S1.V t).isSome = true := (HTS.out.mem t).1 (List.mem_of_getElem? ht)
                  have hD := hD9.below hb
                  have hrd := Read_any hD ⟨t.toArray⟩
                  rw [show (⟨t.toArray⟩ : ByteArray).data.toList = t by simp, hH.read hD.1 htm] at hrd
                  have hK := (hK9.1.below hb).more hb.size
                  have hM := (hmr9.below hb).more hb.size
                  have hown := own_below hR9.own hb
                  rw [List.length_map, HN.out] at hown
                  obtain ⟨v, hv, A5, c5, rfl, hk5⟩ := hR9.each.at_ (i := i) (l := bytesOf S1.V t) (by rw [List.getElem?_map, ht]; rfl)
                  have hk5' := (hk5.1.below hb).more hb.size
                  obtain ⟨n6, hn6⟩ : ∃ n, (bytesOf S1.V t).length = n := ⟨_, rfl⟩
                  rw [hn6] at hk5' hv
                  obtain ⟨bn, on, rfl, hbn, hnc⟩ := hK.plain (by omega)
                  obtain ⟨bm, om, rfl, hbm, hmc⟩ := hM.plain (by omega)
                  obtain ⟨_, _, hv8, _, _, hwr⟩ := own_slice hown
                  injection hv8 with e1 e2 e3
                  subst e1 e3
                  clear e2
                  obtain ⟨bw, ow, rfl, hbw, hwc⟩ := hwr.plain (by omega)
                  have hstr : Go.Proofs.encStr t = .string ⟨t.toArray⟩ := rfl
                  have c1 : wr.cell? ⟨bn, on + i, none⟩ = some (.string ⟨t.toArray⟩) := by
                    have h0 := hnc i (Go.Proofs.encStr t) (by rw [List.getElem?_map, ht]; rfl)
                    rw [hstr] at h0
                    exact h0
                  have c2 : wr.cell? ⟨bm, om + i, none⟩ = some (.string ⟨t.toArray⟩) := by
                    have h0 := hmc i (Go.Proofs.encStr t) (by rw [List.getElem?_map, ht]; rfl)
                    rw [hstr] at h0
                    exact h0
                  have c3 : wr.cell? ⟨bw, ow + i, none⟩ = some (.slice A5 n6 c5) := hwc i _ hv
                  have hn6l : n6 ≤ 140737488355328 := by
                    obtain ⟨f, hf⟩ := Option.isSome_iff_exists.1 ((hH.dom t).trans htm)
                    have h1 := hD.1.len hf
                    have h2 := hH.bytes t
                    rw [bytesOf_some hf] at h2
                    rw [h2, hn6] at h1
                    omega
                  have HRD := Lib.hid hrd
                  have HB := Lib.hid hb
                  clear hs hD hrd hK hM hown hk5 hnc hmc hwr hwc hstr hb
                  go_wp2_with fail
                  refine HRD.out.mono ?_
                  clear HRD
                  rintro e w11 ⟨v6, rfl, ho6, hb6⟩
                  have ho6' : w11.ownsRow wr.heap.size 5 1 v6 n6 (bs (bytesOf S1.V t)) := by rw [← hn6]; exact ho6
                  obtain ⟨A6, c6, rfl, _, _, h6r⟩ := own_slice ho6'
                  have k1 : w11.cell? ⟨bn, on + i, none⟩ = some (.string ⟨t.toArray⟩) := (hb6.cell (p := ⟨bn, on + i, none⟩) hbn).trans c1
                  have k2 : w11.cell? ⟨bm, om + i, none⟩ = some (.string ⟨t.toArray⟩) := (hb6.cell (p := ⟨bm, om + i, none⟩) hbm).trans c2
                  have k3 : w11.cell? ⟨bw, ow + i, none⟩ = some (.slice A5 n6 c5) := (hb6.cell (p := ⟨bw, ow + i, none⟩) hbw).trans c3
                  have hS := fun q => same_true A6 A5 n6 c6 n6 c5 (bytesOf S1.V t) (w11.drewN q) (h6r.drewN q) (((hk5'.below hb6).more hb6.size).drewN q) hn6l
                  have HS := Lib.hid hS
                  have HB6 := Lib.hid (HB.out.trans (hb6.mono HB.out.size))
                  clear hS ho6 ho6' hb6 h6r hk5' c1 c2 c3
                  go_wp2_with fail
                  go_quiet ((go_at_call 14; first | exact quiet_drawn0 (HS.out _) | exact quiet_drawn (HS.out _)))
                  go_wp2_with fail
                  go_roundg g
                  case rel => exact ⟨i + 1, by omega, by go_num, (Drawn.one _ _).below HB6.out⟩
                  case measure => exact Nat.lt_succ_self _
end Go.Proofs.Ythgopedojgbaoaa
