/- The walk of the statement NumReads. -/
import Derived.Test.YtphecljgbnkmlaaDoorReads1
import Derived.Test.YtphecljgbnkmlaaDoorCutLaw
namespace Go.Proofs.YtphecljgbnkmlaaDoor
open Go.RowKit
set_option linter.unusedVariables false
set_option linter.unusedSimpArgs false
set_option maxRecDepth 100000

/-- NewReader, with where its copy lies: in new memory. -/
theorem newReader_fresh (A : Option Addr) (n c : Nat) (l : List Nat) (w : World) (hr : Reads w w.heap.size 1 A n (bs l)) (hb : n ≤ 140737488355328) (h256 : ∀ b ∈ l, b < 256) :
    Calls Tryd.prog 7 #[.slice A n c] w fun e w' => ∃ g A' c', e = .returned (.pointer (some ⟨g, 0, none⟩)) ∧ w.heap.size ≤ g ∧ Rd w' g A' n c' 0 .nilIface l ∧ Below w.heap.size w w' ∧ (∀ ad, A' = some ad → w.heap.size ≤ ad.block) := by
  go_enter Tryd.func7, Tryd.ntmps7
  go_wp2_with (go_at_call 30; refine (clone_any A n c (bs l) w hr (bs_one l) hb).mono ?_; rintro e w1 ⟨v, rfl, hown, hbl⟩; obtain ⟨A', c', rfl, hnc, hc', hr'⟩ := own_slice hown)
  go_ret
  refine ⟨_, A', c', rfl, hbl.size, ⟨?_, hr'.alloc (Nat.le_refl _) _, hnc, Nat.zero_le _, hb, h256⟩, hbl.alloc hbl.size _, ?_⟩
  · exact Blk.new _ _ _
  · rintro ad rfl
    exact (hown.lt ad.block rfl).1
/-- A reader stands where a cell of another block, of bytes, changes. -/
theorem Rd.past {w : World} {g gi i : Nat} {A : Option Addr} {n c at_ : Nat} {l : List Nat} (h : Rd w g A n c at_ .nilIface l) (hgi : ∀ ad, A = some ad → gi < ad.block) (hg : gi < g) (u : Value) : Rd (w.setCell ⟨gi, i, none⟩ u) g A n c at_ .nilIface l :=
  ⟨h.blk.far (p := ⟨gi, i, none⟩) (by simp; omega) u, ⟨h.reads.1, fun hn => by
    obtain ⟨ad, e, hlt, hc⟩ := h.reads.2 hn
    refine ⟨ad, e, hlt, fun j v hv => ?_⟩
    rw [World.cell?_setCell_other _ _ _ _ (by
      intro e'
      have := congrArg Addr.block e'
      rw [block_of_add] at this
      have := hgi ad e
      simp at *
      omega)]
    exact hc j v hv⟩, h.cap, h.place, h.size, h.byte⟩

theorem takeS_len (l : List Nat) (at_ : Nat) (x : Option (Int × Nat)) (n : Int) : (takeS l at_ x n).1.length ≤ l.length := by
  unfold takeS
  cases x with
  | some x => simp
  | none =>
    simp only
    split
    · simp
    · split
      · simp
      · simp only [List.length_take, List.length_drop]; omega
theorem blobS_len (l : List Nat) (at_ : Nat) (x : Option (Int × Nat)) (n : Int) : (blobS l at_ x n).1.length ≤ l.length := by
  unfold blobS
  cases x with
  | some x => simp
  | none =>
    simp only
    split
    · simp only [List.length_take, List.length_drop]; omega
    · simp
theorem reads_over {w w' : World} {g n : Nat} {A : Option Addr} {l l' : List Nat} {at_ : Nat} {x : Option (Int × Nat)} (h : Reads w w.heap.size 1 A n (bs l)) (hF : RfS w g l' at_ x) (hg : w.grownBy w' (some g)) : Reads w' w'.heap.size 1 A n (bs l) := by
  obtain ⟨⟨A', n', c', hR'⟩, _⟩ := hF
  refine (reads_far h (Nat.le_refl _) hg hR'.blk ?_).more hg.size
  intro i b
  rcases i with _ | _ | _ | _ | i <;> simp

/-- The asks that came in: a kind and a number each, two cells behind one another. -/
def Asks (w : World) (B : Nat) (A : Option Addr) (m : Nat) (K N : Nat → Int) : Prop :=
  0 < m → ∃ b off, A = some ⟨b, off, none⟩ ∧ b < B ∧ ∀ j, j < m → w.cell? ⟨b, off + j * 2, none⟩ = some (.int .i64 (K j)) ∧ w.cell? ⟨b, off + j * 2 + 1, none⟩ = some (.int .i64 (N j)) ∧ -9223372036854775808 ≤ N j ∧ N j ≤ 9223372036854775807
theorem Asks.below {w w' : World} {B : Nat} {A : Option Addr} {m : Nat} {K N : Nat → Int} (h : Asks w B A m K N) (hb : Below B w w') : Asks w' B A m K N := fun hm => by
  obtain ⟨b, off, e, hlt, hc⟩ := h hm
  exact ⟨b, off, e, hlt, fun j hj => ⟨(hb.cell (p := ⟨b, off + j * 2, none⟩) hlt).trans (hc j hj).1, (hb.cell (p := ⟨b, off + j * 2 + 1, none⟩) hlt).trans (hc j hj).2.1, (hc j hj).2.2⟩⟩

set_option maxHeartbeats 2000000 in
theorem numReads_small (A A' : Option Addr) (n c m c' : Nat) (l : List Nat) (K N : Nat → Int) (w : World) (hn : n ≤ 500) (hm : m ≤ 60) (hnc : n ≤ c) (hr : Reads w w.heap.size 1 A n (bs l)) (hby : ∀ b ∈ l, b < 256) (hl : Asks w w.heap.size A' m K N) (hmet : Met w) :
    Calls Tryd.prog 3 #[.slice A n c, .slice A' m c'] w fun e w' => e = .returned (.bool true) ∧ Below w.heap.size w w' := by
  obtain ⟨i0, hi0, hz0, hz1, hz2⟩ := info_parts info_u8
  have hown0 : (w.alloc (.cells #[] 5)).ownsRow w.heap.size 5 1 (.slice (some ⟨w.heap.size, 0, none⟩) 0 0) 0 [] := World.ownsRow_made w _ _ (Nat.le_refl _) (by unfold maxLen; omega) rfl
  go_enter Tryd.func3, Tryd.ntmps3
  go_wp2_with (at_builtin
               refine wpList_append_any _ rfl (.tmp 27) (.tmp 28) _ rfl w.heap.size 5 i0 _ 1 1 Tryd.underlying22 hi0 hz0 hz1 hz2 rfl (by omega) (.slice (some ⟨w.heap.size, 0, none⟩) 0 0) 0 [] rfl
                 hown0 w.heap.size A n c (bs l) rfl (hr.alloc (Nat.le_refl _) _) (bs_one _) (by unfold maxLen; omega) (by omega) (by simp) ?_
               intro v1 w1 hown1 hg1 hat1
               simp only [Nat.zero_add, List.nil_append] at hown1
               have hb1 : Below w.heap.size w w1 := ((Below.refl _ _).alloc (Nat.le_refl _) _).grown hg1 (by simp) (fun k hk => by simp [Value.ownBlock] at hk; omega)
               obtain ⟨A1, c1, rfl, hc1, _, hr1⟩ := own_slice hown1)
  refine (newReader_fresh A1 n c1 l w1 hr1 (by omega) hby).mono ?_
  rintro e2 w2 ⟨g, A2, c2, rfl, hg2, hR2, hb2, hfr⟩
  have hb02 := hb1.trans (hb2.mono hb1.size)
  have hgw : w.heap.size ≤ g := by have := hb1.size; omega
  have hown2 := own_below hown1 hb2
  clear hr1 hown0 hg1 hat1
  go_wp2_with fail
  go_loopw [7] (fun i wr => ∃ (k : Nat) (xs : List Nat), k ≤ n ∧ i = .int .i64 (k : Int) ∧ wr.ownsRow w.heap.size 5 1 (.slice A1 n c1) n (bs xs) ∧ Rd wr g A2 n c2 0 .nilIface l ∧ Below w.heap.size w wr) (fun i _ => n - (intOf i).toNat)
  case atStart => exact ⟨0, l, Nat.zero_le _, rfl, hown2, hR2, hb02⟩
  case round =>
    obtain ⟨k, xs, hk, rfl, hownr, hRr, hbr⟩ := hrel
    by_cases hlt : k < n
    · obtain ⟨gi, cap, hv, hbase, hgl⟩ := hownr.form (by omega)
      have hA1 : A1 = some ⟨gi, 0, none⟩ := by injection hv
      subst hA1
      have hgi1 : gi < w1.heap.size := (hown1.lt gi rfl).2
      have hxl : xs.length = n := by have := hownr.1; rw [bs_length] at this; omega
      obtain ⟨b, hb⟩ : ∃ b, xs[k]? = some b := ⟨_, List.getElem?_eq_getElem (show k < xs.length by omega)⟩
      have hcell : wr.cell? ⟨gi, k, none⟩ = some (.int .u8 (b : Int)) := by
        rw [hownr.cellAt k (by omega)]; unfold bs; rw [List.getElem?_map, hb]; rfl
      have hfz := hownr.frozenAt k
      have HX := Lib.hid hxl
      have HBK := Lib.hid hb
      clear hxl hb hv
      go_wp2_with fail
      have hst := hownr.stored k (.int .u8 (((b : Int) + 1) % 256))
      have hb1' : ((b : Int) + 1) % 256 = (((b + 1) % 256 : Nat) : Int) := by omega
      refine ⟨⟨k + 1, xs.set k ((b + 1) % 256), by omega, by go_num, ?_, hRr.past (fun ad e => by have := hfr ad e; omega) (by omega) _, hbr.setCell (by show w.heap.size ≤ gi; omega) _⟩, by simp [intOf]; omega⟩
      have e : bs (xs.set k ((b + 1) % 256)) = (bs xs).set k (.int .u8 (((b : Int) + 1) % 256)) := by
        unfold bs; rw [List.map_set, hb1']
      rw [e]; exact hst.1
    · have hS0 := rd_new hRr
      have hF0 : RfS (wr.alloc (.cells #[.slice A n c, .int .i64 0, .int .i64 0, .int .i64 0] 29)) wr.heap.size l 0 none :=
        ⟨⟨A, n, c, ⟨Blk.new wr _ _, ((hr.below hbr).more hbr.size).alloc (Nat.le_refl _) _, hnc, Nat.zero_le _, by omega, hby⟩⟩, fun y hy => by cases hy⟩
      have hb00 : Below wr.heap.size wr (wr.alloc (.cells #[.slice A n c, .int .i64 0, .int .i64 0, .int .i64 0] 29)) := (Below.refl _ _).alloc (Nat.le_refl _) _
      have hS1 := hS0.next hb00
      have hb10 := hbr.trans (hb00.mono hbr.size)
      have hln : l.length = n := hRr.length
      have Hln := Lib.hid hln
      have hg'w : w.heap.size ≤ wr.heap.size := hbr.size
      clear hownr hRr hS0 hb00 hown2 hown1 hfr hR2 hln
      go_wp2_with fail
      generalize hWW : wr.alloc (.cells #[.slice A n c, .int .i64 0, .int .i64 0, .int .i64 0] 29) = W0 at hS1 hF0 hb10 ⊢
      clear hWW hbr
      generalize wr.heap.size = g' at hF0 hg'w ⊢
      go_loopw [9] (fun i W => ∃ (k at_ : Nat) (x : Option (Int × Nat)), k ≤ m ∧ i = .int .i64 (k : Int) ∧ RdS W g l at_ x ∧ RfS W g' l at_ x ∧ Below w.heap.size w W) (fun i _ => m - (intOf i).toNat)
      case atStart => exact ⟨0, 0, none, Nat.zero_le _, rfl, hS1, hF0, hb10⟩
      case round =>
        obtain ⟨k, at_, x, hkm, rfl, hS, hF, hbW⟩ := hrel
        clear hS1 hF0 hb10
        by_cases hk2 : k < m
        · obtain ⟨bA, oA, rfl, hbA, hcA⟩ := hl (by omega)
          obtain ⟨q1, q2, q3, q4⟩ := hcA k hk2
          have q1' := (hbW.cell (p := ⟨bA, oA + k * 2, none⟩) hbA).trans q1
          have q2' := (hbW.cell (p := ⟨bA, oA + k * 2 + 1, none⟩) hbA).trans q2
          obtain ⟨kk, hkk⟩ : ∃ kk, kk = K k := ⟨_, rfl⟩
          obtain ⟨nn, hnn⟩ : ∃ nn, nn = N k := ⟨_, rfl⟩
          rw [← hkk] at q1'
          rw [← hnn] at q2' q3 q4
          have hll : l.length ≤ 500 := by have := Hln.out; omega
          have HL := Lib.hid hl
          have HCA := Lib.hid hcA
          clear hl hcA q1 q2 hkk hnn
          by_cases k0 : kk = 0
          · subst k0
            go_wp2_with fail
            refine (var_is hS).mono ?_
            rintro e1 W1 ⟨rfl, hto1⟩
            have hgr1 := hto1.2
            have hbA1 := hbW.grown hto1.2 hbW.size (fun k hk => by injection hk with hk; omega)
            have hF1 := hF.far hS hto1.2
            go_wp2_with fail
            refine (rvar_is hF1).mono ?_
            rintro e2 W2 ⟨rfl, hto2⟩
            have hSB := hto1.1.far hF1 hto2.2
            have hFB := hto2.1
            have hbB := hbA1.grown hto2.2 hbA1.size (fun k hk => by injection hk with hk; omega)
            obtain ⟨xB, hxB⟩ : ∃ y, y = (varS l at_ x).2.2 := ⟨_, rfl⟩
            obtain ⟨atB, haB⟩ : ∃ y, y = (varS l at_ x).2.1 := ⟨_, rfl⟩
            rw [← hxB, ← haB] at hSB hFB
            clear hxB haB
            clear hto1 hto2
            go_wp2_with fail
            refine (err_is (hmet.next hbB) hSB).mono ?_
            rintro e3 W3 ⟨he3, hb3⟩
            have he3' : e3 = .returned (.tuple #[.int .i64 (errS xB).1, .int .i64 ((errS xB).2 : Int)]) := he3
            subst he3'
            clear he3
            have hS3 := hSB.next hb3
            have hF3 := hFB.next hb3
            have hbC := hbB.trans (hb3.mono hbB.size)
            go_wp2_with fail
            refine (end_is (hmet.next hbC) hS3).mono ?_
            rintro e4 W4 ⟨he4, hb4⟩
            have he4' : e4 = .returned (.tuple #[.int .i64 (endS l atB xB).1, .int .i64 ((endS l atB xB).2 : Int)]) := he4
            subst he4'
            clear he4
            have hS4 := hS3.next hb4
            have hF4 := hF3.next hb4
            have hbD := hbC.trans (hb4.mono hbC.size)
            go_wp2_with fail
            refine (rend_is hF4).mono ?_
            rintro e5 W5 ⟨he5, hd5⟩
            have he5' : e5 = .returned (.tuple #[.int .i64 (endS l atB xB).1, .int .i64 ((endS l atB xB).2 : Int)]) := he5
            subst he5'
            clear he5
            have hS5 := hS4.next (hd5.below (Below.refl _ _))
            have hF5 := hF4.next (hd5.below (Below.refl _ _))
            have hbE := hd5.below hbD
            obtain ⟨⟨A5, n5, c5, hR5⟩, hX5⟩ := id hF5
            have d1 := hR5.blk.cell 1
            have d2 := hR5.blk.cell 2
            have d3 := hR5.blk.cell 3
            simp only [List.getElem?_toArray, List.getElem?_cons_succ, List.getElem?_cons_zero] at d1 d2 d3
            have hleft : ∀ q : Nat, Calls Tryd.prog 23 #[.pointer (some ⟨g, 0, none⟩)] (W5.drewN q) fun e w' => e = .returned (.int .i64 ((n : Int) - (atB : Int))) ∧ Drawn (W5.drewN q) w' := fun q =>
              (left_is (hS5.next ((Drawn.one W5 q).below (Below.refl _ _)))).mono fun e w' ⟨h1, h2⟩ => ⟨by rw [h1, Hln.out], h2⟩
            have hat := fun q : Nat => at_is (hS5.next ((Drawn.one W5 q).below (Below.refl W5.heap.size W5)))
            have hpl : atB ≤ n := by have := hS5.place; have := Hln.out; omega
            have HLEFT := Lib.hid hleft
            have HAT := Lib.hid hat
            clear hleft hat
            go_wp2_with fail
            go_quiet (first | (go_at_call 22; first | exact quiet_same0 (HAT.out _) | exact quiet_same (HAT.out _)) | (go_at_call 23; first | exact quiet_drawn0 (HLEFT.out _) | exact quiet_drawn (HLEFT.out _)))
            go_wp2_with fail
            exact ⟨⟨k + 1, atB, xB, by omega, by go_num, hS5.next ((Drawn.one W5 _).below (Below.refl _ _)), hF5.next ((Drawn.one W5 _).below (Below.refl _ _)), (Drawn.one W5 _).below hbE⟩, by simp [intOf]; omega⟩
          · skip
            by_cases k1 : kk = 1
            · subst k1
              go_wp2_with fail
              refine (nfix_is nn hS).mono ?_
              rintro e1 W1 ⟨rfl, hto1⟩
              have hgr1 := hto1.2
              have hbA1 := hbW.grown hto1.2 hbW.size (fun k hk => by injection hk with hk; omega)
              have hF1 := hF.far hS hto1.2
              go_wp2_with fail
              refine (rfix_is nn hF1).mono ?_
              rintro e2 W2 ⟨rfl, hto2⟩
              have hSB := hto1.1.far hF1 hto2.2
              have hFB := hto2.1
              have hbB := hbA1.grown hto2.2 hbA1.size (fun k hk => by injection hk with hk; omega)
              obtain ⟨xB, hxB⟩ : ∃ y, y = (fixS l at_ x nn).2.2 := ⟨_, rfl⟩
              obtain ⟨atB, haB⟩ : ∃ y, y = (fixS l at_ x nn).2.1 := ⟨_, rfl⟩
              rw [← hxB, ← haB] at hSB hFB
              clear hxB haB
              clear hto1 hto2
              go_wp2_with fail
              refine (err_is (hmet.next hbB) hSB).mono ?_
              rintro e3 W3 ⟨he3, hb3⟩
              have he3' : e3 = .returned (.tuple #[.int .i64 (errS xB).1, .int .i64 ((errS xB).2 : Int)]) := he3
              subst he3'
              clear he3
              have hS3 := hSB.next hb3
              have hF3 := hFB.next hb3
              have hbC := hbB.trans (hb3.mono hbB.size)
              go_wp2_with fail
              refine (end_is (hmet.next hbC) hS3).mono ?_
              rintro e4 W4 ⟨he4, hb4⟩
              have he4' : e4 = .returned (.tuple #[.int .i64 (endS l atB xB).1, .int .i64 ((endS l atB xB).2 : Int)]) := he4
              subst he4'
              clear he4
              have hS4 := hS3.next hb4
              have hF4 := hF3.next hb4
              have hbD := hbC.trans (hb4.mono hbC.size)
              go_wp2_with fail
              refine (rend_is hF4).mono ?_
              rintro e5 W5 ⟨he5, hd5⟩
              have he5' : e5 = .returned (.tuple #[.int .i64 (endS l atB xB).1, .int .i64 ((endS l atB xB).2 : Int)]) := he5
              subst he5'
              clear he5
              have hS5 := hS4.next (hd5.below (Below.refl _ _))
              have hF5 := hF4.next (hd5.below (Below.refl _ _))
              have hbE := hd5.below hbD
              obtain ⟨⟨A5, n5, c5, hR5⟩, hX5⟩ := id hF5
              have d1 := hR5.blk.cell 1
              have d2 := hR5.blk.cell 2
              have d3 := hR5.blk.cell 3
              simp only [List.getElem?_toArray, List.getElem?_cons_succ, List.getElem?_cons_zero] at d1 d2 d3
              have hleft : ∀ q : Nat, Calls Tryd.prog 23 #[.pointer (some ⟨g, 0, none⟩)] (W5.drewN q) fun e w' => e = .returned (.int .i64 ((n : Int) - (atB : Int))) ∧ Drawn (W5.drewN q) w' := fun q =>
                (left_is (hS5.next ((Drawn.one W5 q).below (Below.refl _ _)))).mono fun e w' ⟨h1, h2⟩ => ⟨by rw [h1, Hln.out], h2⟩
              have hat := fun q : Nat => at_is (hS5.next ((Drawn.one W5 q).below (Below.refl W5.heap.size W5)))
              have hpl : atB ≤ n := by have := hS5.place; have := Hln.out; omega
              have HLEFT := Lib.hid hleft
              have HAT := Lib.hid hat
              clear hleft hat
              go_wp2_with fail
              go_quiet (first | (go_at_call 22; first | exact quiet_same0 (HAT.out _) | exact quiet_same (HAT.out _)) | (go_at_call 23; first | exact quiet_drawn0 (HLEFT.out _) | exact quiet_drawn (HLEFT.out _)))
              go_wp2_with fail
              exact ⟨⟨k + 1, atB, xB, by omega, by go_num, hS5.next ((Drawn.one W5 _).below (Below.refl _ _)), hF5.next ((Drawn.one W5 _).below (Below.refl _ _)), (Drawn.one W5 _).below hbE⟩, by simp [intOf]; omega⟩
            · skip
              by_cases k2 : kk = 2
              · subst k2
                go_wp2_with fail
                refine (take_is nn hS).mono ?_
                rintro e1 W1 ⟨hbt1, hto1⟩
                have hgr1 := hto1.2
                have hbA1 := hbW.grown hto1.2 hbW.size (fun k hk => by injection hk with hk; omega)
                have hF1 := hF.far hS hto1.2
                obtain ⟨Ar, nr, cr, rfl, hrr⟩ := hbt1
                go_wp2_with fail
                refine (rtake_is nn hF1).mono ?_
                rintro e2 W2 ⟨hbt2, hto2⟩
                have hSB := hto1.1.far hF1 hto2.2
                have hFB := hto2.1
                have hbB := hbA1.grown hto2.2 hbA1.size (fun k hk => by injection hk with hk; omega)
                obtain ⟨As, ns, cs, rfl, hrs⟩ := hbt2
                have hrr2 := reads_over hrr hF1 hto2.2
                go_wp2_with fail
                refine (same_true Ar As nr cr ns cs _ W2 hrr2 hrs ?_).mono ?_
                · have h1 := hrr.1; rw [bs_length] at h1; have h2 := takeS_len l at_ x nn; omega
                rintro e9 W9 ⟨rfl, hd9⟩
                have hSB := hSB.next (hd9.below (Below.refl _ _))
                have hFB := hFB.next (hd9.below (Below.refl _ _))
                have hbB := hd9.below hbB
                obtain ⟨xB, hxB⟩ : ∃ y, y = (takeS l at_ x nn).2.2 := ⟨_, rfl⟩
                obtain ⟨atB, haB⟩ : ∃ y, y = (takeS l at_ x nn).2.1 := ⟨_, rfl⟩
                rw [← hxB, ← haB] at hSB hFB
                clear hxB haB
                clear hto1 hto2
                go_wp2_with fail
                refine (err_is (hmet.next hbB) hSB).mono ?_
                rintro e3 W3 ⟨he3, hb3⟩
                have he3' : e3 = .returned (.tuple #[.int .i64 (errS xB).1, .int .i64 ((errS xB).2 : Int)]) := he3
                subst he3'
                clear he3
                have hS3 := hSB.next hb3
                have hF3 := hFB.next hb3
                have hbC := hbB.trans (hb3.mono hbB.size)
                go_wp2_with fail
                refine (end_is (hmet.next hbC) hS3).mono ?_
                rintro e4 W4 ⟨he4, hb4⟩
                have he4' : e4 = .returned (.tuple #[.int .i64 (endS l atB xB).1, .int .i64 ((endS l atB xB).2 : Int)]) := he4
                subst he4'
                clear he4
                have hS4 := hS3.next hb4
                have hF4 := hF3.next hb4
                have hbD := hbC.trans (hb4.mono hbC.size)
                go_wp2_with fail
                refine (rend_is hF4).mono ?_
                rintro e5 W5 ⟨he5, hd5⟩
                have he5' : e5 = .returned (.tuple #[.int .i64 (endS l atB xB).1, .int .i64 ((endS l atB xB).2 : Int)]) := he5
                subst he5'
                clear he5
                have hS5 := hS4.next (hd5.below (Below.refl _ _))
                have hF5 := hF4.next (hd5.below (Below.refl _ _))
                have hbE := hd5.below hbD
                obtain ⟨⟨A5, n5, c5, hR5⟩, hX5⟩ := id hF5
                have d1 := hR5.blk.cell 1
                have d2 := hR5.blk.cell 2
                have d3 := hR5.blk.cell 3
                simp only [List.getElem?_toArray, List.getElem?_cons_succ, List.getElem?_cons_zero] at d1 d2 d3
                have hleft : ∀ q : Nat, Calls Tryd.prog 23 #[.pointer (some ⟨g, 0, none⟩)] (W5.drewN q) fun e w' => e = .returned (.int .i64 ((n : Int) - (atB : Int))) ∧ Drawn (W5.drewN q) w' := fun q =>
                  (left_is (hS5.next ((Drawn.one W5 q).below (Below.refl _ _)))).mono fun e w' ⟨h1, h2⟩ => ⟨by rw [h1, Hln.out], h2⟩
                have hat := fun q : Nat => at_is (hS5.next ((Drawn.one W5 q).below (Below.refl W5.heap.size W5)))
                have hpl : atB ≤ n := by have := hS5.place; have := Hln.out; omega
                have HLEFT := Lib.hid hleft
                have HAT := Lib.hid hat
                clear hleft hat
                go_wp2_with fail
                go_quiet (first | (go_at_call 22; first | exact quiet_same0 (HAT.out _) | exact quiet_same (HAT.out _)) | (go_at_call 23; first | exact quiet_drawn0 (HLEFT.out _) | exact quiet_drawn (HLEFT.out _)))
                go_wp2_with fail
                exact ⟨⟨k + 1, atB, xB, by omega, by go_num, hS5.next ((Drawn.one W5 _).below (Below.refl _ _)), hF5.next ((Drawn.one W5 _).below (Below.refl _ _)), (Drawn.one W5 _).below hbE⟩, by simp [intOf]; omega⟩
              · skip
                by_cases k3 : kk = 3
                · subst k3
                  go_wp2_with fail
                  refine (blob_is nn hS q3 q4).mono ?_
                  rintro e1 W1 ⟨hbt1, hto1⟩
                  have hgr1 := hto1.2
                  have hbA1 := hbW.grown hto1.2 hbW.size (fun k hk => by injection hk with hk; omega)
                  have hF1 := hF.far hS hto1.2
                  obtain ⟨Ar, nr, cr, rfl, hrr⟩ := hbt1
                  go_wp2_with fail
                  refine (rblob_is nn hF1 q3 q4).mono ?_
                  rintro e2 W2 ⟨hbt2, hto2⟩
                  have hSB := hto1.1.far hF1 hto2.2
                  have hFB := hto2.1
                  have hbB := hbA1.grown hto2.2 hbA1.size (fun k hk => by injection hk with hk; omega)
                  obtain ⟨As, ns, cs, rfl, hrs⟩ := hbt2
                  have hrr2 := reads_over hrr hF1 hto2.2
                  go_wp2_with fail
                  refine (same_true Ar As nr cr ns cs _ W2 hrr2 hrs ?_).mono ?_
                  · have h1 := hrr.1; rw [bs_length] at h1; have h2 := blobS_len l at_ x nn; omega
                  rintro e9 W9 ⟨rfl, hd9⟩
                  have hSB := hSB.next (hd9.below (Below.refl _ _))
                  have hFB := hFB.next (hd9.below (Below.refl _ _))
                  have hbB := hd9.below hbB
                  obtain ⟨xB, hxB⟩ : ∃ y, y = (blobS l at_ x nn).2.2 := ⟨_, rfl⟩
                  obtain ⟨atB, haB⟩ : ∃ y, y = (blobS l at_ x nn).2.1 := ⟨_, rfl⟩
                  rw [← hxB, ← haB] at hSB hFB
                  clear hxB haB
                  clear hto1 hto2
                  go_wp2_with fail
                  refine (err_is (hmet.next hbB) hSB).mono ?_
                  rintro e3 W3 ⟨he3, hb3⟩
                  have he3' : e3 = .returned (.tuple #[.int .i64 (errS xB).1, .int .i64 ((errS xB).2 : Int)]) := he3
                  subst he3'
                  clear he3
                  have hS3 := hSB.next hb3
                  have hF3 := hFB.next hb3
                  have hbC := hbB.trans (hb3.mono hbB.size)
                  go_wp2_with fail
                  refine (end_is (hmet.next hbC) hS3).mono ?_
                  rintro e4 W4 ⟨he4, hb4⟩
                  have he4' : e4 = .returned (.tuple #[.int .i64 (endS l atB xB).1, .int .i64 ((endS l atB xB).2 : Int)]) := he4
                  subst he4'
                  clear he4
                  have hS4 := hS3.next hb4
                  have hF4 := hF3.next hb4
                  have hbD := hbC.trans (hb4.mono hbC.size)
                  go_wp2_with fail
                  refine (rend_is hF4).mono ?_
                  rintro e5 W5 ⟨he5, hd5⟩
                  have he5' : e5 = .returned (.tuple #[.int .i64 (endS l atB xB).1, .int .i64 ((endS l atB xB).2 : Int)]) := he5
                  subst he5'
                  clear he5
                  have hS5 := hS4.next (hd5.below (Below.refl _ _))
                  have hF5 := hF4.next (hd5.below (Below.refl _ _))
                  have hbE := hd5.below hbD
                  obtain ⟨⟨A5, n5, c5, hR5⟩, hX5⟩ := id hF5
                  have d1 := hR5.blk.cell 1
                  have d2 := hR5.blk.cell 2
                  have d3 := hR5.blk.cell 3
                  simp only [List.getElem?_toArray, List.getElem?_cons_succ, List.getElem?_cons_zero] at d1 d2 d3
                  have hleft : ∀ q : Nat, Calls Tryd.prog 23 #[.pointer (some ⟨g, 0, none⟩)] (W5.drewN q) fun e w' => e = .returned (.int .i64 ((n : Int) - (atB : Int))) ∧ Drawn (W5.drewN q) w' := fun q =>
                    (left_is (hS5.next ((Drawn.one W5 q).below (Below.refl _ _)))).mono fun e w' ⟨h1, h2⟩ => ⟨by rw [h1, Hln.out], h2⟩
                  have hat := fun q : Nat => at_is (hS5.next ((Drawn.one W5 q).below (Below.refl W5.heap.size W5)))
                  have hpl : atB ≤ n := by have := hS5.place; have := Hln.out; omega
                  have HLEFT := Lib.hid hleft
                  have HAT := Lib.hid hat
                  clear hleft hat
                  go_wp2_with fail
                  go_quiet (first | (go_at_call 22; first | exact quiet_same0 (HAT.out _) | exact quiet_same (HAT.out _)) | (go_at_call 23; first | exact quiet_drawn0 (HLEFT.out _) | exact quiet_drawn (HLEFT.out _)))
                  go_wp2_with fail
                  exact ⟨⟨k + 1, atB, xB, by omega, by go_num, hS5.next ((Drawn.one W5 _).below (Below.refl _ _)), hF5.next ((Drawn.one W5 _).below (Below.refl _ _)), (Drawn.one W5 _).below hbE⟩, by simp [intOf]; omega⟩
                · skip
                  by_cases k4 : kk = 4
                  · subst k4
                    go_wp2_with fail
                    refine (fail_is nn hS).mono ?_
                    rintro e1 W1 ⟨rfl, hto1⟩
                    have hgr1 := hto1.2
                    have hbA1 := hbW.grown hto1.2 hbW.size (fun k hk => by injection hk with hk; omega)
                    have hF1 := hF.far hS hto1.2
                    go_wp2_with fail
                    refine (rfail_is nn hF1).mono ?_
                    rintro e2 W2 ⟨rfl, hto2⟩
                    have hSB := hto1.1.far hF1 hto2.2
                    have hFB := hto2.1
                    have hbB := hbA1.grown hto2.2 hbA1.size (fun k hk => by injection hk with hk; omega)
                    obtain ⟨xB, hxB⟩ : ∃ y, y = failS at_ x nn := ⟨_, rfl⟩
                    obtain ⟨atB, haB⟩ : ∃ y, y = at_ := ⟨_, rfl⟩
                    rw [← hxB, ← haB] at hSB hFB
                    clear hxB haB
                    clear hto1 hto2
                    go_wp2_with fail
                    refine (err_is (hmet.next hbB) hSB).mono ?_
                    rintro e3 W3 ⟨he3, hb3⟩
                    have he3' : e3 = .returned (.tuple #[.int .i64 (errS xB).1, .int .i64 ((errS xB).2 : Int)]) := he3
                    subst he3'
                    clear he3
                    have hS3 := hSB.next hb3
                    have hF3 := hFB.next hb3
                    have hbC := hbB.trans (hb3.mono hbB.size)
                    go_wp2_with fail
                    refine (end_is (hmet.next hbC) hS3).mono ?_
                    rintro e4 W4 ⟨he4, hb4⟩
                    have he4' : e4 = .returned (.tuple #[.int .i64 (endS l atB xB).1, .int .i64 ((endS l atB xB).2 : Int)]) := he4
                    subst he4'
                    clear he4
                    have hS4 := hS3.next hb4
                    have hF4 := hF3.next hb4
                    have hbD := hbC.trans (hb4.mono hbC.size)
                    go_wp2_with fail
                    refine (rend_is hF4).mono ?_
                    rintro e5 W5 ⟨he5, hd5⟩
                    have he5' : e5 = .returned (.tuple #[.int .i64 (endS l atB xB).1, .int .i64 ((endS l atB xB).2 : Int)]) := he5
                    subst he5'
                    clear he5
                    have hS5 := hS4.next (hd5.below (Below.refl _ _))
                    have hF5 := hF4.next (hd5.below (Below.refl _ _))
                    have hbE := hd5.below hbD
                    obtain ⟨⟨A5, n5, c5, hR5⟩, hX5⟩ := id hF5
                    have d1 := hR5.blk.cell 1
                    have d2 := hR5.blk.cell 2
                    have d3 := hR5.blk.cell 3
                    simp only [List.getElem?_toArray, List.getElem?_cons_succ, List.getElem?_cons_zero] at d1 d2 d3
                    have hleft : ∀ q : Nat, Calls Tryd.prog 23 #[.pointer (some ⟨g, 0, none⟩)] (W5.drewN q) fun e w' => e = .returned (.int .i64 ((n : Int) - (atB : Int))) ∧ Drawn (W5.drewN q) w' := fun q =>
                      (left_is (hS5.next ((Drawn.one W5 q).below (Below.refl _ _)))).mono fun e w' ⟨h1, h2⟩ => ⟨by rw [h1, Hln.out], h2⟩
                    have hat := fun q : Nat => at_is (hS5.next ((Drawn.one W5 q).below (Below.refl W5.heap.size W5)))
                    have hpl : atB ≤ n := by have := hS5.place; have := Hln.out; omega
                    have HLEFT := Lib.hid hleft
                    have HAT := Lib.hid hat
                    clear hleft hat
                    go_wp2_with fail
                    go_quiet (first | (go_at_call 22; first | exact quiet_same0 (HAT.out _) | exact quiet_same (HAT.out _)) | (go_at_call 23; first | exact quiet_drawn0 (HLEFT.out _) | exact quiet_drawn (HLEFT.out _)))
                    go_wp2_with fail
                    exact ⟨⟨k + 1, atB, xB, by omega, by go_num, hS5.next ((Drawn.one W5 _).below (Below.refl _ _)), hF5.next ((Drawn.one W5 _).below (Below.refl _ _)), (Drawn.one W5 _).below hbE⟩, by simp [intOf]; omega⟩
                  · skip
                    have b0 : (kk == 0) = false := by simp [k0]
                    have b1 : (kk == 1) = false := by simp [k1]
                    have b2 : (kk == 2) = false := by simp [k2]
                    have b3 : (kk == 3) = false := by simp [k3]
                    have b4 : (kk == 4) = false := by simp [k4]
                    have hSB := hS
                    have hFB := hF
                    have hbB := hbW
                    obtain ⟨xB, hxB⟩ : ∃ y, y = x := ⟨_, rfl⟩
                    obtain ⟨atB, haB⟩ : ∃ y, y = at_ := ⟨_, rfl⟩
                    rw [← hxB, ← haB] at hSB hFB
                    clear hxB haB k0 k1 k2 k3 k4 hS hF
                    go_wp2_with fail
                    refine (err_is (hmet.next hbB) hSB).mono ?_
                    rintro e3 W3 ⟨he3, hb3⟩
                    have he3' : e3 = .returned (.tuple #[.int .i64 (errS xB).1, .int .i64 ((errS xB).2 : Int)]) := he3
                    subst he3'
                    clear he3
                    have hS3 := hSB.next hb3
                    have hF3 := hFB.next hb3
                    have hbC := hbB.trans (hb3.mono hbB.size)
                    go_wp2_with fail
                    refine (end_is (hmet.next hbC) hS3).mono ?_
                    rintro e4 W4 ⟨he4, hb4⟩
                    have he4' : e4 = .returned (.tuple #[.int .i64 (endS l atB xB).1, .int .i64 ((endS l atB xB).2 : Int)]) := he4
                    subst he4'
                    clear he4
                    have hS4 := hS3.next hb4
                    have hF4 := hF3.next hb4
                    have hbD := hbC.trans (hb4.mono hbC.size)
                    go_wp2_with fail
                    refine (rend_is hF4).mono ?_
                    rintro e5 W5 ⟨he5, hd5⟩
                    have he5' : e5 = .returned (.tuple #[.int .i64 (endS l atB xB).1, .int .i64 ((endS l atB xB).2 : Int)]) := he5
                    subst he5'
                    clear he5
                    have hS5 := hS4.next (hd5.below (Below.refl _ _))
                    have hF5 := hF4.next (hd5.below (Below.refl _ _))
                    have hbE := hd5.below hbD
                    obtain ⟨⟨A5, n5, c5, hR5⟩, hX5⟩ := id hF5
                    have d1 := hR5.blk.cell 1
                    have d2 := hR5.blk.cell 2
                    have d3 := hR5.blk.cell 3
                    simp only [List.getElem?_toArray, List.getElem?_cons_succ, List.getElem?_cons_zero] at d1 d2 d3
                    have hleft : ∀ q : Nat, Calls Tryd.prog 23 #[.pointer (some ⟨g, 0, none⟩)] (W5.drewN q) fun e w' => e = .returned (.int .i64 ((n : Int) - (atB : Int))) ∧ Drawn (W5.drewN q) w' := fun q =>
                      (left_is (hS5.next ((Drawn.one W5 q).below (Below.refl _ _)))).mono fun e w' ⟨h1, h2⟩ => ⟨by rw [h1, Hln.out], h2⟩
                    have hat := fun q : Nat => at_is (hS5.next ((Drawn.one W5 q).below (Below.refl W5.heap.size W5)))
                    have hpl : atB ≤ n := by have := hS5.place; have := Hln.out; omega
                    have HLEFT := Lib.hid hleft
                    have HAT := Lib.hid hat
                    clear hleft hat
                    go_wp2_with fail
                    go_quiet (first | (go_at_call 22; first | exact quiet_same0 (HAT.out _) | exact quiet_same (HAT.out _)) | (go_at_call 23; first | exact quiet_drawn0 (HLEFT.out _) | exact quiet_drawn (HLEFT.out _)))
                    go_wp2_with fail
                    exact ⟨⟨k + 1, atB, xB, by omega, by go_num, hS5.next ((Drawn.one W5 _).below (Below.refl _ _)), hF5.next ((Drawn.one W5 _).below (Below.refl _ _)), (Drawn.one W5 _).below hbE⟩, by simp [intOf]; omega⟩
        · go_wp2_with (go_at_call 6; refine (awake_any _).mono ?_; rintro e5 w5 ⟨rfl, hb5⟩)
          go_ret
          exact ⟨rfl, hbW.trans (hb5.mono hbW.size)⟩
end Go.Proofs.YtphecljgbnkmlaaDoor
