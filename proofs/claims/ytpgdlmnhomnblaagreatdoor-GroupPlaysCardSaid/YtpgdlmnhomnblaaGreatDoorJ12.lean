import Derived.Test.YtpgdlmnhomnblaaGreatDoorJ11
import Derived.Test.YtpgdlmnhomnblaaGreatDoorJ10
import Derived.Test.YtpgdlmnhomnblaaGreatDoorJ6
import Derived.Deep.RegionWith
import Derived.Test.YtpgdlmnhomnblaaGreatDoorJ7
import Derived.Test.YtpgdlmnhomnblaaGreatDoorJ1
namespace Go.Proofs.YtpgdlmnhomnblaaGreatDoor
open Go.RowKit
set_option linter.unusedVariables false
set_option linter.unusedSimpArgs false
set_option maxRecDepth 100000
attribute [local go_sem] Oper.semAt_some wide_fn wide_depth
structure PutV (w W0 : World) (v : Value) (xs : List Nat) (W : World) : Prop where
  box : Blk W w.heap.size 66 #[v]
  own : W.ownsRow (w.heap.size + 2) 5 1 v xs.length (bs xs)
  below : Below w.heap.size w W
  size : w.heap.size + 2 ≤ W.heap.size
  spares : Spares (w.heap.size + 2) (LaidX w.heap.size (w.heap.size + 1)) W0 W
theorem PutV.next {w W0 W W' : World} {v : Value} {xs : List Nat} (h : PutV w W0 v xs W) (hb : Below W.heap.size W W') : PutV w W0 v xs W' :=
  ⟨h.box.below hb h.box.lt, own_below h.own hb, h.below.trans (hb.mono h.below.size), Nat.le_trans h.size hb.size, h.spares.below (fun k hk => by have := h.size; rcases hk with hk | hk <;> omega) hb⟩
theorem PutV.put {w W0 W W' : World} {v v' : Value} {xs ys : List Nat} (h : PutV w W0 v xs W) (hown : W'.ownsRow (w.heap.size + 2) 5 1 v' (xs.length + ys.length) (bs xs ++ bs ys)) (hg : W.grownBy W' v.ownBlock) :
    PutV w W0 v' (xs ++ ys) (W'.setCell ⟨w.heap.size, 0, none⟩ v') := by
  have hset : W'.grownBy (W'.setCell ⟨w.heap.size, 0, none⟩ v') (some w.heap.size) := only_setCell (World.grownBy.refl W' _) (.inl rfl) _
  have hX : ∀ k, LaidX w.heap.size (w.heap.size + 1) k → k < W.heap.size := fun k hk => by have := h.size; rcases hk with hk | hk <;> omega
  refine ⟨?_, ?_, ?_, ?_, ?_⟩
  · have := (h.box.grown hg (fun e => by have := (h.own.lt _ e.symm).1; omega)).set_ 0 v'
    simpa using this
  · rw [← bs_append, ← List.length_append] at hown
    exact own_before hown hset (fun r e => by injection e with e; omega)
  · exact (h.below.grown hg h.below.size (fun k hk => by have := (h.own.lt k hk).1; omega)).setCell (p := ⟨w.heap.size, 0, none⟩) (Nat.le_refl _) _
  · exact Nat.le_trans (Nat.le_trans h.size hg.size) (by simp)
  · refine (h.spares.grown hg hX (fun j hj => ?_)).setCell (p := ⟨w.heap.size, 0, none⟩) ?_ _
    · obtain ⟨h1, h2⟩ := own_cells h.own hj
      exact ⟨fun hk => by rcases hk with hk | hk <;> omega, h2⟩
    · rintro (hk | hk) <;> simp at hk
theorem PutV.start {w W0 W : World} {v : Value} {xs : List Nat} (h : PutV w W0 v xs W) : PutV w W v xs W := ⟨h.box, h.own, h.below, h.size, Spares.refl _ _ _⟩
def PutI (w : World) (l : List Int) (k : Nat) (W : World) : Prop := ∃ v, PutV w W v (rf ((runs l).take k)) W
set_option maxHeartbeats 1000000 in
theorem rnPut_any (A : Option Addr) (n c : Nat) (l : List Int) (w : World) (hr : Reads w w.heap.size 1 A n (zs l)) (hl : ∀ z ∈ l, In64 z) (hn : n ≤ 65536) :
    Calls Tryz.prog 77 #[.slice A n c] w (NewE w (rf (runs l)) 0) := by
  obtain ⟨i0, hi0, hz0, hz1, hz2⟩ := info_parts info_u8
  have e1 : l.length = n := by have := hr.1; rw [zs_length] at this; omega
  have hrc := rc_le l
  rw [e1] at hrc
  have E1 := Lib.hid e1; have HLL := Lib.hid hl
  clear e1 hl
  refine (callsIn_wide (n := 0)).1 ?_
  refine callsIn_of_wp_marks Tryz.func77 rfl trivial ?_ rfl
  simp only [Tryz.ntmps77, List.size_toArray, List.length_cons, List.length_nil, Nat.reduceAdd, Nat.reduceSub, Array.replicate_succ, Array.replicate_zero, List.push_toArray, List.append_toArray, List.nil_append, List.cons_append]
  gi_wp2_with (gi_at_call 117; refine (callsIn_wide.2 (laid_any _ _ _ _)).mono ?_; rintro e w' ⟨rfl, rfl⟩)
  have hB0 : Below w.heap.size w ((w.alloc (.cells #[.slice none 0 0] 66)).alloc (.cells #[.slice A n c] 142)) := ((Below.refl _ w).alloc (Nat.le_refl _) _).alloc (by simp) _
  have hbox : Blk ((w.alloc (.cells #[.slice none 0 0] 66)).alloc (.cells #[.slice A n c] 142)) w.heap.size 66 #[.slice none 0 0] := (Blk.new w _ _).alloc _
  have hcap := (Blk.new (w.alloc (.cells #[.slice none 0 0] 66)) 142 #[.slice A n c]).cell 0
  rw [World.size_alloc] at hcap
  have hr0 := hr.below hB0
  have hsz : ((w.alloc (.cells #[.slice none 0 0] 66)).alloc (.cells #[.slice A n c] 142)).heap.size = w.heap.size + 2 := by simp
  refine range_gives (gf := 168) (lb := #[.pointer (some ⟨w.heap.size + 1, 0, none⟩)]) rfl (enters_of Tryz.func168 (by kernel_rfl) rfl)
    (laid1_gives A n c w.heap.size (w.heap.size + 1) l _ hcap (by rw [hsz]; omega) (by rw [hsz]; omega) hr0 (by omega))
    (fun k hk => by rw [hsz]; rcases hk with h | h <;> omega) (fun k hk => hk.elim) (fun _ => rfl)
    (PutI w l)
    (fun k => { tmps := #[.slice A n c, undef, .slice none 0 0, .int .i64 0, .pointer (some ⟨w.heap.size, 0, none⟩), .int .i64 ((runs l)[k]?.getD (0, 0)).1, .int .i64 (((runs l)[k]?.getD (0, 0)).2 : Int), .slice A n c, .int .i64 (n : Int), .bool (decide ((65536 : Int) < (n : Int))), .slice A n c, .func (.func 168) #[] #[.pointer (some ⟨w.heap.size + 1, 0, none⟩)], .int .i64 ((runs l)[k]?.getD (0, 0)).1, .int .i64 (((runs l)[k]?.getD (0, 0)).2 : Int), undef, undef, undef, undef, undef, undef, undef, undef, undef, undef, undef, undef], defers := [] })
    ⟨_, hbox, own_nil _ _ _ _, hB0, by rw [hsz]; omega, Spares.refl _ _ _⟩ ?hIn ?hIy ?hT ?hassign ?hbody ?hdone
  case hIn =>
    rintro k X Y row ⟨v, h1, h2, h3, h4, _⟩ hg hrow
    rw [hsz] at hrow
    exact ⟨v, h1.grown hg (fun e => by have := (hrow _ e.symm).1; omega), own_kept h2 hg (fun r e => (hrow r e).2), h3.grown hg h3.size (fun j hj => by have := (hrow _ hj).1; omega), Nat.le_trans h4 hg.size, Spares.refl _ _ _⟩
  case hIy =>
    rintro k X Y row ⟨v, h1, h2, h3, h4, _⟩ hg hrow
    exact ⟨v, h1.grown hg (fun e => (hrow _ e.symm).elim), own_kept h2 hg (fun r e => (hrow r e).elim), h3.grown hg h3.size (fun j hj => (hrow _ hj).elim), Nat.le_trans h4 hg.size, Spares.refl _ _ _⟩
  case hT => intro _ _ _ _ _ _; trivial
  case hassign =>
    intro lp k W K hK
    unfold elR
    gi_wp2
    simpa using hK
  case hbody =>
    rintro lp k W hk hs ⟨v, h0⟩
    obtain ⟨x, m, hat⟩ : ∃ x m, (runs l)[k]? = some (x, m) := ⟨_, _, List.getElem?_eq_getElem hk⟩
    obtain ⟨hm0, hle, hall, _⟩ := run_at hat
    rw [E1.out] at hle
    have hx64 : In64 x := HLL.out x (List.mem_of_getElem? (hall 0 hm0))
    have hxg := (zg_int hx64).2
    have hm1 : (m : Int) - 1 = ((m - 1 : Nat) : Int) := by omega
    have hw1 : IntKind.i64.wrap ((m - 1 : Nat) : Int) = ((m - 1 : Nat) : Int) := IntWalk.i64_in _ (by omega)
    have hw2 : IntKind.u64.wrap ((m - 1 : Nat) : Int) = ((m - 1 : Nat) : Int) := IntWalk.u64_in _ (by omega)
    have hvm := vb_length (m - 1)
    have hv64 : m - 1 < 18446744073709551616 := by omega
    have hvx := vb_length (zg x)
    have hrl := rf_length ((runs l).take k)
    have htk : ((runs l).take k).length ≤ k := List.length_take_le _ _
    have HS := Lib.hid (rf_step hat)
    rw [hat]
    simp only [Option.getD_some]
    rw [hsz]
    clear hle hall hat hs
    gi_wp2
    have h1 := h0.next (W' := W.drew) (Below.drew (Below.refl _ _))
    have hc1 := h1.box.cell 0
    simp only [List.getElem?_toArray, List.getElem?_cons_zero] at hc1
    refine wpIn_mono (Q := fun e a' W' => e = .normal ∧ ∃ v' u14 u15 u16 u17 u18 u19, a' = { tmps := #[.slice A n c, undef, .slice none 0 0, .int .i64 0, .pointer (some ⟨w.heap.size, 0, none⟩), .int .i64 x, .int .i64 (m : Int), .slice A n c, .int .i64 (n : Int), .bool (decide ((65536 : Int) < (n : Int))), .slice A n c, .func (.func 168) #[] #[.pointer (some ⟨w.heap.size + 1, 0, none⟩)], .int .i64 x, .int .i64 (m : Int), u14, u15, u16, u17, u18, u19, undef, undef, undef, undef, undef, undef], defers := [] } ∧ PutV w W v' (rf ((runs l).take k) ++ vb (m - 1)) W') ?reg ?post
    case reg =>
      refine region_in (by kernel_rfl) (by kernel_rfl) (fun _ _ h => by cases h.1) ?_
      refine wpAny_take (i := 1) (v := ?_) rfl (by kernel_rfl) (by kernel_rfl) (by kernel_rfl) (fun _ _ _ h => by cases h.1) (Or.inl ⟨by rfl, ?_⟩) ?_
      rotate_left
      · (intro _; go_simp; try with_reducible rfl)
      try simp only [Act.put, List.setIfInBounds_toArray, List.set_cons_zero, List.set_cons_succ]
      refine wpAny_take (i := 2) (v := ?_) rfl (by kernel_rfl) (by kernel_rfl) (by kernel_rfl) (fun _ _ _ h => by cases h.1) (Or.inl ⟨by rfl, ?_⟩) ?_
      rotate_left
      · (intro _; go_simp; try with_reducible rfl)
      try simp only [Act.put, List.setIfInBounds_toArray, List.set_cons_zero, List.set_cons_succ]
      refine wpAny_take (i := 3) (v := ?_) rfl (by kernel_rfl) (by kernel_rfl) (by kernel_rfl) (fun _ _ _ h => by cases h.1) (Or.inl ⟨by rfl, ?_⟩) ?_
      rotate_left
      · (intro _; go_simp; try with_reducible rfl)
      try simp only [Act.put, List.setIfInBounds_toArray, List.set_cons_zero, List.set_cons_succ]
      refine wpAny_ready (rs := [0, 4]) (by kernel_rfl) (by simp) ?_
      refine AllReady.cons rfl (fun K hK => ?_) ?_
      · skip
        go_simp
        refine hK _ _ ?_
        clear hK K
        try simp only [Act.put, List.setIfInBounds_toArray, List.set_cons_zero, List.set_cons_succ]
        refine wpAny_ready (rs := [4]) (by kernel_rfl) (by simp) ?_
        refine AllReady.cons rfl (fun K hK => ?_) ?_
        · skip
          go_simp
          go_at_call 111
          refine (putVar_any none 0 0 (m - 1) [] _ hv64 Reads.none_ (by simp) (by omega)).mono ?_
          intro e2 w2 hN2
          obtain ⟨A2, c2, rfl, _, hr2, hb2⟩ := hN2.opened
          rw [Nat.zero_add, List.nil_append] at hr2
          have h2 := h1.next hb2
          have hc2 := h2.box.cell 0
          simp only [List.getElem?_toArray, List.getElem?_cons_zero] at hc2
          clear hN2
          simp only [Nat.zero_add]
          show _
          try go_simp
          refine hK _ _ ?_
          clear hK K
          try simp only [Act.put, List.setIfInBounds_toArray, List.set_cons_zero, List.set_cons_succ]
          refine wpAny_ready (rs := [5]) (by kernel_rfl) (by simp) ?_
          refine AllReady.cons rfl (fun K hK => ?_) ?_
          · skip
            refine step_append_any _ rfl (.tmp 14) (.tmp 18) _ rfl (w.heap.size + 2) 5 i0 _ 1 1 Tryz.underlying66 hi0 hz0 hz1 hz2 rfl (by omega) v (rf ((runs l).take k)).length (bs (rf ((runs l).take k))) (by simp [Act.eval, Act.put])
              h2.own w2.heap.size A2 (vb (m - 1)).length c2 (bs (vb (m - 1))) (by simp [Act.eval, Act.put]) hr2 (bs_one _) (by unfold maxLen; omega) (by omega) h2.size ?_
            intro v3 w3 hown3 hg3 hat3
            obtain ⟨A3, c3, rfl, _, _, _⟩ := own_slice hown3
            have h3 := h2.put hown3 hg3
            have hf3 := ((h2.box.grown hg3 (fun e => by have := (h2.own.lt _ e.symm).1; omega))).frozen 0
            have hc3 := ((h2.box.grown hg3 (fun e => by have := (h2.own.lt _ e.symm).1; omega))).cell 0
            simp only [List.getElem?_toArray, List.getElem?_cons_zero] at hc3
            try go_simp
            refine hK _ _ ?_
            clear hK K
            try simp only [Act.put, List.setIfInBounds_toArray, List.set_cons_zero, List.set_cons_succ]
            refine wpAny_ready (rs := [6]) (by kernel_rfl) (by simp) ?_
            refine AllReady.cons rfl (fun K hK => ?_) ?_
            · skip
              go_simp
              refine hK _ _ ?_
              clear hK K
              try simp only [Act.put, List.setIfInBounds_toArray, List.set_cons_zero, List.set_cons_succ]
              refine wpAny_done (by kernel_rfl) ?_ _
              exact ⟨rfl, _, _, _, _, _, _, _, rfl, h3⟩
            exact AllReady.nil
          exact AllReady.nil
        exact AllReady.nil
      refine AllReady.cons rfl (fun K hK => ?_) ?_
      · skip
        go_simp
        go_at_call 111
        refine (putVar_any none 0 0 (m - 1) [] _ hv64 Reads.none_ (by simp) (by omega)).mono ?_
        intro e2 w2 hN2
        obtain ⟨A2, c2, rfl, _, hr2, hb2⟩ := hN2.opened
        rw [Nat.zero_add, List.nil_append] at hr2
        have h2 := h1.next hb2
        have hc2 := h2.box.cell 0
        simp only [List.getElem?_toArray, List.getElem?_cons_zero] at hc2
        clear hN2
        simp only [Nat.zero_add]
        show _
        try go_simp
        refine hK _ _ ?_
        clear hK K
        try simp only [Act.put, List.setIfInBounds_toArray, List.set_cons_zero, List.set_cons_succ]
        refine wpAny_ready (rs := [0]) (by kernel_rfl) (by simp) ?_
        refine AllReady.cons rfl (fun K hK => ?_) ?_
        · skip
          go_simp
          refine hK _ _ ?_
          clear hK K
          try simp only [Act.put, List.setIfInBounds_toArray, List.set_cons_zero, List.set_cons_succ]
          refine wpAny_ready (rs := [5]) (by kernel_rfl) (by simp) ?_
          refine AllReady.cons rfl (fun K hK => ?_) ?_
          · skip
            refine step_append_any _ rfl (.tmp 14) (.tmp 18) _ rfl (w.heap.size + 2) 5 i0 _ 1 1 Tryz.underlying66 hi0 hz0 hz1 hz2 rfl (by omega) v (rf ((runs l).take k)).length (bs (rf ((runs l).take k))) (by simp [Act.eval, Act.put])
              h2.own w2.heap.size A2 (vb (m - 1)).length c2 (bs (vb (m - 1))) (by simp [Act.eval, Act.put]) hr2 (bs_one _) (by unfold maxLen; omega) (by omega) h2.size ?_
            intro v3 w3 hown3 hg3 hat3
            obtain ⟨A3, c3, rfl, _, _, _⟩ := own_slice hown3
            have h3 := h2.put hown3 hg3
            have hf3 := ((h2.box.grown hg3 (fun e => by have := (h2.own.lt _ e.symm).1; omega))).frozen 0
            have hc3 := ((h2.box.grown hg3 (fun e => by have := (h2.own.lt _ e.symm).1; omega))).cell 0
            simp only [List.getElem?_toArray, List.getElem?_cons_zero] at hc3
            try go_simp
            refine hK _ _ ?_
            clear hK K
            try simp only [Act.put, List.setIfInBounds_toArray, List.set_cons_zero, List.set_cons_succ]
            refine wpAny_ready (rs := [6]) (by kernel_rfl) (by simp) ?_
            refine AllReady.cons rfl (fun K hK => ?_) ?_
            · skip
              go_simp
              refine hK _ _ ?_
              clear hK K
              try simp only [Act.put, List.setIfInBounds_toArray, List.set_cons_zero, List.set_cons_succ]
              refine wpAny_done (by kernel_rfl) ?_ _
              exact ⟨rfl, _, _, _, _, _, _, _, rfl, h3⟩
            exact AllReady.nil
          exact AllReady.nil
        exact AllReady.nil
      exact AllReady.nil
    case post =>
      rintro e a' W1 ⟨rfl, v1, u14, u15, u16, u17, u18, u19, rfl, h7⟩
      have hyl : (rf ((runs l).take k) ++ vb (m - 1)).length ≤ 20 * k + 10 := by rw [List.length_append]; omega
      generalize hys : rf ((runs l).take k) ++ vb (m - 1) = ys at h7 hyl
      have HY := Lib.hid hys
      clear hys
      gi_wp2
      have h1 := h7.next (W' := W1.drew) (Below.drew (Below.refl _ _))
      have hc1 := h1.box.cell 0
      simp only [List.getElem?_toArray, List.getElem?_cons_zero] at hc1
      refine wpIn_mono (Q := fun e a' W' => e = .normal ∧ ∃ v', PutV w W v' (ys ++ vb (zg x)) W') ?reg2 ?post2
      case reg2 =>
        refine region_in (by kernel_rfl) (by kernel_rfl) (fun _ _ h => by cases h.1) ?_
        refine wpAny_take (i := 1) (v := ?_) rfl (by kernel_rfl) (by kernel_rfl) (by kernel_rfl) (fun _ _ _ h => by cases h.1) (Or.inl ⟨by rfl, ?_⟩) ?_
        rotate_left
        · (intro _; go_simp; try with_reducible rfl)
        try simp only [Act.put, List.setIfInBounds_toArray, List.set_cons_zero, List.set_cons_succ]
        refine wpAny_ready (rs := [0, 2]) (by kernel_rfl) (by simp) ?_
        refine AllReady.cons rfl (fun K hK => ?_) ?_
        · skip
          go_simp
          refine hK _ _ ?_
          clear hK K
          try simp only [Act.put, List.setIfInBounds_toArray, List.set_cons_zero, List.set_cons_succ]
          refine wpAny_ready (rs := [2]) (by kernel_rfl) (by simp) ?_
          refine AllReady.cons rfl (fun K hK => ?_) ?_
          · skip
            go_simp
            go_at_call 112
            refine (zigN_any x _ hx64).mono ?_
            rintro e w' ⟨rfl, rfl⟩
            show _
            try go_simp
            refine hK _ _ ?_
            clear hK K
            try simp only [Act.put, List.setIfInBounds_toArray, List.set_cons_zero, List.set_cons_succ]
            refine wpAny_ready (rs := [3]) (by kernel_rfl) (by simp) ?_
            refine AllReady.cons rfl (fun K hK => ?_) ?_
            · skip
              go_simp
              go_at_call 111
              refine (putVar_any none 0 0 (zg x) [] _ hxg Reads.none_ (by simp) (by omega)).mono ?_
              intro e2 w2 hN2
              obtain ⟨A2, c2, rfl, _, hr2, hb2⟩ := hN2.opened
              rw [Nat.zero_add, List.nil_append] at hr2
              have h2 := h1.next hb2
              have hc2 := h2.box.cell 0
              simp only [List.getElem?_toArray, List.getElem?_cons_zero] at hc2
              clear hN2
              simp only [Nat.zero_add]
              show _
              try go_simp
              refine hK _ _ ?_
              clear hK K
              try simp only [Act.put, List.setIfInBounds_toArray, List.set_cons_zero, List.set_cons_succ]
              refine wpAny_ready (rs := [4]) (by kernel_rfl) (by simp) ?_
              refine AllReady.cons rfl (fun K hK => ?_) ?_
              · skip
                refine step_append_any _ rfl (.tmp 20) (.tmp 23) _ rfl (w.heap.size + 2) 5 i0 _ 1 1 Tryz.underlying66 hi0 hz0 hz1 hz2 rfl (by omega) v1 ys.length (bs ys) (by simp [Act.eval, Act.put])
                  h2.own w2.heap.size A2 (vb (zg x)).length c2 (bs (vb (zg x))) (by simp [Act.eval, Act.put]) hr2 (bs_one _) (by unfold maxLen; omega) (by omega) h2.size ?_
                intro v3 w3 hown3 hg3 hat3
                obtain ⟨A3, c3, rfl, _, _, _⟩ := own_slice hown3
                have h3 := h2.put hown3 hg3
                have hf3 := ((h2.box.grown hg3 (fun e => by have := (h2.own.lt _ e.symm).1; omega))).frozen 0
                have hc3 := ((h2.box.grown hg3 (fun e => by have := (h2.own.lt _ e.symm).1; omega))).cell 0
                simp only [List.getElem?_toArray, List.getElem?_cons_zero] at hc3
                try go_simp
                refine hK _ _ ?_
                clear hK K
                try simp only [Act.put, List.setIfInBounds_toArray, List.set_cons_zero, List.set_cons_succ]
                refine wpAny_ready (rs := [5]) (by kernel_rfl) (by simp) ?_
                refine AllReady.cons rfl (fun K hK => ?_) ?_
                · skip
                  go_simp
                  refine hK _ _ ?_
                  clear hK K
                  try simp only [Act.put, List.setIfInBounds_toArray, List.set_cons_zero, List.set_cons_succ]
                  refine wpAny_done (by kernel_rfl) ?_ _
                  exact ⟨rfl, _, h3⟩
                exact AllReady.nil
              exact AllReady.nil
            exact AllReady.nil
          exact AllReady.nil
        refine AllReady.cons rfl (fun K hK => ?_) ?_
        · skip
          go_simp
          go_at_call 112
          refine (zigN_any x _ hx64).mono ?_
          rintro e w' ⟨rfl, rfl⟩
          show _
          try go_simp
          refine hK _ _ ?_
          clear hK K
          try simp only [Act.put, List.setIfInBounds_toArray, List.set_cons_zero, List.set_cons_succ]
          refine wpAny_ready (rs := [0, 3]) (by kernel_rfl) (by simp) ?_
          refine AllReady.cons rfl (fun K hK => ?_) ?_
          · skip
            go_simp
            refine hK _ _ ?_
            clear hK K
            try simp only [Act.put, List.setIfInBounds_toArray, List.set_cons_zero, List.set_cons_succ]
            refine wpAny_ready (rs := [3]) (by kernel_rfl) (by simp) ?_
            refine AllReady.cons rfl (fun K hK => ?_) ?_
            · skip
              go_simp
              go_at_call 111
              refine (putVar_any none 0 0 (zg x) [] _ hxg Reads.none_ (by simp) (by omega)).mono ?_
              intro e2 w2 hN2
              obtain ⟨A2, c2, rfl, _, hr2, hb2⟩ := hN2.opened
              rw [Nat.zero_add, List.nil_append] at hr2
              have h2 := h1.next hb2
              have hc2 := h2.box.cell 0
              simp only [List.getElem?_toArray, List.getElem?_cons_zero] at hc2
              clear hN2
              simp only [Nat.zero_add]
              show _
              try go_simp
              refine hK _ _ ?_
              clear hK K
              try simp only [Act.put, List.setIfInBounds_toArray, List.set_cons_zero, List.set_cons_succ]
              refine wpAny_ready (rs := [4]) (by kernel_rfl) (by simp) ?_
              refine AllReady.cons rfl (fun K hK => ?_) ?_
              · skip
                refine step_append_any _ rfl (.tmp 20) (.tmp 23) _ rfl (w.heap.size + 2) 5 i0 _ 1 1 Tryz.underlying66 hi0 hz0 hz1 hz2 rfl (by omega) v1 ys.length (bs ys) (by simp [Act.eval, Act.put])
                  h2.own w2.heap.size A2 (vb (zg x)).length c2 (bs (vb (zg x))) (by simp [Act.eval, Act.put]) hr2 (bs_one _) (by unfold maxLen; omega) (by omega) h2.size ?_
                intro v3 w3 hown3 hg3 hat3
                obtain ⟨A3, c3, rfl, _, _, _⟩ := own_slice hown3
                have h3 := h2.put hown3 hg3
                have hf3 := ((h2.box.grown hg3 (fun e => by have := (h2.own.lt _ e.symm).1; omega))).frozen 0
                have hc3 := ((h2.box.grown hg3 (fun e => by have := (h2.own.lt _ e.symm).1; omega))).cell 0
                simp only [List.getElem?_toArray, List.getElem?_cons_zero] at hc3
                try go_simp
                refine hK _ _ ?_
                clear hK K
                try simp only [Act.put, List.setIfInBounds_toArray, List.set_cons_zero, List.set_cons_succ]
                refine wpAny_ready (rs := [5]) (by kernel_rfl) (by simp) ?_
                refine AllReady.cons rfl (fun K hK => ?_) ?_
                · skip
                  go_simp
                  refine hK _ _ ?_
                  clear hK K
                  try simp only [Act.put, List.setIfInBounds_toArray, List.set_cons_zero, List.set_cons_succ]
                  refine wpAny_done (by kernel_rfl) ?_ _
                  exact ⟨rfl, _, h3⟩
                exact AllReady.nil
              exact AllReady.nil
            exact AllReady.nil
          refine AllReady.cons rfl (fun K hK => ?_) ?_
          · skip
            go_simp
            go_at_call 111
            refine (putVar_any none 0 0 (zg x) [] _ hxg Reads.none_ (by simp) (by omega)).mono ?_
            intro e2 w2 hN2
            obtain ⟨A2, c2, rfl, _, hr2, hb2⟩ := hN2.opened
            rw [Nat.zero_add, List.nil_append] at hr2
            have h2 := h1.next hb2
            have hc2 := h2.box.cell 0
            simp only [List.getElem?_toArray, List.getElem?_cons_zero] at hc2
            clear hN2
            simp only [Nat.zero_add]
            show _
            try go_simp
            refine hK _ _ ?_
            clear hK K
            try simp only [Act.put, List.setIfInBounds_toArray, List.set_cons_zero, List.set_cons_succ]
            refine wpAny_ready (rs := [0]) (by kernel_rfl) (by simp) ?_
            refine AllReady.cons rfl (fun K hK => ?_) ?_
            · skip
              go_simp
              refine hK _ _ ?_
              clear hK K
              try simp only [Act.put, List.setIfInBounds_toArray, List.set_cons_zero, List.set_cons_succ]
              refine wpAny_ready (rs := [4]) (by kernel_rfl) (by simp) ?_
              refine AllReady.cons rfl (fun K hK => ?_) ?_
              · skip
                refine step_append_any _ rfl (.tmp 20) (.tmp 23) _ rfl (w.heap.size + 2) 5 i0 _ 1 1 Tryz.underlying66 hi0 hz0 hz1 hz2 rfl (by omega) v1 ys.length (bs ys) (by simp [Act.eval, Act.put])
                  h2.own w2.heap.size A2 (vb (zg x)).length c2 (bs (vb (zg x))) (by simp [Act.eval, Act.put]) hr2 (bs_one _) (by unfold maxLen; omega) (by omega) h2.size ?_
                intro v3 w3 hown3 hg3 hat3
                obtain ⟨A3, c3, rfl, _, _, _⟩ := own_slice hown3
                have h3 := h2.put hown3 hg3
                have hf3 := ((h2.box.grown hg3 (fun e => by have := (h2.own.lt _ e.symm).1; omega))).frozen 0
                have hc3 := ((h2.box.grown hg3 (fun e => by have := (h2.own.lt _ e.symm).1; omega))).cell 0
                simp only [List.getElem?_toArray, List.getElem?_cons_zero] at hc3
                try go_simp
                refine hK _ _ ?_
                clear hK K
                try simp only [Act.put, List.setIfInBounds_toArray, List.set_cons_zero, List.set_cons_succ]
                refine wpAny_ready (rs := [5]) (by kernel_rfl) (by simp) ?_
                refine AllReady.cons rfl (fun K hK => ?_) ?_
                · skip
                  go_simp
                  refine hK _ _ ?_
                  clear hK K
                  try simp only [Act.put, List.setIfInBounds_toArray, List.set_cons_zero, List.set_cons_succ]
                  refine wpAny_done (by kernel_rfl) ?_ _
                  exact ⟨rfl, _, h3⟩
                exact AllReady.nil
              exact AllReady.nil
            exact AllReady.nil
          exact AllReady.nil
        exact AllReady.nil
      case post2 =>
        rintro e a' W2 ⟨rfl, v2, h8⟩
        rw [← HY.out, List.append_assoc, ← HS.out] at h8
        exact ⟨rfl, h8.spares, v2, h8.start⟩
  case hdone =>
    rintro D W hD ⟨v, h1⟩ _ hK
    have hc := h1.box.cell 0
    gi_wp2
    refine ⟨by simp, .inl ⟨_, _, rfl, run_takeDeferred hK, ?_⟩⟩
    have hw : (runs l).take (rc l) = runs l := List.take_of_length_le (Nat.le_refl _)
    rw [hw] at h1
    have h2 := own_kept h1.own (grownBy_putObj' W D (.deferred none)) (fun r e => by cases e; exact ⟨_, hK, rfl⟩)
    refine ⟨_, by kernel_rfl, v, rfl, own_base h2 (by omega), h1.below.trans (belowK_b (w := w) (Nat.le_refl _) W D _ _ (by rw [hsz] at hD; omega) hK rfl rfl)⟩
end Go.Proofs.YtpgdlmnhomnblaaGreatDoor
namespace Go.Proofs.YtpgdlmnhomnblaaGreatDoor
open Go.RowKit
set_option linter.unusedVariables false
set_option linter.unusedSimpArgs false
set_option maxRecDepth 100000
set_option maxHeartbeats 1000000 in
theorem lit_plain (A : Option Addr) (n c g1 g2 : Nat) (o : List Vl) (w : World) (hr : Reads w w.heap.size 3 A n (vs o)) (hn : n ≤ 65536) (hi : ∀ z ∈ nums o, In64 z) (h1 : FnAt w g1 73) (h2 : FnAt w g2 75) :
    Calls Tryz.prog 106 #[.slice A n c, .pointer (some ⟨g1, 0, none⟩), .pointer (some ⟨g2, 0, none⟩)] w (NewE w (pl (nums o)) 0) := by
  have HF := Lib.hid fun (A1 : Option Addr) (c1 : Nat) (W : World) (r : Reads W W.heap.size 1 A1 n (zs (nums o))) => plPut_any A1 n c1 _ W r hi hn
  obtain ⟨B, hB⟩ : ∃ B, pl (nums o) = B := ⟨_, rfl⟩
  rw [hB] at HF ⊢
  have HF1 := Lib.hid h1
  have HE := Lib.hid (eachN_any A n c o w.drew hr.drew hn)
  have c1 : w.cell? ⟨g1, 0, none⟩ = some (.func (.func 73) #[] #[]) := h1
  have c2 : w.cell? ⟨g2, 0, none⟩ = some (.func (.func 75) #[] #[]) := h2
  clear h1 h2 hB
  go_enter Tryz.func106, Tryz.ntmps106
  go_wp2_with fail
  go_region_with (first
    | (go_at_call 107; refine HE.out.mono ?_; rintro e w1 ⟨v, rfl, hown, hb⟩; obtain ⟨A1, c1', rfl, _, _, r1⟩ := own_slice hown; have c11 : w1.cell? ⟨g1, 0, none⟩ = some (.func (.func 73) #[] #[]) := FnAt.below (w := w.drew) HF1.out hb)
    | (go_at_call 73; refine (HF.out _ _ _ r1).mono ?_; rintro e w2 ⟨v2, rfl, hown2, hb2⟩))
  all_goals
    go_wp2_with fail
    go_ret2
    exact ⟨_, rfl, own_base hown2 hb.size, (Drawn.one w 1).below (Below.refl w.heap.size w) |>.trans (hb.trans (hb2.mono hb.size))⟩
set_option maxHeartbeats 1000000 in
theorem lit_runs (A : Option Addr) (n c g1 g2 : Nat) (o : List Vl) (w : World) (hr : Reads w w.heap.size 3 A n (vs o)) (hn : n ≤ 65536) (hi : ∀ z ∈ nums o, In64 z) (h1 : FnAt w g1 77) (h2 : FnAt w g2 75) :
    Calls Tryz.prog 106 #[.slice A n c, .pointer (some ⟨g1, 0, none⟩), .pointer (some ⟨g2, 0, none⟩)] w (NewE w (rf (runs (nums o))) 0) := by
  have HF := Lib.hid fun (A1 : Option Addr) (c1 : Nat) (W : World) (r : Reads W W.heap.size 1 A1 n (zs (nums o))) => rnPut_any A1 n c1 _ W r hi hn
  obtain ⟨B, hB⟩ : ∃ B, rf (runs (nums o)) = B := ⟨_, rfl⟩
  rw [hB] at HF ⊢
  have HF1 := Lib.hid h1
  have HE := Lib.hid (eachN_any A n c o w.drew hr.drew hn)
  have c1 : w.cell? ⟨g1, 0, none⟩ = some (.func (.func 77) #[] #[]) := h1
  have c2 : w.cell? ⟨g2, 0, none⟩ = some (.func (.func 75) #[] #[]) := h2
  clear h1 h2 hB
  go_enter Tryz.func106, Tryz.ntmps106
  go_wp2_with fail
  go_region_with (first
    | (go_at_call 107; refine HE.out.mono ?_; rintro e w1 ⟨v, rfl, hown, hb⟩; obtain ⟨A1, c1', rfl, _, _, r1⟩ := own_slice hown; have c11 : w1.cell? ⟨g1, 0, none⟩ = some (.func (.func 77) #[] #[]) := FnAt.below (w := w.drew) HF1.out hb)
    | (go_at_call 77; refine (HF.out _ _ _ r1).mono ?_; rintro e w2 ⟨v2, rfl, hown2, hb2⟩))
  all_goals
    go_wp2_with fail
    go_ret2
    exact ⟨_, rfl, own_base hown2 hb.size, (Drawn.one w 1).below (Below.refl w.heap.size w) |>.trans (hb.trans (hb2.mono hb.size))⟩
end Go.Proofs.YtpgdlmnhomnblaaGreatDoor
namespace Go.Proofs.YtpgdlmnhomnblaaGreatDoor
open Go.RowKit
set_option linter.unusedVariables false
set_option linter.unusedSimpArgs false
set_option maxRecDepth 100000
def us (l : List Nat) : List Value := l.map fun b : Nat => Value.int .u64 (b : Int)
theorem us_append (l m : List Nat) : us (l ++ m) = us l ++ us m := by simp [us]
theorem us_length (l : List Nat) : (us l).length = l.length := by simp [us]
theorem us_at {l : List Nat} {k : Nat} {u : Value} (h : (us l)[k]? = some u) : ∃ b, l[k]? = some b ∧ u = .int .u64 (b : Int) := by
  unfold us at h
  rw [List.getElem?_map] at h
  cases hb : l[k]? with
  | none => rw [hb] at h; cases h
  | some b => rw [hb] at h; injection h with h; exact ⟨b, rfl, h.symm⟩
theorem us_get {l : List Nat} {k a : Nat} (h : l[k]? = some a) : (us l)[k]? = some (.int .u64 (a : Int)) := by unfold us; rw [List.getElem?_map, h]; rfl
theorem us_snoc (xs : List Value) (l : List Nat) (b : Nat) (z : Int) (h : z = (b : Int)) : xs ++ us l ++ [Value.int .u64 z] = xs ++ us (l ++ [b]) := by
  subst h; simp [us]
theorem info_u64 : (Tryz.prog.info? 131).map (fun i => (i.zero, i.size, i.bytes)) = some (some (.int .u64 0), 1, 8) := by kernel_rfl
theorem run_make_u64 (n c : Nat) (hnc : n ≤ c) (hc : c ≤ 35184372088832) (w : World) :
    (Instr.makeSlice 160 (.int .i64 (n : Int)) (.int .i64 (c : Int))).run Tryz.prog w = .ok (.slice (some ⟨w.heap.size, 0, none⟩) n c) (w.alloc (.cells (madeCells #[.int .u64 0] c) 131)) := by
  obtain ⟨i, hi, hz0, hz1, hz2⟩ := info_parts info_u64
  have hr := run_make (P := Tryz.prog) w 160 131 i _ Tryz.underlying160 hi hz0 .i64 .i64 n c (by omega) (by omega) (by rw [hz2]; omega) (by omega)
  rw [hz1] at hr
  simpa [Value.cells] using hr
def New64 (w : World) (xs : List Value) (n : Nat) (e : Ending) (w' : World) : Prop := ∃ v, e = .returned v ∧ w'.ownsRow w.heap.size 131 1 v n xs ∧ Below w.heap.size w w'
end Go.Proofs.YtpgdlmnhomnblaaGreatDoor
