/- Contract of package runs' Get: the numbers in new memory, or the error's number. -/
import Derived.Test.YthlfplljbbnaoaaGreatDoorRnIter
import Derived.Test.YthlfplljbbnaoaaGreatDoorJ24
import Derived.Test.YthlfplljbbnaoaaGreatDoorJ16
namespace Go.Proofs.YthlfplljbbnaoaaGreatDoor
open Go.RowKit
set_option linter.unusedVariables false
set_option linter.unusedSimpArgs false
set_option maxRecDepth 100000
attribute [local go_sem] Oper.semAt_some wide_fn wide_depth

theorem rnGet_no (A : Option Addr) (n c : Nat) (b : List Nat) (k : Int) (w : World) (h : k < 0 ∨ 65536 < k) :
    Calls Tryz.prog 47 #[.slice A n c, .int .i64 k] w (NewLE w (rS b k) (rE b k)) := by
  have h1 : rE b k = 1 := by unfold rE; rw [if_pos h]
  have h2 : rS b k = [] := by unfold rS; rw [if_neg (by omega)]
  rw [h1, h2]
  clear h1 h2
  by_cases hk : k < 0
  · clear h
    go_enter Tryz.func47, Tryz.ntmps47
    go_wp2_with fail
    go_ret2
    exact ⟨.slice none 0 0, rfl, own_nil _ _ _ _, Below.refl _ _⟩
  · have d1 : decide (k < 0) = false := by simp; omega
    have h2 : 65536 < k := by omega
    clear h
    go_enter Tryz.func47, Tryz.ntmps47
    go_wp2_with fail
    go_ret2
    exact ⟨.slice none 0 0, rfl, own_nil _ _ _ _, Below.refl _ _⟩
/-- In the round: the variable's box, its row, and what stands. -/
structure GetV (w : World) (h : Nat) (W0 : World) (v : Value) (xs : List Int) (W : World) : Prop where
  box : Blk W (h + 1) 87 #[v]
  own : W.ownsRow h 2 1 v xs.length (zs xs)
  blk : ∀ j, v.ownBlock = some j → j = h ∨ h + 4 ≤ j
  below : Below w.heap.size w W
  base : w.heap.size ≤ h
  size : h + 4 ≤ W.heap.size
  spares : Spares (h + 4) (ReadX h (h + 2) (h + 3)) W0 W
theorem RdS.kept {A B : World} {g at_ : Nat} {l : List Nat} {x : Option (Int × Nat)} {row : Option Nat} (h : RdS A g l at_ x) (hg : A.grownBy B row) (hr : ∀ r, row = some r → ∃ o : Obj, A.heap[r]? = some o ∧ o.isCells = false) : RdS B g l at_ x := by
  have hb : ∀ f t cs, Blk A f t cs → Blk B f t cs := fun f t cs hf => (grownBy_keeps_cells hg hr hf rfl).trans hf
  obtain ⟨Ad, n, c, err, hR, hE⟩ := h
  refine ⟨Ad, n, c, err, ⟨hb _ _ _ hR.blk, ⟨hR.reads.1, fun hn => ?_⟩, hR.cap, hR.place, hR.size, hR.byte⟩, hE.next fun f t cs hf _ => hb f t cs hf⟩
  obtain ⟨ad, e, hlt, hc⟩ := hR.reads.2 hn
  exact ⟨ad, e, hlt, fun j u hu => cell_kept (hc j u hu) hg hr⟩
theorem GetV.cells {w W0 W : World} {h : Nat} {v : Value} {xs : List Int} (s : GetV w h W0 v xs W) : W.cell? ⟨h + 1, 0, none⟩ = some v := by rw [s.box.cell]; rfl
theorem GetV.far {w W0 W : World} {h : Nat} {v : Value} {xs : List Int} (s : GetV w h W0 v xs W) : ∀ k, ReadX h (h + 2) (h + 3) k → k < W.heap.size := fun k hk => by have := s.size; rcases hk with hk | hk | hk <;> omega
theorem GetV.next {w W0 W W' : World} {h : Nat} {v : Value} {xs : List Int} (s : GetV w h W0 v xs W) (hb : Below W.heap.size W W') : GetV w h W0 v xs W' :=
  ⟨s.box.below hb s.box.lt, own_below s.own hb, s.blk, s.below.trans (hb.mono s.below.size), s.base, Nat.le_trans s.size hb.size, s.spares.below s.far hb⟩
theorem GetV.start {w W0 W : World} {h : Nat} {v : Value} {xs : List Int} (s : GetV w h W0 v xs W) : GetV w h W v xs W := ⟨s.box, s.own, s.blk, s.below, s.base, s.size, Spares.refl _ _ _⟩
theorem GetV.put {w W0 W W' : World} {h : Nat} {v v' : Value} {xs ys : List Int} (s : GetV w h W0 v xs W) (hown : W'.ownsRow h 2 1 v' (xs.length + ys.length) (zs xs ++ zs ys)) (hg : W.grownBy W' v.ownBlock)
    (hat : v'.ownBlock = v.ownBlock ∨ v'.ownBlock = some W.heap.size) : GetV w h W0 v' (xs ++ ys) (W'.setCell ⟨h + 1, 0, none⟩ v') := by
  have hset : W'.grownBy (W'.setCell ⟨h + 1, 0, none⟩ v') (some (h + 1)) := only_setCell (World.grownBy.refl W' _) (.inl rfl) _
  have hsz := s.size
  have hblk : ∀ j, v'.ownBlock = some j → j = h ∨ h + 4 ≤ j := fun j hj => by
    rcases hat with e | e
    · exact s.blk j (e ▸ hj)
    · rw [e] at hj
      injection hj with hj
      omega
  refine ⟨?_, ?_, hblk, ?_, s.base, ?_, ?_⟩
  · have := (s.box.grown hg (fun e => by have := s.blk _ e.symm; omega)).set_ 0 v'
    simpa using this
  · rw [← zs_append, ← List.length_append] at hown
    refine hown.kept hset ?_
    cases hv : v'.ownBlock with
    | none => exact .inl rfl
    | some j =>
      refine .inr fun e => ?_
      injection e with e
      have := hblk j hv
      omega
  · exact (s.below.grown hg s.below.size (fun k hk => by have := (s.own.lt k hk).1; have := s.base; omega)).setCell (p := ⟨h + 1, 0, none⟩) (by have := s.base; show w.heap.size ≤ h + 1; omega) _
  · exact Nat.le_trans (Nat.le_trans s.size hg.size) (by simp)
  · refine (s.spares.grown hg s.far (fun j hj => ?_)).setCell (p := ⟨h + 1, 0, none⟩) ?_ _
    · obtain ⟨h1, h2⟩ := own_cells s.own hj
      have h3 := s.blk j hj
      exact ⟨fun hk => by rcases hk with hk | hk | hk <;> omega, h2⟩
    · intro hk
      change h + 1 < h ∨ h + 1 = h + 2 ∨ h + 1 = h + 3 at hk
      omega
/-- What the loop has read by then. -/
def GetI (w : World) (h : Nat) (b : List Nat) (k : Nat) (W : World) : Prop := ∃ v, GetV w h W v (expd (rr b k)) W
set_option maxHeartbeats 2000000 in
theorem rnGet_ok (A : Option Addr) (n c N : Nat) (b : List Nat) (w : World) (hr : Reads w w.heap.size 1 A n (bs b)) (hb : ∀ x ∈ b, x < 256) (hn : n ≤ 140737488355328) (hN : N ≤ 65536) (hmet : Met w) :
    Calls Tryz.prog 47 #[.slice A n c, .int .i64 (N : Int)] w (NewLE w (rS b (N : Int)) (rE b (N : Int))) := by
  obtain ⟨i1, hi1, hy0, hy1, hy2⟩ := info_parts info_i64
  have d1 : decide ((N : Int) < 0) = false := by simp
  have d2 : decide ((65536 : Int) < (N : Int)) = false := by simp; omega
  have hmk : ∀ W : World, (Instr.makeSlice 87 (.int .i64 0) (.int .i64 (N : Int))).run Tryz.prog W = .ok (.slice (some ⟨W.heap.size, 0, none⟩) 0 N) (W.alloc (.cells (madeCells #[.int .i64 0] N) 2)) := fun W => by
    have := run_make_i64 0 N (Nat.zero_le _) (by omega) W
    simpa using this
  have hrE : rE b (N : Int) = rEnd b N := by unfold rE; rw [if_neg (by omega), Int.toNat_natCast]
  have hrS : rS b (N : Int) = if rEnd b N = 0 then expd (rr b (rK b N)) else [] := by unfold rS; rw [hrE, Int.toNat_natCast]
  have HE := Lib.hid hrE; have HS := Lib.hid hrS
  have hle := (rK_none (b := b) (N := N) _ (Nat.le_refl _)).2
  have HLE := Lib.hid hle
  have HB := Lib.hid hb
  have hml : 0 < w.heap.size := World.block_lt_of_cell? _ _ hmet
  clear hb hrE hrS hle
  refine (callsIn_wide (n := 0)).1 ?_
  refine callsIn_of_wp_marks Tryz.func47 rfl trivial ?_ rfl
  simp only [Tryz.ntmps47, List.size_toArray, List.length_cons, List.length_nil, Nat.reduceAdd, Nat.reduceSub, Array.replicate_succ, Array.replicate_zero, List.push_toArray, List.append_toArray, List.nil_append, List.cons_append]
  gi_wp2_with fail
  refine (callsIn_wide.2 (newReader_any A n c b w hr hn HB.out)).mono ?_
  rintro e w1 ⟨g, A1, c1, rfl, hg, hR1, hb1⟩
  have hS1 := rd_new hR1
  have hg1 := hS1.lt
  have hm1 := hmet.next hb1
  clear hR1 hr
  gi_wp2_with fail
  clear hmk
  refine (callsIn_wide.2 (read_any (some ⟨g, 0, none⟩) (N : Int) _)).mono ?_
  rintro e w' ⟨rfl, rfl⟩
  gi_wp2
  obtain ⟨h, hh⟩ : ∃ h, w1.heap.size = h := ⟨_, rfl⟩
  obtain ⟨W0, hW0⟩ : ∃ W0, ((((w1.alloc (.cells (madeCells #[.int .i64 0] N) 2)).alloc (.cells #[.slice (some ⟨w1.heap.size, 0, none⟩) 0 N] 87)).alloc (.cells #[.pointer (some ⟨g, 0, none⟩)] 58)).alloc (.cells #[.int .i64 (N : Int)] 3)) = W0 := ⟨_, rfl⟩
  rw [hW0]
  have hb0 : Below w1.heap.size w1 W0 := by
    rw [← hW0]
    exact ((((Below.refl _ w1).alloc (Nat.le_refl _) _).alloc (by simp) _).alloc (by simp; omega) _).alloc (by simp; omega) _
  have hsz : W0.heap.size = h + 4 := by rw [← hW0]; simp; omega
  have hown : W0.ownsRow h 2 1 (.slice (some ⟨h, 0, none⟩) 0 N) 0 (zs []) := by
    rw [← hW0, ← hh]
    exact (((World.ownsRow_made w1 _ _ (Nat.le_refl _) (by unfold maxLen; omega) (by rw [size_madeCells]; simp)).alloc _).alloc _).alloc _
  have hbox : Blk W0 (h + 1) 87 #[.slice (some ⟨h, 0, none⟩) 0 N] := by
    have := ((Blk.new (w1.alloc (.cells (madeCells #[.int .i64 0] N) 2)) 87 #[.slice (some ⟨w1.heap.size, 0, none⟩) 0 N]).alloc (.cells #[.pointer (some ⟨g, 0, none⟩)] 58)).alloc (.cells #[.int .i64 (N : Int)] 3)
    rw [hW0, World.size_alloc, hh] at this
    exact this
  have hrb : Blk W0 (h + 2) 58 #[.pointer (some ⟨g, 0, none⟩)] := by
    have := (Blk.new ((w1.alloc (.cells (madeCells #[.int .i64 0] N) 2)).alloc (.cells #[.slice (some ⟨w1.heap.size, 0, none⟩) 0 N] 87)) 58 #[.pointer (some ⟨g, 0, none⟩)]).alloc (.cells #[.int .i64 (N : Int)] 3)
    rw [hW0, World.size_alloc, World.size_alloc, hh] at this
    exact this
  have hnb : Blk W0 (h + 3) 3 #[.int .i64 (N : Int)] := by
    have := Blk.new (((w1.alloc (.cells (madeCells #[.int .i64 0] N) 2)).alloc (.cells #[.slice (some ⟨w1.heap.size, 0, none⟩) 0 N] 87)).alloc (.cells #[.pointer (some ⟨g, 0, none⟩)] 58)) 3 #[.int .i64 (N : Int)]
    rw [hW0, World.size_alloc, World.size_alloc, World.size_alloc, hh] at this
    exact this
  have hS0 := hS1.next hb0
  have hm0 := hm1.next hb0
  have hbw := hb1.trans (hb0.mono hb1.size)
  have hwh : w.heap.size ≤ h := by have := hb1.size; omega
  rw [hh] at hg1 ⊢
  simp only [Nat.add_assoc, Nat.reduceAdd]
  clear hW0 hb0 hb1 hS1 hm1 hh
  refine range_gives (gf := 143) (lb := #[.pointer (some ⟨h + 3, 0, none⟩), .pointer (some ⟨h + 2, 0, none⟩)]) rfl (enters_of Tryz.func143 (by kernel_rfl) rfl)
    (read1_gives g (h + 2) (h + 3) h N b W0 hS0 hrb hnb hm0 (by omega) hg1 (by omega) (by omega) (by omega) hN HB.out)
    (fun k hk => by rw [hsz]; rcases hk with hk | hk | hk <;> omega) (fun k hk => by rw [hsz]; omega) (fun _ => rfl)
    (GetI w h b)
    (fun k => { tmps := #[.slice A n c, .int .i64 (N : Int), undef, undef, .slice none 0 0, .int .i64 0, .pointer (some ⟨g, 0, none⟩), .pointer (some ⟨h + 1, 0, none⟩), .int .i64 (num b k), .int .i64 ((how b k + 1 : Nat) : Int), undef, undef, .int .i64 (N : Int), .bool false, .bool false, .int .i64 (N : Int), .bool false, .bool false, .slice A n c, .pointer (some ⟨g, 0, none⟩), .int .i64 (N : Int), .slice (some ⟨h, 0, none⟩) 0 N, .pointer (some ⟨g, 0, none⟩), .int .i64 (N : Int), .func (.func 143) #[] #[.pointer (some ⟨h + 3, 0, none⟩), .pointer (some ⟨h + 2, 0, none⟩)], .int .i64 (num b k), .int .i64 ((how b k + 1 : Nat) : Int), undef, undef, undef, undef, undef, undef, undef, undef, undef, undef, undef, undef, undef, undef, undef, undef, undef], defers := [] })
    ⟨_, hbox, hown, fun j hj => .inl (by simpa [Value.ownBlock] using hj.symm), hbw, hwh, by omega, Spares.refl _ _ _⟩ ?hIn ?hIy ?hT ?hassign ?hbody ?hdone
  case hIn =>
    rintro k X Y row ⟨v, s⟩ hg' hrow
    rw [hsz] at hrow
    exact ⟨v, s.box.grown hg' (fun e => by have := (hrow _ e.symm).1; omega), own_kept s.own hg' (fun r e => (hrow r e).2), s.blk, s.below.grown hg' s.below.size (fun j hj => by have := (hrow _ hj).1; omega), s.base, Nat.le_trans s.size hg'.size, Spares.refl _ _ _⟩
  case hIy =>
    rintro k X Y row ⟨v, s⟩ hg' hrow
    exact ⟨v, s.box.grown hg' (fun e => by have := hrow _ e.symm; omega), own_before s.own hg' (fun r e => by have := hrow _ e; omega), s.blk, s.below.grown hg' s.below.size (fun j hj => by have := hrow _ hj; omega), s.base, Nat.le_trans s.size hg'.size, Spares.refl _ _ _⟩
  case hT =>
    rintro X Y row ⟨at_, x, hS, hE⟩ hg' hrow
    exact ⟨at_, x, hS.kept hg' (fun r e => (hrow r e).2), hE⟩
  case hassign =>
    intro lp k W K hK
    unfold elG
    gi_wp2
    simpa using hK
  case hbody =>
    rintro lp k W hk hs ⟨v, s0⟩
    rw [hsz]
    dsimp only
    have htk := (rK_none (b := b) (N := N) (k + 1) hk).2
    rw [tot_succ] at htk
    have HT : Hid (expd (rr b (k + 1)) = expd (rr b k) ++ List.replicate (how b k + 1) (num b k)) := by
      rw [rr_succ, expd_append, expd_one]; exact Lib.hid rfl
    have hxl : (expd (rr b k)).length = tot b k := rfl
    generalize how b k + 1 = m at *
    generalize num b k = V at *
    generalize expd (rr b k) = xs at *
    clear hs
    gi_wp2
    gi_loopw [28] (fun s28 wr => ∃ (j : Nat) (v : Value), j ≤ m ∧ s28 = .int .i64 (j : Int) ∧ GetV w h W v (xs ++ List.replicate j V) wr) (fun s28 _ => m - (intOf s28).toNat)
    case atStart => exact ⟨0, v, Nat.zero_le _, rfl, by simpa using s0.start⟩
    case round =>
      clear s0
      obtain ⟨j, v, hj, rfl, s⟩ := hrel
      have hyl : (xs ++ List.replicate j V).length = tot b k + j := by rw [List.length_append, List.length_replicate, hxl]
      have HR := Lib.hid (List.replicate_succ' (n := j) (a := V))
      generalize hys : xs ++ List.replicate j V = ys at s hyl
      have HY := Lib.hid hys
      have hown := s.own
      rw [hyl] at hown
      obtain ⟨Av, cv, rfl, _, _, _⟩ := own_slice hown
      clear hys
      by_cases hlt : j < m
      · have hc := s.cells
        have s1 := s.next ((Below.refl wr.heap.size wr).alloc (Nat.le_refl _) (.cells #[.int .i64 V] 2))
        have hown1 := s1.own
        rw [hyl] at hown1
        gi_wp2_with (gi_at_builtin
                     refine wpListIn_append_any rfl (.tmp 30) (.tmp 32) _ rfl h 2 i1 _ 1 8 Tryz.underlying87 hi1 hy0 hy1 hy2 rfl (by omega) (.slice Av (tot b k + j) cv) (tot b k + j) (zs ys) rfl
                       hown1 (wr.heap.size + 1) (some ⟨wr.heap.size, 0, none⟩) 1 1 [.int .i64 V] rfl (Reads.new wr _ _) (one_int _ _) (by unfold maxLen; omega) (by omega) (by have := s.size; simp; omega) ?_
                     intro v3 w3 hown3 hg3 hat3
                     obtain ⟨A3, c3, rfl, _, _, _⟩ := own_slice hown3
                     have hbx := s1.box.grown hg3 (fun e => by have := s1.blk _ e.symm; omega)
                     have hc3 := hbx.cell 0
                     have hf3 := hbx.frozen 0
                     simp only [List.getElem?_toArray, List.getElem?_cons_zero] at hc3)
        go_roundw
        case rel =>
          have s2 := s1.put (ys := [V]) (by rw [hyl]; exact hown3) hg3 hat3
          rw [← HY.out, List.append_assoc, ← HR.out] at s2
          exact ⟨j + 1, _, by omega, by go_num, s2⟩
        case measure => simp [intOf]; omega
      · obtain rfl : j = m := by omega
        gi_wp2
        refine ⟨s.spares, .slice Av (tot b k + j) cv, ?_⟩
        rw [HT.out, HY.out]
        exact s.start
  case hdone =>
    rintro D W hD ⟨v, s⟩ ⟨at_, x, hS, hE2⟩ hK
    have hm := hmet.next s.below
    obtain ⟨r, hr0⟩ : ∃ r, r = (endS b at_ x).1 := ⟨_, rfl⟩
    obtain ⟨o, ho⟩ : ∃ o : Int, o = ((endS b at_ x).2 : Int) := ⟨_, rfl⟩
    have hcall : Calls Tryz.prog 91 #[.pointer (some ⟨g, 0, none⟩)] W fun e w' => e = .returned (.tuple #[.int .i64 r, .int .i64 o]) ∧ Below W.heap.size W w' := by
      rw [hr0, ho]; exact end_is hm hS
    have HC := Lib.hid hcall
    rw [← hr0] at hE2
    rw [← hE2] at HE HS
    have HRE := Lib.hid hE2
    clear hcall hr0 ho hE2 hm hS
    gi_wp2
    refine (callsIn_wide.2 HC.out).mono ?_
    rintro e W2 ⟨rfl, hb2⟩
    have hK2 : W2.heap[D]? = some (.deferred (some [])) := (hb2.block D (Array.getElem?_eq_some_iff.1 hK).1).trans hK
    have s2 := s.next hb2
    have hB2 : Below w.heap.size w (W2.putObj D (.deferred none)) := s2.below.trans (belowK_b (w := w) (Nat.le_refl _) W2 D _ _ (by rw [hsz] at hD; omega) hK2 rfl rfl)
    by_cases h0 : r = 0
    · subst h0
      have hc := s2.cells
      have h3 := own_kept s2.own (grownBy_putObj' W2 D (.deferred none)) (fun r e => by cases e; exact ⟨_, hK2, rfl⟩)
      gi_wp2
      refine ⟨by simp, .inl ⟨_, _, rfl, run_takeDeferred hK2, ?_⟩⟩
      rw [HS.out, HE.out, if_pos trivial]
      exact ⟨_, by kernel_rfl, v, rfl, own_base h3 hwh, hB2⟩
    · have q1 : (r == 0) = false := by simp [h0]
      have q2 : (r != 0) = true := by simp [h0]
      have H0 := Lib.hid h0
      clear h0
      gi_wp2
      refine ⟨by simp, .inl ⟨_, _, rfl, run_takeDeferred hK2, ?_⟩⟩
      rw [HS.out, HE.out, if_neg H0.out]
      exact ⟨_, by kernel_rfl, .slice none 0 0, rfl, own_nil _ _ _ _, hB2⟩
theorem rnGet_any (A : Option Addr) (n c : Nat) (k : Int) (b : List Nat) (w : World) (hr : Reads w w.heap.size 1 A n (bs b)) (hb : ∀ x ∈ b, x < 256) (hn : n ≤ 140737488355328) (hmet : Met w) :
    Calls Tryz.prog 47 #[.slice A n c, .int .i64 k] w (NewLE w (rS b k) (rE b k)) := by
  by_cases h : k < 0 ∨ 65536 < k
  · exact rnGet_no A n c b k w h
  · obtain ⟨N, rfl⟩ : ∃ N : Nat, k = (N : Int) := ⟨k.toNat, by omega⟩
    exact rnGet_ok A n c N b w hr hb hn (by omega) hmet
end Go.Proofs.YthlfplljbbnaoaaGreatDoor
