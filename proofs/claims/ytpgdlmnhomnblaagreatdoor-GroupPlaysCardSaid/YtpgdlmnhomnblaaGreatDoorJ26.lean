import Derived.Test.YtpgdlmnhomnblaaGreatDoorJ8
import Derived.Test.YtpgdlmnhomnblaaGreatDoorJ3
import Derived.Test.YtpgdlmnhomnblaaGreatDoorJ25
namespace Go.Proofs.YtpgdlmnhomnblaaGreatDoor
open Go.RowKit
set_option linter.unusedVariables false
set_option linter.unusedSimpArgs false
set_option maxRecDepth 100000
structure Wk (w : World) (B g : Nat) (o : Value) (L : List Nat) (N : Nat) : Prop where
  blk : Blk w g 133 (workL (st8 L).list o N)
  own : w.ownsRow B 5 1 o (L.length % 64) (bs (opn L))
  far : o.ownBlock ≠ some g
  base : B ≤ g
  byte : ∀ b ∈ L, b < 256
theorem Wk.ok {w : World} {B g : Nat} {o : Value} {L : List Nat} {N : Nat} (_h : Wk w B g o L N) : (st8 L).ok := blks_ok s0_ok _ _
theorem Wk.lt {w : World} {B g : Nat} {o : Value} {L : List Nat} {N : Nat} (h : Wk w B g o L N) : g < w.heap.size := h.blk.lt
theorem Wk.below {w w' : World} {B g : Nat} {o : Value} {L : List Nat} {N : Nat} (h : Wk w B g o L N) (hb : Below w.heap.size w w') : Wk w' B g o L N :=
  ⟨h.blk.below hb h.lt, own_below h.own hb, h.far, h.base, h.byte⟩
def Pt (w : World) (g : Nat) (o : Value) (A : Option Addr) (n : Nat) (l : List Nat) : Prop :=
  Reads w w.heap.size 1 A n (bs l) ∧ (0 < n → ∀ ad, A = some ad → ad.block ≠ g ∧ some ad.block ≠ o.ownBlock)
theorem Pt.len {w : World} {g : Nat} {o : Value} {A : Option Addr} {n : Nat} {l : List Nat} (h : Pt w g o A n l) : l.length = n := by
  have := h.1.1; rw [bs_length] at this; omega
theorem Pt.grown {w w' : World} {g : Nat} {o : Value} {A : Option Addr} {n : Nat} {l : List Nat} (h : Pt w g o A n l) (hg : w.grownBy w' (some g)) : Pt w' g o A n l := by
  refine ⟨⟨h.1.1, fun hn => ?_⟩, h.2⟩
  obtain ⟨ad, had, hlt, hc⟩ := h.1.2 hn
  exact ⟨ad, had, Nat.lt_of_lt_of_le hlt hg.size, fun j u hu => hg.cell (hc j u hu) (by rw [block_of_add]; simpa using (h.2 hn ad had).1)⟩
theorem Pt.grownOwn {w w' : World} {g : Nat} {o o' : Value} {A : Option Addr} {n : Nat} {l : List Nat} (h : Pt w g o A n l) (hg : w.grownBy w' o.ownBlock) (ho : o'.ownBlock = o.ownBlock ∨ o'.ownBlock = some w.heap.size) : Pt w' g o' A n l := by
  refine ⟨⟨h.1.1, fun hn => ?_⟩, fun hn ad had => ⟨(h.2 hn ad had).1, ?_⟩⟩
  · obtain ⟨ad, had, hlt, hc⟩ := h.1.2 hn
    exact ⟨ad, had, Nat.lt_of_lt_of_le hlt hg.size, fun j u hu => hg.cell (hc j u hu) (by rw [block_of_add]; exact (h.2 hn ad had).2)⟩
  · rcases ho with ho | ho
    · rw [ho]; exact (h.2 hn ad had).2
    · obtain ⟨ad', had', hlt, _⟩ := h.1.2 hn
      rw [had] at had'
      injection had' with had'
      subst had'
      rw [ho]
      intro e
      injection e with e
      omega
theorem Pt.cut {w : World} {g : Nat} {o : Value} {A : Option Addr} {n : Nat} {l : List Nat} (h : Pt w g o A n l) {k c : Nat} (hk : k ≤ n) (hc : n ≤ c) : Pt w g o (if c = k then A else A.map (·.add k)) (n - k) (l.drop k) := by
  refine ⟨by have := h.1.cut (k := k) hk hc; simpa [bs_drop] using this, fun hn ad had => ?_⟩
  rw [if_neg (by omega)] at had
  obtain ⟨ad', had', _, _⟩ := h.1.2 (by omega)
  rw [had'] at had
  simp only [Option.map_some, Option.some.injEq] at had
  subst had
  rw [block_of_add]
  exact h.2 (by omega) ad' had'
theorem Pt.fore {w : World} {g : Nat} {o : Value} {A : Option Addr} {n : Nat} {l : List Nat} (h : Pt w g o A n l) {k : Nat} (hk : k ≤ n) : Pt w g o A k (l.take k) :=
  ⟨by have := h.1.fore (k := k) hk; simpa [bs_take] using this, fun hn ad had => h.2 (by omega) ad had⟩
theorem Pt.of_below {w : World} {B g : Nat} {o : Value} {L : List Nat} {N : Nat} (hk : Wk w B g o L N) {A : Option Addr} {n : Nat} {l : List Nat} (h : Reads w B 1 A n (bs l)) : Pt w g o A n l := by
  refine ⟨h.more (Nat.le_trans hk.base (Nat.le_of_lt hk.lt)), fun hn ad had => ?_⟩
  obtain ⟨ad', had', hlt, _⟩ := h.2 hn
  rw [had] at had'
  injection had' with had'
  subst had'
  refine ⟨fun e => ?_, fun e => ?_⟩
  · have := hk.base; omega
  · have := (hk.own.lt _ e.symm).1; omega
theorem Pt.of_new {w w' : World} {B g : Nat} {o : Value} {L : List Nat} {N : Nat} (hk : Wk w B g o L N) {t : TypeId} {v : Value} {n : Nat} {l : List Nat} (h : w'.ownsRow w.heap.size t 1 v n (bs l)) {A : Option Addr} {c : Nat} (hv : v = .slice A n c) (hs : w.heap.size ≤ w'.heap.size) : Pt w' g o A n l := by
  subst hv
  refine ⟨Reads.of_own h, fun hn ad had => ?_⟩
  subst had
  have h1 := (h.lt ad.block rfl).1
  exact ⟨fun e => by have := hk.lt; omega, fun e => by have := (hk.own.lt _ e.symm).2; omega⟩
def BegunTo (w : World) (e : Ending) (w' : World) : Prop := ∃ g o, e = .returned (.pointer (some ⟨g, 0, none⟩)) ∧ Wk w' w.heap.size g o [] 0 ∧ Below w.heap.size w w'
set_option maxHeartbeats 1000000 in
theorem begun_any (w : World) : Calls Tryz.prog 48 #[] w (BegunTo w) := by
  have hmk : ∀ W : World, (Instr.makeSlice 66 (.int .i64 0) (.int .i64 64)).run Tryz.prog W = .ok (.slice (some ⟨W.heap.size, 0, none⟩) 0 64) (W.alloc (.cells (madeCells #[.int .u8 0] 64) 5)) := fun W => run_make_u8 64 (by omega) W
  go_enter Tryz.func48, Tryz.ntmps48
  go_wp2_with fail
  go_ret
  refine ⟨w.heap.size + 1, .slice (some ⟨w.heap.size, 0, none⟩) 0 64, rfl, ⟨?_, ?_, ?_, ?_, ?_⟩, ((Below.refl _ _).alloc (Nat.le_refl _) _).alloc (by simp) _⟩
  · have h := Blk.new (w.alloc (.cells (madeCells #[.int .u8 0] 64) 5)) 133 (workL s0.list (.slice (some ⟨w.heap.size, 0, none⟩) 0 64) 0)
    have e : workL s0.list (.slice (some ⟨w.heap.size, 0, none⟩) 0 64) 0 = #[.int .u32 1779033703, .int .u32 3144134277, .int .u32 1013904242, .int .u32 2773480762, .int .u32 1359893119, .int .u32 2600822924, .int .u32 528734635, .int .u32 1541459225, .slice (some ⟨w.heap.size, 0, none⟩) 0 64, .int .u64 0] := by
      unfold workL
      rfl
    rw [World.size_alloc] at h
    rw [show st8 [] = s0 from rfl]
    rw [e] at h ⊢
    exact h
  · have h : (w.alloc (.cells (madeCells #[.int .u8 0] 64) 5)).ownsRow w.heap.size 5 1 (.slice (some ⟨w.heap.size, 0, none⟩) 0 64) 0 [] :=
      World.ownsRow_made w _ _ (Nat.le_refl _) (by unfold maxLen; omega) (by rw [size_madeCells])
    exact h.alloc _
  · simp [Value.ownBlock]
  · omega
  · simp
end Go.Proofs.YtpgdlmnhomnblaaGreatDoor
namespace Go.Proofs.YtpgdlmnhomnblaaGreatDoor
open Go.RowKit
set_option linter.unusedVariables false
set_option linter.unusedSimpArgs false
set_option maxRecDepth 100000
theorem Drawn.cellT {w w' : World} (h : Drawn w w') (ht : ShTab w) : ∀ i, i < 64 → w'.cell? ⟨0, i, none⟩ = some (.int .u32 (tabK.getD i 0 : Int)) := by
  obtain ⟨q, rfl⟩ := h
  exact ht.drewN q
theorem Drawn.cellB {w w' : World} (h : Drawn w w') {g : Nat} {t : TypeId} {cs : Array Value} (hb : Blk w g t cs) (i : Nat) {v : Value} (hv : cs[i]? = some v) : w'.cell? ⟨g, i, none⟩ = some v := by
  obtain ⟨q, rfl⟩ := h
  rw [(hb.drewN q).cell, hv]
theorem info_u32 : (Tryz.prog.info? 129).map (fun i => (i.zero, i.size, i.bytes)) = some (some (.int .u32 0), 1, 4) := by kernel_rfl
theorem agg_u32 (W : World) : (isAgg 129).run Tryz.prog W = .ok false W := by simp [isAgg, run_underlying Tryz.underlying129]
theorem size_u32 (W : World) : (Go.sizeOf 129).run Tryz.prog W = .ok 1 W := by
  obtain ⟨i0, hi0, hz0, hz1, hz2⟩ := info_parts info_u32
  simp [Go.sizeOf, typeInfo, hi0, hz1]
def BlockTo (w : World) (g : Nat) (s : S8) (o : Value) (n : Nat) (e : Ending) (w' : World) : Prop := e = .returned (.tuple #[]) ∧ Blk w' g 133 (workL s.list o n) ∧ w.grownBy w' (some g)
set_option maxHeartbeats 4000000 in
theorem block_any (g0' : Nat) (s : S8) (o : Value) (n : Nat) (A : Option Addr) (c : Nat) (l : List Nat) (w : World) (hW : Blk w g0' 133 (workL s.list o n)) (hs : s.ok)
    (hr : Reads w w.heap.size 1 A 64 (bs l)) (hl : ∀ b ∈ l, b < 256) (hc : 64 ≤ c) (ht : ShTab w) (hne : 0 ≠ g0') :
    Calls Tryz.prog 94 #[.pointer (some ⟨g0', 0, none⟩), .slice A 64 c] w (BlockTo w g0' (blk s l) o n) := by
  have hz := (zero_of_info info_words).1
  have hsz := Lib.hid (zero_of_info info_words).2
  have HL := Lib.hid hl; clear hl
  have HW := Lib.hid hW
  have hgl := hW.lt; clear hW
  have HT := Lib.hid ht; clear ht
  have HS := Lib.hid hs; clear hs
  go_enter Tryz.func94, Tryz.ntmps94
  go_wp2_with fail
  refine (words_any A c l w hr HL.out hc).mono ?_
  rintro e w1 ⟨rfl, hb1⟩
  have HB := Lib.hid (Blk.new w1 189 (Array.replicate 64 (.int .u32 0)))
  have hts := wV_size l 64
  go_wp2_with (refine wpList_store_row (by rfl) (.tmp 4) (.tmp 19) (by rfl) (by rfl) (by rfl) HB.out (by rw [wV_size]; exact hsz.out) (by rw [wV_size]; simp) (wV_one _ _) ?_)
  have hb2 : Below w.heap.size w ((w1.alloc (.cells (Array.replicate 64 (.int .u32 0)) 189)).setRow w1.heap.size (wV l 64)) := Below.row (hb1.alloc hb1.size _) hb1.size _
  have hB2 := HB.out.row (wV l 64)
  have hsz1 := hb1.size
  obtain ⟨w2, hw2⟩ : ∃ w2 : World, w2 = (w1.alloc (.cells (Array.replicate 64 (.int .u32 0)) 189)).setRow w1.heap.size (wV l 64) := ⟨_, rfl⟩
  rw [← hw2] at hb2 hB2
  rw [← hw2]
  obtain ⟨k, hk⟩ : ∃ k, k = w1.heap.size := ⟨_, rfl⟩
  rw [← hk] at hB2 hsz1
  rw [← hk]
  clear hw2 hz hts HB hb1 hk
  have hB2' := Lib.hid hB2; clear hB2
  have hT2 := HT.out.next hb2
  have hW2 := HW.out.below hb2 hgl
  obtain ⟨s1, hs1⟩ : ∃ s1 : S8, s1 = s := ⟨_, rfl⟩
  obtain ⟨a, b, c0, d, e, f, g0, h⟩ := s
  have HS1 := Lib.hid hs1; clear hs1
  have x0 := hW2.cell 0
  rw [workL_at (x := a) rfl] at x0
  have x1 := hW2.cell 1
  rw [workL_at (x := b) rfl] at x1
  have x2 := hW2.cell 2
  rw [workL_at (x := c0) rfl] at x2
  have x3 := hW2.cell 3
  rw [workL_at (x := d) rfl] at x3
  have x4 := hW2.cell 4
  rw [workL_at (x := e) rfl] at x4
  have x5 := hW2.cell 5
  rw [workL_at (x := f) rfl] at x5
  have x6 := hW2.cell 6
  rw [workL_at (x := g0) rfl] at x6
  have x7 := hW2.cell 7
  rw [workL_at (x := h) rfl] at x7
  have HW2 := Lib.hid hW2; clear hW2
  have HT2 := Lib.hid hT2; clear hT2
  have hok := HS.out
  rw [S8.ok_iff] at hok
  simp only at hok
  have HOK := Lib.hid hok; clear hok
  go_quiet (fail)
  go_wp2_with fail
  go_quiet (fail)
  go_wp2_with fail
  go_loopg [5, 6, 7, 8, 9, 10, 11, 12, 60] 64 (fun gk s5 s6 s7 s8 s9 s10 s11 s12 s60 wr => ∃ t a b c d e f g h : Nat, t + gk = 64 ∧ s60 = .int .i64 (t : Int) ∧ s5 = .int .u32 (a : Int) ∧ s6 = .int .u32 (b : Int) ∧ s7 = .int .u32 (c : Int) ∧ s8 = .int .u32 (d : Int) ∧ s9 = .int .u32 (e : Int) ∧ s10 = .int .u32 (f : Int) ∧ s11 = .int .u32 (g : Int) ∧ s12 = .int .u32 (h : Int) ∧ Hid ((⟨a, b, c, d, e, f, g, h⟩ : S8) = rnds s1 (wsN l 64) t) ∧ Hid (Drawn w2 wr))
  case atStart => exact ⟨0, a, b, c0, d, e, f, g0, h, by omega, rfl, rfl, rfl, rfl, rfl, rfl, rfl, rfl, rfl, Lib.hid (by rw [HS1.out]; rfl), Lib.hid (by first | exact ⟨_, rfl⟩ | exact (Drawn.one w2 _).more _)⟩
  case round =>
    obtain ⟨t, a, b, c, d, e, f, g, h, htg, rfl, rfl, rfl, rfl, rfl, rfl, rfl, rfl, rfl, hst, hdr⟩ := hrel
    cases gk with
    | zero =>
      obtain rfl : t = 64 := by omega
      clear htg x0 x1 x2 x3 x4 x5 x6 x7
      have hW3 : Blk wr g0' 133 (workL (mixL s1 ⟨a, b, c, d, e, f, g, h⟩ 0) o n) := by
        obtain ⟨q, hq⟩ := hdr.out
        rw [hq, mixL_zero, HS1.out]
        exact HW2.out.drewN q
      have hG3 : w.grownBy wr (some g0') := only_below (World.grownBy.refl w _) (hdr.out.below hb2)
      have HW3 := Lib.hid hW3; have HG3 := Lib.hid hG3
      clear hW3 hG3 hb2
      go_wp2_with fail
      go_loopg [132] 8 (fun gk s132 wr => ∃ i : Nat, i + gk = 8 ∧ s132 = .int .i64 (i : Int) ∧ Hid (Blk wr g0' 133 (workL (mixL s1 ⟨a, b, c, d, e, f, g, h⟩ i) o n)) ∧ Hid (w.grownBy wr (some g0')))
      case atStart => exact ⟨0, by omega, rfl, HW3, HG3⟩
      case round =>
        clear HW3 HG3 hdr
        obtain ⟨i, hig, rfl, hB, hG⟩ := hrel
        cases gk with
        | zero =>
          obtain rfl : i = 8 := by omega
          clear hig
          go_wp2_with fail
          go_end0
          refine ⟨rfl, ?_, hG.out⟩
          have hfin := hB.out
          rw [mixL_all, hst.out, HS1.out] at hfin
          exact hfin
        | succ gk =>
          have hi : i = 0 ∨ i = 1 ∨ i = 2 ∨ i = 3 ∨ i = 4 ∨ i = 5 ∨ i = 6 ∨ i = 7 := by omega
          rcases hi with rfl | rfl | rfl | rfl | rfl | rfl | rfl | rfl
          · have hx := hB.out.cell 0
            rw [workL_at (x := s1.a) rfl] at hx
            have hfz := hB.out.frozen 0
            have hw := wrap_ad s1.a a
            have hix := run_index_row (P := Tryz.prog) (t := 130) (cs := #[.int .u32 (a : Int), .int .u32 (b : Int), .int .u32 (c : Int), .int .u32 (d : Int), .int .u32 (e : Int), .int .u32 (f : Int), .int .u32 (g : Int), .int .u32 (h : Int)]) (i := 0) Tryz.underlying130 agg_u32 size_u32 (by omega) rfl
            rw [show ((0 : Nat) : Int) = 0 from rfl] at hix
            go_wp2_with fail
            refine wp_region_still_tail 11 (by kernel_rfl) (by kernel_rfl) ?_
            simp only [List.take_succ_cons, List.take_zero, List.drop_succ_cons, List.drop_zero]
            change wpStill _ _ wr.drew _ _ _
            repeat still_step
            refine wpStill_nil ?_
            go_wp2_with fail
            go_roundg gk
            case measure => omega
            case rel =>
              refine ⟨1, by omega, by go_num, Lib.hid ?_, Lib.hid (only_setCell (only_drewN hG.out 1) (.inl rfl) _)⟩
              have := hB.out.drew.set_ 0 (.int .u32 ((ad s1.a a : Nat) : Int))
              rw [workL_set _ (show 0 < 8 by decide)] at this
              exact this
          · have hx := hB.out.cell 1
            rw [workL_at (x := s1.b) rfl] at hx
            have hfz := hB.out.frozen 1
            have hw := wrap_ad s1.b b
            have hix := run_index_row (P := Tryz.prog) (t := 130) (cs := #[.int .u32 (a : Int), .int .u32 (b : Int), .int .u32 (c : Int), .int .u32 (d : Int), .int .u32 (e : Int), .int .u32 (f : Int), .int .u32 (g : Int), .int .u32 (h : Int)]) (i := 1) Tryz.underlying130 agg_u32 size_u32 (by omega) rfl
            rw [show ((1 : Nat) : Int) = 1 from rfl] at hix
            go_wp2_with fail
            refine wp_region_still_tail 11 (by kernel_rfl) (by kernel_rfl) ?_
            simp only [List.take_succ_cons, List.take_zero, List.drop_succ_cons, List.drop_zero]
            change wpStill _ _ wr.drew _ _ _
            repeat still_step
            refine wpStill_nil ?_
            go_wp2_with fail
            go_roundg gk
            case measure => omega
            case rel =>
              refine ⟨2, by omega, by go_num, Lib.hid ?_, Lib.hid (only_setCell (only_drewN hG.out 1) (.inl rfl) _)⟩
              have := hB.out.drew.set_ 1 (.int .u32 ((ad s1.b b : Nat) : Int))
              rw [workL_set _ (show 1 < 8 by decide)] at this
              exact this
          · have hx := hB.out.cell 2
            rw [workL_at (x := s1.c) rfl] at hx
            have hfz := hB.out.frozen 2
            have hw := wrap_ad s1.c c
            have hix := run_index_row (P := Tryz.prog) (t := 130) (cs := #[.int .u32 (a : Int), .int .u32 (b : Int), .int .u32 (c : Int), .int .u32 (d : Int), .int .u32 (e : Int), .int .u32 (f : Int), .int .u32 (g : Int), .int .u32 (h : Int)]) (i := 2) Tryz.underlying130 agg_u32 size_u32 (by omega) rfl
            rw [show ((2 : Nat) : Int) = 2 from rfl] at hix
            go_wp2_with fail
            refine wp_region_still_tail 11 (by kernel_rfl) (by kernel_rfl) ?_
            simp only [List.take_succ_cons, List.take_zero, List.drop_succ_cons, List.drop_zero]
            change wpStill _ _ wr.drew _ _ _
            repeat still_step
            refine wpStill_nil ?_
            go_wp2_with fail
            go_roundg gk
            case measure => omega
            case rel =>
              refine ⟨3, by omega, by go_num, Lib.hid ?_, Lib.hid (only_setCell (only_drewN hG.out 1) (.inl rfl) _)⟩
              have := hB.out.drew.set_ 2 (.int .u32 ((ad s1.c c : Nat) : Int))
              rw [workL_set _ (show 2 < 8 by decide)] at this
              exact this
          · have hx := hB.out.cell 3
            rw [workL_at (x := s1.d) rfl] at hx
            have hfz := hB.out.frozen 3
            have hw := wrap_ad s1.d d
            have hix := run_index_row (P := Tryz.prog) (t := 130) (cs := #[.int .u32 (a : Int), .int .u32 (b : Int), .int .u32 (c : Int), .int .u32 (d : Int), .int .u32 (e : Int), .int .u32 (f : Int), .int .u32 (g : Int), .int .u32 (h : Int)]) (i := 3) Tryz.underlying130 agg_u32 size_u32 (by omega) rfl
            rw [show ((3 : Nat) : Int) = 3 from rfl] at hix
            go_wp2_with fail
            refine wp_region_still_tail 11 (by kernel_rfl) (by kernel_rfl) ?_
            simp only [List.take_succ_cons, List.take_zero, List.drop_succ_cons, List.drop_zero]
            change wpStill _ _ wr.drew _ _ _
            repeat still_step
            refine wpStill_nil ?_
            go_wp2_with fail
            go_roundg gk
            case measure => omega
            case rel =>
              refine ⟨4, by omega, by go_num, Lib.hid ?_, Lib.hid (only_setCell (only_drewN hG.out 1) (.inl rfl) _)⟩
              have := hB.out.drew.set_ 3 (.int .u32 ((ad s1.d d : Nat) : Int))
              rw [workL_set _ (show 3 < 8 by decide)] at this
              exact this
          · have hx := hB.out.cell 4
            rw [workL_at (x := s1.e) rfl] at hx
            have hfz := hB.out.frozen 4
            have hw := wrap_ad s1.e e
            have hix := run_index_row (P := Tryz.prog) (t := 130) (cs := #[.int .u32 (a : Int), .int .u32 (b : Int), .int .u32 (c : Int), .int .u32 (d : Int), .int .u32 (e : Int), .int .u32 (f : Int), .int .u32 (g : Int), .int .u32 (h : Int)]) (i := 4) Tryz.underlying130 agg_u32 size_u32 (by omega) rfl
            rw [show ((4 : Nat) : Int) = 4 from rfl] at hix
            go_wp2_with fail
            refine wp_region_still_tail 11 (by kernel_rfl) (by kernel_rfl) ?_
            simp only [List.take_succ_cons, List.take_zero, List.drop_succ_cons, List.drop_zero]
            change wpStill _ _ wr.drew _ _ _
            repeat still_step
            refine wpStill_nil ?_
            go_wp2_with fail
            go_roundg gk
            case measure => omega
            case rel =>
              refine ⟨5, by omega, by go_num, Lib.hid ?_, Lib.hid (only_setCell (only_drewN hG.out 1) (.inl rfl) _)⟩
              have := hB.out.drew.set_ 4 (.int .u32 ((ad s1.e e : Nat) : Int))
              rw [workL_set _ (show 4 < 8 by decide)] at this
              exact this
          · have hx := hB.out.cell 5
            rw [workL_at (x := s1.f) rfl] at hx
            have hfz := hB.out.frozen 5
            have hw := wrap_ad s1.f f
            have hix := run_index_row (P := Tryz.prog) (t := 130) (cs := #[.int .u32 (a : Int), .int .u32 (b : Int), .int .u32 (c : Int), .int .u32 (d : Int), .int .u32 (e : Int), .int .u32 (f : Int), .int .u32 (g : Int), .int .u32 (h : Int)]) (i := 5) Tryz.underlying130 agg_u32 size_u32 (by omega) rfl
            rw [show ((5 : Nat) : Int) = 5 from rfl] at hix
            go_wp2_with fail
            refine wp_region_still_tail 11 (by kernel_rfl) (by kernel_rfl) ?_
            simp only [List.take_succ_cons, List.take_zero, List.drop_succ_cons, List.drop_zero]
            change wpStill _ _ wr.drew _ _ _
            repeat still_step
            refine wpStill_nil ?_
            go_wp2_with fail
            go_roundg gk
            case measure => omega
            case rel =>
              refine ⟨6, by omega, by go_num, Lib.hid ?_, Lib.hid (only_setCell (only_drewN hG.out 1) (.inl rfl) _)⟩
              have := hB.out.drew.set_ 5 (.int .u32 ((ad s1.f f : Nat) : Int))
              rw [workL_set _ (show 5 < 8 by decide)] at this
              exact this
          · have hx := hB.out.cell 6
            rw [workL_at (x := s1.g) rfl] at hx
            have hfz := hB.out.frozen 6
            have hw := wrap_ad s1.g g
            have hix := run_index_row (P := Tryz.prog) (t := 130) (cs := #[.int .u32 (a : Int), .int .u32 (b : Int), .int .u32 (c : Int), .int .u32 (d : Int), .int .u32 (e : Int), .int .u32 (f : Int), .int .u32 (g : Int), .int .u32 (h : Int)]) (i := 6) Tryz.underlying130 agg_u32 size_u32 (by omega) rfl
            rw [show ((6 : Nat) : Int) = 6 from rfl] at hix
            go_wp2_with fail
            refine wp_region_still_tail 11 (by kernel_rfl) (by kernel_rfl) ?_
            simp only [List.take_succ_cons, List.take_zero, List.drop_succ_cons, List.drop_zero]
            change wpStill _ _ wr.drew _ _ _
            repeat still_step
            refine wpStill_nil ?_
            go_wp2_with fail
            go_roundg gk
            case measure => omega
            case rel =>
              refine ⟨7, by omega, by go_num, Lib.hid ?_, Lib.hid (only_setCell (only_drewN hG.out 1) (.inl rfl) _)⟩
              have := hB.out.drew.set_ 6 (.int .u32 ((ad s1.g g : Nat) : Int))
              rw [workL_set _ (show 6 < 8 by decide)] at this
              exact this
          · have hx := hB.out.cell 7
            rw [workL_at (x := s1.h) rfl] at hx
            have hfz := hB.out.frozen 7
            have hw := wrap_ad s1.h h
            have hix := run_index_row (P := Tryz.prog) (t := 130) (cs := #[.int .u32 (a : Int), .int .u32 (b : Int), .int .u32 (c : Int), .int .u32 (d : Int), .int .u32 (e : Int), .int .u32 (f : Int), .int .u32 (g : Int), .int .u32 (h : Int)]) (i := 7) Tryz.underlying130 agg_u32 size_u32 (by omega) rfl
            rw [show ((7 : Nat) : Int) = 7 from rfl] at hix
            go_wp2_with fail
            refine wp_region_still_tail 11 (by kernel_rfl) (by kernel_rfl) ?_
            simp only [List.take_succ_cons, List.take_zero, List.drop_succ_cons, List.drop_zero]
            change wpStill _ _ wr.drew _ _ _
            repeat still_step
            refine wpStill_nil ?_
            go_wp2_with fail
            go_roundg gk
            case measure => omega
            case rel =>
              refine ⟨8, by omega, by go_num, Lib.hid ?_, Lib.hid (only_setCell (only_drewN hG.out 1) (.inl rfl) _)⟩
              have := hB.out.drew.set_ 7 (.int .u32 ((ad s1.h h : Nat) : Int))
              rw [workL_set _ (show 7 < 8 by decide)] at this
              exact this
    | succ gk =>
      have ht : t < 64 := by omega
      have ht2 : (t : Int) < 64 := by omega
      have hok := rnds_ok (s := s1) (by rw [HS1.out]; exact HS.out) (wsN l 64) t
      rw [← hst.out, S8.ok_iff] at hok
      simp only at hok
      obtain ⟨ba, bb, bc, bd, be, bf, bg, bh⟩ := hok
      have hdr2 := hdr.out
      have hk := hdr2.cellT HT2.out t ht
      have hx := hdr2.cellB hB2'.out t (wV_at l 64 t ht (Nat.le_refl _))
      clear hdr2
      have hnx : rnds s1 (wsN l 64) (t + 1) = rnd ⟨a, b, c, d, e, f, g, h⟩ (tabK.getD t 0) (wAt l t) := by
        rw [hst.out, ← wsN_getD l 64 t ht (Nat.le_refl _)]
        rfl
      generalize tabK.getD t 0 = kt at hk hnx
      generalize wAt l t = wt at hx hnx
      obtain ⟨m1, hm1, hm1'⟩ := bg1_bits e be
      obtain ⟨m2, n2, p2, hc1, hc2, hc3, hc4, hc5⟩ := ch_bits e f g be bf bg
      obtain ⟨m3, hm3, hm3'⟩ := bg0_bits a ba
      obtain ⟨m4, n4, p4, q4, hj1, hj2, hj3, hj4, hj5⟩ := maj_bits a b c ba bb bc
      unfold rnd uOf vOf at hnx
      simp only at hnx
      have hw1 := wrap_ad h (bg1 e)
      have hw2 := wrap_ad (ad h (bg1 e)) (ch e f g)
      have hw3 := wrap_ad (ad (ad h (bg1 e)) (ch e f g)) kt
      have hw4 := wrap_ad (ad (ad (ad h (bg1 e)) (ch e f g)) kt) wt
      generalize ad (ad (ad (ad h (bg1 e)) (ch e f g)) kt) wt = u at hw4 hnx
      have hw5 := wrap_ad (bg0 a) (maj a b c)
      generalize ad (bg0 a) (maj a b c) = v at hw5 hnx
      have hw6 := wrap_ad d u
      have hw7 := wrap_ad u v
      have HN := Lib.hid hnx; clear hnx hc3
      have HM3 := Lib.hid hm3; have HM3' := Lib.hid hm3'; have HJ1 := Lib.hid hj1; have HJ2 := Lib.hid hj2; have HJ3 := Lib.hid hj3; have HJ4 := Lib.hid hj4; have HJ5 := Lib.hid hj5
      have HW5 := Lib.hid hw5; have HW6 := Lib.hid hw6; have HW7 := Lib.hid hw7
      have HX := Lib.hid (And.intro x0 x1)
      clear hst bb bc bd bf bg bh hm3 hm3' hj1 hj2 hj3 hj4 hj5 hw5 hw6 hw7 x0 x1 x2 x3 x4 x5 x6 x7 hgl
      have hsg : IntKind.u32.signed = false := rfl
      have T6 := Lib.hid fun W => turned_6 e W be
      have T11 := Lib.hid fun W => turned_11 e W be
      have T25 := Lib.hid fun W => turned_25 e W be
      go_wp2_with fail
      go_quiet (first
        | (go_at_call 151; with_reducible first | exact quiet_wd0 (T6.out _) | exact quiet_wd0 (T11.out _) | exact quiet_wd0 (T25.out _) | exact quiet_wd (T6.out _) | exact quiet_wd (T11.out _) | exact quiet_wd (T25.out _)))
      have hm3 := HM3.out; have hm3' := HM3'.out; have hj1 := HJ1.out; have hj2 := HJ2.out; have hj3 := HJ3.out; have hj4 := HJ4.out; have hj5 := HJ5.out
      have hw5 := HW5.out; have hw6 := HW6.out; have hw7 := HW7.out
      clear hm1 hm1' hc1 hc2 hc4 hc5 hw1 hw2 hw3 hw4
      go_wp2_with fail
      refine (turned_2 a _ ba).mono ?_
      rintro _ _ ⟨rfl, rfl⟩
      go_wp2_with fail
      refine (turned_13 a _ ba).mono ?_
      rintro _ _ ⟨rfl, rfl⟩
      go_wp2_with fail
      refine (turned_22 a _ ba).mono ?_
      rintro _ _ ⟨rfl, rfl⟩
      go_wp2_with fail
      go_roundg gk
      case measure => omega
      case rel => exact ⟨t + 1, ad u v, a, b, c, ad d u, e, f, g, by omega, by go_num, rfl, rfl, rfl, rfl, rfl, rfl, rfl, rfl, Lib.hid HN.out.symm, Lib.hid (hdr.out.more _)⟩
end Go.Proofs.YtpgdlmnhomnblaaGreatDoor
