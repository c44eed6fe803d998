import Derived.Test.YtpgdlmnhomnblaaGreatDoorJ1
import Derived.Test.YtpgdlmnhomnblaaGreatDoorJ27
import Derived.Test.YtpgdlmnhomnblaaGreatDoorShaAdd3
namespace Go.Proofs.YtpgdlmnhomnblaaGreatDoor
open Go.RowKit
set_option linter.unusedVariables false
set_option linter.unusedSimpArgs false
set_option maxRecDepth 100000
theorem info_hash : (Tryz.prog.info? 39).map (fun i => (i.zero, i.size)) = some (some (.agg (Array.replicate 32 (.int .u8 0))), 32) := by kernel_rfl
theorem agg_u8 (W : World) : (isAgg 5).run Tryz.prog W = .ok false W := by simp [isAgg, run_underlying Tryz.underlying5]
theorem sizeS_u8 (W : World) : (Go.sizeOf 5).run Tryz.prog W = .ok 1 W := by
  obtain ⟨i0, hi0, hz0, hz1, hz2⟩ := info_parts info_u8
  simp [Go.sizeOf, typeInfo, hi0, hz1]
end Go.Proofs.YtpgdlmnhomnblaaGreatDoor
namespace Go.Proofs.YtpgdlmnhomnblaaGreatDoor
open Go.RowKit
set_option linter.unusedVariables false
set_option linter.unusedSimpArgs false
set_option maxRecDepth 100000
def put4 (cur : Array Value) (i x : Nat) : Array Value := (((cur.setIfInBounds i (.int .u8 ((x / 16777216 % 256 : Nat) : Int))).setIfInBounds (i + 1) (.int .u8 ((x / 65536 % 256 : Nat) : Int))).setIfInBounds (i + 2) (.int .u8 ((x / 256 % 256 : Nat) : Int))).setIfInBounds (i + 3) (.int .u8 ((x % 256 : Nat) : Int))
set_option maxHeartbeats 1000000 in
theorem putWord_any (g i n c x : Nat) (t : TypeId) (cur : Array Value) (w : World) (hB : Blk w g t cur) (hx : x < 4294967296) (hn : 4 ≤ n) (h0 : ∀ j, j < 4 → ∃ v, cur[i + j]? = some v) :
    Calls Tryz.prog 96 #[.slice (some ⟨g, i, none⟩) n c, .int .u32 (x : Int)] w fun e w' => e = .returned (.tuple #[]) ∧ Blk w' g t (put4 cur i x) ∧ w.grownBy w' (some g) := by
  obtain ⟨v0, e0⟩ := h0 0 (by omega)
  obtain ⟨v1, e1⟩ := h0 1 (by omega)
  obtain ⟨v2, e2⟩ := h0 2 (by omega)
  obtain ⟨v3, e3⟩ := h0 3 (by omega)
  have c0 := hB.cell (i + 0)
  have c1 := hB.cell (i + 1)
  have c2 := hB.cell (i + 2)
  have c3 := hB.cell (i + 3)
  rw [e0] at c0
  rw [e1] at c1
  rw [e2] at c2
  rw [e3] at c3
  rw [Nat.add_zero] at c0
  have f0 := hB.frozen i
  have f1 := hB.frozen (i + 1)
  have f2 := hB.frozen (i + 2)
  have f3 := hB.frozen (i + 3)
  have hi1 : (1 : Int) < (n : Int) := by omega
  have hi2 : (2 : Int) < (n : Int) := by omega
  have hi3 : (3 : Int) < (n : Int) := by omega
  have hi0 : (0 : Int) < (n : Int) := by omega
  have HB := Lib.hid hB
  clear hB h0 e0 e1 e2 e3
  go_enter Tryz.func96, Tryz.ntmps96
  go_wp2_with fail
  go_end0
  have g1 := only_setCell (World.grownBy.refl w (some g)) (p := ⟨g, i, none⟩) (.inl rfl) (.int .u8 ((x : Int) / 16777216))
  have g2 := only_setCell g1 (p := ⟨g, i + 1, none⟩) (.inl rfl) (.int .u8 ((x : Int) / 65536 % 256))
  have g3 := only_setCell g2 (p := ⟨g, i + 2, none⟩) (.inl rfl) (.int .u8 ((x : Int) / 256 % 256))
  have g4 := only_setCell g3 (p := ⟨g, i + 3, none⟩) (.inl rfl) (.int .u8 ((x : Int) % 256))
  refine ⟨rfl, ?_, g4⟩
  clear g1 g2 g3 g4
  have q0 : (x : Int) / 16777216 = ((x / 16777216 % 256 : Nat) : Int) := by omega
  have q1 : (x : Int) / 65536 % 256 = ((x / 65536 % 256 : Nat) : Int) := by omega
  have q2 : (x : Int) / 256 % 256 = ((x / 256 % 256 : Nat) : Int) := by omega
  have q3 : (x : Int) % 256 = ((x % 256 : Nat) : Int) := by omega
  rw [q0, q1, q2, q3]
  have h1 := HB.out.set_ i (.int .u8 ((x / 16777216 % 256 : Nat) : Int))
  have h2 := h1.set_ (i + 1) (.int .u8 ((x / 65536 % 256 : Nat) : Int))
  have h3 := h2.set_ (i + 2) (.int .u8 ((x / 256 % 256 : Nat) : Int))
  have h4 := h3.set_ (i + 3) (.int .u8 ((x % 256 : Nat) : Int))
  unfold put4
  exact h4
theorem set4 (pre : List Nat) (k a b c d : Nat) : ((((pre ++ List.replicate (k + 4) 0).set pre.length a).set (pre.length + 1) b).set (pre.length + 2) c).set (pre.length + 3) d = pre ++ [a, b, c, d] ++ List.replicate k 0 := by
  rw [show List.replicate (k + 4) 0 = 0 :: 0 :: 0 :: 0 :: List.replicate k 0 from rfl]
  rw [List.set_append_right _ _ (by omega), List.set_append_right _ _ (by omega), List.set_append_right _ _ (by omega), List.set_append_right _ _ (by omega)]
  simp
def hL (s : S8) (i : Nat) : List Nat := (bytes8 s).take (4 * i) ++ List.replicate (32 - 4 * i) 0
theorem hL_length (s : S8) (i : Nat) (h : i ≤ 8) : (hL s i).length = 32 := by
  unfold hL
  rw [List.length_append, List.length_take, List.length_replicate, bytes8_length]
  omega
theorem hL_zero (s : S8) : (bs (hL s 0)).toArray = Array.replicate 32 (.int .u8 0) := by
  apply Array.ext'
  simp [hL, bs]
theorem hL_all (s : S8) : hL s 8 = bytes8 s := by
  unfold hL
  rw [show 32 - 4 * 8 = 0 from rfl, List.replicate_zero, List.append_nil]
  exact List.take_of_length_le (by rw [bytes8_length]; omega)
theorem bs_set (l : List Nat) (i x : Nat) : ((bs l).toArray).setIfInBounds i (.int .u8 (x : Int)) = (bs (l.set i x)).toArray := by
  rw [List.setIfInBounds_toArray]
  unfold bs
  rw [List.map_set]
theorem hL_step (s : S8) (i x : Nat) (hi : i < 8) (hx : (bytes8 s).take (4 * (i + 1)) = (bytes8 s).take (4 * i) ++ be4 x) : put4 (bs (hL s i)).toArray (4 * i) x = (bs (hL s (i + 1))).toArray := by
  unfold put4
  rw [bs_set, bs_set, bs_set, bs_set]
  congr 2
  have hl : ((bytes8 s).take (4 * i)).length = 4 * i := by rw [List.length_take, bytes8_length]; omega
  have h := set4 ((bytes8 s).take (4 * i)) (32 - 4 * (i + 1)) (x / 16777216 % 256) (x / 65536 % 256) (x / 256 % 256) (x % 256)
  rw [hl, show 32 - 4 * (i + 1) + 4 = 32 - 4 * i by omega] at h
  unfold hL
  rw [h, hx]
  rfl
theorem hL_at (s : S8) (i j : Nat) (h : i ≤ 8) (hj : j < 32) : ∃ v, (bs (hL s i)).toArray[j]? = some v :=
  ⟨_, Array.getElem?_eq_getElem (by simp [bs_length, hL_length s i h]; exact hj)⟩
theorem hL_one (s : S8) (i : Nat) : ((bs (hL s i)).toArray).all (·.oneCell') = true := by
  rw [Array.all_eq_true]
  intro j h
  have := bs_one (hL s i) ((bs (hL s i)).toArray[j]) (by simp)
  exact this
theorem zsS_lt64 (n : Nat) : zsS n < 64 := by unfold zsS; omega
def HashTo (w : World) (B : Nat) (l : List Nat) (e : Ending) (w' : World) : Prop := e = .returned (.agg (bs l).toArray) ∧ Below B w w'
set_option maxHeartbeats 4000000 in
theorem digest_any (B g : Nat) (o : Value) (L : List Nat) (w : World) (hk : Wk w B g o L L.length) (hL9 : L.length ≤ 4294967296) (ht : ShTab w) (htB : 0 < B)
    (hadd : ∀ (g : Nat) (o : Value) (L p : List Nat) (A : Option Addr) (c N : Nat) (w : World), Wk w B g o L N → Pt w g o A p.length p → (∀ b ∈ p, b < 256) → p.length ≤ c → N + p.length ≤ 140737488355328 → L.length + p.length ≤ 140737488355328 → ShTab w →
      Calls Tryz.prog 49 #[.pointer (some ⟨g, 0, none⟩), .slice A p.length c] w (AddTo w B g o (L ++ p) (N + p.length))) :
    Calls Tryz.prog 50 #[.pointer (some ⟨g, 0, none⟩)] w (HashTo w B (shaN L)) := by
  have hz := (zero_of_info info_hash).1
  have hsz := Lib.hid (zero_of_info info_hash).2
  have HADD := Lib.hid hadd; clear hadd
  have hk1 := hk.below (w' := w.alloc (.cells (Array.replicate 32 (.int .u8 0)) 39)) ((Below.refl _ _).alloc (Nat.le_refl _) _)
  have ht1 := ht.next (w' := w.alloc (.cells (Array.replicate 32 (.int .u8 0)) 39)) ((Below.refl _ _).alloc (Nat.le_refl _) _)
  have hB1 : B ≤ w.heap.size := Nat.le_trans hk.base (Nat.le_of_lt hk.lt)
  have hb1 : Below B w (w.alloc (.cells (Array.replicate 32 (.int .u8 0)) 39)) := (Below.refl _ _).alloc hB1 _
  have hR1 := Blk.new w 39 (Array.replicate 32 (.int .u8 0))
  obtain ⟨w1, hw1⟩ : ∃ w1 : World, w1 = w.alloc (.cells (Array.replicate 32 (.int .u8 0)) 39) := ⟨_, rfl⟩
  rw [← hw1] at hk1 ht1 hb1 hR1
  have hsz1 : w1.heap.size = w.heap.size + 1 := by rw [hw1]; simp
  have HS1 := Lib.hid hsz1; clear hsz1
  have hw1' := hw1.symm
  clear hw1
  have h9 := hk1.blk.cell 9
  rw [workL_size (list_length _)] at h9
  have HRG := Lib.hid hk.lt
  have HRO := Lib.hid (show o.ownBlock ≠ some w.heap.size from fun e => by have := (hk.own.lt _ e).2; omega)
  have HB1B := hB1
  have HK1 := Lib.hid hk1; have HT1 := Lib.hid ht1; have HB1 := Lib.hid hb1; have HR1 := Lib.hid hR1
  clear hk1 ht1 hb1 hR1 hk ht
  obtain ⟨n, hn⟩ : ∃ n, L.length = n := ⟨_, rfl⟩
  rw [hn] at h9 hL9
  have HN := Lib.hid hn; clear hn
  go_enter Tryz.func50, Tryz.ntmps50
  go_wp2_with fail
  refine (filling_any n w1 (by omega)).mono ?_
  rintro _ w2 ⟨v2, rfl, hown2, hb2⟩
  obtain ⟨A2, c2, rfl, hc2, _, _⟩ := own_slice hown2
  have hk2 := HK1.out.below hb2
  have ht2 := HT1.out.next hb2
  have hp2 : Pt w2 g o A2 (tailF n).length (tailF n) := by rw [tailF_length]; exact Pt.of_new HK1.out hown2 rfl hb2.size
  have hcall := HADD.out g o L (tailF n) A2 c2 L.length w2 hk2 hp2 (tailF_lt n) (by rw [tailF_length]; exact hc2) (by rw [tailF_length, HN.out]; have := zsS_lt64 n; omega) (by rw [tailF_length, HN.out]; have := zsS_lt64 n; omega) ht2
  rw [tailF_length] at hcall
  have HC := Lib.hid hcall
  have HB2 := Lib.hid (HB1.out.trans (hb2.mono (by rw [HS1.out]; omega)))
  have HRES := Lib.hid (HR1.out.below hb2 HR1.out.lt)
  have HBB := Lib.hid hb2
  clear hcall hk2 ht2 hp2 hown2 hb2
  go_wp2_with fail
  refine HC.out.mono ?_
  rintro _ w3 ⟨rfl, o3, hk3, hb3, hel3⟩
  have hb3' := HB2.out.trans hb3
  have hz3 : w1.heap.size ≤ w3.heap.size := Nat.le_trans HBB.out.size hel3.1
  have hres3 : Blk w3 w.heap.size 39 (Array.replicate 32 (.int .u8 0)) := (hel3.2 _ HRES.out.lt (by have := HRG.out; omega) (fun e => HRO.out e.symm)).trans HRES.out
  have HRES3 := Lib.hid (hres3.alloc (.cells (Array.replicate 32 (.int .u8 0)) 39))
  have hB3 : B ≤ w3.heap.size := Nat.le_trans hk3.base (Nat.le_of_lt hk3.lt)
  have HB3 := Lib.hid (hb3'.alloc hB3 (.cells (Array.replicate 32 (.int .u8 0)) 39))
  have hk4 := hk3.blk.alloc (.cells (Array.replicate 32 (.int .u8 0)) 39)
  have HH := Lib.hid (Blk.new w3 39 (Array.replicate 32 (.int .u8 0)))
  have HLT := Lib.hid (show w.heap.size < w3.heap.size by have := HS1.out; omega)
  have hsok := hk3.ok
  obtain ⟨s, hs⟩ : ∃ s : S8, s = st8 (L ++ tailF n) := ⟨_, rfl⟩
  rw [← hs] at hk4 hsok
  have HSS := Lib.hid (show bytes8 s = shaN L by rw [hs, ← HN.out]; rfl)
  rw [S8.ok_iff] at hsok
  have HSOK := Lib.hid hsok
  obtain ⟨k, hk⟩ : ∃ k, k = w3.heap.size := ⟨_, rfl⟩
  rw [← hk] at HH HLT
  have hk0 := hk.symm
  have x0 := hk4.cell 0
  rw [workL_at (x := s.a) rfl] at x0
  have x1 := hk4.cell 1
  rw [workL_at (x := s.b) rfl] at x1
  have x2 := hk4.cell 2
  rw [workL_at (x := s.c) rfl] at x2
  have x3 := hk4.cell 3
  rw [workL_at (x := s.d) rfl] at x3
  have x4 := hk4.cell 4
  rw [workL_at (x := s.e) rfl] at x4
  have x5 := hk4.cell 5
  rw [workL_at (x := s.f) rfl] at x5
  have x6 := hk4.cell 6
  rw [workL_at (x := s.g) rfl] at x6
  have x7 := hk4.cell 7
  rw [workL_at (x := s.h) rfl] at x7
  clear hk4 hk3 hb3 hb3' hres3 hB3 hs hsok hk hz3 HC HB2 HBB HRES hel3 h9 hw1'
  go_wp2_with fail
  obtain ⟨w4, hw4⟩ : ∃ w4 : World, w4 = w3.alloc (.cells (Array.replicate 32 (.int .u8 0)) 39) := ⟨_, rfl⟩
  rw [← hw4] at HRES3 HB3 HH
  rw [← hw4]
  clear hw4 hk0 x0 x1 x2 x3 x4 x5 x6 x7 hz
  rw [← hL_zero s] at HH
  go_loopg [17] 8 (fun gk s17 wr => ∃ i : Nat, i + gk = 8 ∧ s17 = .int .i64 (i : Int) ∧ Hid (Blk wr k 39 (bs (hL s i)).toArray) ∧ Hid (Blk wr w.heap.size 39 (Array.replicate 32 (.int .u8 0))) ∧ Hid (Below B w wr))
  case atStart => exact ⟨0, by omega, rfl, HH, HRES3, HB3⟩
  case round =>
    clear HH HRES3 HB3
    obtain ⟨i, hig, rfl, hH, hR, hb⟩ := hrel
    cases gk with
    | zero =>
      obtain rfl : i = 8 := by omega
      clear hig
      rw [hL_all, HSS.out] at hH
      have hsz2 : ((bs (shaN L)).toArray).size = 32 := by simp [bs_length, shaN_length]
      have hone : ((bs (shaN L)).toArray).all (·.oneCell') = true := by
        have := hL_one s 8
        rw [hL_all, HSS.out] at this
        exact this
      have HZ2 := Lib.hid hsz2; have HON := Lib.hid hone
      clear hsz2 hone
      obtain ⟨V, hV⟩ : ∃ V : Array Value, V = (bs (shaN L)).toArray := ⟨_, rfl⟩
      rw [← hV] at hH HZ2 HON
      have HV := Lib.hid hV; clear hV
      go_wp2_with (first
        | refine wpList_load_row (by rfl) (.tmp 3) (by rfl) (by rfl) hH.out Tryz.underlying39 (by rw [HZ2.out]; exact hsz.out) ?_
        | refine wpList_store_row (by rfl) (.tmp 2) (.tmp 27) (by rfl) (by rfl) (by rfl) hR.out (by rw [HZ2.out]; exact hsz.out) (by rw [HZ2.out]; simp) HON.out ?_)
      refine bodyPost_ret (v := .agg V) (results_cell_row rfl _ _ _ _ _ _ _ (by rfl) (hR.out.row V) Tryz.underlying39 rfl (by rw [HZ2.out]; exact hsz.out)) rfl ⟨by rw [HV.out], Below.row hb.out HB1B _⟩
    | succ gk =>
      have hi : i = 0 ∨ i = 1 ∨ i = 2 ∨ i = 3 ∨ i = 4 ∨ i = 5 ∨ i = 6 ∨ i = 7 := by omega
      rcases hi with rfl | rfl | rfl | rfl | rfl | rfl | rfl | rfl
      · have hix := run_index_row (P := Tryz.prog) (t := 130) (cs := #[.int .u32 (s.a : Int), .int .u32 (s.b : Int), .int .u32 (s.c : Int), .int .u32 (s.d : Int), .int .u32 (s.e : Int), .int .u32 (s.f : Int), .int .u32 (s.g : Int), .int .u32 (s.h : Int)]) (i := 0) Tryz.underlying130 agg_u32 size_u32 (by omega) rfl
        rw [show ((0 : Nat) : Int) = 0 from rfl] at hix
        go_wp2_with fail
        refine (putWord_any k 0 32 32 s.a 39 _ _ hH.out (by have := HSOK.out; omega) (by omega) (fun q hq => hL_at s 0 (0 + q) (by omega) (by omega))).mono ?_
        rintro _ w' ⟨rfl, hH', hg'⟩
        go_wp2_with fail
        go_roundg gk
        case measure => omega
        case rel =>
          refine ⟨1, by omega, by go_num, Lib.hid ?_, Lib.hid (hR.out.grown hg' (fun e => by injection e with e; have := HLT.out; omega)), Lib.hid (hb.out.grown hg' (by have := hR.out.lt; omega) (fun q hq => by injection hq with hq; have := HLT.out; omega))⟩
          rw [← hL_step s 0 s.a (by omega) rfl]
          exact hH'
      · have hix := run_index_row (P := Tryz.prog) (t := 130) (cs := #[.int .u32 (s.a : Int), .int .u32 (s.b : Int), .int .u32 (s.c : Int), .int .u32 (s.d : Int), .int .u32 (s.e : Int), .int .u32 (s.f : Int), .int .u32 (s.g : Int), .int .u32 (s.h : Int)]) (i := 1) Tryz.underlying130 agg_u32 size_u32 (by omega) rfl
        rw [show ((1 : Nat) : Int) = 1 from rfl] at hix
        go_wp2_with fail
        refine (putWord_any k 4 28 28 s.b 39 _ _ hH.out (by have := HSOK.out; omega) (by omega) (fun q hq => hL_at s 1 (4 + q) (by omega) (by omega))).mono ?_
        rintro _ w' ⟨rfl, hH', hg'⟩
        go_wp2_with fail
        go_roundg gk
        case measure => omega
        case rel =>
          refine ⟨2, by omega, by go_num, Lib.hid ?_, Lib.hid (hR.out.grown hg' (fun e => by injection e with e; have := HLT.out; omega)), Lib.hid (hb.out.grown hg' (by have := hR.out.lt; omega) (fun q hq => by injection hq with hq; have := HLT.out; omega))⟩
          rw [← hL_step s 1 s.b (by omega) rfl]
          exact hH'
      · have hix := run_index_row (P := Tryz.prog) (t := 130) (cs := #[.int .u32 (s.a : Int), .int .u32 (s.b : Int), .int .u32 (s.c : Int), .int .u32 (s.d : Int), .int .u32 (s.e : Int), .int .u32 (s.f : Int), .int .u32 (s.g : Int), .int .u32 (s.h : Int)]) (i := 2) Tryz.underlying130 agg_u32 size_u32 (by omega) rfl
        rw [show ((2 : Nat) : Int) = 2 from rfl] at hix
        go_wp2_with fail
        refine (putWord_any k 8 24 24 s.c 39 _ _ hH.out (by have := HSOK.out; omega) (by omega) (fun q hq => hL_at s 2 (8 + q) (by omega) (by omega))).mono ?_
        rintro _ w' ⟨rfl, hH', hg'⟩
        go_wp2_with fail
        go_roundg gk
        case measure => omega
        case rel =>
          refine ⟨3, by omega, by go_num, Lib.hid ?_, Lib.hid (hR.out.grown hg' (fun e => by injection e with e; have := HLT.out; omega)), Lib.hid (hb.out.grown hg' (by have := hR.out.lt; omega) (fun q hq => by injection hq with hq; have := HLT.out; omega))⟩
          rw [← hL_step s 2 s.c (by omega) rfl]
          exact hH'
      · have hix := run_index_row (P := Tryz.prog) (t := 130) (cs := #[.int .u32 (s.a : Int), .int .u32 (s.b : Int), .int .u32 (s.c : Int), .int .u32 (s.d : Int), .int .u32 (s.e : Int), .int .u32 (s.f : Int), .int .u32 (s.g : Int), .int .u32 (s.h : Int)]) (i := 3) Tryz.underlying130 agg_u32 size_u32 (by omega) rfl
        rw [show ((3 : Nat) : Int) = 3 from rfl] at hix
        go_wp2_with fail
        refine (putWord_any k 12 20 20 s.d 39 _ _ hH.out (by have := HSOK.out; omega) (by omega) (fun q hq => hL_at s 3 (12 + q) (by omega) (by omega))).mono ?_
        rintro _ w' ⟨rfl, hH', hg'⟩
        go_wp2_with fail
        go_roundg gk
        case measure => omega
        case rel =>
          refine ⟨4, by omega, by go_num, Lib.hid ?_, Lib.hid (hR.out.grown hg' (fun e => by injection e with e; have := HLT.out; omega)), Lib.hid (hb.out.grown hg' (by have := hR.out.lt; omega) (fun q hq => by injection hq with hq; have := HLT.out; omega))⟩
          rw [← hL_step s 3 s.d (by omega) rfl]
          exact hH'
      · have hix := run_index_row (P := Tryz.prog) (t := 130) (cs := #[.int .u32 (s.a : Int), .int .u32 (s.b : Int), .int .u32 (s.c : Int), .int .u32 (s.d : Int), .int .u32 (s.e : Int), .int .u32 (s.f : Int), .int .u32 (s.g : Int), .int .u32 (s.h : Int)]) (i := 4) Tryz.underlying130 agg_u32 size_u32 (by omega) rfl
        rw [show ((4 : Nat) : Int) = 4 from rfl] at hix
        go_wp2_with fail
        refine (putWord_any k 16 16 16 s.e 39 _ _ hH.out (by have := HSOK.out; omega) (by omega) (fun q hq => hL_at s 4 (16 + q) (by omega) (by omega))).mono ?_
        rintro _ w' ⟨rfl, hH', hg'⟩
        go_wp2_with fail
        go_roundg gk
        case measure => omega
        case rel =>
          refine ⟨5, by omega, by go_num, Lib.hid ?_, Lib.hid (hR.out.grown hg' (fun e => by injection e with e; have := HLT.out; omega)), Lib.hid (hb.out.grown hg' (by have := hR.out.lt; omega) (fun q hq => by injection hq with hq; have := HLT.out; omega))⟩
          rw [← hL_step s 4 s.e (by omega) rfl]
          exact hH'
      · have hix := run_index_row (P := Tryz.prog) (t := 130) (cs := #[.int .u32 (s.a : Int), .int .u32 (s.b : Int), .int .u32 (s.c : Int), .int .u32 (s.d : Int), .int .u32 (s.e : Int), .int .u32 (s.f : Int), .int .u32 (s.g : Int), .int .u32 (s.h : Int)]) (i := 5) Tryz.underlying130 agg_u32 size_u32 (by omega) rfl
        rw [show ((5 : Nat) : Int) = 5 from rfl] at hix
        go_wp2_with fail
        refine (putWord_any k 20 12 12 s.f 39 _ _ hH.out (by have := HSOK.out; omega) (by omega) (fun q hq => hL_at s 5 (20 + q) (by omega) (by omega))).mono ?_
        rintro _ w' ⟨rfl, hH', hg'⟩
        go_wp2_with fail
        go_roundg gk
        case measure => omega
        case rel =>
          refine ⟨6, by omega, by go_num, Lib.hid ?_, Lib.hid (hR.out.grown hg' (fun e => by injection e with e; have := HLT.out; omega)), Lib.hid (hb.out.grown hg' (by have := hR.out.lt; omega) (fun q hq => by injection hq with hq; have := HLT.out; omega))⟩
          rw [← hL_step s 5 s.f (by omega) rfl]
          exact hH'
      · have hix := run_index_row (P := Tryz.prog) (t := 130) (cs := #[.int .u32 (s.a : Int), .int .u32 (s.b : Int), .int .u32 (s.c : Int), .int .u32 (s.d : Int), .int .u32 (s.e : Int), .int .u32 (s.f : Int), .int .u32 (s.g : Int), .int .u32 (s.h : Int)]) (i := 6) Tryz.underlying130 agg_u32 size_u32 (by omega) rfl
        rw [show ((6 : Nat) : Int) = 6 from rfl] at hix
        go_wp2_with fail
        refine (putWord_any k 24 8 8 s.g 39 _ _ hH.out (by have := HSOK.out; omega) (by omega) (fun q hq => hL_at s 6 (24 + q) (by omega) (by omega))).mono ?_
        rintro _ w' ⟨rfl, hH', hg'⟩
        go_wp2_with fail
        go_roundg gk
        case measure => omega
        case rel =>
          refine ⟨7, by omega, by go_num, Lib.hid ?_, Lib.hid (hR.out.grown hg' (fun e => by injection e with e; have := HLT.out; omega)), Lib.hid (hb.out.grown hg' (by have := hR.out.lt; omega) (fun q hq => by injection hq with hq; have := HLT.out; omega))⟩
          rw [← hL_step s 6 s.g (by omega) rfl]
          exact hH'
      · have hix := run_index_row (P := Tryz.prog) (t := 130) (cs := #[.int .u32 (s.a : Int), .int .u32 (s.b : Int), .int .u32 (s.c : Int), .int .u32 (s.d : Int), .int .u32 (s.e : Int), .int .u32 (s.f : Int), .int .u32 (s.g : Int), .int .u32 (s.h : Int)]) (i := 7) Tryz.underlying130 agg_u32 size_u32 (by omega) rfl
        rw [show ((7 : Nat) : Int) = 7 from rfl] at hix
        go_wp2_with fail
        refine (putWord_any k 28 4 4 s.h 39 _ _ hH.out (by have := HSOK.out; omega) (by omega) (fun q hq => hL_at s 7 (28 + q) (by omega) (by omega))).mono ?_
        rintro _ w' ⟨rfl, hH', hg'⟩
        go_wp2_with fail
        go_roundg gk
        case measure => omega
        case rel =>
          refine ⟨8, by omega, by go_num, Lib.hid ?_, Lib.hid (hR.out.grown hg' (fun e => by injection e with e; have := HLT.out; omega)), Lib.hid (hb.out.grown hg' (by have := hR.out.lt; omega) (fun q hq => by injection hq with hq; have := HLT.out; omega))⟩
          rw [← hL_step s 7 s.h (by omega) rfl]
          exact hH'
end Go.Proofs.YtpgdlmnhomnblaaGreatDoor
namespace Go.Proofs.YtpgdlmnhomnblaaGreatDoor
open Go.RowKit
set_option linter.unusedVariables false
set_option linter.unusedSimpArgs false
set_option maxRecDepth 100000
theorem addS_any (B : Nat) (htB : 0 < B) (g : Nat) (o : Value) (L p : List Nat) (A : Option Addr) (c N : Nat) (w : World) (hk : Wk w B g o L N) (hp : Pt w g o A p.length p) (hpl : ∀ b ∈ p, b < 256) (hc : p.length ≤ c) (hN : N + p.length ≤ 140737488355328) (hL : L.length + p.length ≤ 140737488355328) (ht : ShTab w) :
    Calls Tryz.prog 49 #[.pointer (some ⟨g, 0, none⟩), .slice A p.length c] w (AddTo w B g o (L ++ p) (N + p.length)) := by
  by_cases h0 : L.length % 64 = 0
  · exact add_tail B g o L p A c N w hk h0 hp hpl hc hN hL ht htB
  · by_cases h1 : L.length % 64 + p.length < 64
    · exact add_small B g o L p A c N w hk (by omega) h1 hp hpl hc hN hL ht htB
    · exact addS_full B g o L p A c N w hk (by omega) (by omega) hp hpl hc hN hL ht htB
set_option maxHeartbeats 1000000 in
theorem sumS_any (A : Option Addr) (n c : Nat) (l : List Nat) (w : World) (hr : Reads w w.heap.size 1 A n (bs l)) (hl : ∀ b ∈ l, b < 256) (hc : n ≤ c) (hn : n ≤ 4294967296) (ht : ShTab w) :
    Calls Tryz.prog 22 #[.slice A n c] w (HashTo w w.heap.size (shaN l)) := by
  have hz := (zero_of_info info_hash).1
  have hsz := Lib.hid (zero_of_info info_hash).2
  have hlen : l.length = n := by have := hr.1; rw [bs_length] at this; omega
  have HLEN := Lib.hid hlen; clear hlen
  have htl := ht.lt
  have ht1 := ht.next (w' := w.alloc (.cells (Array.replicate 32 (.int .u8 0)) 39)) ((Below.refl _ _).alloc (Nat.le_refl _) _)
  have hr1 := hr.alloc (Nat.le_refl _) (.cells (Array.replicate 32 (.int .u8 0)) 39)
  have hR1 := Blk.new w 39 (Array.replicate 32 (.int .u8 0))
  have hb1 : Below w.heap.size w (w.alloc (.cells (Array.replicate 32 (.int .u8 0)) 39)) := (Below.refl _ _).alloc (Nat.le_refl _) _
  obtain ⟨w1, hw1⟩ : ∃ w1 : World, w1 = w.alloc (.cells (Array.replicate 32 (.int .u8 0)) 39) := ⟨_, rfl⟩
  have hs1 : w1.heap.size = w.heap.size + 1 := by rw [hw1]; simp
  rw [← hw1] at ht1 hr1 hR1 hb1
  have hw1' := hw1.symm
  clear hw1
  have HT1 := Lib.hid ht1; have HR1 := Lib.hid hr1; have HRES := Lib.hid hR1; have HB1 := Lib.hid hb1; have HS1 := Lib.hid hs1; have HL := Lib.hid hl
  clear ht1 hr1 hR1 hb1 hs1 hl hr ht
  go_enter Tryz.func22, Tryz.ntmps22
  go_wp2_with fail
  refine (begun_any w1).mono ?_
  rintro _ w2 ⟨g, o, rfl, hk2, hb2⟩
  have hp2 : Pt w2 g o A l.length l := by
    rw [HLEN.out]
    exact Pt.of_below hk2 ((HR1.out.more (by have := HS1.out; omega)).below hb2)
  have hcall := addS_any w1.heap.size (by have := HS1.out; omega) g o [] l A c 0 w2 hk2 hp2 HL.out (by rw [HLEN.out]; exact hc) (by rw [HLEN.out]; omega) (by rw [HLEN.out, List.length_nil]; omega) (HT1.out.next hb2)
  rw [HLEN.out, List.nil_append, Nat.zero_add] at hcall
  have HC := Lib.hid hcall
  have HB2 := Lib.hid hb2
  have HT2 := Lib.hid (HT1.out.next hb2)
  clear hcall hp2 hk2 hb2
  go_wp2_with fail
  refine HC.out.mono ?_
  rintro _ w3 ⟨rfl, o3, hk3, hb3, _⟩
  have ht3 := HT2.out.below hb3 (show 0 < w1.heap.size by have := HS1.out; omega)
  rw [← HLEN.out] at hk3
  have HD := Lib.hid (digest_any w1.heap.size g o3 l w3 hk3 (by rw [HLEN.out]; exact hn) ht3 (by have := HS1.out; omega) (fun g o L p A c N w h1 h2 h3 h4 h5 h6 h7 => addS_any w1.heap.size (by have := HS1.out; omega) g o L p A c N w h1 h2 h3 h4 h5 h6 h7))
  have HB3 := Lib.hid (HB2.out.trans hb3)
  clear hk3 hb3 ht3
  go_wp2_with fail
  refine HD.out.mono ?_
  rintro _ w4 ⟨rfl, hb4⟩
  have hb5 := HB3.out.trans hb4
  have hres := HRES.out.below hb5 HRES.out.lt
  have HR5 := Lib.hid hres
  have HB5 := Lib.hid (HB1.out.trans (hb5.mono (by have := HS1.out; omega)))
  have hsz2 : ((bs (shaN l)).toArray).size = 32 := by simp [bs_length, shaN_length]
  have hone : ((bs (shaN l)).toArray).all (·.oneCell') = true := by
    rw [Array.all_eq_true]
    intro j h
    exact bs_one (shaN l) _ (by simp)
  have HZ2 := Lib.hid hsz2; have HON := Lib.hid hone
  clear hsz2 hone hb4 hb5 hres
  obtain ⟨V, hV⟩ : ∃ V : Array Value, V = (bs (shaN l)).toArray := ⟨_, rfl⟩
  rw [← hV] at HZ2 HON ⊢
  have HV := Lib.hid hV; clear hV
  go_wp2_with (refine wpList_store_row (by rfl) (.tmp 2) (.tmp 9) (by rfl) (by rfl) (by rfl) HR5.out (by rw [HZ2.out]; exact hsz.out) (by rw [HZ2.out]; simp) HON.out ?_)
  refine bodyPost_ret (v := .agg V) (results_cell_row rfl _ _ _ _ _ _ _ (by rfl) (HR5.out.row V) Tryz.underlying39 rfl (by rw [HZ2.out]; exact hsz.out)) rfl ⟨by rw [HV.out], Below.row HB5.out (Nat.le_refl _) _⟩
end Go.Proofs.YtpgdlmnhomnblaaGreatDoor
namespace Go.Proofs.YtpgdlmnhomnblaaGreatDoor
open Go.RowKit
set_option linter.unusedVariables false
set_option linter.unusedSimpArgs false
def TwoS (w : World) (B : Nat) (t : TypeId) (s : Nat) (va vb : Value) (n m : Nat) (xs ys : List Value) : Prop :=
  w.ownsRow B t s va n xs ∧ w.ownsRow B t s vb m ys ∧ (vb.ownBlock = none ∨ vb.ownBlock ≠ va.ownBlock)
theorem TwoS.nil (w : World) (B : Nat) (t : TypeId) (s : Nat) : TwoS w B t s (.slice none 0 0) (.slice none 0 0) 0 0 [] [] := ⟨own_nil _ _ _ _, own_nil _ _ _ _, .inl rfl⟩
theorem TwoS.grown {w w' : World} {B : Nat} {t : TypeId} {s : Nat} {va vb va' : Value} {n m n' : Nat} {xs ys xs' : List Value} {o : Obj} (h : TwoS w B t s va vb n m xs ys)
    (hown : w'.ownsRow B t s va' n' xs') (hg : (w.alloc o).grownBy w' va.ownBlock) (hat : va'.ownBlock = va.ownBlock ∨ va'.ownBlock = some (w.alloc o).heap.size) : TwoS w' B t s va' vb n' m xs' ys := by
  obtain ⟨h1, h2, h3⟩ := h
  refine ⟨hown, (h2.alloc o).kept hg h3, ?_⟩
  rcases hat with hat | hat
  · rw [hat]; exact h3
  · cases hb : vb.ownBlock with
    | none => exact .inl rfl
    | some q =>
      refine .inr fun e => ?_
      rw [hat] at e
      injection e with e
      have := (h2.lt q hb).2
      simp at e
      omega
theorem TwoS.below {w w' : World} {B : Nat} {t : TypeId} {s : Nat} {va vb : Value} {n m : Nat} {xs ys : List Value} (h : TwoS w B t s va vb n m xs ys) (hb : Below w.heap.size w w') : TwoS w' B t s va vb n m xs ys :=
  ⟨own_below h.1 hb, own_below h.2.1 hb, h.2.2⟩
end Go.Proofs.YtpgdlmnhomnblaaGreatDoor
