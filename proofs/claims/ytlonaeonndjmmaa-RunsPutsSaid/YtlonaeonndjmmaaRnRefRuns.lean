/- The document's runs of numbers. -/
import Derived.BigQuiet
import Derived.Test.YtlonaeonndjmmaaRnSnoc
import Derived.Test.YtlonaeonndjmmaaMem
import Derived.Test.YtlonaeonndjmmaaInts
namespace Go.Proofs.Ytlonaeonndjmmaa
open Go.RowKit
set_option linter.unusedVariables false
set_option linter.unusedSimpArgs false
set_option maxRecDepth 100000

theorem info_run : (Try.prog.info? 43).map (fun i => (i.zero, i.size, i.bytes)) = some (some (.agg #[.int .i64 0, .int .i64 0]), 2, 16) := by kernel_rfl
theorem reads_two (w : World) (u v : Value) (t : TypeId) : Reads (w.alloc (.cells #[u, v] t)) (w.heap.size + 1) 2 (some ⟨w.heap.size, 0, none⟩) 1 [u, v] :=
  ⟨by simp, fun _ => ⟨_, rfl, by simp, fun j z hz => by
    have hb := (Blk.new w t #[u, v]).cell j
    rw [plain_add, Nat.zero_add, hb]
    simpa using hz⟩⟩
set_option maxHeartbeats 1000000 in
theorem refRuns_any (A : Option Addr) (n c : Nat) (l : List Int) (w : World) (hr : Reads w w.heap.size 1 A n (zs l)) (hn : n ≤ 65536) :
    Calls Try.prog 10 #[.slice A n c] w fun e w' => ∃ v, e = .returned v ∧ w'.ownsRow w.heap.size 43 2 v (rc l) (rv (runs l)) ∧ Below w.heap.size w w' := by
  obtain ⟨i0, hi0, hz0, hz1, hz2⟩ := info_parts info_run
  have e1 : l.length = n := by have := hr.1; rw [zs_length] at this; omega
  have E1 := Lib.hid e1
  clear e1
  go_enter Try.func10, Try.ntmps10
  go_wp2_with fail
  go_loopw [3, 4] (fun out i wr => ∃ (k : Nat) (r : List (Int × Nat)), k ≤ n ∧ i = .int .i64 (k : Int) ∧ Hid (r = runs (l.take k)) ∧ r.length ≤ k ∧ wr.ownsRow w.heap.size 43 2 out r.length (rv r) ∧ Below w.heap.size w wr) (fun _ i _ => n - (intOf i).toNat)
  case atStart => exact ⟨0, [], by omega, rfl, Lib.hid rfl, Nat.le_refl _, own_nil _ _ _ _, Below.refl _ _⟩
  case round =>
    obtain ⟨k, r, hk, rfl, hR, hrk, hown, hb⟩ := hrel
    by_cases hlt : k < n
    · obtain ⟨ad, u, rfl, hadl, hu, hc⟩ := (hr.below hb).at_ hlt
      obtain ⟨x, hx, rfl⟩ := zs_at hu
      have HX := Lib.hid (take_snoc hx)
      clear hu hx
      rcases List.eq_nil_or_concat r with rfl | ⟨r', q, hrq⟩
      · have HN : Hid (Hid ([] ++ [(x, 1)] = runs (l.take (k + 1)))) := by
          have := runs_new (l := l.take k) (x := x) (by rw [← hR.out]; simp)
          rw [HX.out, this, ← hR.out]
          exact Lib.hid (Lib.hid rfl)
        obtain ⟨A0, c0, rfl, _, _, _⟩ := own_slice hown
        go_wp2_with fail
        go_quiet (fail)
        have hownq : ((wr.drewN nq).alloc (.cells #[.int .i64 x, .int .i64 1] 43)).ownsRow w.heap.size 43 2 (.slice A0 0 c0) 0 (rv []) := World.ownsRow.alloc (w := wr.drewN nq) hown _
        have hbq : Below w.heap.size w (wr.drewN nq) := (Drawn.one wr nq).below hb
        have hsz := hb.size
        clear hadl
        go_wp2_with (at_builtin
                     refine wpList_append_any _ rfl (.tmp 38) (.tmp 44) _ rfl w.heap.size 43 i0 _ 2 16 Try.underlying31 hi0 hz0 hz1 hz2 rfl (by omega) (.slice A0 0 c0) 0 (rv []) rfl
                       hownq (wr.heap.size + 1) (some ⟨wr.heap.size, 0, none⟩) 1 1 [.int .i64 x, .int .i64 1] rfl (reads_two _ _ _ _) (by simp [Value.oneCell']) (by unfold maxLen; omega) (by omega) (by simp; omega) ?_
                     intro v3 w3 hown3 hg3 hat3)
        go_round
        case rel =>
          refine ⟨k + 1, [] ++ [(x, 1)], by omega, by go_num, HN.out, by simp; try omega, ?_, (hbq.alloc hbq.size _).grown hg3 (by simp; omega) (fun j hj => (hownq.lt j hj).1)⟩
          rw [rv_append, List.length_append]
          exact hown3
        case measure => simp [intOf]; omega
      · rw [List.concat_eq_append] at hrq
        subst hrq
        obtain ⟨y, m⟩ := q
        have hrl : (r' ++ [(y, m)]).length = r'.length + 1 := by simp
        rw [hrl] at hown hrk
        obtain ⟨g, cap, rfl, hgB⟩ : ∃ g cap, u3 = .slice (some ⟨g, 0, none⟩) (r'.length + 1) cap ∧ w.heap.size ≤ g := by
          rcases hown.2 with ⟨_, h0⟩ | ⟨g, cap, cur, rfl, h1, _⟩
          · omega
          · exact ⟨g, cap, rfl, h1⟩
        have hat := rv_at (r := r' ++ [(y, m)]) (k := r'.length) (x := y) (m := m) (by simp)
        have c1 := hown.cellAt (r'.length * 2) (by omega)
        have c2 := hown.cellAt (r'.length * 2 + 1) (by omega)
        rw [hat.1] at c1
        rw [hat.2] at c2
        have f2 := hown.frozenAt (r'.length * 2 + 1)
        obtain ⟨q, hq⟩ : ∃ q, r'.length = q := ⟨_, rfl⟩
        rw [hq] at hown hrk c1 c2 f2 hrl ⊢
        have hw1 : IntKind.i64.wrap (q : Int) = (q : Int) := IntWalk.i64_in _ (by omega)
        have HQ := Lib.hid hq
        clear hat hq
        by_cases hxy : y = x
        · subst hxy
          have hst := hown.stored (q * 2 + 1) (.int .i64 ((m + 1 : Nat) : Int))
          rw [← HQ.out, rv_last, HQ.out] at hst
          have HN := Lib.hid (runs_more (l := l.take k) (x := y) hR.out.symm)
          have hm : m ≤ 65536 := by
            have := (run_at (l := l.take k) (k := q) (x := y) (n := m) (by rw [← hR.out, ← HQ.out]; simp)).2.1
            rw [List.length_take] at this
            omega
          rw [show ((m + 1 : Nat) : Int) = (m : Int) + 1 by omega] at hst
          have HST := Lib.hid hst
          clear hst
          go_wp2_with fail
          go_quiet (fail)
          go_wp2_with fail
          refine ⟨⟨k + 1, r' ++ [(y, m + 1)], by omega, by go_num, Lib.hid (by rw [HX.out, HN.out]), by rw [List.length_append, HQ.out, List.length_singleton]; omega, ?_, ((Drawn.one wr nq).below hb).setCell (p := ⟨g, q * 2 + 1, none⟩) hgB _⟩, by simp [intOf]; omega⟩
          rw [List.length_append, HQ.out, List.length_singleton]
          exact HST.out.1
        · have g2 : (y == x) = false := by simp [hxy]
          have HN : Hid (Hid ((r' ++ [(y, m)]) ++ [(x, 1)] = runs (l.take (k + 1)))) := by
            have := runs_new (l := l.take k) (x := x) (by rw [← hR.out]; simpa using hxy)
            rw [HX.out, this, ← hR.out]
            exact Lib.hid (Lib.hid rfl)
          go_wp2_with fail
          go_quiet (fail)
          have hownq : ((wr.drewN nq).alloc (.cells #[.int .i64 x, .int .i64 1] 43)).ownsRow w.heap.size 43 2 (.slice (some ⟨g, 0, none⟩) (q + 1) cap) (q + 1) (rv (r' ++ [(y, m)])) := World.ownsRow.alloc (w := wr.drewN nq) hown _
          have hbq : Below w.heap.size w (wr.drewN nq) := (Drawn.one wr nq).below hb
          have hsz := hb.size
          clear hadl
          go_wp2_with (at_builtin
                       refine wpList_append_any _ rfl (.tmp 38) (.tmp 44) _ rfl w.heap.size 43 i0 _ 2 16 Try.underlying31 hi0 hz0 hz1 hz2 rfl (by omega) (.slice (some ⟨g, 0, none⟩) (q + 1) cap) (q + 1) (rv (r' ++ [(y, m)])) rfl
                         hownq (wr.heap.size + 1) (some ⟨wr.heap.size, 0, none⟩) 1 1 [.int .i64 x, .int .i64 1] rfl (reads_two _ _ _ _) (by simp [Value.oneCell']) (by unfold maxLen; omega) (by omega) (by simp; omega) ?_
                       intro v3 w3 hown3 hg3 hat3)
          go_round
          case rel =>
            refine ⟨k + 1, (r' ++ [(y, m)]) ++ [(x, 1)], by omega, by go_num, HN.out, by rw [List.length_append, hrl, List.length_singleton]; omega, ?_, (hbq.alloc hbq.size _).grown hg3 (by simp; omega) (fun j hj => (hownq.lt j hj).1)⟩
            rw [rv_append, List.length_append, hrl]
            exact hown3
          case measure => simp [intOf]; omega
    · obtain rfl : k = n := by omega
      go_wp2_with fail
      go_ret
      rw [hR.out, List.take_of_length_le (by rw [E1.out]; omega)] at hown
      exact ⟨_, rfl, hown, hb⟩
end Go.Proofs.Ytlonaeonndjmmaa
