/- Texts joined: TxRefPlace TxSlice TxRefList Ints. -/
import Derived.BigQuiet
import Derived.Deep.QuietTactic
import Derived.Test.YtppeagjklndidaaGreatDoorJ8
import Derived.Test.YtppeagjklndidaaGreatDoorTxPlain
import Derived.Test.YtppeagjklndidaaGreatDoorJ12
import Derived.Test.YtppeagjklndidaaGreatDoorJ31
import Derived.Test.YtppeagjklndidaaGreatDoorWords
/- Contract of the document's Place: where a text stands among others, or would; and whether it does. -/
namespace Go.Proofs.YtppeagjklndidaaGreatDoor
open Go.RowKit
set_option linter.unusedVariables false
set_option linter.unusedSimpArgs false
set_option maxRecDepth 100000

/-- It stands there. -/
def isT (L : List Tx) (s : Tx) : Bool := decide (L[whT L s]? = some s)
set_option maxHeartbeats 1000000 in
theorem refPlace_any (A : Option Addr) (n c : Nat) (L : List Tx) (s : Tx) (w : World) (hr : Reads w w.heap.size 1 A n (ts L)) (hn : n ≤ 140737488355328) :
    Calls Tryz.prog 52 #[.slice A n c, .string ⟨s.toArray⟩] w fun e w' => e = .returned (.tuple #[.int .i64 (whT L s : Int), .bool (isT L s)]) ∧ Drawn w w' := by
  have e1 : L.length = n := by have := hr.1; rw [ts_length] at this; omega
  have HE : Hid (L.length = n) := Lib.hid e1
  clear e1
  go_enter Tryz.func52, Tryz.ntmps52
  go_wp2_with fail
  go_loop [6] (fun i => ∃ k : Nat, k ≤ n ∧ i = .int .i64 (k : Int) ∧ Hid (∀ (j : Nat) (y : Tx), j < k → L[j]? = some y → tlt y s)) (fun i => n - (intOf i).toNat)
  case atStart => exact ⟨0, Nat.zero_le _, rfl, Lib.hid (fun j y h => absurd h (by omega))⟩
  case round =>
    obtain ⟨k, hk, rfl, HA⟩ := hrel
    by_cases hlt : k < n
    · obtain ⟨ad, u, rfl, _, hu, hc⟩ := hr.at_ hlt
      obtain ⟨y, hy, rfl⟩ := ts_at hu
      by_cases hys : tlt y s
      · have q1 := less_of hys
        have HA2 : Hid (∀ (j : Nat) (y : Tx), j < k + 1 → L[j]? = some y → tlt y s) := Lib.hid fun j x hj hx => by
          by_cases h : j = k
          · subst h; rw [hy] at hx; injection hx with hx; subst hx; exact hys
          · exact HA.out j x (by omega) hx
        clear hu hy hys
        go_wp2_with fail
        go_round
        case rel => exact ⟨k + 1, by omega, by go_num, HA2⟩
        case measure => simp [intOf]; omega
      · have q1 := less_not hys
        have HW : Hid (whT L s = k) := Lib.hid (whT_of (by rw [HE.out]; exact hk) HA.out (fun x hx => by rw [hy] at hx; injection hx with hx; subst hx; exact hys))
        have HI : Hid (isT L s = (y == s)) := Lib.hid (by
          unfold isT
          rw [HW.out, hy]
          by_cases h : y = s
          · simp [h]
          · simp [h])
        clear hu hy hys
        go_wp2_with fail
        go_quiet (fail)
        go_wp2_with fail
        go_ret2
        exact ⟨by rw [HW.out, HI.out]; rfl, Drawn.one _ _⟩
    · obtain rfl : k = n := by omega
      have HW : Hid (whT L s = k) := Lib.hid (whT_of (by rw [HE.out]; exact hk) HA.out (fun x hx => by have := (List.getElem?_eq_some_iff.1 hx).1; have := HE.out; omega))
      have HI : Hid (isT L s = false) := Lib.hid (by
        unfold isT
        rw [HW.out, List.getElem?_eq_none (by rw [HE.out]; exact Nat.le_refl _)]
        simp)
      have d1 : decide ((k : Int) < (k : Int)) = false := by simp
      go_wp2_with fail
      go_quiet (fail)
      go_wp2_with fail
      go_ret2
      exact ⟨by rw [HW.out, HI.out]; rfl, Drawn.one _ _⟩
end Go.Proofs.YtppeagjklndidaaGreatDoor

/- Slices of a row of texts, whatever their address, over this program. No condition. -/
namespace Go.Proofs.YtppeagjklndidaaGreatDoor
open Go.RowKit
set_option linter.unusedVariables false
set_option linter.unusedSimpArgs false
set_option maxRecDepth 100000

theorem add_zero_ (a : Addr) : a.add 0 = a := by unfold Addr.add; simp
theorem map_add_zero (A : Option Addr) : A.map (·.add 0) = A := by cases A <;> simp [add_zero_]
theorem elem_str : Tryz.prog.elem 32 = 9 := by kernel_rfl
theorem sizeOf_str (W : World) : (sizeOf 9).run Tryz.prog W = .ok 1 W := by
  obtain ⟨i0, hi0, hz0, hz1, hz2⟩ := info_parts info_str
  simp [sizeOf, typeInfo, hi0, hz1]
theorem slice_front (A : Option Addr) (n c p : Nat) (hp : p ≤ c) (W : World) : (Instr.sliceAt 32 (.slice A n c) none (some (.int .i64 (p : Int))) none).run Tryz.prog W = .ok (.slice A p c) W := by
  rw [run_sliceAt_slice W 32 _ _ _ _ (by rw [elem_str]; exact Tryz.underlying32), run_slice_h W 32 A n c (by rw [elem_str]; exact Tryz.underlying32) .i64 (p : Int) (by omega) (by omega), elem_str, sizeOf_str]
  have h : (if c = 0 then A else A.map (·.add 0)) = A := by rw [map_add_zero]; simp
  simp [Result.andThen, sliced, map_add_zero]
theorem slice_rest (A : Option Addr) (n c p : Nat) (hp : p ≤ n) (W : World) : (Instr.sliceAt 32 (.slice A n c) (some (.int .i64 (p : Int))) none none).run Tryz.prog W = .ok (.slice (if c = p then A else A.map (·.add p)) (n - p) (c - p)) W := by
  rw [run_sliceAt_slice W 32 _ _ _ _ (by rw [elem_str]; exact Tryz.underlying32), run_slice_l W 32 A n c (by rw [elem_str]; exact Tryz.underlying32) .i64 (p : Int) (by omega) (by omega), elem_str, sizeOf_str]
  simp [Result.andThen, sliced]
end Go.Proofs.YtppeagjklndidaaGreatDoor

/- Contract of the document's list of texts. -/
namespace Go.Proofs.YtppeagjklndidaaGreatDoor
open Go.RowKit
set_option linter.unusedVariables false
set_option linter.unusedSimpArgs false
set_option maxRecDepth 100000

set_option maxHeartbeats 2000000 in
theorem refListT_any (A : Option Addr) (n c : Nat) (l : List Tx) (w : World) (hr : Reads w w.heap.size 1 A n (ts l)) (hn : n ≤ 65536) :
    Calls Tryz.prog 27 #[.slice A n c] w (NewT w (lstT l)) := by
  obtain ⟨i1, hi1, hy0, hy1, hy2⟩ := info_parts info_str
  have e1 : l.length = n := by have := hr.1; rw [ts_length] at this; omega
  have E1 := Lib.hid e1
  clear e1
  go_enter Tryz.func27, Tryz.ntmps27
  go_wp2_with fail
  go_loopw [3, 4] (fun s3 s4 wr => ∃ k : Nat, k ≤ n ∧ s4 = .int .i64 (k : Int) ∧ wr.ownsRow w.heap.size 9 1 s3 (lstT (l.take k)).length (ts (lstT (l.take k))) ∧ Below w.heap.size w wr) (fun _ i _ => n - (intOf i).toNat)
  case atStart => exact ⟨0, Nat.zero_le _, rfl, own_nil _ _ _ _, Below.refl _ _⟩
  case round =>
    obtain ⟨k, hk, rfl, hown, hb⟩ := hrel
    by_cases hlt : k < n
    · obtain ⟨ad, u, rfl, hadb, hu, hc⟩ := (hr.below hb).at_ hlt
      obtain ⟨z, hz, rfl⟩ := ts_at hu
      have hzc : ∀ W : World, Below w.heap.size w W → W.cell? (ad.add k) = some (.string ⟨z.toArray⟩) := fun W h => by
        obtain ⟨ad', u', e, _, h1, h2⟩ := (hr.below h).at_ hlt
        injection e with e
        subst e
        rw [ts_get hz] at h1
        injection h1 with h1
        subst h1
        exact h2
      have HZC := Lib.hid hzc
      have hol := lstT_length (l.take k)
      have htk : (l.take k).length ≤ k := List.length_take_le _ _
      have HS : Hid (lstT (l.take (k + 1)) = insT z (lstT (l.take k))) := Lib.hid (by rw [take_snoc hz, lstT_snoc])
      obtain ⟨o, ho⟩ : ∃ o, o = lstT (l.take k) := ⟨_, rfl⟩
      obtain ⟨N, hN⟩ : ∃ N, N = o.length := ⟨_, rfl⟩
      rw [← ho] at hown hol HS
      rw [← hN] at hown hol
      have HN := Lib.hid hN
      obtain ⟨A3, c3, rfl, hc3, _, r3⟩ := own_slice hown
      have hp := whT_le o z
      rw [← hN] at hp
      have HPL := Lib.hid (refPlace_any A3 N c3 o z wr r3 (by omega))
      obtain ⟨p, hp0⟩ : ∃ p, p = whT o z := ⟨_, rfl⟩
      have hNk : N ≤ k := by omega
      rw [← hp0] at hp HPL
      cases hI : isT o z with
      | true =>
        have HE : Hid (insT z o = o) := Lib.hid (insT_old (by unfold isT at hI; simpa using hI))
        rw [hI] at HPL
        clear hu hz ho hzc hadb hI hN hp0
        go_wp2_with fail
        refine HPL.out.mono ?_
        rintro e w1 ⟨rfl, hd⟩
        have hown1 : w1.ownsRow w.heap.size 9 1 (.slice A3 N c3) N (ts o) := by
          obtain ⟨q, rfl⟩ := hd
          exact hown
        go_wp2_with fail
        go_round
        case rel =>
          refine ⟨k + 1, by omega, by go_num, ?_, hd.below hb⟩
          rw [HS.out, HE.out, ← HN.out]
          exact hown1
        case measure => simp [intOf]; omega
      | false =>
        have HE : Hid (insT z o = o.take p ++ z :: o.drop p) := Lib.hid (by rw [hp0]; exact insT_new (by unfold isT at hI; simpa using hI))
        rw [hI] at HPL
        clear hu hz ho hzc hadb hI hp0 hN
        go_wp2_with fail
        refine HPL.out.mono ?_
        rintro e w1 ⟨rfl, hd⟩
        have hb1 := hd.below hb
        have r31 := r3.next (hd.below (Below.refl _ _))
        have hF := r31.fore (k := p) hp
        simp only [Nat.mul_one] at hF
        rw [ts_take] at hF
        have hcap : N ≤ c3 := hc3
        have hD := r31.cut (k := p) (cap := c3) hp hc3
        simp only [Nat.mul_one] at hD
        rw [ts_drop] at hD
        have hzw := HZC.out _ hb1
        have hN3 : (o.take p).length = p := by rw [List.length_take]; have := HN.out; omega
        have HN3 := Lib.hid hN3
        clear r3 hc hb hown hN3 hd
        have hs1 := slice_front A3 N c3 p (by omega)
        have hs2 := slice_rest A3 N c3 p hp
        obtain ⟨A4, hA4⟩ : ∃ A4, (if c3 = p then A3 else A3.map (·.add p)) = A4 := ⟨_, rfl⟩
        rw [hA4] at hs2 hD
        have HS2 := Lib.hid hs2
        clear hA4 r31 hs2
        have HL : Hid (ts (o.take p) ++ [Value.string ⟨z.toArray⟩] ++ ts (o.drop p) = ts (insT z o) ∧ p + 1 + (N - p) = (insT z o).length) := Lib.hid (by
          rw [HE.out]
          refine ⟨by simp [ts], ?_⟩
          rw [List.length_append, List.length_cons, HN3.out, List.length_drop]
          have := HN.out
          omega)
        go_wp2_with (first
          | (at_builtin
             refine wpList_append_any _ rfl (.tmp 25) (.tmp 28) _ rfl w1.heap.size 9 i1 _ 1 16 Tryz.underlying32 hi1 hy0 hy1 hy2 rfl (by omega) (.slice (some ⟨w1.heap.size, 0, none⟩) 0 0) 0 [] rfl
               (World.ownsRow_made w1 #[] 0 (Nat.le_refl _) (Nat.zero_le _) rfl) w1.heap.size A3 p c3 (ts (o.take p)) rfl (hF.alloc (Nat.le_refl _) _) (ts_one _) (by unfold maxLen; omega) (by omega) (by simp) ?_
             intro v5 w5 hown5 hg5 hat5
             rw [Nat.zero_add, List.nil_append] at hown5
             simp only [Nat.zero_add]
             have hb5 : Below w1.heap.size w1 w5 := ((Below.refl _ w1).alloc (Nat.le_refl _) _).grown hg5 (by simp) (by intro k hk; simp [Value.ownBlock] at hk; omega)
             have hz5 := HZC.out _ (hb1.trans (hb5.mono hb1.size))
             have h15 := hb5.size
             clear hs1 hF hg5 hat5
             have hs2 := HS2.out)
          | (at_builtin
             refine wpList_append_any _ rfl (.tmp 30) (.tmp 35) _ rfl w1.heap.size 9 i1 _ 1 16 Tryz.underlying32 hi1 hy0 hy1 hy2 rfl (by omega) v5 p (ts (o.take p)) rfl
               (hown5.alloc _) (w5.heap.size + 1) (some ⟨w5.heap.size, 0, none⟩) 1 1 [.string ⟨z.toArray⟩] rfl (Reads.new w5 _ _) (ts_one [z]) (by unfold maxLen; omega) (by omega) (by simp; omega) ?_
             intro v6 w6 hown6 hg6 hat6
             have hb6 := below_app hb5 hown5 h15 hg6
             have hD6 := hD.next hb6
             have h16 := hb6.size
             clear hg6 hat6 hown5)
          | (at_builtin
             refine wpList_append_any _ rfl (.tmp 37) (.tmp 40) _ rfl w1.heap.size 9 i1 _ 1 16 Tryz.underlying32 hi1 hy0 hy1 hy2 rfl (by omega) v6 (p + 1) (ts (o.take p) ++ [.string ⟨z.toArray⟩]) rfl
               hown6 w6.heap.size A4 (N - p) (c3 - p) (ts (o.drop p)) rfl hD6 (ts_one _) (by unfold maxLen; omega) (by omega) h16 ?_
             intro v7 w7 hown7 hg7 hat7))
        go_round
        case rel =>
          refine ⟨k + 1, by omega, by go_num, ?_, (hb1.trans (hb6.mono hb1.size)).grown hg7 (hb1.trans (hb6.mono hb1.size)).size (fun j hj => by have := (hown6.lt j hj).1; have := hb1.size; omega)⟩
          rw [HS.out, ← HL.out.1, ← HL.out.2]
          exact own_base hown7 hb1.size
        case measure => simp [intOf]; omega
    · obtain rfl : k = n := by omega
      rw [List.take_of_length_le (by rw [E1.out]; exact Nat.le_refl _)] at hown
      go_wp2_with fail
      go_ret
      exact ⟨_, rfl, hown, hb⟩
end Go.Proofs.YtppeagjklndidaaGreatDoor

/- Numbers with a sign as values: lists of natural numbers, and of any, in memory. No program, no condition. -/
namespace Go.Proofs.YtppeagjklndidaaGreatDoor
open Go.RowKit
set_option linter.unusedVariables false
set_option linter.unusedSimpArgs false
set_option maxRecDepth 100000

def ns (l : List Nat) : List Value := l.map fun b : Nat => Value.int .i64 (b : Int)
def zs (l : List Int) : List Value := l.map (Value.int .i64)
theorem ns_zs (l : List Nat) : ns l = zs (l.map fun b : Nat => (b : Int)) := by unfold ns zs; rw [List.map_map]; rfl
theorem zs_length (l : List Int) : (zs l).length = l.length := by simp [zs]
theorem ns_length (l : List Nat) : (ns l).length = l.length := by simp [ns]
theorem ns_append (l m : List Nat) : ns (l ++ m) = ns l ++ ns m := by simp [ns]
theorem zs_at {l : List Int} {k : Nat} {u : Value} (h : (zs l)[k]? = some u) : ∃ b, l[k]? = some b ∧ u = .int .i64 b := by
  unfold zs at h
  rw [List.getElem?_map] at h
  cases hb : l[k]? with
  | none => rw [hb] at h; cases h
  | some b => rw [hb] at h; injection h with h; exact ⟨b, rfl, h.symm⟩
theorem ns_at {l : List Nat} {k : Nat} {u : Value} (h : (ns l)[k]? = some u) : ∃ b, l[k]? = some b ∧ u = .int .i64 (b : Int) := by
  unfold ns at h
  rw [List.getElem?_map] at h
  cases hb : l[k]? with
  | none => rw [hb] at h; cases h
  | some b => rw [hb] at h; injection h with h; exact ⟨b, rfl, h.symm⟩
end Go.Proofs.YtppeagjklndidaaGreatDoor
