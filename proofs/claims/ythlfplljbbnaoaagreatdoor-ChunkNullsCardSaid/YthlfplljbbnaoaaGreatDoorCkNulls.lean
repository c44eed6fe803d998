/- The walk of the statement ChunkNulls, under the contracts of chunk's own Put and Get: of values that are nothing all of them, each way's chunk is read as these. -/
import Derived.Test.YthlfplljbbnaoaaGreatDoorJ9
import Derived.Test.YthlfplljbbnaoaaGreatDoorJ41
import Derived.Test.YthlfplljbbnaoaaGreatDoorVSame
import Derived.Test.YthlfplljbbnaoaaGreatDoorJ13
namespace Go.Proofs.YthlfplljbbnaoaaGreatDoor
open Go.RowKit
set_option linter.unusedVariables false
set_option linter.unusedSimpArgs false
set_option maxRecDepth 100000

set_option maxHeartbeats 1000000 in
theorem nullsC_any (HP : PutC) (HG : GetC) (n : Nat) (kd way : Int) (w : World) (hn : n < 65536) (hk : In64 kd) (hw : In64 way) (hmet : Met w) :
    Calls Tryz.prog 6 #[.int .u16 (n : Int), .int .i64 kd, .int .i64 way] w fun e w' => e = .returned (.bool true) ∧ Below w.heap.size w w' := by
  have haw := awakeC_any HP
  have HAW := Lib.hid haw
  clear haw
  by_cases hgt : 300 < n
  · go_enter Tryz.func6, Tryz.ntmps6
    go_wp2_with fail
    refine (HAW.out w).mono ?_
    rintro e w1 ⟨rfl, hb1⟩
    go_wp2_with fail
    go_ret
    exact ⟨rfl, hb1⟩
  · obtain ⟨l, hl⟩ : ∃ l, l = List.replicate n ((0 : Int), (0 : Int), ([] : Tx)) := ⟨_, rfl⟩
    have hmk := fun W => run_make_vals n (by omega) W
    rw [← hl] at hmk
    have hll : l.length = n := by rw [hl, List.length_replicate]
    have hlv : ∀ v ∈ l, v = (0, 0, []) := fun v hv => by rw [hl] at hv; exact (List.mem_replicate.1 hv).2
    have hin : ∀ v ∈ l, In64 v.1 ∧ In64 v.2.1 := fun v hv => by rw [hlv v hv]; unfold In64; simp
    have hsh : ∀ v ∈ l, v.2.2.length ≤ 65536 := fun v hv => by rw [hlv v hv]; simp
    have hck : ckE kd l = 0 := ckE_of (by omega) hsh fun v hv => by rw [hlv v hv]; simp [rgt]
    have hp := HP (some ⟨w.heap.size, 0, none⟩) n n kd way l (w.alloc (.cells (vs l).toArray 42)) (by have := reads_vs w l 42; rw [hll] at this; exact this.more (by simp)) (by omega) hin hsh hk hw
    have hp0 : cpE kd way l = 0 ∨ cpE kd way l = 1 := by unfold cpE; split <;> simp [hck]
    have hwn : IntKind.i64.wrap (n : Int) = (n : Int) := IntWalk.i64_in _ (by omega)
    rcases hp0 with h0 | h0
    · obtain ⟨q1, q2, q3, q4⟩ := cpE_ok h0
      obtain ⟨wy, hwy⟩ : ∃ wy, wy = cpW kd way l := ⟨_, rfl⟩
      rw [← hwy] at q3 q4
      have hr5 := ofW_range q3
      obtain ⟨g1, g2⟩ := ck_get q3 hck (fun v hv => (hin v hv).2)
      have hbt := lyB_byte (way := wy) (by omega) (by omega) (fun v hv => (hin v hv).2) hsh
      have hbl := lyB_len (way := wy) (l := l) (by omega) (fun v hv => (hin v hv).2) hsh
      obtain ⟨b, hb⟩ : ∃ b, b = lyB l wy := ⟨_, rfl⟩
      unfold CkPut at hp
      rw [h0, q4, ← hb] at hp
      rw [← hb] at g1 g2 hbt hbl
      rw [hll] at g1 g2
      have hG := fun A c W (hr : Reads W W.heap.size 1 A b.length (bs b)) (hm : Met W) => HG A b.length c kd (n : Int) b W hr hbt (by omega) hk (by unfold In64; omega) hm
      unfold CkGet at hG
      rw [g1, g2, hll] at hG
      have HGG := Lib.hid hG
      have HPP := Lib.hid hp
      have HV0 := Lib.hid (fun (W : World) (h : Below (w.heap.size + 1) (w.alloc (.cells (vs l).toArray 42)) W) => (show Reads W W.heap.size 3 (some ⟨w.heap.size, 0, none⟩) n (vs l) from by
        have := reads_vs w l 42
        rw [hll] at this
        have hs := h.size
        simp at hs
        exact (this.below h).more hs))
      clear hp hG g1 g2 hbt hb hwy q1 q2 q3 q4 h0 hck hin hsh hlv hr5 hl
      have hb0 : Below w.heap.size w (w.alloc (.cells (vs l).toArray 42)) := (Below.refl _ _).alloc (Nat.le_refl _) _
      go_enter Tryz.func6, Tryz.ntmps6
      go_wp2_with fail
      refine HPP.out.mono ?_
      rintro e w1 ⟨v1, rfl, hown1, hb1⟩
      obtain ⟨A1, c1, rfl, _, _, r1⟩ := own_slice hown1
      have hb1' : Below (w.heap.size + 1) (w.alloc (.cells (vs l).toArray 42)) w1 := hb1.mono (by simp)
      have hb01 := hb0.trans (hb1.mono (by simp))
      clear hown1 hb1
      go_wp2_with fail
      refine (HGG.out A1 c1 w1 r1 (hmet.next hb01)).mono ?_
      rintro e w2 ⟨v2, rfl, hown2, hb2⟩
      obtain ⟨A2, c2, rfl, _, _, r2⟩ := own_slice hown2
      have hb2' := hb1'.trans (hb2.mono (by have := hb1'.size; simp at this; exact this))
      have hb02 := hb01.trans (hb2.mono hb01.size)
      have r0 := HV0.out w2 hb2'
      clear hown2 hb2
      go_wp2_with fail
      refine (sameV_true A2 _ n c2 n l w2 r2 r0 (by omega)).mono ?_
      rintro e w3 ⟨rfl, hd⟩
      have hb03 := hd.below hb02
      go_wp2_with fail
      refine (HAW.out w3).mono ?_
      rintro e w4 ⟨rfl, hb4⟩
      go_wp2_with fail
      go_ret
      exact ⟨rfl, hb03.trans (hb4.mono hb03.size)⟩
    · have hB : cpB kd way l = [] := by unfold cpB; rw [if_neg (by rw [h0]; decide)]
      unfold CkPut at hp
      rw [h0, hB] at hp
      have HPP := Lib.hid hp
      clear hp hB h0 hck hin hsh hlv hl
      have hb0 : Below w.heap.size w (w.alloc (.cells (vs l).toArray 42)) := (Below.refl _ _).alloc (Nat.le_refl _) _
      go_enter Tryz.func6, Tryz.ntmps6
      go_wp2_with fail
      refine HPP.out.mono ?_
      rintro e w1 ⟨v1, rfl, hown1, hb1⟩
      obtain ⟨A1, c1, rfl, _, _, r1⟩ := own_slice hown1
      have hb01 := hb0.trans (hb1.mono (by simp))
      clear hown1 hb1 r1
      go_wp2_with fail
      refine (HAW.out w1).mono ?_
      rintro e w4 ⟨rfl, hb4⟩
      go_wp2_with fail
      go_ret
      exact ⟨rfl, hb01.trans (hb4.mono hb01.size)⟩
end Go.Proofs.YthlfplljbbnaoaaGreatDoor
