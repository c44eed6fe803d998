/- Contract of package frame's Put: the frame, in new memory. -/
import Derived.Test.YtpibekpddbhojaaDoorFrSmall
import Derived.Test.YtpibekpddbhojaaDoorPut
namespace Go.Proofs.YtpibekpddbhojaaDoor
open Go.RowKit
set_option linter.unusedVariables false
set_option maxRecDepth 100000

/-- What Put answers: new memory that holds 'l', and no error. -/
def NewOk (w : World) (l : List Nat) (e : Ending) (w' : World) : Prop := ∃ v, e = .returned (.tuple #[v, .int .i64 0]) ∧ w'.ownsRow w.heap.size 5 1 v l.length (bs l) ∧ Below w.heap.size w w'
set_option maxHeartbeats 1000000 in
theorem put_any (A : Option Addr) (n c : Nat) (p : List Nat) (w : World) (hr : Reads w w.heap.size 1 A n (bs p)) (hp : ∀ b ∈ p, b < 256) (hn : n ≤ 16777216) :
    Calls Tryd.prog 9 #[.slice A n c] w (NewOk w (fr p)) := by
  have e1 : p.length = n := by have := hr.1; rw [bs_length] at this; omega
  have E1 := Lib.hid e1; clear e1
  have HP := Lib.hid hp; clear hp
  obtain ⟨i0, hi0, hz0, hz1, hz2⟩ := info_parts info_u8
  go_enter Tryd.func9, Tryd.ntmps9
  go_wp2_with fail
  refine (check_ok n w (by omega)).mono ?_
  rintro e w0 ⟨rfl, rfl⟩
  go_wp2_with fail
  refine (putFix_4 none 0 0 n [] w (by omega) Reads.none_ (by simp) (by omega)).mono ?_
  rintro e w1 ⟨v1, rfl, hown1, hb1⟩
  simp only [List.nil_append, Nat.zero_add] at hown1
  obtain ⟨A1, c1, rfl, _, _, hr1⟩ := own_slice hown1
  go_wp2_with fail
  refine (sumOf_any A1 A 4 c1 n c (fx 4 n) p w1 hr1 ((hr.below hb1).more hb1.size) (fx_byte _ _) HP.out (by omega) (by omega)).mono ?_
  rintro e w2 ⟨rfl, hb2⟩
  have hs := sumN_lt (fx 4 n ++ p)
  obtain ⟨s, hsd⟩ : ∃ s, sumN (fx 4 n ++ p) = s := ⟨_, rfl⟩
  rw [hsd] at hs ⊢
  have HS := Lib.hid hsd; clear hsd
  go_wp2_with fail
  refine (putFix_4 none 0 0 s [] w2 (by omega) Reads.none_ (by simp) (by omega)).mono ?_
  rintro e w3 ⟨v3, rfl, hown3, hb3⟩
  simp only [List.nil_append, Nat.zero_add] at hown3
  obtain ⟨A3, c3, rfl, _, _, hr3⟩ := own_slice hown3
  have hb13 : Below w1.heap.size w1 w3 := hb2.trans (hb3.mono hb2.size)
  have hb03 : Below w.heap.size w w3 := hb1.trans (hb13.mono hb1.size)
  have hrl : Reads w3 w3.heap.size 1 A1 4 (bs (fx 4 n)) := (hr1.below hb13).more hb13.size
  have hrp : Reads w3 w3.heap.size 1 A n (bs p) := (hr.below hb03).more hb03.size
  have hmk : (Instr.makeSlice 22 (.int .i64 0) (.int .i64 (8 + (n : Int)))).run Tryd.prog w3 = .ok (.slice (some ⟨w3.heap.size, 0, none⟩) 0 (8 + n)) (w3.alloc (.cells (madeCells #[.int .u8 0] (8 + n)) 5)) := run_make_u8 (8 + n) (by omega) w3
  have hown0 : (w3.alloc (.cells (madeCells #[.int .u8 0] (8 + n)) 5)).ownsRow w3.heap.size 5 1 (.slice (some ⟨w3.heap.size, 0, none⟩) 0 (8 + n)) 0 [] :=
    World.ownsRow_made w3 _ _ (Nat.le_refl _) (by unfold maxLen; omega) (by rw [size_madeCells]; omega)
  go_wp2_with (first
    | (at_builtin
       refine wpList_append_any _ rfl (.tmp 29) (.tmp 30) _ rfl w3.heap.size 5 i0 _ 1 1 Tryd.underlying22 hi0 hz0 hz1 hz2 rfl (by omega) (.slice (some ⟨w3.heap.size, 0, none⟩) 0 (8 + n)) 0 [] rfl
         hown0 w3.heap.size A1 4 c1 (bs (fx 4 n)) rfl (hrl.alloc (Nat.le_refl _) _) (bs_one _) (by unfold maxLen; omega) (by omega) (by simp) ?_
       intro v4 w4 hown4 hg4 hat4
       have hb4 : Below w3.heap.size w3 w4 := ((Below.refl _ _).alloc (Nat.le_refl _) _).grown hg4 (by simp) (fun k hk => by simp [Value.ownBlock] at hk; omega)
       have hr34 := hr3.below hb4
       have hrp4 := hrp.below hb4)
    | (at_builtin
       refine wpList_append_any _ rfl (.tmp 32) (.tmp 33) _ rfl w3.heap.size 5 i0 _ 1 1 Tryd.underlying22 hi0 hz0 hz1 hz2 rfl (by omega) v4 (0 + 4) ([] ++ bs (fx 4 n)) rfl
         hown4 w3.heap.size A3 4 c3 (bs (fx 4 s)) rfl hr34 (bs_one _) (by unfold maxLen; omega) (by omega) hb4.size ?_
       intro v5 w5 hown5 hg5 hat5
       have hb5 : Below w3.heap.size w3 w5 := hb4.grown hg5 hb4.size (fun k hk => (hown4.lt k hk).1)
       have hrp5 := hrp.below hb5)
    | (at_builtin
       refine wpList_append_any _ rfl (.tmp 35) (.tmp 36) _ rfl w3.heap.size 5 i0 _ 1 1 Tryd.underlying22 hi0 hz0 hz1 hz2 rfl (by omega) v5 (0 + 4 + 4) ([] ++ bs (fx 4 n) ++ bs (fx 4 s)) rfl
         hown5 w3.heap.size A n c (bs p) rfl hrp5 (bs_one _) (by unfold maxLen; omega) (by omega) hb5.size ?_
       intro v6 w6 hown6 hg6 hat6
       have hb6 : Below w3.heap.size w3 w6 := hb5.grown hg6 hb5.size (fun k hk => (hown5.lt k hk).1)))
  go_ret2
  have e1 := E1.out
  have hfr : fr p = fx 4 n ++ fx 4 s ++ p := by unfold fr; rw [e1, HS.out]
  have hl : (fr p).length = 0 + 4 + 4 + n := by have := fr_length p; omega
  refine ⟨v6, rfl, ?_, hb03.trans (hb6.mono hb03.size)⟩
  rw [hl, hfr, bs_append, bs_append]
  exact own_base hown6 hb03.size
end Go.Proofs.YtpibekpddbhojaaDoor
