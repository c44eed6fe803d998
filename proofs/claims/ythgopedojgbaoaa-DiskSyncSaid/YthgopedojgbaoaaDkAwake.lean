/- Contracts of a disk that is none; of the statements' awake: the document's example holds. -/
import Derived.Test.YthgopedojgbaoaaDkBoot2
import Derived.Test.YthgopedojgbaoaaSame
namespace Go.Proofs.Ythgopedojgbaoaa
open Go.RowKit Go.Maps Go.WideMaps Go.ChangeMaps
set_option linter.unusedVariables false
set_option linter.unusedSimpArgs false
set_option maxRecDepth 100000

section
variable {w w1 : World} {X X1 : Nat → Prop} {d m : Nat} {D : DataW Unit} {C : Nat → Value} {S : St}
def One (w : World) (e : Ending) (w' : World) : Prop := e = .returned (.int .i64 1) ∧ Below w.heap.size w w'
theorem change_nil (s : ByteArray) (F : FuncId) (c : Array Value) (w : World) : Calls Try.prog 26 #[.pointer none, .string s, .func (.func F) #[] c] w (One w) := by
  have hf := hmf
  go_enter Try.func26, Try.ntmps26
  go_wp2_with fail
  refine (deed_nil (F1 := 40) (F2 := 41) _).mono ?_
  rintro e w2 ⟨rfl, hd⟩
  go_wp2_with fail
  go_ret
  exact ⟨rfl, hd.below ((((Below.refl _ w).alloc (Nat.le_refl _) _).alloc (by simp) _).alloc (by simp; omega) _)⟩
theorem Append_nil (s : ByteArray) (A : Option Addr) (n c : Nat) (w : World) : Calls Try.prog 9 #[.pointer none, .string s, .slice A n c] w (One w) := by
  have hf := hmf
  go_enter Try.func9, Try.ntmps9
  go_wp2_with fail
  refine (deed_nil (F1 := 23) (F2 := 23) _).mono ?_
  rintro e w2 ⟨rfl, hd⟩
  go_wp2_with fail
  go_ret
  exact ⟨rfl, hd.below ((((Below.refl _ w).alloc (Nat.le_refl _) _).alloc (by simp) _).alloc (by simp; omega) _)⟩
theorem Sync_nil (s : ByteArray) (w : World) : Calls Try.prog 10 #[.pointer none, .string s] w (One w) := by
  go_enter Try.func10, Try.ntmps10
  go_wp2_with fail
  refine (change_nil s _ _ w).mono ?_
  rintro e w2 ⟨rfl, hb⟩
  go_wp2_with fail
  go_ret
  exact ⟨rfl, hb⟩
theorem Delete_nil (s : ByteArray) (w : World) : Calls Try.prog 20 #[.pointer none, .string s] w (One w) := by
  have hf := hmf
  go_enter Try.func20, Try.ntmps20
  go_wp2_with fail
  refine (change_nil s _ _ _).mono ?_
  rintro e w2 ⟨rfl, hb⟩
  go_wp2_with fail
  go_ret
  exact ⟨rfl, (((Below.refl _ w).alloc (Nat.le_refl _) _).alloc (by simp) _).trans (hb.mono (by simp; omega))⟩
theorem Cut_nil (s : ByteArray) (n : Int) (w : World) : Calls Try.prog 21 #[.pointer none, .string s, .int .i64 n] w (One w) := by
  have hf := hmf
  go_enter Try.func21, Try.ntmps21
  go_wp2_with fail
  refine (change_nil s _ _ _).mono ?_
  rintro e w2 ⟨rfl, hb⟩
  go_wp2_with fail
  go_ret
  exact ⟨rfl, (((Below.refl _ w).alloc (Nat.le_refl _) _).alloc (by simp) _).trans (hb.mono (by simp; omega))⟩
theorem Rename_nil (s s2 : ByteArray) (w : World) : Calls Try.prog 19 #[.pointer none, .string s, .string s2] w (One w) := by
  have hf := hmf
  go_enter Try.func19, Try.ntmps19
  go_wp2_with fail
  refine (change_nil s _ _ _).mono ?_
  rintro e w2 ⟨rfl, hb⟩
  go_wp2_with fail
  go_ret
  exact ⟨rfl, ((((Below.refl _ w).alloc (Nat.le_refl _) _).alloc (by simp) _).alloc (by simp; omega) _).trans (hb.mono (by simp; omega))⟩
theorem Read_nil (s : ByteArray) (w : World) : Calls Try.prog 13 #[.pointer none, .string s] w fun e w' => e = .returned (.tuple #[.slice none 0 0, .int .i64 1]) ∧ Drawn w w' := by
  go_enter Try.func13, Try.ntmps13
  go_wp2_with fail
  refine (ready_nil w).mono ?_
  rintro e w1 ⟨rfl, hd⟩
  go_wp2_with fail
  go_ret2
  exact ⟨rfl, hd⟩
/-- Bytes that a text writes out. -/
theorem Src.lit (h : Dsk w X d S) (x : List Nat) (hx : ∀ b ∈ x, b < 256) (n : Nat) (hn : x.length = n) (hm : n ≤ maxLen) (cs : Array Value) (hcs : cs = (bs x).toArray) : Src (w.alloc (.cells cs 5)) X (some ⟨w.heap.size, 0, none⟩) n x := by
  subst hcs
  refine ⟨?_, fun _ ad e hX => ?_, hx, hm⟩
  · refine reads_blk (Blk.new w 5 (bs x).toArray) _ n (bs x) (by simp) (by rw [bs_length]; exact hn) ?_
    have : n = (bs x).length := by rw [bs_length]; exact hn.symm
    rw [this]
    simp
  · cases e
    exact absurd (h.lt _ hX) (by show ¬ w.heap.size < w.heap.size; omega)
theorem Ints.lit (h : Dsk w X d S) (z : Int) (hz : -9223372036854775808 ≤ z ∧ z < 9223372036854775808) : Ints (w.alloc (.cells #[.int .i64 z] 3)) X (some ⟨w.heap.size, 0, none⟩) 1 1 [z] := by
  refine ⟨reads_blk (Blk.new w 3 #[.int .i64 z]) _ 1 _ (by simp) rfl rfl, fun _ ad e hX => ?_, fun y hy => by simp at hy; rw [hy]; exact hz, Nat.le_refl _, by unfold maxLen; omega⟩
  cases e
  exact absurd (h.lt _ hX) (by show ¬ w.heap.size < w.heap.size; omega)
def kA : List UInt8 := [97]
def aw1 : Nat × St := (St.new 9).deed (fun T => T.add [97] [1, 2, 3]) (fun T => T.add [97] [1, 2, 3])
def aw2 : Nat × St := aw1.2.deed (fun T => T.on [97] (actSync [97])) (fun T => (0, T))
def aw3 : Nat × St := aw2.2.deed (fun T => T.add [97] [4]) (fun T => T.add [97] [4])
def aw4 (ts : List (List UInt8)) : St := (bootS ts ({ aw3.2 with down := false, fuse := -1 }, [0])).1
theorem aw1_0 : aw1.1 = 0 := by decide
theorem aw2_0 : aw2.1 = 0 := by decide
theorem aw3_0 : aw3.1 = 0 := by decide
theorem aw4_r : (aw4 [[97]]).read [97] = (0, [1, 2, 3]) := by decide
theorem aw_names {ts : List (List UInt8)} (h : NamesOf aw3.2.V ts) (hok : aw3.2.ok) : ts = [[97]] := by
  have h1 := h.len hok.tot
  have h2 := (h.mem [97]).2 (by decide)
  have h3 : ts.length = 1 := h1.trans (by decide)
  match ts, h3, h2 with
  | [a], _, h2 => simp at h2; rw [h2]
end
end Go.Proofs.Ythgopedojgbaoaa
