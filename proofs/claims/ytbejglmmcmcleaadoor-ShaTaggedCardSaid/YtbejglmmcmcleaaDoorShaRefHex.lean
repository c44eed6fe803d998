/- Contract of the document's Hex: a digest's text. -/
import Derived.Test.YtbejglmmcmcleaaDoorShaHex
import Derived.IntWalk
import Derived.Deep.QuietTactic
import Derived.BigQuiet
namespace Go.Proofs.YtbejglmmcmcleaaDoor
open Go.RowKit
set_option linter.unusedVariables false
set_option maxRecDepth 100000

theorem tx_size (l : List Nat) : (tx l).size = l.length := by simp [tx, ByteArray.size]
theorem dig_cut : ∀ n, n < 16 → DIG.extract n (n + 1) = tx [hexD n] := by decide +kernel
theorem tx_append (l m : List Nat) : tx l ++ tx m = tx (l ++ m) := by
  apply ByteArray.ext
  simp [tx]
set_option maxHeartbeats 1000000 in
theorem refHex_any (l : List Nat) (w : World) (h32 : l.length = 32) (hl : ∀ b ∈ l, b < 256) :
    Calls Tryd.prog 12 #[.agg (bs l).toArray] w fun e w' => e = .returned (.string (tx (hexN l))) ∧ Below w.heap.size w w' := by
  have H32 := Lib.hid h32; clear h32
  have HL := Lib.hid hl; clear hl
  have hB := Blk.new w 24 (bs l).toArray
  have hVi : ∀ i b : Nat, l[i]? = some b → (bs l).toArray[i]? = some (.int .u8 (b : Int)) := by
    intro i b hb
    rw [List.getElem?_toArray]
    unfold bs
    rw [List.getElem?_map, hb]
    rfl
  have HVI := Lib.hid hVi
  obtain ⟨V, hV⟩ : ∃ V : Array Value, V = (bs l).toArray := ⟨_, rfl⟩
  rw [← hV] at HVI hB ⊢
  have HB := Lib.hid hB
  clear hV hVi hB
  go_enter Tryd.func12, Tryd.ntmps12
  go_wp2_with fail
  go_loopg [3, 5] 32 (fun g s3 s5 wr => ∃ i : Nat, i + g = 32 ∧ s5 = .int .i64 (i : Int) ∧ s3 = .string (tx (hexN (l.take i))) ∧ Hid (Blk wr w.heap.size 24 V) ∧ Hid (Below w.heap.size w wr))
  case atStart => exact ⟨0, by omega, rfl, rfl, HB, Lib.hid ((Below.refl _ _).alloc (Nat.le_refl _) _)⟩
  case round =>
    clear HB
    obtain ⟨i, hig, rfl, rfl, hB, hb⟩ := hrel
    cases gk with
    | zero =>
      obtain rfl : i = 32 := by omega
      clear hig
      have ht : l.take 32 = l := List.take_of_length_le (by rw [H32.out]; exact Nat.le_refl _)
      go_wp2_with fail
      go_ret
      exact ⟨ret_of (congrArg (fun x => Value.string (tx (hexN x))) ht), hb.out⟩
    | succ g =>
      have hi : i < 32 := by omega
      have hi2 : (i : Int) < 32 := by omega
      obtain ⟨b, hb1⟩ : ∃ b, l[i]? = some b := ⟨_, List.getElem?_eq_getElem (by rw [H32.out]; exact hi)⟩
      have hb256 := HL.out b (List.mem_of_getElem? hb1)
      have hc := hB.out.cell i
      rw [HVI.out i b hb1] at hc
      have HB1 := Lib.hid hb1; clear hb1
      generalize hT : tx (hexN (l.take i)) = T
      have hTs : T.size ≤ 64 := by rw [← hT, tx_size, hexN_length, List.length_take]; omega
      have HT := Lib.hid hT; clear hT
      obtain ⟨D1, hD1⟩ : ∃ D : ByteArray, DIG.extract (b / 16) (b / 16 + 1) = D := ⟨_, rfl⟩
      obtain ⟨D2, hD2⟩ : ∃ D : ByteArray, DIG.extract (b % 16) (b % 16 + 1) = D := ⟨_, rfl⟩
      have hx1 : D1 = tx [hexD (b / 16)] := by rw [← hD1]; exact dig_cut _ (by omega)
      have hx2 : D2 = tx [hexD (b % 16)] := by rw [← hD2]; exact dig_cut _ (by omega)
      have hs1 : D1.size = 1 := by rw [hx1]; rfl
      have hs2 : D2.size = 1 := by rw [hx2]; rfl
      have n1 : ¬ 9223372036854775807 < T.size + 1 := by omega
      have n2 : ¬ 9223372036854775807 < T.size + 1 + 1 := by omega
      have n3 : ¬ 9223372036854775807 < T.size + 2 := by omega
      unfold DIG at hD1 hD2
      have HX1 := Lib.hid hx1; have HX2 := Lib.hid hx2
      clear hx1 hx2
      have g1 : (b : Int) / 16 + 1 ≤ 16 := by omega
      have g2 : (b : Int) % 16 + 1 ≤ 16 := by omega
      have g3 : (0 : Int) ≤ (b : Int) / 16 := by omega
      have g4 : (0 : Int) ≤ (b : Int) % 16 := by omega
      have g5 : IntKind.i64.wrap ((b : Int) / 16 + 1) = (b : Int) / 16 + 1 := IntWalk.i64_in _ (by omega)
      have g6 : IntKind.i64.wrap ((b : Int) % 16 + 1) = (b : Int) % 16 + 1 := IntWalk.i64_in _ (by omega)
      have g7 : (0 : Int) ≤ (b : Int) / 16 + 1 := by omega
      have g8 : (0 : Int) ≤ (b : Int) % 16 + 1 := by omega
      have g9 : (b : Int) / 16 ≤ (b : Int) / 16 + 1 := by omega
      have g10 : (b : Int) % 16 ≤ (b : Int) % 16 + 1 := by omega
      go_wp2_with fail
      go_quiet (fail)
      go_wp2_with fail
      go_quiet (fail)
      go_wp2_with fail
      go_roundg g
      case measure => omega
      case rel =>
        refine ⟨i + 1, by omega, by go_num, congrArg Value.string ?_, Lib.hid (hB.out.drewN _), Lib.hid ((Drawn.one wr _).below hb.out)⟩
        rw [HX1.out, HX2.out, ← HT.out, tx_append, tx_append, List.append_assoc, List.take_add_one, HB1.out]
        exact congrArg tx (hexN_snoc _ _).symm
end Go.Proofs.YtbejglmmcmcleaaDoor
