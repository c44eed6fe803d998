/- Contract of the statements' awake: the document's examples hold; it answers true. -/
import Derived.Test.YtbejglmmcmcleaaDoorShaSum
import Derived.Test.YtbejglmmcmcleaaDoorLaid
namespace Go.Proofs.YtbejglmmcmcleaaDoor
open Go.RowKit
set_option linter.unusedVariables false
set_option maxRecDepth 100000

theorem HashTo.more {w : World} {B B' : Nat} {l : List Nat} {e : Ending} {w' : World} (h : HashTo w B l e w') (hB : B' ≤ B) : HashTo w B' l e w' := ⟨h.1, h.2.mono hB⟩
theorem nil_text : tx (hexN (shaN [])) = ⟨#[101, 51, 98, 48, 99, 52, 52, 50, 57, 56, 102, 99, 49, 99, 49, 52, 57, 97, 102, 98, 102, 52, 99, 56, 57, 57, 54, 102, 98, 57, 50, 52, 50, 55, 97, 101, 52, 49, 101, 52, 54, 52, 57, 98, 57, 51, 52, 99, 97, 52, 57, 53, 57, 57, 49, 98, 55, 56, 53, 50, 98, 56, 53, 53]⟩ := by
  rw [sha_nil]; decide +kernel
theorem abc_text : tx (hexN (shaN [97, 98, 99])) = ⟨#[98, 97, 55, 56, 49, 54, 98, 102, 56, 102, 48, 49, 99, 102, 101, 97, 52, 49, 52, 49, 52, 48, 100, 101, 53, 100, 97, 101, 50, 50, 50, 51, 98, 48, 48, 51, 54, 49, 97, 51, 57, 54, 49, 55, 55, 97, 57, 99, 98, 52, 49, 48, 102, 102, 54, 49, 102, 50, 48, 48, 49, 53, 97, 100]⟩ := by
  rw [sha_abc]; decide +kernel
theorem sum_nil (w : World) (ht : Tab w) : Calls Tryd.prog 6 #[.slice none 0 0] w (HashTo w w.heap.size (shaN [])) :=
  sum_any none 0 0 [] w Reads.none_ (by simp) (Nat.le_refl _) (by omega) ht
def abcV : Array Value := #[.int .u8 97, .int .u8 98, .int .u8 99]
theorem sum_abc (w : World) (t : TypeId) (fr : Nat × Nat) (c : Nat) (hc : 3 ≤ c) (ht : Tab w) : Calls Tryd.prog 6 #[.slice (some ⟨w.heap.size, 0, none⟩) 3 c] (w.alloc (.cells abcV t fr)) (HashTo (w.alloc (.cells abcV t fr)) w.heap.size (shaN [97, 98, 99])) :=
  (sum_any (some ⟨w.heap.size, 0, none⟩) 3 c [97, 98, 99] (w.alloc (.cells abcV t fr)) (reads_laid w _ _ _ _ _ _ (by simp) (by simp [bs]) (by simp [bs, abcV])) (by intro b hb; simp at hb; omega) hc (by omega) (ht.next ((Below.refl _ _).alloc (Nat.le_refl _) _))).mono fun e w' h => h.more (by simp)
set_option maxHeartbeats 1000000 in
theorem awake_any (w : World) (ht : Tab w) : Calls Tryd.prog 8 #[] w fun e w' => e = .returned (.bool true) ∧ Below w.heap.size w w' := by
  have hcv := fun W : World => Lib.run_convert_bytes_const (P := Tryd.prog) W 22 5 abcV 3 3 Tryd.underlying22 Tryd.underlying5
  unfold abcV at hcv
  have HT := Lib.hid ht; clear ht
  go_enter Tryd.func8, Tryd.ntmps8
  go_wp2_with fail
  refine (sum_nil w HT.out).mono ?_
  rintro _ w1 ⟨rfl, hb1⟩
  have hx := hex_any (shaN []) w1 (shaN_length _) (shaN_lt _)
  rw [nil_text] at hx
  have HX := Lib.hid hx
  have HB1 := Lib.hid hb1
  clear hx hb1
  obtain ⟨V, hV⟩ : ∃ V : Array Value, V = (bs (shaN [])).toArray := ⟨_, rfl⟩
  rw [← hV] at HX ⊢
  clear hV
  go_wp2_with fail
  refine HX.out.mono ?_
  rintro _ w2 ⟨rfl, hb2⟩
  have HB2 := Lib.hid (HB1.out.trans (hb2.mono HB1.out.size))
  have HT2 := Lib.hid (HT.out.next HB2.out)
  clear hb2
  go_wp2_with fail
  refine (sum_abc w2 _ _ _ (by omega) HT2.out).mono ?_
  rintro _ w3 ⟨rfl, hb3⟩
  have hx := hex_any (shaN [97, 98, 99]) w3 (shaN_length _) (shaN_lt _)
  rw [abc_text] at hx
  have HX3 := Lib.hid hx
  have HB3 := Lib.hid (HB2.out.trans ((((Below.refl w2.heap.size w2).alloc (Nat.le_refl _) _).trans hb3).mono HB2.out.size))
  clear hx hb3
  obtain ⟨V3, hV3⟩ : ∃ V : Array Value, V = (bs (shaN [97, 98, 99])).toArray := ⟨_, rfl⟩
  rw [← hV3] at HX3 ⊢
  clear hV3
  go_wp2_with fail
  refine HX3.out.mono ?_
  rintro _ w4 ⟨rfl, hb4⟩
  go_wp2_with fail
  go_ret
  exact ⟨rfl, HB3.out.trans (hb4.mono HB3.out.size)⟩
end Go.Proofs.YtbejglmmcmcleaaDoor
