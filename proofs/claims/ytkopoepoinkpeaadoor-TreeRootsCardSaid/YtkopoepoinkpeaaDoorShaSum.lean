/- Contracts of package sha's add, whole, and of Sum. -/
import Derived.Test.YtkopoepoinkpeaaDoorShaAdd2
import Derived.Test.YtkopoepoinkpeaaDoorShaAdd3
import Derived.Test.YtkopoepoinkpeaaDoorShaDigest
namespace Go.Proofs.YtkopoepoinkpeaaDoor
open Go.RowKit
set_option linter.unusedVariables false
set_option linter.unusedSimpArgs false
set_option maxRecDepth 100000

theorem addS_any (B : Nat) (htB : 0 < B) (g : Nat) (o : Value) (L p : List Nat) (A : Option Addr) (c N : Nat) (w : World) (hk : Wk w B g o L N) (hp : Pt w g o A p.length p) (hpl : ∀ b ∈ p, b < 256) (hc : p.length ≤ c) (hN : N + p.length ≤ 140737488355328) (hL : L.length + p.length ≤ 140737488355328) (ht : ShTab w) :
    Calls Tryd.prog 42 #[.pointer (some ⟨g, 0, none⟩), .slice A p.length c] w (AddTo w B g o (L ++ p) (N + p.length)) := by
  by_cases h0 : L.length % 64 = 0
  · exact add_tail B g o L p A c N w hk h0 hp hpl hc hN hL ht htB
  · by_cases h1 : L.length % 64 + p.length < 64
    · exact add_small B g o L p A c N w hk (by omega) h1 hp hpl hc hN hL ht htB
    · exact addS_full B g o L p A c N w hk (by omega) (by omega) hp hpl hc hN hL ht htB
set_option maxHeartbeats 1000000 in
theorem sumS_any (A : Option Addr) (n c : Nat) (l : List Nat) (w : World) (hr : Reads w w.heap.size 1 A n (bs l)) (hl : ∀ b ∈ l, b < 256) (hc : n ≤ c) (hn : n ≤ 4294967296) (ht : ShTab w) :
    Calls Tryd.prog 31 #[.slice A n c] w (HashTo w w.heap.size (shaN l)) := by
  have hz := (zero_of_info info_hash).1
  have hsz := Lib.hid (zero_of_info info_hash).2
  have hlen : l.length = n := by have := hr.1; rw [bs_length] at this; omega
  have HLEN := Lib.hid hlen; clear hlen
  have htl := ht.lt
  have ht1 := ht.next (w' := w.alloc (.cells (Array.replicate 32 (.int .u8 0)) 31)) ((Below.refl _ _).alloc (Nat.le_refl _) _)
  have hr1 := hr.alloc (Nat.le_refl _) (.cells (Array.replicate 32 (.int .u8 0)) 31)
  have hR1 := Blk.new w 31 (Array.replicate 32 (.int .u8 0))
  have hb1 : Below w.heap.size w (w.alloc (.cells (Array.replicate 32 (.int .u8 0)) 31)) := (Below.refl _ _).alloc (Nat.le_refl _) _
  obtain ⟨w1, hw1⟩ : ∃ w1 : World, w1 = w.alloc (.cells (Array.replicate 32 (.int .u8 0)) 31) := ⟨_, rfl⟩
  have hs1 : w1.heap.size = w.heap.size + 1 := by rw [hw1]; simp
  rw [← hw1] at ht1 hr1 hR1 hb1
  have hw1' := hw1.symm
  clear hw1
  have HT1 := Lib.hid ht1; have HR1 := Lib.hid hr1; have HRES := Lib.hid hR1; have HB1 := Lib.hid hb1; have HS1 := Lib.hid hs1; have HL := Lib.hid hl
  clear ht1 hr1 hR1 hb1 hs1 hl hr ht
  go_enter Tryd.func31, Tryd.ntmps31
  go_wp2_with fail
  refine (begun_any w1).mono ?_
  rintro _ w2 ⟨g, o, rfl, hk2, hb2⟩
  have hp2 : Pt w2 g o A l.length l := by
    rw [HLEN.out]
    exact Pt.of_below hk2 ((HR1.out.more (by have := HS1.out; omega)).below hb2)
  have hcall := addS_any w1.heap.size (by have := HS1.out; omega) g o [] l A c 0 w2 hk2 hp2 HL.out (by rw [HLEN.out]; exact hc) (by rw [HLEN.out]; omega) (by rw [HLEN.out, List.length_nil]; omega) (HT1.out.next hb2)
  rw [HLEN.out, List.nil_append, Nat.zero_add] at hcall
  have HC := Lib.hid hcall
  have HB2 := Lib.hid hb2
  have HT2 := Lib.hid (HT1.out.next hb2)
  clear hcall hp2 hk2 hb2
  go_wp2_with fail
  refine HC.out.mono ?_
  rintro _ w3 ⟨rfl, o3, hk3, hb3, _⟩
  have ht3 := HT2.out.below hb3 (show 0 < w1.heap.size by have := HS1.out; omega)
  rw [← HLEN.out] at hk3
  have HD := Lib.hid (digest_any w1.heap.size g o3 l w3 hk3 (by rw [HLEN.out]; exact hn) ht3 (by have := HS1.out; omega) (fun g o L p A c N w h1 h2 h3 h4 h5 h6 h7 => addS_any w1.heap.size (by have := HS1.out; omega) g o L p A c N w h1 h2 h3 h4 h5 h6 h7))
  have HB3 := Lib.hid (HB2.out.trans hb3)
  clear hk3 hb3 ht3
  go_wp2_with fail
  refine HD.out.mono ?_
  rintro _ w4 ⟨rfl, hb4⟩
  have hb5 := HB3.out.trans hb4
  have hres := HRES.out.below hb5 HRES.out.lt
  have HR5 := Lib.hid hres
  have HB5 := Lib.hid (HB1.out.trans (hb5.mono (by have := HS1.out; omega)))
  have hsz2 : ((bs (shaN l)).toArray).size = 32 := by simp [bs_length, shaN_length]
  have hone : ((bs (shaN l)).toArray).all (·.oneCell') = true := by
    rw [Array.all_eq_true]
    intro j h
    exact bs_one (shaN l) _ (by simp)
  have HZ2 := Lib.hid hsz2; have HON := Lib.hid hone
  clear hsz2 hone hb4 hb5 hres
  obtain ⟨V, hV⟩ : ∃ V : Array Value, V = (bs (shaN l)).toArray := ⟨_, rfl⟩
  rw [← hV] at HZ2 HON ⊢
  have HV := Lib.hid hV; clear hV
  go_wp2_with (refine wpList_store_row (by rfl) (.tmp 2) (.tmp 9) (by rfl) (by rfl) (by rfl) HR5.out (by rw [HZ2.out]; exact hsz.out) (by rw [HZ2.out]; simp) HON.out ?_)
  refine bodyPost_ret (v := .agg V) (results_cell_row rfl _ _ _ _ _ _ _ (by rfl) (HR5.out.row V) Tryd.underlying31 rfl (by rw [HZ2.out]; exact hsz.out)) rfl ⟨by rw [HV.out], Below.row HB5.out (Nat.le_refl _) _⟩
end Go.Proofs.YtkopoepoinkpeaaDoor
