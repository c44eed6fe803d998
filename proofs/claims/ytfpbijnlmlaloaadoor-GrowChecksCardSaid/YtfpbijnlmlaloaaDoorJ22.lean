/- Texts joined: ShaSum ShaTagged. -/
import Derived.Test.YtfpbijnlmlaloaaDoorShaAdd2
import Derived.Test.YtfpbijnlmlaloaaDoorShaAdd3
import Derived.Test.YtfpbijnlmlaloaaDoorShaDigest
import Derived.Test.YtfpbijnlmlaloaaDoorJ8
/- Contracts of package sha's add, whole, and of Sum. -/
namespace Go.Proofs.YtfpbijnlmlaloaaDoor
open Go.RowKit
set_option linter.unusedVariables false
set_option linter.unusedSimpArgs false
set_option maxRecDepth 100000

theorem addS_any (B : Nat) (htB : 0 < B) (g : Nat) (o : Value) (L p : List Nat) (A : Option Addr) (c N : Nat) (w : World) (hk : Wk w B g o L N) (hp : Pt w g o A p.length p) (hpl : ∀ b ∈ p, b < 256) (hc : p.length ≤ c) (hN : N + p.length ≤ 140737488355328) (hL : L.length + p.length ≤ 140737488355328) (ht : ShTab w) :
    Calls Tryd.prog 34 #[.pointer (some ⟨g, 0, none⟩), .slice A p.length c] w (AddTo w B g o (L ++ p) (N + p.length)) := by
  by_cases h0 : L.length % 64 = 0
  · exact add_tail B g o L p A c N w hk h0 hp hpl hc hN hL ht htB
  · by_cases h1 : L.length % 64 + p.length < 64
    · exact add_small B g o L p A c N w hk (by omega) h1 hp hpl hc hN hL ht htB
    · exact addS_full B g o L p A c N w hk (by omega) (by omega) hp hpl hc hN hL ht htB
set_option maxHeartbeats 1000000 in
theorem sumS_any (A : Option Addr) (n c : Nat) (l : List Nat) (w : World) (hr : Reads w w.heap.size 1 A n (bs l)) (hl : ∀ b ∈ l, b < 256) (hc : n ≤ c) (hn : n ≤ 4294967296) (ht : ShTab w) :
    Calls Tryd.prog 23 #[.slice A n c] w (HashTo w w.heap.size (shaN l)) := by
  have hz := (zero_of_info info_hash).1
  have hsz := Lib.hid (zero_of_info info_hash).2
  have hlen : l.length = n := by have := hr.1; rw [bs_length] at this; omega
  have HLEN := Lib.hid hlen; clear hlen
  have htl := ht.lt
  have ht1 := ht.next (w' := w.alloc (.cells (Array.replicate 32 (.int .u8 0)) 33)) ((Below.refl _ _).alloc (Nat.le_refl _) _)
  have hr1 := hr.alloc (Nat.le_refl _) (.cells (Array.replicate 32 (.int .u8 0)) 33)
  have hR1 := Blk.new w 33 (Array.replicate 32 (.int .u8 0))
  have hb1 : Below w.heap.size w (w.alloc (.cells (Array.replicate 32 (.int .u8 0)) 33)) := (Below.refl _ _).alloc (Nat.le_refl _) _
  obtain ⟨w1, hw1⟩ : ∃ w1 : World, w1 = w.alloc (.cells (Array.replicate 32 (.int .u8 0)) 33) := ⟨_, rfl⟩
  have hs1 : w1.heap.size = w.heap.size + 1 := by rw [hw1]; simp
  rw [← hw1] at ht1 hr1 hR1 hb1
  have hw1' := hw1.symm
  clear hw1
  have HT1 := Lib.hid ht1; have HR1 := Lib.hid hr1; have HRES := Lib.hid hR1; have HB1 := Lib.hid hb1; have HS1 := Lib.hid hs1; have HL := Lib.hid hl
  clear ht1 hr1 hR1 hb1 hs1 hl hr ht
  go_enter Tryd.func23, Tryd.ntmps23
  go_wp2_with fail
  refine (begun_any w1).mono ?_
  rintro _ w2 ⟨g, o, rfl, hk2, hb2⟩
  have hp2 : Pt w2 g o A l.length l := by
    rw [HLEN.out]
    exact Pt.of_below hk2 ((HR1.out.more (by have := HS1.out; omega)).below hb2)
  have hcall := addS_any w1.heap.size (by have := HS1.out; omega) g o [] l A c 0 w2 hk2 hp2 HL.out (by rw [HLEN.out]; exact hc) (by rw [HLEN.out]; omega) (by rw [HLEN.out, List.length_nil]; omega) (HT1.out.next hb2)
  rw [HLEN.out, List.nil_append, Nat.zero_add] at hcall
  have HC := Lib.hid hcall
  have HB2 := Lib.hid hb2
  have HT2 := Lib.hid (HT1.out.next hb2)
  clear hcall hp2 hk2 hb2
  go_wp2_with fail
  refine HC.out.mono ?_
  rintro _ w3 ⟨rfl, o3, hk3, hb3, _⟩
  have ht3 := HT2.out.below hb3 (show 0 < w1.heap.size by have := HS1.out; omega)
  rw [← HLEN.out] at hk3
  have HD := Lib.hid (digest_any w1.heap.size g o3 l w3 hk3 (by rw [HLEN.out]; exact hn) ht3 (by have := HS1.out; omega) (fun g o L p A c N w h1 h2 h3 h4 h5 h6 h7 => addS_any w1.heap.size (by have := HS1.out; omega) g o L p A c N w h1 h2 h3 h4 h5 h6 h7))
  have HB3 := Lib.hid (HB2.out.trans hb3)
  clear hk3 hb3 ht3
  go_wp2_with fail
  refine HD.out.mono ?_
  rintro _ w4 ⟨rfl, hb4⟩
  have hb5 := HB3.out.trans hb4
  have hres := HRES.out.below hb5 HRES.out.lt
  have HR5 := Lib.hid hres
  have HB5 := Lib.hid (HB1.out.trans (hb5.mono (by have := HS1.out; omega)))
  have hsz2 : ((bs (shaN l)).toArray).size = 32 := by simp [bs_length, shaN_length]
  have hone : ((bs (shaN l)).toArray).all (·.oneCell') = true := by
    rw [Array.all_eq_true]
    intro j h
    exact bs_one (shaN l) _ (by simp)
  have HZ2 := Lib.hid hsz2; have HON := Lib.hid hone
  clear hsz2 hone hb4 hb5 hres
  obtain ⟨V, hV⟩ : ∃ V : Array Value, V = (bs (shaN l)).toArray := ⟨_, rfl⟩
  rw [← hV] at HZ2 HON ⊢
  have HV := Lib.hid hV; clear hV
  go_wp2_with (refine wpList_store_row (by rfl) (.tmp 2) (.tmp 9) (by rfl) (by rfl) (by rfl) HR5.out (by rw [HZ2.out]; exact hsz.out) (by rw [HZ2.out]; simp) HON.out ?_)
  refine bodyPost_ret (v := .agg V) (results_cell_row rfl _ _ _ _ _ _ _ (by rfl) (HR5.out.row V) Tryd.underlying33 rfl (by rw [HZ2.out]; exact hsz.out)) rfl ⟨by rw [HV.out], Below.row HB5.out (Nat.le_refl _) _⟩
end Go.Proofs.YtfpbijnlmlaloaaDoor

/- Contract of package sha's Tagged: the digest of a tag and of all parts. -/
namespace Go.Proofs.YtfpbijnlmlaloaaDoor
open Go.RowKit
set_option linter.unusedVariables false
set_option linter.unusedSimpArgs false
set_option maxRecDepth 100000

theorem flat_next {ls : List (List Nat)} {i : Nat} {l : List Nat} (h : ls[i]? = some l) : (ls.take (i + 1)).flatten = (ls.take i).flatten ++ l := by
  rw [List.take_add_one, h]
  simp
theorem flatS_le (ls : List (List Nat)) (i : Nat) : (ls.take i).flatten.length ≤ ls.flatten.length := by
  have h := congrArg List.length (congrArg List.flatten (List.take_append_drop i ls))
  rw [List.flatten_append, List.length_append] at h
  omega
theorem flat_bytes {ls : List (List Nat)} (h : ∀ l ∈ ls, ∀ b ∈ l, b < 256) : ∀ b ∈ ls.flatten, b < 256 := by
  intro b hb
  obtain ⟨l, hl, hb⟩ := List.mem_flatten.1 hb
  exact h l hl b hb
set_option maxHeartbeats 2000000 in
theorem tagged_any (x : Nat) (A : Option Addr) (n c : Nat) (ls : List (List Nat)) (w : World) (hx : x < 256) (hn : ls.length = n) (hn2 : n ≤ 1000000) (hp : LC w A ls) (hbt : ∀ l ∈ ls, ∀ b ∈ l, b < 256) (hs : ls.flatten.length ≤ 4294967000) (ht : ShTab w) :
    Calls Tryd.prog 26 #[.int .u8 (x : Int), .slice A n c] w (HashTo w w.heap.size (shaN (x :: ls.flatten))) := by
  have hz := (zero_of_info info_hash).1
  have hsz := Lib.hid (zero_of_info info_hash).2
  have htl := ht.lt
  have ht1 := ht.next (w' := w.alloc (.cells (Array.replicate 32 (.int .u8 0)) 33)) ((Below.refl _ _).alloc (Nat.le_refl _) _)
  have hR1 := Blk.new w 33 (Array.replicate 32 (.int .u8 0))
  have hb1 : Below w.heap.size w (w.alloc (.cells (Array.replicate 32 (.int .u8 0)) 33)) := (Below.refl _ _).alloc (Nat.le_refl _) _
  obtain ⟨w1, hw1⟩ : ∃ w1 : World, w1 = w.alloc (.cells (Array.replicate 32 (.int .u8 0)) 33) := ⟨_, rfl⟩
  have hs1 : w1.heap.size = w.heap.size + 1 := by rw [hw1]; simp
  rw [← hw1] at ht1 hR1 hb1
  have hw1' := hw1.symm
  clear hw1
  have HT1 := Lib.hid ht1; have HRES := Lib.hid hR1; have HB1 := Lib.hid hb1; have HS1 := Lib.hid hs1; have HP := Lib.hid hp; have HBT := Lib.hid hbt; have HNN := Lib.hid hn; have HSS := Lib.hid hs
  clear ht1 hR1 hb1 hs1 hp hbt hn hs ht
  go_enter Tryd.func26, Tryd.ntmps26
  go_wp2_with fail
  refine (begun_any w1).mono ?_
  rintro _ w2 ⟨g, o, rfl, hk2, hb2⟩
  have hk3 := hk2.below (w' := w2.alloc (.cells #[.int .u8 (x : Int)] 5)) ((Below.refl _ _).alloc (Nat.le_refl _) _)
  have hb3 : Below w1.heap.size w1 (w2.alloc (.cells #[.int .u8 (x : Int)] 5)) := hb2.alloc hb2.size _
  have hp3 : Pt (w2.alloc (.cells #[.int .u8 (x : Int)] 5)) g o (some ⟨w2.heap.size, 0, none⟩) [x].length [x] :=
    Pt.of_new hk2 (own_of_blkS (base := w2.heap.size) (n := 1) (cap := 1) (Blk.new w2 5 #[.int .u8 (x : Int)]) (Nat.le_refl _) (Nat.le_refl _) (by unfold maxLen; omega) rfl (xs := bs [x]) rfl) rfl (by simp)
  have hcall := addS_any w1.heap.size (by have := HS1.out; omega) g o [] [x] (some ⟨w2.heap.size, 0, none⟩) 1 0 _ hk3 hp3 (by simpa using hx) (Nat.le_refl _) (by simp) (by simp) (HT1.out.next hb3)
  have HC := Lib.hid hcall
  have HB3 := Lib.hid hb3
  have HT3 := Lib.hid (HT1.out.next hb3)
  clear hcall hp3 hk3 hk2 hb2 hb3
  go_wp2_with fail
  refine HC.out.mono ?_
  rintro _ w4 ⟨rfl, o4, hk4, hb4, _⟩
  have HB4 := Lib.hid (HB3.out.trans hb4)
  have HK4 := Lib.hid (show ∃ o, Wk w4 w1.heap.size g o (x :: (ls.take 0).flatten) (x :: (ls.take 0).flatten).length from ⟨o4, hk4⟩)
  clear hk4 hb4
  go_wp2_with fail
  go_loopg [7, 15] n (fun gk s7 s15 wr => ∃ i : Nat, i + gk = n ∧ s15 = .int .i64 (i : Int) ∧ Hid (∃ o, Wk wr w1.heap.size g o (x :: (ls.take i).flatten) (x :: (ls.take i).flatten).length) ∧ Hid (Below w1.heap.size w1 wr))
  case atStart => exact ⟨0, by omega, rfl, HK4, HB4⟩
  case round =>
    clear HK4 HB4
    obtain ⟨i, hig, rfl, hk, hb⟩ := hrel
    have htr := (HT1.out).below hb.out (show 0 < w1.heap.size by have := HS1.out; omega)
    have HTR := Lib.hid htr; clear htr
    cases gk with
    | zero =>
      obtain rfl : i = n := by omega
      clear hig
      have hin : ¬ (i : Int) < (i : Int) := by omega
      obtain ⟨o5, hk5⟩ := hk.out
      rw [List.take_of_length_le (by rw [HNN.out]; exact Nat.le_refl _)] at hk5
      have HD := Lib.hid (digest_any w1.heap.size g o5 _ wr hk5 (by rw [List.length_cons]; have := HSS.out; omega) HTR.out (by have := HS1.out; omega) (fun g o L p A c N w h1 h2 h3 h4 h5 h6 h7 => addS_any w1.heap.size (by have := HS1.out; omega) g o L p A c N w h1 h2 h3 h4 h5 h6 h7))
      clear hk5
      go_wp2_with fail
      refine HD.out.mono ?_
      rintro _ w6 ⟨rfl, hb6⟩
      have hb7 := hb.out.trans hb6
      have HR7 := Lib.hid (HRES.out.below hb7 HRES.out.lt)
      have HB7 := Lib.hid (HB1.out.trans (hb7.mono (by have := HS1.out; omega)))
      have hsz2 : ((bs (shaN (x :: ls.flatten))).toArray).size = 32 := by simp [bs_length, shaN_length]
      have hone : ((bs (shaN (x :: ls.flatten))).toArray).all (·.oneCell') = true := by
        rw [Array.all_eq_true]
        intro j h
        exact bs_one (shaN (x :: ls.flatten)) _ (by simp)
      have HZ2 := Lib.hid hsz2; have HON := Lib.hid hone
      clear hsz2 hone hb6 hb7
      obtain ⟨V, hV⟩ : ∃ V : Array Value, V = (bs (shaN (x :: ls.flatten))).toArray := ⟨_, rfl⟩
      rw [← hV] at HZ2 HON ⊢
      have HV := Lib.hid hV; clear hV
      go_wp2_with (refine wpList_store_row (by rfl) (.tmp 4) (.tmp 24) (by rfl) (by rfl) (by rfl) HR7.out (by rw [HZ2.out]; exact hsz.out) (by rw [HZ2.out]; simp) HON.out ?_)
      refine bodyPost_ret (v := .agg V) (results_cell_row rfl _ _ _ _ _ _ _ (by rfl) (HR7.out.row V) Tryd.underlying33 rfl (by rw [HZ2.out]; exact hsz.out)) rfl ⟨by rw [HV.out], Below.row HB7.out (Nat.le_refl _) _⟩
    | succ gk =>
      have hi : i < n := by omega
      have hii : (i : Int) < (n : Int) := by omega
      obtain ⟨l, hl⟩ : ∃ l, ls[i]? = some l := ⟨_, List.getElem?_eq_getElem (by rw [HNN.out]; exact hi)⟩
      obtain ⟨ad, u, hA, hcell, Ap, cp, hu, hcp, hrp⟩ := HP.out.at_ hl
      subst hA hu
      have hlt : (ad.add i).block < w.heap.size := World.block_lt_of_cell? w _ hcell
      have hbw : Below w.heap.size w wr := HB1.out.trans (hb.out.mono (by have := HS1.out; omega))
      have hcr : wr.cell? (ad.add i) = some (.slice Ap l.length cp) := (hbw.cell hlt).trans hcell
      obtain ⟨o5, hk5⟩ := hk.out
      have hfl := flat_next hl
      have hle := flatS_le ls (i + 1)
      rw [hfl, List.length_append] at hle
      have hcall := addS_any w1.heap.size (by have := HS1.out; omega) g o5 _ l Ap cp _ wr hk5 (Pt.of_below hk5 ((hrp.below hbw).more (by have := HS1.out; omega))) (HBT.out l (List.mem_of_getElem? hl)) hcp (by rw [List.length_cons]; have := HSS.out; omega) (by rw [List.length_cons]; have := HSS.out; omega) HTR.out
      have HC5 := Lib.hid hcall
      have HFL := Lib.hid hfl
      clear hcall hk5 hcell hrp hl hfl hle hbw
      go_wp2_with fail
      refine HC5.out.mono ?_
      rintro _ w6 ⟨rfl, o6, hk6, hb6, _⟩
      have HB6 := Lib.hid (hb.out.trans hb6)
      have HK6 := Lib.hid (show ∃ o, Wk w6 w1.heap.size g o (x :: (ls.take (i + 1)).flatten) (x :: (ls.take (i + 1)).flatten).length from ⟨o6, by
        rw [HFL.out]
        have e : (x :: ((ls.take i).flatten ++ l)).length = (x :: (ls.take i).flatten).length + l.length := by simp; omega
        rw [e]
        exact hk6⟩)
      clear hk6 hb6
      go_wp2_with fail
      go_roundg gk
      case measure => omega
      case rel => exact ⟨i + 1, by omega, by go_num, HK6, HB6⟩
end Go.Proofs.YtfpbijnlmlaloaaDoor
