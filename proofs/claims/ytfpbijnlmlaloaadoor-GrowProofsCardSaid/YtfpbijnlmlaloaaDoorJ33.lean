/- Texts joined: ShaRefTagged TwoRows. -/
import Derived.Test.YtfpbijnlmlaloaaDoorJ22
import Derived.Test.YtfpbijnlmlaloaaDoorShaRefSum
import Derived.Test.YtfpbijnlmlaloaaDoorWords
/- Contract of the document's Tagged: the digest of a tag and of all parts. -/
namespace Go.Proofs.YtfpbijnlmlaloaaDoor
open Go.RowKit
set_option linter.unusedVariables false
set_option linter.unusedSimpArgs false
set_option maxRecDepth 100000

set_option maxHeartbeats 2000000 in
theorem refTagged_any (x : Nat) (A : Option Addr) (n c : Nat) (ls : List (List Nat)) (w : World) (hx : x < 256) (hn : ls.length = n) (hn2 : n ≤ 1000000) (hp : LC w A ls) (hbt : ∀ l ∈ ls, ∀ b ∈ l, b < 256) (hs : ls.flatten.length ≤ 4294967000) :
    Calls Tryd.prog 43 #[.int .u8 (x : Int), .slice A n c] w (HashTo w w.heap.size (shaN (x :: ls.flatten))) := by
  obtain ⟨i0, hi0, hz0, hz1, hz2⟩ := info_parts info_u8
  have hz := (zero_of_info info_hash).1
  have hsz := Lib.hid (zero_of_info info_hash).2
  have hR1 := Blk.new w 33 (Array.replicate 32 (.int .u8 0))
  have hb1 : Below w.heap.size w (w.alloc (.cells (Array.replicate 32 (.int .u8 0)) 33)) := (Below.refl _ _).alloc (Nat.le_refl _) _
  obtain ⟨w1, hw1⟩ : ∃ w1 : World, w1 = w.alloc (.cells (Array.replicate 32 (.int .u8 0)) 33) := ⟨_, rfl⟩
  have hs1 : w1.heap.size = w.heap.size + 1 := by rw [hw1]; simp
  rw [← hw1] at hR1 hb1
  have hw1' := hw1.symm
  clear hw1
  have hown := own_of_blkS (base := w1.heap.size) (n := 1) (cap := 1) (Blk.new w1 5 #[.int .u8 (x : Int)]) (Nat.le_refl _) (Nat.le_refl _) (by unfold maxLen; omega) rfl (xs := bs [x]) rfl
  have HOWN := Lib.hid (show (w1.alloc (.cells #[.int .u8 (x : Int)] 5)).ownsRow w1.heap.size 5 1 (.slice (some ⟨w1.heap.size, 0, none⟩) 1 1) (x :: (ls.take 0).flatten).length (bs (x :: (ls.take 0).flatten)) from hown)
  have HBO := Lib.hid (show Below w1.heap.size w1 (w1.alloc (.cells #[.int .u8 (x : Int)] 5)) from (Below.refl _ _).alloc (Nat.le_refl _) _)
  have HRES := Lib.hid hR1; have HB1 := Lib.hid hb1; have HS1 := Lib.hid hs1; have HP := Lib.hid hp; have HBT := Lib.hid hbt; have HNN := Lib.hid hn; have HSS := Lib.hid hs
  clear hR1 hb1 hs1 hp hbt hn hs hown
  go_enter Tryd.func43, Tryd.ntmps43
  go_wp2_with fail
  obtain ⟨w2, hw2⟩ : ∃ w2 : World, w2 = w1.alloc (.cells #[.int .u8 (x : Int)] 5) := ⟨_, rfl⟩
  rw [← hw2] at HOWN HBO
  rw [← hw2]
  clear hw2
  go_loopg [5, 6] n (fun gk s5 s6 wr => ∃ (i m : Nat), i + gk = n ∧ s6 = .int .i64 (i : Int) ∧ Hid (m = (x :: (ls.take i).flatten).length) ∧ Hid (wr.ownsRow w1.heap.size 5 1 s5 m (bs (x :: (ls.take i).flatten))) ∧ Hid (Below w1.heap.size w1 wr))
  case atStart => exact ⟨0, _, by omega, rfl, Lib.hid rfl, HOWN, HBO⟩
  case round =>
    clear HOWN HBO
    obtain ⟨i, m, hig, rfl, hm, hown, hb⟩ := hrel
    obtain ⟨Av, cv, rfl, hmc, _, hrv⟩ := own_slice hown.out
    have HRV := Lib.hid hrv; clear hrv
    have hml : m ≤ 4294967001 := by have := hm.out; rw [List.length_cons] at this; have := flatS_le ls i; have := HSS.out; omega
    cases gk with
    | zero =>
      obtain rfl : i = n := by omega
      clear hig
      have hin : ¬ (i : Int) < (i : Int) := by omega
      have hfull : (ls.take i) = ls := List.take_of_length_le (by rw [HNN.out]; exact Nat.le_refl _)
      rw [hfull] at HRV hm
      have HD := Lib.hid (refSum_any Av m cv (x :: ls.flatten) wr HRV.out (by intro b hb; rcases List.mem_cons.1 hb with rfl | hb; exact hx; exact flat_bytes HBT.out b hb) (by omega))
      clear hfull
      go_wp2_with fail
      refine HD.out.mono ?_
      rintro _ w6 ⟨rfl, hb6⟩
      have hb7 := hb.out.trans (hb6.mono hb.out.size)
      have HR7 := Lib.hid (HRES.out.below hb7 HRES.out.lt)
      have HB7 := Lib.hid (HB1.out.trans (hb7.mono (by have := HS1.out; omega)))
      have hsz2 : ((bs (shaN (x :: ls.flatten))).toArray).size = 32 := by simp [bs_length, shaN_length]
      have hone : ((bs (shaN (x :: ls.flatten))).toArray).all (·.oneCell') = true := by
        rw [Array.all_eq_true]
        intro j h
        exact bs_one (shaN (x :: ls.flatten)) _ (by simp)
      have HZ2 := Lib.hid hsz2; have HON := Lib.hid hone
      clear hsz2 hone hb6 hb7
      obtain ⟨V, hV⟩ : ∃ V : Array Value, V = (bs (shaN (x :: ls.flatten))).toArray := ⟨_, rfl⟩
      rw [← hV] at HZ2 HON ⊢
      have HV := Lib.hid hV; clear hV
      go_wp2_with (refine wpList_store_row (by rfl) (.tmp 4) (.tmp 22) (by rfl) (by rfl) (by rfl) HR7.out (by rw [HZ2.out]; exact hsz.out) (by rw [HZ2.out]; simp) HON.out ?_)
      refine bodyPost_ret (v := .agg V) (results_cell_row rfl _ _ _ _ _ _ _ (by rfl) (HR7.out.row V) Tryd.underlying33 rfl (by rw [HZ2.out]; exact hsz.out)) rfl ⟨by rw [HV.out], Below.row HB7.out (Nat.le_refl _) _⟩
    | succ gk =>
      have hi : i < n := by omega
      have hii : (i : Int) < (n : Int) := by omega
      obtain ⟨l, hl⟩ : ∃ l, ls[i]? = some l := ⟨_, List.getElem?_eq_getElem (by rw [HNN.out]; exact hi)⟩
      obtain ⟨ad, u, hA, hcell, Ap, cp, hu, hcp, hrp⟩ := HP.out.at_ hl
      subst hA hu
      have hlt : (ad.add i).block < w.heap.size := World.block_lt_of_cell? w _ hcell
      have hbw : Below w.heap.size w wr := HB1.out.trans (hb.out.mono (by have := HS1.out; omega))
      have hcr : wr.cell? (ad.add i) = some (.slice Ap l.length cp) := (hbw.cell hlt).trans hcell
      have hfl := flat_next hl
      have hle := flatS_le ls (i + 1)
      rw [hfl, List.length_append] at hle
      have hll : l.length ≤ 4294967000 := by have := HSS.out; omega
      have HRP := Lib.hid ((hrp.below hbw).more hbw.size)
      have HSZ := Lib.hid hb.out.size
      have HFL := Lib.hid hfl
      clear hcell hrp hl hfl hle hbw
      go_wp2_with (at_builtin
                   refine wpList_append_any _ rfl (.tmp 15) (.tmp 19) _ rfl w1.heap.size 5 i0 _ 1 1 Tryd.underlying36 hi0 hz0 hz1 hz2 rfl (by omega) (.slice Av m cv) m _ rfl
                     hown.out wr.heap.size Ap l.length cp (bs l) rfl HRP.out (bs_one _) (by unfold maxLen; omega) (by omega) HSZ.out ?_
                   intro v3 w3 hown3 hg3 hat3)
      go_roundg gk
      case measure => omega
      case rel =>
        refine ⟨i + 1, m + l.length, by omega, by go_num, Lib.hid ?_, Lib.hid ?_, Lib.hid (hb.out.grown hg3 HSZ.out (fun k hk => (hown.out.lt k hk).1))⟩
        · rw [hm.out, HFL.out]; simp; omega
        · rw [HFL.out, ← List.cons_append, bs_append]
          exact hown3
end Go.Proofs.YtfpbijnlmlaloaaDoor

/- Two rows of the call's own, each of which grows while the other stands. No program. -/
namespace Go.Proofs.YtfpbijnlmlaloaaDoor
open Go.RowKit
set_option linter.unusedVariables false
set_option linter.unusedSimpArgs false

/-- Two rows from block 'B' on, in blocks of their own. -/
def Two (w : World) (B : Nat) (t : TypeId) (va vb : Value) (n m : Nat) (xs ys : List Value) : Prop :=
  w.ownsRow B t 1 va n xs ∧ w.ownsRow B t 1 vb m ys ∧ (vb.ownBlock = none ∨ vb.ownBlock ≠ va.ownBlock)
theorem Two.nil (w : World) (B : Nat) (t : TypeId) : Two w B t (.slice none 0 0) (.slice none 0 0) 0 0 [] [] := ⟨own_nil _ _ _ _, own_nil _ _ _ _, .inl rfl⟩
theorem Two.swap {w : World} {B : Nat} {t : TypeId} {va vb : Value} {n m : Nat} {xs ys : List Value} (h : Two w B t va vb n m xs ys) : Two w B t vb va m n ys xs := by
  obtain ⟨h1, h2, h3⟩ := h
  refine ⟨h2, h1, ?_⟩
  cases ha : va.ownBlock with
  | none => exact .inl rfl
  | some q =>
    refine .inr fun e => ?_
    rcases h3 with h3 | h3
    · rw [h3] at e; cases e
    · exact h3 (by rw [ha]; exact e.symm)
/-- The first one has grown. -/
theorem Two.grown {w w' : World} {B : Nat} {t : TypeId} {va vb va' : Value} {n m n' : Nat} {xs ys xs' : List Value} {o : Obj} (h : Two w B t va vb n m xs ys)
    (hown : w'.ownsRow B t 1 va' n' xs') (hg : (w.alloc o).grownBy w' va.ownBlock) (hat : va'.ownBlock = va.ownBlock ∨ va'.ownBlock = some (w.alloc o).heap.size) : Two w' B t va' vb n' m xs' ys := by
  obtain ⟨h1, h2, h3⟩ := h
  refine ⟨hown, (h2.alloc o).kept hg h3, ?_⟩
  rcases hat with hat | hat
  · rw [hat]; exact h3
  · cases hb : vb.ownBlock with
    | none => exact .inl rfl
    | some q =>
      refine .inr fun e => ?_
      rw [hat] at e
      injection e with e
      have := (h2.lt q hb).2
      simp at e
      omega
end Go.Proofs.YtfpbijnlmlaloaaDoor
