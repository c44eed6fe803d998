/- Texts joined: CkSteps CkTab CkIdx CkLen. -/
import Derived.Test.YthlfplljbbnaoaaGreatDoorJ40
import Derived.Test.YthlfplljbbnaoaaGreatDoorJ13
import Derived.Test.YthlfplljbbnaoaaGreatDoorJ29
import Derived.Test.YthlfplljbbnaoaaGreatDoorJ4
import Derived.Test.YthlfplljbbnaoaaGreatDoorJ17
import Derived.Test.YthlfplljbbnaoaaGreatDoorJ21
import Derived.Test.YthlfplljbbnaoaaGreatDoorJ23
import Derived.Test.YthlfplljbbnaoaaGreatDoorJ39
import Derived.Test.YthlfplljbbnaoaaGreatDoorJ10
import Derived.Test.YthlfplljbbnaoaaGreatDoorJ5
/- Plain facts on reading a chunk: the reader behind the set, behind the others; the first error; the values. No condition. -/
namespace Go.Proofs.YthlfplljbbnaoaaGreatDoor
open Go.RowKit
set_option linter.unusedVariables false
set_option linter.unusedSimpArgs false
set_option maxRecDepth 100000

/-- The values that are read of a way's form. -/
def ofV (way : Nat) (q : List Nat) (m : Int) : List Vl := if way = 5 then ofT (wyT way q m) else ofN (wyI way q m)
/-- Behind the set: the bytes that were taken, the reader's place and error. -/
def nS (b : List Nat) (at_ : Nat) (x : Option (Int × Nat)) (n : Nat) : List Nat × Nat × Option (Int × Nat) :=
  let t := takeS b at_ x (siz n : Int)
  let x2 := failS t.2.1 t.2.2 (rdE t.1 (n : Int) : Int)
  (t.1, t.2.1, if rdE t.1 (n : Int) = 0 ∧ cnt (bit t.1) n ≠ 0 then x2 else failS t.2.1 x2 4)
/-- How many of a set's places are marked: none, where it is no set. -/
def nC (t : List Nat) (n : Nat) : Nat := if rdE t (n : Int) = 0 then cnt (bit t) n else 0
/-- Behind the others: the values, the reader's place and error. -/
def oS (b : List Nat) (at_ : Nat) (x : Option (Int × Nat)) (kd m : Int) : List Vl × Nat × Option (Int × Nat) :=
  let f := fixS b at_ x 1
  if ofW (f.1 : Int) kd = true then
    let t := takeS b f.2.1 f.2.2 ((b.length : Int) - f.2.1)
    (ofV f.1 t.1 m, t.2.1, failS t.2.1 t.2.2 (wyE f.1 t.1 m))
  else ([], f.2.1, failS f.2.1 f.2.2 11)
theorem nC_le (t : List Nat) (n : Nat) : nC t n ≤ n := by
  unfold nC
  split
  · exact cnt_le _ _
  · omega
theorem oS_some (b : List Nat) (at_ : Nat) (y : Int × Nat) (kd m : Int) : (oS b at_ (some y) kd m).2.2 = some y := by
  unfold oS fixS
  simp only
  split
  · unfold takeS failS; rfl
  · unfold failS; rfl
theorem oS_short (b : List Nat) (at_ : Nat) (kd m : Int) (h : b.length = at_) : (oS b at_ none kd m).2.2 = some (2, at_) := by
  have hf : fixS b at_ none 1 = (0, at_, some (2, at_)) := by
    unfold fixS
    simp only
    rw [if_neg (by omega), if_pos (by omega)]
  unfold oS
  rw [hf]
  simp only
  split
  · unfold takeS failS; rfl
  · unfold failS; rfl
theorem oS_rest (b : List Nat) (at_ : Nat) (kd m : Int) (w : Nat) (q : List Nat) (h : b.drop at_ = w :: q) :
    oS b at_ none kd m = if ofW (w : Int) kd = true then (ofV w q m, b.length, failS b.length none (wyE w q m)) else ([], at_ + 1, some (11, at_ + 1)) := by
  have hl : at_ < b.length := by
    rcases Nat.lt_or_ge at_ b.length with h1 | h1
    · exact h1
    · rw [List.drop_eq_nil_of_le h1] at h; cases h
  have hw : b[at_]? = some w := by
    have := List.drop_eq_getElem_cons hl
    rw [h] at this
    injection this with h1 _
    rw [h1]; exact List.getElem?_eq_getElem hl
  have hq : b.drop (at_ + 1) = q := by
    have := List.drop_eq_getElem_cons hl
    rw [h] at this
    injection this with _ h2
    exact h2.symm
  unfold oS
  rw [fix_byte b at_ w hw]
  simp only
  rw [take_rest b (at_ + 1) (by omega), hq]
  split
  · rfl
  · unfold failS; rfl
theorem errS_fail (at_ : Nat) (k : Int) : (errS (failS at_ none k)).1 = k := by
  unfold failS
  by_cases h : k = 0
  · simp [h, errS]
  · simp [h, errS]
theorem gt_bad {b : List Nat} {kd : Int} {n : Nat} {e : Int} (hk : kd = 1 ∨ kd = 2) (hn : n ≤ 65536) (hp : (prs b n).1 = e) (he : e ≠ 0) : gtE b kd (n : Int) = e := by
  unfold gtE
  rw [if_neg (by omega), Int.toNat_natCast, hp, if_pos he]
theorem gt_end {b : List Nat} {kd : Int} {n : Nat} {S : List Nat} {m w : Nat} {q : List Nat} (hk : kd = 1 ∨ kd = 2) (hn : n ≤ 65536) (hp : prs b n = (0, S, m, w, q)) (hm : m = n - cnt (bit S) n) (hq : ∀ x ∈ q, x < 256) :
    (gtE b kd (n : Int) = if ofW (w : Int) kd = true then wyE w q (m : Int) else 11) ∧ (gtE b kd (n : Int) = 0 → gtV b kd (n : Int) = tog (bit S) (ofV w q (m : Int)) n ∧ (ofV w q (m : Int)).length = m) := by
  have h1 : gtE b kd (n : Int) = if ofW (w : Int) kd = true then wyE w q (m : Int) else 11 := by
    unfold gtE
    rw [if_neg (by omega), Int.toNat_natCast, hp]
    simp only [ne_eq, not_true, if_false]
    cases h : ofW (w : Int) kd <;> simp
  refine ⟨h1, fun h0 => ?_⟩
  have hv : gtV b kd (n : Int) = asm (bit S) kd (wyI w q (m : Int)) (wyT w q (m : Int)) n := by
    unfold gtV
    rw [if_pos h0, Int.toNat_natCast, hp]
  rw [h0] at h1
  cases hw : ofW (w : Int) kd with
  | false => rw [hw] at h1; simp at h1
  | true =>
    rw [hw, if_pos rfl] at h1
    obtain ⟨_, _, _, _, g5, g6⟩ := wy_back hw hq h1.symm
    rw [hv]
    rcases ofW_ways hw with ⟨rfl, hws⟩ | ⟨rfl, rfl⟩
    · have hl := (g5 rfl).1
      rw [Int.toNat_natCast] at hl
      unfold ofV
      rw [if_neg (by omega)]
      exact ⟨(tog_num _ (by rw [hl, hm])).symm, by rw [ofN_length, hl]⟩
    · have hl := (g6 rfl).1
      rw [Int.toNat_natCast] at hl
      unfold ofV
      rw [if_pos rfl]
      exact ⟨(tog_txt _ (by rw [hl, hm])).symm, by rw [ofT_length, hl]⟩
theorem tog_congr {f g : Nat → Bool} {n : Nat} (h : ∀ k, k < n → f k = g k) (o : List Vl) : tog f o n = tog g o n := by
  apply List.ext_getElem?
  intro k
  rcases Nat.lt_or_ge k n with hk | hk
  · rw [tog_at _ _ hk, tog_at _ _ hk]
    unfold tgA
    rw [h k hk, cnt_congr k fun j hj => h j (by omega)]
  · rw [List.getElem?_eq_none (by rw [tog_length]; omega), List.getElem?_eq_none (by rw [tog_length]; omega)]
/-- The end of reading: the error's number, and where there is none: the set's places, how many others, the values. -/
def Ends (b : List Nat) (kd : Int) (n : Nat) (S : List Nat) (o : List Vl × Nat × Option (Int × Nat)) : Prop :=
  (errS o.2.2).1 = gtE b kd (n : Int) ∧ (gtE b kd (n : Int) = 0 → gtV b kd (n : Int) = tog (bit S) o.1 n ∧ o.1.length = n - cnt (bit S) n)
theorem ends_bad {b : List Nat} {kd : Int} {n : Nat} {S : List Nat} {o : List Vl × Nat × Option (Int × Nat)} {y : Int × Nat} (hk : kd = 1 ∨ kd = 2) (hn : n ≤ 65536) (hp : (prs b n).1 = y.1) (h0 : y.1 ≠ 0) (ho : o.2.2 = some y) : Ends b kd n S o := by
  have h := gt_bad hk hn hp h0
  unfold Ends
  rw [h, ho]
  exact ⟨rfl, fun e => absurd e h0⟩
theorem ends_rest {b : List Nat} {kd : Int} {n at_ : Nat} {S S' : List Nat} {m w : Nat} {q : List Nat} (hk : kd = 1 ∨ kd = 2) (hn : n ≤ 65536) (hp : prs b n = (0, S', m, w, q)) (hS : ∀ k, k < n → bit S k = bit S' k) (hm : m = n - cnt (bit S') n) (hb : ∀ x ∈ b, x < 256) (hd : b.drop at_ = w :: q) :
    Ends b kd n S (oS b at_ none kd (m : Int)) := by
  have hq : ∀ x ∈ q, x < 256 := fun x hx => hb x (List.mem_of_mem_drop (i := at_) (by rw [hd]; simp [hx]))
  obtain ⟨h1, h2⟩ := gt_end hk hn hp hm hq
  unfold Ends
  rw [oS_rest b at_ kd m w q hd]
  cases hw : ofW (w : Int) kd with
  | false =>
    rw [hw] at h1
    rw [h1]
    exact ⟨rfl, fun e => by simp at e⟩
  | true =>
    rw [hw, if_pos rfl] at h1
    rw [if_pos rfl]
    refine ⟨by simp only; rw [errS_fail, h1], fun h0 => ?_⟩
    obtain ⟨h3, h4⟩ := h2 h0
    refine ⟨by rw [h3]; exact (tog_congr hS _).symm, ?_⟩
    rw [cnt_congr n hS]
    simp only
    omega
/-- No value is nothing. -/
theorem ends_0 {r : List Nat} {kd : Int} {n : Nat} (hk : kd = 1 ∨ kd = 2) (hn : n ≤ 65536) (hb : ∀ x ∈ (0 :: r), x < 256) : Ends (0 :: r) kd n (List.replicate (siz n) 0) (oS (0 :: r) 1 none kd (n : Int)) := by
  cases r with
  | nil => exact ends_bad (y := (2, 1)) hk hn rfl (by decide) (oS_short _ _ _ _ rfl)
  | cons w q =>
    refine ends_rest hk hn (prs_none w q n) (fun k _ => by rw [bit_zeros, bit_nil]) ?_ hb rfl
    rw [cnt_off fun k _ => bit_nil k]; omega
/-- There are no bytes, or the first one is none of the two. -/
theorem ends_none {kd : Int} {n : Nat} (S : List Nat) (hk : kd = 1 ∨ kd = 2) (hn : n ≤ 65536) (m : Int) : Ends [] kd n S (oS [] 0 (some (2, 0)) kd m) :=
  ends_bad (y := (2, 0)) hk hn rfl (by decide) (oS_some _ _ _ _ _)
theorem ends_other {x : Nat} {r : List Nat} {kd : Int} {n : Nat} (S : List Nat) (hk : kd = 1 ∨ kd = 2) (hn : n ≤ 65536) (hx : 1 < x) : Ends (x :: r) kd n S ([], 1, some (4, 1)) :=
  ends_bad (y := (4, 1)) hk hn (by unfold prs; simp only; rw [if_pos hx]) (by decide) rfl
/-- Some are nothing. -/
theorem ends_1 {r : List Nat} {kd : Int} {n : Nat} (hk : kd = 1 ∨ kd = 2) (hn : n ≤ 65536) (hb : ∀ x ∈ (1 :: r), x < 256) :
    Ends (1 :: r) kd n (nS (1 :: r) 1 none n).1 (oS (1 :: r) (nS (1 :: r) 1 none n).2.1 (nS (1 :: r) 1 none n).2.2 kd ((n - nC (nS (1 :: r) 1 none n).1 n : Nat) : Int)) ∧ (gtE (1 :: r) kd (n : Int) = 0 → rdE (nS (1 :: r) 1 none n).1 (n : Int) = 0) := by
  by_cases h1 : r.length < siz n
  · have ht : takeS (1 :: r) 1 none (siz n : Int) = ([], 1, some (2, 1)) := by
      unfold takeS
      simp only
      rw [if_neg (by omega), if_pos (by rw [List.length_cons]; omega)]
    have hs : nS (1 :: r) 1 none n = ([], 1, some (2, 1)) := by
      unfold nS
      rw [ht]
      simp only
      split <;> simp [failS]
    have hp : (prs (1 :: r) n).1 = 2 := by
      unfold prs
      simp only
      rw [if_neg (by omega), if_pos trivial, if_pos h1]
    rw [hs]
    exact ⟨ends_bad (y := (2, 1)) hk hn hp (by decide) (oS_some _ _ _ _ _), fun e => by rw [gt_bad hk hn hp (by decide)] at e; simp at e⟩
  · have hd : (1 :: r).drop 1 = r := rfl
    have ht : takeS (1 :: r) 1 none (siz n : Int) = (r.take (siz n), 1 + siz n, none) := by
      unfold takeS
      simp only
      rw [if_neg (by omega), if_neg (by rw [List.length_cons]; omega), hd, Int.toNat_natCast]
    have hl : (r.take (siz n)).length = siz n := by rw [List.length_take]; omega
    have hS : ∀ x ∈ r.take (siz n), x < 256 := fun x hx => hb x (List.mem_cons_of_mem _ (List.mem_of_mem_take hx))
    have hbit := lef_no (l := r.take (siz n)) (n := n) hl hS
    have hdr : (1 :: r).drop (1 + siz n) = r.drop (siz n) := by rw [Nat.add_comm]; rfl
    obtain ⟨S, hSd⟩ : ∃ S, r.take (siz n) = S := ⟨_, rfl⟩
    rw [hSd] at ht hl hS hbit
    cases hlf : lef S n with
    | true =>
      have hr : rdE S (n : Int) = 4 := by
        unfold rdE
        rw [if_neg (by omega), Int.toNat_natCast, if_neg (by omega), if_neg (by omega), if_pos hlf]
      have hs : nS (1 :: r) 1 none n = (S, 1 + siz n, some (4, 1 + siz n)) := by
        unfold nS
        rw [ht]
        simp only
        rw [hr]
        simp [failS]
      have hp : (prs (1 :: r) n).1 = 4 := by
        unfold prs
        simp only
        rw [if_neg (by omega), if_pos trivial, if_neg h1, hSd, if_pos (.inl hlf)]
      rw [hs]
      exact ⟨ends_bad (y := (4, 1 + siz n)) hk hn hp (by simp) (oS_some _ _ _ _ _), fun e => by rw [gt_bad hk hn hp (by decide)] at e; simp at e⟩
    | false =>
      have hok : OkS n S := hbit.1 hlf
      have hr : rdE S (n : Int) = 0 := rdE_of_ok hn hok
      by_cases hc : cnt (bit S) n = 0
      · have hs : nS (1 :: r) 1 none n = (S, 1 + siz n, some (4, 1 + siz n)) := by
          unfold nS
          rw [ht]
          simp only
          rw [hr, if_neg (fun e => e.2 hc)]
          simp [failS]
        have hp : (prs (1 :: r) n).1 = 4 := by
          unfold prs
          simp only
          rw [if_neg (by omega), if_pos trivial, if_neg h1, hSd, if_pos (.inr hc)]
        rw [hs]
        exact ⟨ends_bad (y := (4, 1 + siz n)) hk hn hp (by simp) (oS_some _ _ _ _ _), fun e => by rw [gt_bad hk hn hp (by decide)] at e; simp at e⟩
      · have hs : nS (1 :: r) 1 none n = (S, 1 + siz n, none) := by
          unfold nS
          rw [ht]
          simp only
          rw [hr, if_pos ⟨rfl, hc⟩]
          simp [failS]
        have hnc : nC S n = cnt (bit S) n := by unfold nC; rw [if_pos hr]
        rw [hs]
        simp only
        rw [hnc]
        refine ⟨?_, fun _ => hr⟩
        have hno : ¬ (lef S n = true ∨ cnt (bit S) n = 0) := by
          rintro (e | e)
          · rw [hlf] at e; cases e
          · exact hc e
        cases hrest : r.drop (siz n) with
        | nil =>
          have hlen : (1 :: r).length = 1 + siz n := by
            have := List.drop_eq_nil_iff.1 hrest
            rw [List.length_cons]; omega
          have hp : (prs (1 :: r) n).1 = 2 := by
            unfold prs
            simp only
            rw [if_neg (by omega), if_pos trivial, if_neg h1, hSd, if_neg hno, hrest]
          exact ends_bad (y := (2, 1 + siz n)) hk hn hp (by simp) (oS_short _ _ _ _ hlen)
        | cons w q =>
          have hp : prs (1 :: r) n = (0, S, n - cnt (bit S) n, w, q) := by
            unfold prs
            simp only
            rw [if_neg (by omega), if_pos trivial, if_neg h1, hSd, if_neg hno, hrest]
          exact ends_rest hk hn hp (fun k _ => rfl) rfl hb (by rw [hdr, hrest])
end Go.Proofs.YthlfplljbbnaoaaGreatDoor

/- The table of the ways' functions, by what each does: it lays values in its form, it reads values of its form. -/
namespace Go.Proofs.YthlfplljbbnaoaaGreatDoor
open Go.RowKit
set_option linter.unusedVariables false
set_option linter.unusedSimpArgs false
set_option maxRecDepth 100000

/-- A function value that lays values in a way's form, from a world on. -/
def PutsAs (f : FuncId) (w : World) (v : Value) (kd : Int) (way : Nat) : Prop :=
  ∃ g1 g2, v = .func (.func f) #[] #[.pointer (some ⟨g1, 0, none⟩), .pointer (some ⟨g2, 0, none⟩)] ∧
    ∀ (A : Option Addr) (n c : Nat) (o : List Vl) (W : World), Below w.heap.size w W → Reads W W.heap.size 3 A n (vs o) → n ≤ 65536 → (∀ v ∈ o, v.1 = kd) → (∀ v ∈ o, In64 v.2.1) → (∀ v ∈ o, v.2.2.length ≤ 65536) →
      Calls Tryz.prog f #[.slice A n c, .pointer (some ⟨g1, 0, none⟩), .pointer (some ⟨g2, 0, none⟩)] W (NewE W (frm way o) 0)
/-- A function value that reads values of a way's form. -/
def GetsAs (f : FuncId) (w : World) (v : Value) (way : Nat) : Prop :=
  ∃ g1 g2, v = .func (.func f) #[] #[.pointer (some ⟨g1, 0, none⟩), .pointer (some ⟨g2, 0, none⟩)] ∧
    ∀ (A : Option Addr) (n c : Nat) (k : Int) (b : List Nat) (W : World), Below w.heap.size w W → Reads W W.heap.size 1 A n (bs b) → (∀ x ∈ b, x < 256) → n ≤ 140737488355328 → Met W →
      Calls Tryz.prog f #[.slice A n c, .int .i64 k, .pointer (some ⟨g1, 0, none⟩), .pointer (some ⟨g2, 0, none⟩)] W (CkWay W (ofV way b k) (wyE way b k))
theorem nums_in {o : List Vl} (h : ∀ v ∈ o, In64 v.2.1) : ∀ z ∈ nums o, In64 z := by
  intro z hz
  obtain ⟨v, hv, rfl⟩ := List.mem_map.1 hz
  exact h v hv
theorem txts_short {o : List Vl} {q : Nat} (h : ∀ v ∈ o, v.2.2.length ≤ q) : ∀ s ∈ txts o, s.length ≤ q := by
  intro z hz
  obtain ⟨v, hv, rfl⟩ := List.mem_map.1 hz
  exact h v hv
theorem wyI_len {k : Nat} (hk : k < 5) {b : List Nat} (hb : ∀ x ∈ b, x < 256) (m : Int) : (wyI k b m).length ≤ 65536 := by
  by_cases h : wyE k b m = 0
  · obtain ⟨h1, h2, _, _, h5, _⟩ := wy_back (kd := 1) (by unfold ofW; simp; omega) hb h
    have := (h5 rfl).1
    omega
  · have hc : k = 0 ∨ k = 1 ∨ k = 2 ∨ k = 3 ∨ k = 4 := by omega
    have : wyI k b m = [] := by
      rcases hc with rfl | rfl | rfl | rfl | rfl
      · exact if_neg h
      · exact if_neg h
      · exact if_neg h
      · exact if_neg h
      · exact if_neg h
    rw [this]; simp
theorem wyT_len {b : List Nat} (hb : ∀ x ∈ b, x < 256) (m : Int) : (wyT 5 b m).length ≤ 65536 := by
  by_cases h : wyE 5 b m = 0
  · obtain ⟨h1, h2, _, _, _, h6⟩ := wy_back (kd := 2) (by unfold ofW; simp) hb h
    have := (h6 rfl).1
    omega
  · have : wyT 5 b m = [] := if_neg h
    rw [this]; simp
theorem tab_putN {w : World} {a b : Nat → Value} (h : Tab w a b) {k : Nat} (hk : k < 5) : PutsAs 82 w (a k) 1 k := by
  have hc : k = 0 ∨ k = 1 ∨ k = 2 ∨ k = 3 ∨ k = 4 := by omega
  rcases hc with rfl | rfl | rfl | rfl | rfl
  · obtain ⟨g1, g2, hv, h1, h2⟩ := h.put 0 (by omega)
    refine ⟨g1, g2, hv, fun A n c o W hb hr hn hk hi hs => ?_⟩
    have := lit_plain A n c g1 g2 o W hr hn (nums_in hi) (h1.below hb) (h2.below hb)
    rwa [nums_ints hk] at this
  · obtain ⟨g1, g2, hv, h1, h2⟩ := h.put 1 (by omega)
    refine ⟨g1, g2, hv, fun A n c o W hb hr hn hk hi hs => ?_⟩
    have := lit_runs A n c g1 g2 o W hr hn (nums_in hi) (h1.below hb) (h2.below hb)
    rwa [nums_ints hk] at this
  · obtain ⟨g1, g2, hv, h1, h2⟩ := h.put 2 (by omega)
    refine ⟨g1, g2, hv, fun A n c o W hb hr hn hk hi hs => ?_⟩
    have := lit_delta A n c g1 g2 o W hr hn (nums_in hi) (h1.below hb) (h2.below hb)
    rwa [nums_ints hk] at this
  · obtain ⟨g1, g2, hv, h1, h2⟩ := h.put 3 (by omega)
    refine ⟨g1, g2, hv, fun A n c o W hb hr hn hk hi hs => ?_⟩
    have := lit_dict A n c g1 g2 o W hr hn (nums_in hi) (h1.below hb) (h2.below hb)
    rwa [nums_ints hk] at this
  · obtain ⟨g1, g2, hv, h1, h2⟩ := h.put 4 (by omega)
    refine ⟨g1, g2, hv, fun A n c o W hb hr hn hk hi hs => ?_⟩
    have := lit_fore A n c g1 g2 o W hr hn (nums_in hi) (h1.below hb) (h2.below hb)
    rwa [nums_ints hk] at this
theorem tab_putT {w : World} {a b : Nat → Value} (h : Tab w a b) : PutsAs 109 w (a 5) 2 5 := by
  obtain ⟨g1, g2, hv, h1, h2⟩ := h.put 5 (by omega)
  refine ⟨g1, g2, hv, fun A n c o W hb hr hn hk hi hs => ?_⟩
  have := lit_texts A n c g1 g2 o W hr hn (txts_short hs) (h1.below hb) (h2.below hb)
  rwa [txts_wrds hk] at this
theorem tab_getN {w : World} {a b : Nat → Value} (h : Tab w a b) {k : Nat} (hk : k < 5) : GetsAs 84 w (b k) k := by
  have hc : k = 0 ∨ k = 1 ∨ k = 2 ∨ k = 3 ∨ k = 4 := by omega
  rcases hc with rfl | rfl | rfl | rfl | rfl
  · obtain ⟨g1, g2, hv, h1, h2⟩ := h.get 0 (by omega)
    exact ⟨g1, g2, hv, fun A n c k b W hb hr hx hn hm => litG_plain A n c g1 g2 k b W hr hx hn hm (h1.below hb) (h2.below hb) (wyI_len (k := 0) (by omega) hx k)⟩
  · obtain ⟨g1, g2, hv, h1, h2⟩ := h.get 1 (by omega)
    exact ⟨g1, g2, hv, fun A n c k b W hb hr hx hn hm => litG_runs A n c g1 g2 k b W hr hx hn hm (h1.below hb) (h2.below hb) (wyI_len (k := 1) (by omega) hx k)⟩
  · obtain ⟨g1, g2, hv, h1, h2⟩ := h.get 2 (by omega)
    exact ⟨g1, g2, hv, fun A n c k b W hb hr hx hn hm => litG_delta A n c g1 g2 k b W hr hx hn hm (h1.below hb) (h2.below hb) (wyI_len (k := 2) (by omega) hx k)⟩
  · obtain ⟨g1, g2, hv, h1, h2⟩ := h.get 3 (by omega)
    exact ⟨g1, g2, hv, fun A n c k b W hb hr hx hn hm => litG_dict A n c g1 g2 k b W hr hx hn hm (h1.below hb) (h2.below hb) (wyI_len (k := 3) (by omega) hx k)⟩
  · obtain ⟨g1, g2, hv, h1, h2⟩ := h.get 4 (by omega)
    exact ⟨g1, g2, hv, fun A n c k b W hb hr hx hn hm => litG_fore A n c g1 g2 k b W hr hx hn hm (h1.below hb) (h2.below hb) (wyI_len (k := 4) (by omega) hx k)⟩
theorem tab_getT {w : World} {a b : Nat → Value} (h : Tab w a b) : GetsAs 111 w (b 5) 5 := by
  obtain ⟨g1, g2, hv, h1, h2⟩ := h.get 5 (by omega)
  exact ⟨g1, g2, hv, fun A n c k b W hb hr hx hn hm => litG_texts A n c g1 g2 k b W hr hx hn hm (h1.below hb) (h2.below hb) (wyT_len hx k)⟩
/-- The table's cells. -/
theorem tabC_at (a b : Nat → Value) {k : Nat} (hk : k < 6) : (tabC a b)[k * 3]? = some (.int .i64 (if k = 5 then 2 else 1)) ∧ (tabC a b)[k * 3 + 1]? = some (a k) ∧ (tabC a b)[k * 3 + 2]? = some (b k) := by
  have hc : k = 0 ∨ k = 1 ∨ k = 2 ∨ k = 3 ∨ k = 4 ∨ k = 5 := by omega
  rcases hc with rfl | rfl | rfl | rfl | rfl | rfl <;> exact ⟨rfl, rfl, rfl⟩
end Go.Proofs.YthlfplljbbnaoaaGreatDoor

/- A way's part of the table, by value. No condition. -/
namespace Go.Proofs.YthlfplljbbnaoaaGreatDoor
open Go.RowKit
set_option linter.unusedVariables false
set_option linter.unusedSimpArgs false
set_option maxRecDepth 100000

theorem info_form : (Tryz.prog.info? 50).map (fun i => (i.zero, i.size, i.bytes)) = some (some (.agg #[.int .i64 0, .nilFunc, .nilFunc]), 3, 24) := by kernel_rfl
theorem sizeOf_form (W : World) : (sizeOf 50).run Tryz.prog W = .ok 3 W := by
  obtain ⟨i0, hi0, hz0, hz1, hz2⟩ := info_parts info_form
  simp [sizeOf, typeInfo, hi0, hz1]
theorem tabC_cut (a b : Nat → Value) {k : Nat} (hk : k < 6) : (tabC a b).extract (k * 3) (k * 3 + 3) = #[.int .i64 (if k = 5 then 2 else 1), a k, b k] := by
  have hc : k = 0 ∨ k = 1 ∨ k = 2 ∨ k = 3 ∨ k = 4 ∨ k = 5 := by omega
  rcases hc with rfl | rfl | rfl | rfl | rfl | rfl <;> simp [tabC]
/-- A way's part of the table. -/
theorem run_index_form (a b : Nat → Value) {k : Nat} (hk : k < 6) (W : World) :
    (Instr.index 51 (.agg (tabC a b)) (.int .i64 (k : Int))).run Tryz.prog W = .ok (.agg #[.int .i64 (if k = 5 then 2 else 1), a k, b k]) W := by
  have h1 : (k : Int) < 6 := by omega
  have hz := sizeOf_form W
  have hc := tabC_cut a b hk
  simp [Instr.index, run_underlying Tryz.underlying51, run_underlying Tryz.underlying50, asIntOf, part, isAgg, hz, h1, hc, Result.andThen, Sem.run_bind, Sem.run_pure]
  intro h
  omega
end Go.Proofs.YthlfplljbbnaoaaGreatDoor

/- How long a chunk is, and that it is bytes; what Get answers; the contract of Get that layer 14's laws are told. No condition. -/
namespace Go.Proofs.YthlfplljbbnaoaaGreatDoor
open Go.RowKit
set_option linter.unusedVariables false
set_option linter.unusedSimpArgs false
set_option maxRecDepth 100000

theorem frm_len {way : Nat} {l : List Vl} (hl : l.length ≤ 65536) (hi : ∀ v ∈ l, In64 v.2.1) (ht : ∀ v ∈ l, v.2.2.length ≤ 65536) : (frm way l).length ≤ 4295753740 := by
  have h1 := ints_in hi
  have h2 := ints_length_le l
  have h3 := wrds_length_le l
  have h4 := wrds_short ht
  unfold frm
  split
  · have := (pl_length (ints l)).2; omega
  split
  · have := rf_length (runs (ints l)); have := rc_le (ints l); unfold rc at this; omega
  split
  · have := dl_length (ints l) (by omega); omega
  split
  · have := dc_length (ints l) (by omega); omega
  split
  · have := fo_length h1 (by omega); omega
  · exact txf_length _ (by omega) h4
theorem lyB_len {way : Nat} {l : List Vl} (hl : l.length ≤ 65536) (hi : ∀ v ∈ l, In64 v.2.1) (ht : ∀ v ∈ l, v.2.2.length ≤ 65536) : (lyB l way).length ≤ 4295770000 := by
  have h1 := frm_len (way := way) hl hi ht
  have h2 : (headB l).length ≤ 8194 := by
    unfold headB
    split
    · simp
    · rw [List.length_cons, setB_length]; unfold siz; omega
  unfold lyB
  rw [List.length_append, List.length_append, List.length_singleton]
  omega
theorem lyB_byte {way : Nat} {l : List Vl} (hw : way ≤ 5) (hl : l.length ≤ 65536) (hi : ∀ v ∈ l, In64 v.2.1) (ht : ∀ v ∈ l, v.2.2.length ≤ 65536) : ∀ b ∈ lyB l way, b < 256 := by
  intro b hb
  unfold lyB at hb
  rcases List.mem_append.1 hb with hb | hb
  · rcases List.mem_append.1 hb with hb | hb
    · unfold headB at hb
      split at hb
      · simp at hb; omega
      · rcases List.mem_cons.1 hb with hb | hb
        · omega
        · exact (setB_ok (non l) l.length).1.byte b hb
    · simp at hb; omega
  · exact frm_byte hl hi ht b hb
/-- What Get answers: new values, and an error's number. -/
def CkGet (w : World) (b : List Nat) (kd k : Int) (e : Ending) (w' : World) : Prop :=
  ∃ v, e = .returned (.tuple #[v, .int .i64 (gtE b kd k)]) ∧ w'.ownsRow w.heap.size 42 3 v (gtV b kd k).length (vs (gtV b kd k)) ∧ Below w.heap.size w w'
/-- The contract of Get. -/
def GetC : Prop := ∀ (A : Option Addr) (n c : Nat) (kd k : Int) (b : List Nat) (W : World), Reads W W.heap.size 1 A n (bs b) → (∀ x ∈ b, x < 256) → n ≤ 140737488355300 → In64 kd → In64 k → Met W →
  Calls Tryz.prog 14 #[.slice A n c, .int .i64 kd, .int .i64 k] W (CkGet W b kd k)
end Go.Proofs.YthlfplljbbnaoaaGreatDoor
