/- The walk of the statement ValueBack: what is put is taken as it was, where it is right. -/
import Derived.Test.YtieknhhhcjdbnaaDoorJ29
import Derived.Test.YtieknhhhcjdbnaaDoorVlPutS
import Derived.Test.YtieknhhhcjdbnaaDoorVlPutR
import Derived.Test.YtieknhhhcjdbnaaDoorVlGreat
import Derived.Test.YtieknhhhcjdbnaaDoorJ30
import Derived.Test.YtieknhhhcjdbnaaDoorVlCmp
import Derived.Test.YtieknhhhcjdbnaaDoorErrEnd
import Derived.Test.YtieknhhhcjdbnaaDoorJ13
namespace Go.Proofs.YtieknhhhcjdbnaaDoor
open Go.RowKit
set_option linter.unusedVariables false
set_option linter.unusedSimpArgs false
set_option maxRecDepth 100000

theorem scE_len {s : List Cl} (h : scE s = 0) : 0 < s.length ∧ s.length ≤ 64 := by
  unfold scE at h
  split at h
  · cases h
  · omega
theorem vB_byte {v : Vl} (hi : In64 v.2.1) (hs : v.2.2.length ≤ 70000) : ∀ x ∈ vB v, x < 256 := by
  intro x hx
  unfold vB at hx
  rcases List.mem_cons.1 hx with rfl | hx
  · omega
  · split at hx
    · exact vb_byte _ (zg_int hi).2 x hx
    · split at hx
      · unfold blbT at hx
        rcases List.mem_append.1 hx with hx | hx
        · exact vb_byte _ (by omega) x hx
        · exact nb_byte _ x hx
      · cases hx
theorem rwB_byte {rows : List (List Vl)} (ht : Tame rows) (hi : ∀ r ∈ rows, ∀ v ∈ r, In64 v.2.1) : ∀ x ∈ rwB rows, x < 256 := by
  intro x hx
  unfold rwB at hx
  rcases List.mem_append.1 hx with hx | hx
  · exact vb_byte _ (by have := ht.1; omega) x hx
  · obtain ⟨r, hr, hx⟩ := List.mem_flatMap.1 hx
    obtain ⟨v, hv, hx⟩ := List.mem_flatMap.1 hx
    exact vB_byte (hi r hr v hv) ((ht.2 r hr).2 v hv) x hx
theorem scB_byte (s : List Cl) : ∀ x ∈ scB s, x < 256 := by
  intro x hx
  unfold scB at hx
  rcases List.mem_cons.1 hx with rfl | hx
  · omega
  · obtain ⟨c, _, hx⟩ := List.mem_flatMap.1 hx
    unfold cB at hx
    simp only [List.mem_cons, List.not_mem_nil, or_false] at hx
    rcases hx with rfl | rfl | rfl
    · omega
    · split <;> omega
    · omega
theorem backV_else (A A2 : Option Addr) (n c c2 : Nat) (s : List Cl) (rows : List (List Vl)) (w : World) (hs : Reads w w.heap.size 3 A n (cls s)) (hr : VV w A2 rows) (hn : n ≤ 9223372036854775807) (hrl : rows.length ≤ 9223372036854775807) (h : grR rows 50 50 100 = true ∨ scE s ≠ 0) :
    Calls Tryd.prog 4 #[.slice A n c, .slice A2 rows.length c2] w fun e w' => e = .returned (.bool true) ∧ Below w.heap.size w w' := by
  have HAW := Lib.hid fun W => awakeV_any cmpC_any schemaC_any W
  obtain ⟨g, hg⟩ : ∃ g, grR rows 50 50 100 = g := ⟨_, rfl⟩
  have HG := Lib.hid (greatR_any A2 c2 50 50 100 rows w hr hrl (by omega) (by omega) (by omega) g hg.symm)
  have HSC := Lib.hid (schemaV_any A n c s w hs hn)
  rw [hg] at h
  obtain ⟨E, hE⟩ : ∃ E, scE s = E := ⟨_, rfl⟩
  rw [hE] at h HSC
  obtain ⟨rl, hrl'⟩ : ∃ rl, rows.length = rl := ⟨_, rfl⟩
  rw [hrl'] at HG hrl ⊢
  clear hg hE hrl' hs hr
  cases g with
  | true =>
    clear h
    go_enter Tryd.func4, Tryd.ntmps4
    go_wp2_with fail
    refine HG.out.mono ?_
    rintro e w' ⟨rfl, rfl⟩
    go_wp2_with fail
    refine (HAW.out _).mono ?_
    rintro e w1 ⟨rfl, hb1⟩
    go_wp2_with fail
    go_ret
    exact ⟨rfl, hb1⟩
  | false =>
    have h := h.resolve_left (by simp)
    have q : (E != 0) = true := by simpa using h
    clear h
    go_enter Tryd.func4, Tryd.ntmps4
    go_wp2_with fail
    refine HG.out.mono ?_
    rintro e w' ⟨rfl, rfl⟩
    go_wp2_with fail
    refine HSC.out.mono ?_
    rintro e w1 ⟨rfl, hd1⟩
    have hb1 := hd1.below (Below.refl w.heap.size w)
    go_wp2_with fail
    refine (HAW.out _).mono ?_
    rintro e w2 ⟨rfl, hb2⟩
    go_wp2_with fail
    go_ret
    exact ⟨rfl, hb1.trans (hb2.mono hb1.size)⟩
set_option maxHeartbeats 4000000 in
theorem backV_main (A A2 : Option Addr) (n c c2 : Nat) (s : List Cl) (rows : List (List Vl)) (w : World) (hs : Reads w w.heap.size 3 A n (cls s)) (hr : VV w A2 rows) (hm : Met w) (hi : ∀ r ∈ rows, ∀ v ∈ r, In64 v.2.1) (hg : grR rows 50 50 100 = false) (hsc : scE s = 0) :
    Calls Tryd.prog 4 #[.slice A n c, .slice A2 rows.length c2] w fun e w' => e = .returned (.bool true) ∧ Below w.heap.size w w' := by
  obtain ⟨g1, g2⟩ := grR_false hg
  have htm : Tame rows := ⟨by omega, fun r hr => ⟨by have := (g2 r hr).1; omega, fun v hv => by have := (g2 r hr).2 v hv; omega⟩⟩
  have hrm : ∀ r ∈ rows, r.length ≤ 65536 := fun r hr => by have := (g2 r hr).1; omega
  have hsl : s.length = n := by have := hs.1; rw [cls_length] at this; omega
  obtain ⟨hn0, hn64⟩ := scE_len hsc
  rw [hsl] at hn0 hn64
  have HAW := Lib.hid fun W => awakeV_any cmpC_any schemaC_any W
  have hgr := greatR_any A2 c2 50 50 100 rows w hr (by omega) (by omega) (by omega) (by omega) false hg.symm
  have hsv := schemaV_any A n c s w hs (by omega)
  rw [hsc] at hsv
  have HM := Lib.hid fun (W : World) (h : Below w.heap.size w W) => hm.next h
  have HS := Lib.hid fun (W : World) (h : Below w.heap.size w W) => hs.next h
  have HR := Lib.hid fun (W : World) (h : Below w.heap.size w W) => hr.next h
  -- the forms
  have hp1 := fun (W : World) (h : Reads W W.heap.size 3 A n (cls s)) => putS_any A n c s W h (by omega)
  have hsbl : (scB s).length ≤ 200 := by rw [scF_all, scF_length]; omega
  have hp2 := fun (W : World) (B : Option Addr) (d : Nat) (h : Reads W W.heap.size 1 B (scB s).length (bs (scB s))) (hv : VV W A2 rows) => putR_any B (scB s).length d (scB s) A2 c2 rows W h (by omega) hv htm hi
  have hrb : (rwB rows).length ≤ 70011000010 := by
    have := rwF_le htm rows.length rows.length
    rwa [List.take_of_length_le (Nat.le_refl _)] at this
  have hlb : ∀ x ∈ scB s ++ rwB rows, x < 256 := by
    intro x hx
    rcases List.mem_append.1 hx with hx | hx
    · exact scB_byte s x hx
    · exact rwB_byte htm hi x hx
  have ht1 : tkS (scB s ++ rwB rows) 0 none = (s, (scB s).length, none) := by
    have := tkS_put (l := scB s ++ rwB rows) (rest := rwB rows) (at_ := 0) hsc rfl
    rwa [Nat.zero_add] at this
  have ht2 : (∀ r ∈ rows, rwE s r = 0) → tkR (scB s ++ rwB rows) s (scB s).length none = (rows, (scB s).length + (rwB rows).length, none) := fun h =>
    tkR_put (rest := []) (by omega) h hi (by rw [List.drop_append_of_le_length (Nat.le_refl _), List.drop_length, List.nil_append, List.append_nil])
  have hen : endS (scB s ++ rwB rows) ((scB s).length + (rwB rows).length) none = (0, 0) := by
    unfold endS errS
    rw [if_neg (by rw [List.length_append]; omega)]
    rfl
  obtain ⟨L, hL⟩ : ∃ L, scB s ++ rwB rows = L := ⟨_, rfl⟩
  obtain ⟨SB, hSB⟩ : ∃ L, scB s = L := ⟨_, rfl⟩
  have hLl : L.length ≤ 140737488355328 := by rw [← hL, List.length_append]; omega
  obtain ⟨p3, hp3⟩ : ∃ p, SB.length + (rwB rows).length = p := ⟨_, rfl⟩
  rw [hL] at hp2 hlb ht1 ht2 hen
  rw [hSB] at hp1 hp2 ht1 ht2 hen
  rw [hp3] at ht2 hen
  have hnr := fun (W : World) (B : Option Addr) (d : Nat) (h : Reads W W.heap.size 1 B L.length (bs L)) => newReader_any B L.length d L W h hLl hlb
  have hts := fun (W : World) (g : Nat) (hm : Met W) (h : RdS W g L 0 none) => takeS_any hm h xok_none
  rw [ht1] at hts
  have htr := fun (W : World) (g : Nat) (B : Option Addr) (d : Nat) (hm : Met W) (h : RdS W g L SB.length none) (hs : Reads W W.heap.size 3 B n (cls s)) (ha : Apart B g) => takeR_any B n d s hm h xok_none hs ha (by omega)
  have hnd := fun (W : World) (g : Nat) (hm : Met W) (h : RdS W g L p3 none) => end_is hm h
  rw [hen] at hnd
  obtain ⟨m, hmm⟩ : ∃ m, SB.length = m := ⟨_, rfl⟩
  obtain ⟨q, hq⟩ : ∃ q, L.length = q := ⟨_, rfl⟩
  rw [hmm] at hp1 hp2 htr ht2
  rw [hmm] at hts
  rw [hq] at hp2 hnr
  have hss := fun (W : World) (B : Option Addr) (d : Nat) (h1 : Reads W W.heap.size 3 A n (cls s)) (h2 : Reads W W.heap.size 3 B n (cls s)) => sameS_true A B n c d s W h1 h2 (by omega)
  have hsr := fun (W : World) (B : Option Addr) (d : Nat) (h1 : VV W A2 rows) (h2 : VV W B rows) => sameR_true A2 B c2 d rows W h1 h2 (by omega) hrm
  have hrv := fun (W : World) (k : Nat) (r : List Vl) (B : Option Addr) (d : Nat) (hW : Reads W W.heap.size 3 A n (cls s)) (hrr : Reads W W.heap.size 3 B r.length (vs r)) (hl : r.length ≤ 50) => rowV_any A B n c r.length d s r W hW hrr (by omega) (by omega)
  obtain ⟨rl, hrl'⟩ : ∃ rl, rows.length = rl := ⟨_, rfl⟩
  rw [hrl'] at hgr hp2 hsr g1 ⊢
  have P1 := Lib.hid hp1; have P2 := Lib.hid hp2; have NR := Lib.hid hnr; have TS := Lib.hid hts; have TR := Lib.hid htr; have ND := Lib.hid hnd; have SS := Lib.hid hss; have SR := Lib.hid hsr; have RV := Lib.hid hrv
  have HGR := Lib.hid hgr; have HSV := Lib.hid hsv; have HT2 := Lib.hid ht2; have HRL := Lib.hid hrl'; have HSL := Lib.hid hsl; have HG2 := Lib.hid g2
  obtain ⟨us, hu, hus⟩ := hr
  rw [hrl'] at hu
  have HU := Lib.hid hus
  clear hp1 hp2 hnr hts htr hnd hss hsr hrv hgr hsv ht1 ht2 hen hlb hrb hsbl hLl hL hSB hp3 hmm hq hrl' hsl g2 htm hrm hs hm hi hg hsc hus
  go_enter Tryd.func4, Tryd.ntmps4
  go_wp2_with fail
  refine HGR.out.mono ?_
  rintro e w' ⟨rfl, rfl⟩
  go_wp2_with fail
  refine HSV.out.mono ?_
  rintro e w1 ⟨rfl, hd1⟩
  have hb1 := hd1.below (Below.refl w.heap.size w)
  clear hd1 HGR HSV
  go_wp2_with fail
  go_loopw [5] (fun i wr => ∃ k : Nat, k ≤ rl ∧ i = .int .i64 (k : Int) ∧ Below w.heap.size w wr ∧ Hid (∀ r ∈ rows.take k, rwE s r = 0)) (fun i _ => rl - (intOf i).toNat)
  case atStart => exact ⟨0, Nat.zero_le _, rfl, hb1, Lib.hid (by simp)⟩
  case round =>
    clear hb1
    obtain ⟨k, hk, rfl, hb, hA⟩ := hrel
    by_cases hlt : k < rl
    · obtain ⟨r, hz⟩ : ∃ r, rows[k]? = some r := ⟨_, List.getElem?_eq_getElem (by rw [HRL.out]; omega)⟩
      obtain ⟨u, hu1, B3, c3, rfl, hrr⟩ := HU.out k r hz
      obtain ⟨bb, oo, rfl, hbb, hcell⟩ := reads_plain2 hu (by omega) hu1
      have hck : wr.cell? ⟨bb, oo + k, none⟩ = some (.slice B3 r.length c3) := (hb.cell (p := ⟨bb, oo + k, none⟩) hbb).trans (hcell k _ hu1)
      have hrv := RV.out wr k r B3 c3 (HS.out _ hb) (hrr.next hb) (HG2.out r (List.mem_of_getElem? hz)).1
      have hst : rwE s r = 0 → Hid (∀ q ∈ rows.take (k + 1), rwE s q = 0) := fun h => Lib.hid (by
        rw [take_snoc hz]
        intro q hq
        rcases List.mem_append.1 hq with hq | hq
        · exact hA.out q hq
        · rw [List.mem_singleton] at hq; subst hq; exact h)
      obtain ⟨E, hE⟩ : ∃ E, rwE s r = E := ⟨_, rfl⟩
      obtain ⟨m3, hm3⟩ : ∃ m, r.length = m := ⟨_, rfl⟩
      rw [hE] at hrv hst
      rw [hm3] at hrv hck
      have HRV := Lib.hid hrv
      clear hrv hz hu1 hcell hrr hE hm3 hA
      by_cases h0 : E = 0
      · have HST := hst h0
        have q1 : (E != 0) = false := by simp [h0]
        clear hst h0
        go_wp2_with fail
        refine HRV.out.mono ?_
        rintro e w2 ⟨rfl, hb2⟩
        go_wp2_with fail
        go_round
        case rel => exact ⟨k + 1, by omega, by go_num, hb.trans (hb2.mono hb.size), HST⟩
        case measure => simp [intOf]; omega
      · have q1 : (E != 0) = true := by simp [h0]
        clear hst h0
        go_wp2_with fail
        refine HRV.out.mono ?_
        rintro e w2 ⟨rfl, hb2⟩
        have hb02 := hb.trans (hb2.mono hb.size)
        go_wp2_with fail
        refine (HAW.out _).mono ?_
        rintro e w3 ⟨rfl, hb3⟩
        go_wp2_with fail
        go_ret
        exact ⟨rfl, hb02.trans (hb3.mono hb02.size)⟩
    · obtain rfl : k = rl := by omega
      have HALL : Hid (∀ r ∈ rows, rwE s r = 0) := Lib.hid (by have := hA.out; rwa [List.take_of_length_le (by rw [HRL.out]; exact Nat.le_refl _)] at this)
      have HTK := Lib.hid (HT2.out HALL.out)
      clear hA HALL HT2 RV hk hlt hu HU HG2
      go_wp2_with fail
      refine (P1.out _ (HS.out _ hb)).mono ?_
      intro e w2 hN2
      obtain ⟨B2, d2, rfl, _, r2, hb2⟩ := hN2.opened
      have hb02 := hb.trans (hb2.mono hb.size)
      clear hN2 hb2 hb P1
      go_wp2_with fail
      refine (P2.out _ B2 d2 r2 (HR.out _ hb02)).mono ?_
      intro e w3 hN3
      obtain ⟨B3, d3, rfl, _, r3, hb3⟩ := hN3.opened
      have hb03 := hb02.trans (hb3.mono hb02.size)
      clear hN3 hb3 hb02 P2 r2
      go_wp2_with fail
      refine (NR.out _ B3 d3 r3).mono ?_
      rintro e w4 ⟨g, A', c', rfl, hgw, hR, hb4⟩
      have hS4 := rd_new hR
      have hgw0 : w.heap.size ≤ g := by have := hb03.size; omega
      have hb04 := hb03.trans (hb4.mono hb03.size)
      clear hR hb4 hb03 r3 NR hgw
      go_wp2_with fail
      refine (TS.out _ g (HM.out _ hb04) hS4).mono ?_
      rintro e w5 ⟨v5, rfl, hown5, hS5, hG5⟩
      simp only at hown5 hS5
      rw [HSL.out] at hown5
      have hb05 := hb04.grown hG5 hb04.size (fun k hk => by injection hk with hk; omega)
      obtain ⟨B5, d5, rfl, _, _, r5⟩ := own_slice hown5
      have hap : Apart B5 g := own_apart hown5 hS4.lt
      clear hS4 hG5 hown5 hb04 TS
      go_wp2_with fail
      have htr := TR.out _ g B5 d5 (HM.out _ hb05) hS5 r5 hap
      rw [HTK.out] at htr
      refine htr.mono ?_
      rintro e w6 ⟨v6, us6, rfl, hown6, hoff6, hS6, hG6⟩
      simp only at hown6 hoff6 hS6
      rw [HRL.out] at hown6
      have hb06 := hb05.grown hG6 hb05.size (fun k hk => by injection hk with hk; omega)
      have r6 := r5.off hG6 hap
      obtain ⟨B6, d6, rfl, _, _, _⟩ := own_slice hown6
      have VB := vv_of hoff6 hown6 HRL.out
      clear hS5 hG6 htr hown6 hoff6 hb05 TR HTK hap r5
      go_wp2_with fail
      refine (ND.out _ g (HM.out _ hb06) hS6).mono ?_
      rintro e w7 ⟨ht7, hb7⟩
      have ht7' : e = .returned (.tuple #[.int .i64 0, .int .i64 ((0 : Nat) : Int)]) := ht7
      subst ht7'
      have r7 := r6.next hb7
      have VB7 := VB.next hb7
      have hb07 := hb06.trans (hb7.mono hb06.size)
      clear ht7 hb7 hb06 hS6 ND r6 VB
      go_wp2_with fail
      refine (SS.out _ B5 d5 (HS.out _ hb07) r7).mono ?_
      rintro e w8 ⟨rfl, hd8⟩
      have hn8 := hd8.below (Below.refl w7.heap.size w7)
      have VB8 := VB7.next hn8
      have hb08 := hd8.below hb07
      clear hd8 hn8 hb07 SS r7 VB7
      go_wp2_with fail
      refine (SR.out _ B6 d6 (HR.out _ hb08) VB8).mono ?_
      rintro e w9 ⟨rfl, hd9⟩
      have hb09 := hd9.below hb08
      clear hd9 hb08 SR VB8
      go_wp2_with fail
      refine (HAW.out _).mono ?_
      rintro e wa ⟨rfl, hba⟩
      go_wp2_with fail
      go_ret
      exact ⟨rfl, hb09.trans (hba.mono hb09.size)⟩
theorem backV_any (A A2 : Option Addr) (n c c2 : Nat) (s : List Cl) (rows : List (List Vl)) (w : World) (hs : Reads w w.heap.size 3 A n (cls s)) (hr : VV w A2 rows) (hm : Met w) (hi : ∀ r ∈ rows, ∀ v ∈ r, In64 v.1 ∧ In64 v.2.1) (hn : n ≤ 9223372036854775807) (hrl : rows.length ≤ 9223372036854775807) :
    Calls Tryd.prog 4 #[.slice A n c, .slice A2 rows.length c2] w fun e w' => e = .returned (.bool true) ∧ Below w.heap.size w w' := by
  by_cases h : grR rows 50 50 100 = true ∨ scE s ≠ 0
  · exact backV_else A A2 n c c2 s rows w hs hr hn hrl h
  · refine backV_main A A2 n c c2 s rows w hs hr hm (fun r hr v hv => (hi r hr v hv).2) ?_ (Classical.byContradiction fun e => h (.inr e))
    cases e : grR rows 50 50 100 with
    | false => rfl
    | true => exact absurd (.inl e) h
end Go.Proofs.YtieknhhhcjdbnaaDoor
