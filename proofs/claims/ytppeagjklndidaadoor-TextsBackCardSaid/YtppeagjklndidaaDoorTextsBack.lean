/- The walk of the statement TextsBack: what is put is read as it was; what is read is put as it was; one text that is too long is refused. -/
import Derived.BigQuiet
import Derived.Deep.QuietTactic
import Derived.Deep.RegionLaw
import Derived.Deep.DeepCutAuto
import Derived.Test.YtppeagjklndidaaDoorJ25
import Derived.Test.YtppeagjklndidaaDoorJ46
namespace Go.Proofs.YtppeagjklndidaaDoor
open Go.RowKit
set_option linter.unusedVariables false
set_option linter.unusedSimpArgs false
set_option maxRecDepth 100000

theorem run_make_u8n (n : Nat) (hc : n ≤ 281474976710656) (w : World) :
    (Instr.makeSlice 23 (.int .i64 (n : Int)) (.int .i64 (n : Int))).run Tryd.prog w = .ok (.slice (some ⟨w.heap.size, 0, none⟩) n n) (w.alloc (.cells (madeCells #[.int .u8 0] n) 5)) := by
  obtain ⟨i, hi, hz0, hz1, hz2⟩ := info_parts info_u8
  have hr := run_make (P := Tryd.prog) w 23 5 i _ Tryd.underlying23 hi hz0 .i64 .i64 n n (by omega) (by omega) (by rw [hz2]; omega) (by omega)
  rw [hz1] at hr
  simpa [Value.cells] using hr
/-- A block of zeros, as a text. -/
theorem conv_zero (W : World) (g n : Nat) (h : W.heap[g]? = some (.cells (madeCells #[.int .u8 0] n) 5)) : (convert 23 9 (.slice (some ⟨g, 0, none⟩) n n)).run Tryd.prog W = .ok (.string ⟨(tb (List.replicate n 0)).toArray⟩) W := by
  refine text_of (B := g + 1) n (reads_blk (show Blk W g 5 (madeCells #[.int .u8 0] n) from h) _ n _ (by omega) (by rw [bs_length]; simp) ?_) (by intro x hx; rw [List.eq_of_mem_replicate hx]; omega)
  rw [toList_madeCells_one, List.take_of_length_le (by simp)]
  simp [bs]
theorem heap_keep {W w2 : World} {g : Nat} {o : Obj} {row : Option Nat} (h : W.heap[g]? = some o) (hg : W.grownBy w2 row) (hne : some g ≠ row) : w2.heap[g]? = some o :=
  (hg.block g (Array.getElem?_eq_some_iff.1 h).1 hne).trans h
theorem reads_one {W : World} {g : Nat} {u : Value} (h : W.cell? ⟨g, 0, none⟩ = some u) : Reads W (g + 1) 1 (some ⟨g, 0, none⟩) 1 [u] := by
  refine ⟨rfl, fun _ => ⟨_, rfl, Nat.lt_succ_self _, fun j x hx => ?_⟩⟩
  have hj : j = 0 := by
    have := (List.getElem?_eq_some_iff.1 hx).1
    simp at this; exact this
  subst hj
  injection hx with hx
  subst hx
  exact h
theorem own_empty {base : Nat} (w0 : World) (h : base ≤ w0.heap.size) : (w0.alloc (.cells #[] 9)).ownsRow base 9 1 (.slice (some ⟨w0.heap.size, 0, none⟩) 0 0) 0 [] := World.ownsRow_made w0 #[] 0 h (Nat.zero_le _) rfl
theorem cell_laid (W : World) (u : Value) (t : TypeId) : (W.alloc (.cells #[u] t)).cell? ⟨W.heap.size, 0, none⟩ = some u := (Blk.new W t #[u]).cell 0
theorem backT_else (A1 A2 : Option Addr) (n1 c1 n2 c2 : Nat) (k : Int) (q : Int) (l : List Tx) (w : World) (h1 : Reads w w.heap.size 1 A1 n1 (ts l)) (h : grB l 100 100 = true ∨ 800 < n2 ∨ 500 < k ∧ k ≤ 65536) :
    Calls Tryd.prog 4 #[.slice A1 n1 c1, .slice A2 n2 c2, .int .i64 k, .int .u8 q] w fun e w' => e = .returned (.bool true) ∧ Below w.heap.size w w' := by
  obtain ⟨g, hg⟩ : ∃ g, g = grB l 100 100 := ⟨_, rfl⟩
  rw [← hg] at h
  have HG := Lib.hid (great_any A1 n1 c1 100 100 l w h1 (by omega) (by omega) g hg)
  clear h1 hg
  cases g with
  | true =>
    clear h
    go_enter Tryd.func4, Tryd.ntmps4
    go_wp2_with fail
    refine HG.out.mono ?_
    rintro e w' ⟨rfl, rfl⟩
    go_wp2_with fail
    refine (awakeT_any w).mono ?_
    rintro e w1 ⟨rfl, hb⟩
    go_wp2_with fail
    go_ret
    exact ⟨rfl, hb⟩
  | false =>
    have h := h.resolve_left (by simp)
    by_cases h2 : 800 < n2
    case' pos => clear h
    case' neg =>
      obtain ⟨h3, h4⟩ := h.resolve_left h2
      clear h
    all_goals
      go_enter Tryd.func4, Tryd.ntmps4
      go_wp2_with fail
      refine HG.out.mono ?_
      rintro e w' ⟨rfl, rfl⟩
      go_wp2_with fail
      refine (awakeT_any w).mono ?_
      rintro e w1 ⟨rfl, hb⟩
      go_wp2_with fail
      go_ret
      exact ⟨rfl, hb⟩
set_option maxHeartbeats 4000000 in
theorem backT_main (A1 A2 : Option Addr) (c1 n2 c2 : Nat) (k : Int) (q : Nat) (l : List Tx) (lb : List Nat) (w : World) (h1 : Reads w w.heap.size 1 A1 l.length (ts l)) (h2 : Reads w w.heap.size 1 A2 n2 (bs lb)) (hlb : ∀ x ∈ lb, x < 256) (hqq : q ≤ 255)
    (hg : grB l 100 100 = false) (hn2 : ¬ 800 < n2) (hk : ¬ 500 < k ∨ ¬ k ≤ 65536) (hmet : Met w) :
    Calls Tryd.prog 4 #[.slice A1 l.length c1, .slice A2 n2 c2, .int .i64 k, .int .u8 (q : Int)] w fun e w' => e = .returned (.bool true) ∧ Below w.heap.size w w' := by
  obtain ⟨i1, hi1, hy0, hy1, hy2⟩ := info_parts info_str
  obtain ⟨hn1, hql⟩ := grB_false hg
  have HG := Lib.hid (great_any A1 l.length c1 100 100 l w h1 (by omega) (by omega) false hg.symm)
  have hq2 : ∀ s ∈ l, s.length ≤ 65536 := fun s hs => by have := hql s hs; omega
  have hdl := txf_length l (by omega) hq2
  have hdb := txf_byte l (by omega) hq2
  obtain ⟨g1, g2⟩ := tx_get l hq2 (by omega)
  have CP := Lib.hid (fun A c W hr => txPut_any A l.length c l W hr (by omega) hq2)
  have CG1 := fun (A : Option Addr) (c : Nat) (W : World) (hr : Reads W W.heap.size 1 A (txf l).length (bs (txf l))) (hm : Met W) => txGet_any A (txf l).length c (l.length : Int) (txf l) W hr hdb (by omega) hm
  rw [g1, g2] at CG1
  have hlb2 : n2 = lb.length := by have := h2.1; rw [bs_length] at this; omega
  subst hlb2
  have CG := Lib.hid (fun A c W hr hm => txGet_any A lb.length c k lb W hr hlb (by omega) hm)
  obtain ⟨r, hr0⟩ : ∃ r, r = txE lb k := ⟨_, rfl⟩
  have HZ : Hid (r = 0 → 0 ≤ k ∧ k ≤ 65536 ∧ txf (txG lb k) = lb ∧ (txG lb k).length = k.toNat ∧ ∀ s ∈ txG lb k, s.length ≤ 65536) := by rw [hr0]; exact Lib.hid (get_tx lb hlb k)
  obtain ⟨S, hS0⟩ : ∃ S, S = txG lb k := ⟨_, rfl⟩
  rw [← hr0, ← hS0] at CG
  rw [← hS0] at HZ
  obtain ⟨p, hp0⟩ : ∃ p, p = txf l := ⟨_, rfl⟩
  rw [← hp0] at CP CG1 hdl
  have CG1 := Lib.hid CG1
  clear g1 g2 hr0 hS0 hp0 hdb hlb hg hql hq2
  go_enter Tryd.func4, Tryd.ntmps4
  go_upto_region 1 with fail
  go_cut [33] (fun s33 wx => s33 = .bool false ∧ wx = w)
  case first =>
    by_cases hk1 : 500 < k
    · have hk2 : ¬ k ≤ 65536 := by omega
      clear hk
      go_wp2_with fail
      refine HG.out.mono ?_
      rintro e w' ⟨rfl, rfl⟩
      go_wp2_with fail
      go_meet
      exact ⟨congrArg Value.bool (by simp; omega), rfl⟩
    · clear hk
      go_wp2_with fail
      refine HG.out.mono ?_
      rintro e w' ⟨rfl, rfl⟩
      go_wp2_with fail
      go_meet
      exact ⟨congrArg Value.bool (by simp; omega), rfl⟩
  case rest =>
    obtain ⟨rfl, hw0⟩ := hcut
    subst hw0
    clear hk HG
    go_wp2_with fail
    refine (CP.out A1 c1 _ h1).mono ?_
    rintro e w1 ⟨v1, rfl, hown1, hb1⟩
    obtain ⟨Ax, cx, rfl, hcx, _, rx⟩ := own_slice hown1
    have h11 := h1.next hb1
    have h21 := h2.next hb1
    have hm1 := hmet.next hb1
    clear hown1 h1 h2
    go_wp2_with fail
    refine (CG1.out Ax cx w1 rx hm1).mono ?_
    intro e w2 hN2
    obtain ⟨Ay, cy, rfl, _, _, ry, hb2⟩ := hN2.opened
    have h12 := h11.next hb2
    have h22 := h21.next hb2
    have hb02 := hb1.trans (hb2.mono hb1.size)
    clear hN2 h11 h21 rx hb1 hb2 CP CG1 hm1
    go_wp2_with fail
    refine (sameT_true Ay A1 l.length cy c1 l w2 ry h12 (by omega)).mono ?_
    rintro e w3 ⟨rfl, hd3⟩
    have hn3 := hd3.below (Below.refl w2.heap.size w2)
    have hb03 := hd3.below hb02
    have h13 := h12.next hn3
    have h23 := h22.next hn3
    have hm3 := hmet.next hb03
    clear ry h12 h22 hb02 hd3 hn3
    go_wp2_with fail
    refine (CG.out A2 c2 w3 h23 hm3).mono ?_
    intro e wa hNa
    obtain ⟨Aa, ca, rfl, _, _, ra, hba⟩ := hNa.opened
    have hb0a := hb03.trans (hba.mono hb03.size)
    have h2a := h23.next hba
    have h1a := h13.next hba
    clear hNa h23 h13 hba hb03 CG hm3
    go_upto_if 62 with fail
    go_cut [8] (fun s8 wx => s8 = .bool false ∧ Below wa.heap.size wa wx)
    case first =>
      by_cases hrz : r = 0
      · obtain ⟨k0, k1, hpS, hSl, hSq⟩ := HZ.out hrz
        subst hrz
        have HP := Lib.hid hpS
        have hS1 : S.length ≤ 65536 := by omega
        have HPS := Lib.hid (txPut_any Aa S.length ca S wa ra hS1 hSq)
        clear hSl hpS hSq HZ
        go_wp2_with fail
        refine HPS.out.mono ?_
        rintro e wb ⟨vb_, rfl, hownb, hbb⟩
        rw [HP.out] at hownb
        obtain ⟨Ab, cb, rfl, _, _, rb⟩ := own_slice hownb
        have h2b := h2a.next hbb
        clear hownb HPS ra h2a hb0a
        go_wp2_with fail
        refine (same_true Ab A2 lb.length cb lb.length c2 lb wb rb h2b (by omega)).mono ?_
        rintro e wc ⟨rfl, hdc⟩
        have hbc := hdc.below hbb
        clear rb h2b hdc
        go_wp2_with fail
        go_meet
        exact ⟨rfl, hbc⟩
      · have q1 : (r == 0) = false := by simp [hrz]
        clear hrz HZ ra h2a
        go_wp2_with fail
        go_meet
        exact ⟨rfl, Below.refl _ _⟩
    case rest =>
      obtain ⟨rfl, hbc⟩ := hcut
      have hb0c := hb0a.trans (hbc.mono hb0a.size)
      have h1c := h1a.next hbc
      clear HZ ra h2a hbc hb0a h1a
      go_upto_region 12 with fail
      go_cut [17, 18] (fun s17 s18 wx => s18 = .int .i64 12 ∧ Below wc.heap.size wc wx)
      case first =>
        obtain ⟨N, hN⟩ : ∃ N, N = 65537 + q := ⟨_, rfl⟩
        have hadd : (65537 : Int) + (q : Int) = (N : Int) := by omega
        have hN2 : IntKind.i64.wrap (N : Int) = (N : Int) := IntWalk.i64_in _ (by omega)
        have hN3 : IntKind.i64.wrap (q : Int) = (q : Int) := IntWalk.i64_in _ (by omega)
        have hmk := fun W => run_make_u8n N (by omega) W
        have hcz := fun (W : World) (g : Nat) (h : W.heap[g]? = some (.cells (madeCells #[.int .u8 0] N) 5)) => conv_zero W g N h
        obtain ⟨Z, hZ⟩ : ∃ Z : ByteArray, Z = ⟨(tb (List.replicate N 0)).toArray⟩ := ⟨_, rfl⟩
        obtain ⟨M, hM⟩ : ∃ M : Obj, M = .cells (madeCells #[.int .u8 0] N) 5 := ⟨_, rfl⟩
        rw [← hM] at hmk hcz
        rw [← hZ] at hcz
        have HCZ := Lib.hid hcz
        have HLG : Hid (∃ s ∈ l ++ [tb (List.replicate N 0)], 65536 < s.length) := Lib.hid ⟨tb (List.replicate N 0), by simp, by simp [tb]; omega⟩
        have HZT : Hid (ts l ++ [.string Z] = ts (l ++ [tb (List.replicate N 0)])) := Lib.hid (by rw [hZ, ts_snoc'])
        have hone : ∀ u ∈ [Value.string Z], u.oneCell' = true := by intro u hu; simp at hu; rw [hu]; rfl
        have HONE := Lib.hid hone
        clear hcz hN hM hZ hone
        have bl0 : Below wc.heap.size wc wc := Below.refl _ _
        have q0 : (convert 23 9 (.slice (some ⟨wc.heap.size, 0, none⟩) N N)).run Tryd.prog (wc.alloc M).drew = .ok (.string Z) (wc.alloc M).drew := HCZ.out _ wc.heap.size (heap_alloc_new wc M)
        have b1 : Below wc.heap.size wc (wc.alloc (.cells #[] 9)).drew := Below.drew (Below.alloc bl0 (by first | (simp; done) | (simp; omega)) (.cells #[] 9))
        have o1 : (wc.alloc (.cells #[] 9)).ownsRow wc.heap.size 9 1 (.slice (some ⟨wc.heap.size, 0, none⟩) 0 0) 0 [] := by have h := (own_empty (base := wc.heap.size) wc (by first | (simp; done) | (simp; omega))); simpa using h
        have o1' : (wc.alloc (.cells #[] 9)).drew.ownsRow wc.heap.size 9 1 (.slice (some ⟨wc.heap.size, 0, none⟩) 0 0) 0 [] := o1
        have r1 : Reads (wc.alloc (.cells #[] 9)).drew wc.heap.size 1 A1 l.length (ts l) := h1c.below b1
        have s1 := b1.size
        have b2 : Below wc.heap.size wc ((wc.alloc (.cells #[] 9)).alloc M).drew := Below.drew (Below.alloc (Below.alloc bl0 (by first | (simp; done) | (simp; omega)) (.cells #[] 9)) (by first | (simp; done) | (simp; omega)) M)
        have o2 : ((wc.alloc (.cells #[] 9)).alloc M).ownsRow wc.heap.size 9 1 (.slice (some ⟨wc.heap.size, 0, none⟩) 0 0) 0 [] := by have h := ((own_empty (base := wc.heap.size) wc (by first | (simp; done) | (simp; omega))).alloc M); simpa using h
        have o2' : ((wc.alloc (.cells #[] 9)).alloc M).drew.ownsRow wc.heap.size 9 1 (.slice (some ⟨wc.heap.size, 0, none⟩) 0 0) 0 [] := o2
        have r2 : Reads ((wc.alloc (.cells #[] 9)).alloc M).drew wc.heap.size 1 A1 l.length (ts l) := h1c.below b2
        have s2 := b2.size
        have m2 : ((wc.alloc (.cells #[] 9)).alloc M).heap[wc.heap.size + 1]? = some M := by have h := (heap_alloc_new (wc.alloc (.cells #[] 9)) M); simpa using h
        have q2 : (convert 23 9 (.slice (some ⟨wc.heap.size + 1, 0, none⟩) N N)).run Tryd.prog ((wc.alloc (.cells #[] 9)).alloc M).drew = .ok (.string Z) ((wc.alloc (.cells #[] 9)).alloc M).drew := HCZ.out _ (wc.heap.size + 1) m2
        have b3 : Below wc.heap.size wc ((wc.alloc M).alloc (.cells #[] 9)).drew := Below.drew (Below.alloc (Below.alloc bl0 (by first | (simp; done) | (simp; omega)) M) (by first | (simp; done) | (simp; omega)) (.cells #[] 9))
        have o3 : ((wc.alloc M).alloc (.cells #[] 9)).ownsRow wc.heap.size 9 1 (.slice (some ⟨wc.heap.size + 1, 0, none⟩) 0 0) 0 [] := by have h := (own_empty (base := wc.heap.size) (wc.alloc M) (by first | (simp; done) | (simp; omega))); simpa using h
        have o3' : ((wc.alloc M).alloc (.cells #[] 9)).drew.ownsRow wc.heap.size 9 1 (.slice (some ⟨wc.heap.size + 1, 0, none⟩) 0 0) 0 [] := o3
        have r3 : Reads ((wc.alloc M).alloc (.cells #[] 9)).drew wc.heap.size 1 A1 l.length (ts l) := h1c.below b3
        have s3 := b3.size
        have m3 : ((wc.alloc M).alloc (.cells #[] 9)).heap[wc.heap.size]? = some M := by have h := ((Below.heap_alloc (wc.alloc M) (.cells #[] 9) _ (by first | (simp; done) | (simp; omega))).trans (heap_alloc_new wc M)); simpa using h
        have q3 : (convert 23 9 (.slice (some ⟨wc.heap.size, 0, none⟩) N N)).run Tryd.prog ((wc.alloc M).alloc (.cells #[] 9)).drew = .ok (.string Z) ((wc.alloc M).alloc (.cells #[] 9)).drew := HCZ.out _ (wc.heap.size) m3
        have b5 : Below wc.heap.size wc (((wc.alloc (.cells #[] 9)).alloc M).alloc (.cells #[.string Z] 9)).drew := Below.drew (Below.alloc (Below.alloc (Below.alloc bl0 (by first | (simp; done) | (simp; omega)) (.cells #[] 9)) (by first | (simp; done) | (simp; omega)) M) (by first | (simp; done) | (simp; omega)) (.cells #[.string Z] 9))
        have o5 : (((wc.alloc (.cells #[] 9)).alloc M).alloc (.cells #[.string Z] 9)).ownsRow wc.heap.size 9 1 (.slice (some ⟨wc.heap.size, 0, none⟩) 0 0) 0 [] := by have h := (((own_empty (base := wc.heap.size) wc (by first | (simp; done) | (simp; omega))).alloc M).alloc (.cells #[.string Z] 9)); simpa using h
        have o5' : (((wc.alloc (.cells #[] 9)).alloc M).alloc (.cells #[.string Z] 9)).drew.ownsRow wc.heap.size 9 1 (.slice (some ⟨wc.heap.size, 0, none⟩) 0 0) 0 [] := o5
        have r5 : Reads (((wc.alloc (.cells #[] 9)).alloc M).alloc (.cells #[.string Z] 9)).drew wc.heap.size 1 A1 l.length (ts l) := h1c.below b5
        have s5 := b5.size
        have c5 : (((wc.alloc (.cells #[] 9)).alloc M).alloc (.cells #[.string Z] 9)).cell? ⟨wc.heap.size + 2, 0, none⟩ = some (.string Z) := by have h := cell_laid ((wc.alloc (.cells #[] 9)).alloc M) (.string Z) 9; rw [show ((wc.alloc (.cells #[] 9)).alloc M).heap.size = wc.heap.size + 2 by simp] at h; exact h
        have b6 : Below wc.heap.size wc (((wc.alloc M).alloc (.cells #[] 9)).alloc (.cells #[.string Z] 9)).drew := Below.drew (Below.alloc (Below.alloc (Below.alloc bl0 (by first | (simp; done) | (simp; omega)) M) (by first | (simp; done) | (simp; omega)) (.cells #[] 9)) (by first | (simp; done) | (simp; omega)) (.cells #[.string Z] 9))
        have o6 : (((wc.alloc M).alloc (.cells #[] 9)).alloc (.cells #[.string Z] 9)).ownsRow wc.heap.size 9 1 (.slice (some ⟨wc.heap.size + 1, 0, none⟩) 0 0) 0 [] := by have h := ((own_empty (base := wc.heap.size) (wc.alloc M) (by first | (simp; done) | (simp; omega))).alloc (.cells #[.string Z] 9)); simpa using h
        have o6' : (((wc.alloc M).alloc (.cells #[] 9)).alloc (.cells #[.string Z] 9)).drew.ownsRow wc.heap.size 9 1 (.slice (some ⟨wc.heap.size + 1, 0, none⟩) 0 0) 0 [] := o6
        have r6 : Reads (((wc.alloc M).alloc (.cells #[] 9)).alloc (.cells #[.string Z] 9)).drew wc.heap.size 1 A1 l.length (ts l) := h1c.below b6
        have s6 := b6.size
        have c6 : (((wc.alloc M).alloc (.cells #[] 9)).alloc (.cells #[.string Z] 9)).cell? ⟨wc.heap.size + 2, 0, none⟩ = some (.string Z) := by have h := cell_laid ((wc.alloc M).alloc (.cells #[] 9)) (.string Z) 9; rw [show ((wc.alloc M).alloc (.cells #[] 9)).heap.size = wc.heap.size + 2 by simp] at h; exact h
        have b7 : Below wc.heap.size wc (((wc.alloc M).alloc (.cells #[.string Z] 9)).alloc (.cells #[] 9)).drew := Below.drew (Below.alloc (Below.alloc (Below.alloc bl0 (by first | (simp; done) | (simp; omega)) M) (by first | (simp; done) | (simp; omega)) (.cells #[.string Z] 9)) (by first | (simp; done) | (simp; omega)) (.cells #[] 9))
        have o7 : (((wc.alloc M).alloc (.cells #[.string Z] 9)).alloc (.cells #[] 9)).ownsRow wc.heap.size 9 1 (.slice (some ⟨wc.heap.size + 2, 0, none⟩) 0 0) 0 [] := by have h := (own_empty (base := wc.heap.size) ((wc.alloc M).alloc (.cells #[.string Z] 9)) (by first | (simp; done) | (simp; omega))); simpa using h
        have o7' : (((wc.alloc M).alloc (.cells #[.string Z] 9)).alloc (.cells #[] 9)).drew.ownsRow wc.heap.size 9 1 (.slice (some ⟨wc.heap.size + 2, 0, none⟩) 0 0) 0 [] := o7
        have r7 : Reads (((wc.alloc M).alloc (.cells #[.string Z] 9)).alloc (.cells #[] 9)).drew wc.heap.size 1 A1 l.length (ts l) := h1c.below b7
        have s7 := b7.size
        have c7 : (((wc.alloc M).alloc (.cells #[.string Z] 9)).alloc (.cells #[] 9)).cell? ⟨wc.heap.size + 1, 0, none⟩ = some (.string Z) := by have h := cell_laid (wc.alloc M) (.string Z) 9; rw [show (wc.alloc M).heap.size = wc.heap.size + 1 by simp] at h; exact (World.cell?_alloc_lt _ _ _ (by first | (simp; done) | (simp; omega))).trans h
        go_region_law (first
         | (refine step_append_any _ rfl (.tmp 77) (.tmp 78) _ rfl wc.heap.size 9 i1 _ 1 16 Tryd.underlying34 hi1 hy0 hy1 hy2 rfl (by omega) (.slice (some ⟨wc.heap.size, 0, none⟩) 0 0) 0 [] (by simp [Act.eval, Act.put]) (by with_reducible exact o1') wc.heap.size A1 l.length c1 (ts l) (by simp [Act.eval, Act.put]) (by with_reducible exact r1) (ts_one _) (by unfold maxLen; omega) (by omega) s1 ?_
            intro v2 w2 hown2 hg2 hat2
            rw [Nat.zero_add, List.nil_append] at hown2
            have hb2 : Below wc.heap.size wc w2 := b1.grown hg2 s1 (fun j hj => by simp [Value.ownBlock] at hj; omega)
            have hs2 := hb2.size
            have q8 : (convert 23 9 (.slice (some ⟨w2.heap.size, 0, none⟩) N N)).run Tryd.prog (w2.alloc M) = .ok (.string Z) (w2.alloc M) := HCZ.out _ w2.heap.size (heap_alloc_new w2 M)
            have hoY : ((w2.alloc M).alloc (.cells #[.string Z] 9)).ownsRow wc.heap.size 9 1 v2 l.length (ts l) := (hown2.alloc M).alloc (.cells #[.string Z] 9)
            have hrY : Reads ((w2.alloc M).alloc (.cells #[.string Z] 9)) (w2.heap.size + 2) 1 (some ⟨w2.heap.size + 1, 0, none⟩) 1 [.string Z] := by have h := Reads.new (w2.alloc M) (.string Z) 9; simpa using h
            have hbY : Below wc.heap.size wc ((w2.alloc M).alloc (.cells #[.string Z] 9)) := Below.alloc (Below.alloc hb2 hs2 M) (by simp; omega) (.cells #[.string Z] 9)
            have hsY := hbY.size)
         | (refine step_append_any _ rfl (.tmp 77) (.tmp 78) _ rfl wc.heap.size 9 i1 _ 1 16 Tryd.underlying34 hi1 hy0 hy1 hy2 rfl (by omega) (.slice (some ⟨wc.heap.size, 0, none⟩) 0 0) 0 [] (by simp [Act.eval, Act.put]) (by with_reducible exact o2') wc.heap.size A1 l.length c1 (ts l) (by simp [Act.eval, Act.put]) (by with_reducible exact r2) (ts_one _) (by unfold maxLen; omega) (by omega) s2 ?_
            intro v2 w2 hown2 hg2 hat2
            rw [Nat.zero_add, List.nil_append] at hown2
            have hb2 : Below wc.heap.size wc w2 := b2.grown hg2 s2 (fun j hj => by simp [Value.ownBlock] at hj; omega)
            have hs2 := hb2.size
            have q8 : (convert 23 9 (.slice (some ⟨wc.heap.size + 1, 0, none⟩) N N)).run Tryd.prog w2 = .ok (.string Z) w2 := HCZ.out w2 (wc.heap.size + 1) (heap_keep (show ((wc.alloc (.cells #[] 9)).alloc M).drew.heap[wc.heap.size + 1]? = some M from m2) hg2 (by simp [Value.ownBlock]))
            have hoY : (w2.alloc (.cells #[.string Z] 9)).ownsRow wc.heap.size 9 1 v2 l.length (ts l) := hown2.alloc (.cells #[.string Z] 9)
            have hrY : Reads (w2.alloc (.cells #[.string Z] 9)) (w2.heap.size + 1) 1 (some ⟨w2.heap.size, 0, none⟩) 1 [.string Z] := Reads.new w2 (.string Z) 9
            have hbY : Below wc.heap.size wc (w2.alloc (.cells #[.string Z] 9)) := Below.alloc hb2 hs2 (.cells #[.string Z] 9)
            have hsY := hbY.size)
         | (refine step_append_any _ rfl (.tmp 77) (.tmp 78) _ rfl wc.heap.size 9 i1 _ 1 16 Tryd.underlying34 hi1 hy0 hy1 hy2 rfl (by omega) (.slice (some ⟨wc.heap.size + 1, 0, none⟩) 0 0) 0 [] (by simp [Act.eval, Act.put]) (by with_reducible exact o3') wc.heap.size A1 l.length c1 (ts l) (by simp [Act.eval, Act.put]) (by with_reducible exact r3) (ts_one _) (by unfold maxLen; omega) (by omega) s3 ?_
            intro v2 w2 hown2 hg2 hat2
            rw [Nat.zero_add, List.nil_append] at hown2
            have hb2 : Below wc.heap.size wc w2 := b3.grown hg2 s3 (fun j hj => by simp [Value.ownBlock] at hj; omega)
            have hs2 := hb2.size
            have q8 : (convert 23 9 (.slice (some ⟨wc.heap.size, 0, none⟩) N N)).run Tryd.prog w2 = .ok (.string Z) w2 := HCZ.out w2 (wc.heap.size) (heap_keep (show ((wc.alloc M).alloc (.cells #[] 9)).drew.heap[wc.heap.size]? = some M from m3) hg2 (by simp [Value.ownBlock]))
            have hoY : (w2.alloc (.cells #[.string Z] 9)).ownsRow wc.heap.size 9 1 v2 l.length (ts l) := hown2.alloc (.cells #[.string Z] 9)
            have hrY : Reads (w2.alloc (.cells #[.string Z] 9)) (w2.heap.size + 1) 1 (some ⟨w2.heap.size, 0, none⟩) 1 [.string Z] := Reads.new w2 (.string Z) 9
            have hbY : Below wc.heap.size wc (w2.alloc (.cells #[.string Z] 9)) := Below.alloc hb2 hs2 (.cells #[.string Z] 9)
            have hsY := hbY.size)
         | (refine step_append_any _ rfl (.tmp 77) (.tmp 78) _ rfl wc.heap.size 9 i1 _ 1 16 Tryd.underlying34 hi1 hy0 hy1 hy2 rfl (by omega) (.slice (some ⟨wc.heap.size, 0, none⟩) 0 0) 0 [] (by simp [Act.eval, Act.put]) (by with_reducible exact o5') wc.heap.size A1 l.length c1 (ts l) (by simp [Act.eval, Act.put]) (by with_reducible exact r5) (ts_one _) (by unfold maxLen; omega) (by omega) s5 ?_
            intro v2 w2 hown2 hg2 hat2
            rw [Nat.zero_add, List.nil_append] at hown2
            have hb2 : Below wc.heap.size wc w2 := b5.grown hg2 s5 (fun j hj => by simp [Value.ownBlock] at hj; omega)
            have hs2 := hb2.size
            have hoY : w2.ownsRow wc.heap.size 9 1 v2 l.length (ts l) := hown2
            have hrY : Reads w2 (wc.heap.size + 2 + 1) 1 (some ⟨wc.heap.size + 2, 0, none⟩) 1 [.string Z] := reads_one (hg2.cell (show (((wc.alloc (.cells #[] 9)).alloc M).alloc (.cells #[.string Z] 9)).drew.cell? ⟨wc.heap.size + 2, 0, none⟩ = some (.string Z) from c5) (by simp [Value.ownBlock]))
            have hbY : Below wc.heap.size wc w2 := hb2
            have hsY := hbY.size)
         | (refine step_append_any _ rfl (.tmp 77) (.tmp 78) _ rfl wc.heap.size 9 i1 _ 1 16 Tryd.underlying34 hi1 hy0 hy1 hy2 rfl (by omega) (.slice (some ⟨wc.heap.size + 1, 0, none⟩) 0 0) 0 [] (by simp [Act.eval, Act.put]) (by with_reducible exact o6') wc.heap.size A1 l.length c1 (ts l) (by simp [Act.eval, Act.put]) (by with_reducible exact r6) (ts_one _) (by unfold maxLen; omega) (by omega) s6 ?_
            intro v2 w2 hown2 hg2 hat2
            rw [Nat.zero_add, List.nil_append] at hown2
            have hb2 : Below wc.heap.size wc w2 := b6.grown hg2 s6 (fun j hj => by simp [Value.ownBlock] at hj; omega)
            have hs2 := hb2.size
            have hoY : w2.ownsRow wc.heap.size 9 1 v2 l.length (ts l) := hown2
            have hrY : Reads w2 (wc.heap.size + 2 + 1) 1 (some ⟨wc.heap.size + 2, 0, none⟩) 1 [.string Z] := reads_one (hg2.cell (show (((wc.alloc M).alloc (.cells #[] 9)).alloc (.cells #[.string Z] 9)).drew.cell? ⟨wc.heap.size + 2, 0, none⟩ = some (.string Z) from c6) (by simp [Value.ownBlock]))
            have hbY : Below wc.heap.size wc w2 := hb2
            have hsY := hbY.size)
         | (refine step_append_any _ rfl (.tmp 77) (.tmp 78) _ rfl wc.heap.size 9 i1 _ 1 16 Tryd.underlying34 hi1 hy0 hy1 hy2 rfl (by omega) (.slice (some ⟨wc.heap.size + 2, 0, none⟩) 0 0) 0 [] (by simp [Act.eval, Act.put]) (by with_reducible exact o7') wc.heap.size A1 l.length c1 (ts l) (by simp [Act.eval, Act.put]) (by with_reducible exact r7) (ts_one _) (by unfold maxLen; omega) (by omega) s7 ?_
            intro v2 w2 hown2 hg2 hat2
            rw [Nat.zero_add, List.nil_append] at hown2
            have hb2 : Below wc.heap.size wc w2 := b7.grown hg2 s7 (fun j hj => by simp [Value.ownBlock] at hj; omega)
            have hs2 := hb2.size
            have hoY : w2.ownsRow wc.heap.size 9 1 v2 l.length (ts l) := hown2
            have hrY : Reads w2 (wc.heap.size + 1 + 1) 1 (some ⟨wc.heap.size + 1, 0, none⟩) 1 [.string Z] := reads_one (hg2.cell (show (((wc.alloc M).alloc (.cells #[.string Z] 9)).alloc (.cells #[] 9)).drew.cell? ⟨wc.heap.size + 1, 0, none⟩ = some (.string Z) from c7) (by simp [Value.ownBlock]))
            have hbY : Below wc.heap.size wc w2 := hb2
            have hsY := hbY.size)
         | (refine step_append_any _ rfl (.tmp 79) (.tmp 85) _ rfl wc.heap.size 9 i1 _ 1 16 Tryd.underlying34 hi1 hy0 hy1 hy2 rfl (by omega) v2 l.length (ts l) (by simp [Act.eval, Act.put]) (by with_reducible exact hoY) _ (some ⟨w2.heap.size + 1, 0, none⟩) 1 1 [.string Z] (by simp [Act.eval, Act.put]) (by with_reducible exact hrY) HONE.out (by unfold maxLen; omega) (by omega) hsY ?_
            intro v6 w6 hown6 hg6 hat6
            have hb6 := hbY.grown hg6 hsY (fun j hj => (hoY.lt j hj).1)
            rw [HZT.out] at hown6
            obtain ⟨A6, c6, rfl, _, _, r6⟩ := own_slice hown6)
         | (refine step_append_any _ rfl (.tmp 79) (.tmp 85) _ rfl wc.heap.size 9 i1 _ 1 16 Tryd.underlying34 hi1 hy0 hy1 hy2 rfl (by omega) v2 l.length (ts l) (by simp [Act.eval, Act.put]) (by with_reducible exact hoY) _ (some ⟨w2.heap.size, 0, none⟩) 1 1 [.string Z] (by simp [Act.eval, Act.put]) (by with_reducible exact hrY) HONE.out (by unfold maxLen; omega) (by omega) hsY ?_
            intro v6 w6 hown6 hg6 hat6
            have hb6 := hbY.grown hg6 hsY (fun j hj => (hoY.lt j hj).1)
            rw [HZT.out] at hown6
            obtain ⟨A6, c6, rfl, _, _, r6⟩ := own_slice hown6)
         | (refine step_append_any _ rfl (.tmp 79) (.tmp 85) _ rfl wc.heap.size 9 i1 _ 1 16 Tryd.underlying34 hi1 hy0 hy1 hy2 rfl (by omega) v2 l.length (ts l) (by simp [Act.eval, Act.put]) (by with_reducible exact hoY) _ (some ⟨wc.heap.size + 2, 0, none⟩) 1 1 [.string Z] (by simp [Act.eval, Act.put]) (by with_reducible exact hrY) HONE.out (by unfold maxLen; omega) (by omega) hsY ?_
            intro v6 w6 hown6 hg6 hat6
            have hb6 := hbY.grown hg6 hsY (fun j hj => (hoY.lt j hj).1)
            rw [HZT.out] at hown6
            obtain ⟨A6, c6, rfl, _, _, r6⟩ := own_slice hown6)
         | (refine step_append_any _ rfl (.tmp 79) (.tmp 85) _ rfl wc.heap.size 9 i1 _ 1 16 Tryd.underlying34 hi1 hy0 hy1 hy2 rfl (by omega) v2 l.length (ts l) (by simp [Act.eval, Act.put]) (by with_reducible exact hoY) _ (some ⟨wc.heap.size + 1, 0, none⟩) 1 1 [.string Z] (by simp [Act.eval, Act.put]) (by with_reducible exact hrY) HONE.out (by unfold maxLen; omega) (by omega) hsY ?_
            intro v6 w6 hown6 hg6 hat6
            have hb6 := hbY.grown hg6 hsY (fun j hj => (hoY.lt j hj).1)
            rw [HZT.out] at hown6
            obtain ⟨A6, c6, rfl, _, _, r6⟩ := own_slice hown6)
         | (go_simp; go_at_call 13; refine (txPut_long A6 (l.length + 1) c6 _ w6 r6 (by omega) HLG.out).mono ?_
            intro e7 w7 hN7
            obtain ⟨v7, rfl, _, hb7⟩ := hN7
            show _))
        all_goals
          go_wp2_with fail
          go_meet
          exact ⟨rfl, hb6.trans (hb7.mono hb6.size)⟩
      case rest =>
        obtain ⟨rfl, hbx⟩ := hcut
        have hb0x := hb0c.trans (hbx.mono hb0c.size)
        clear h1c hbx hb0c
        go_wp2_with fail
        refine (awakeT_any _).mono ?_
        rintro e wd ⟨rfl, hbd⟩
        go_wp2_with fail
        go_ret
        exact ⟨rfl, hb0x.trans (hbd.mono hb0x.size)⟩
theorem backT_any (A1 A2 : Option Addr) (n1 c1 n2 c2 : Nat) (k : Int) (q : Nat) (l : List Tx) (lb : List Nat) (w : World) (h1 : Reads w w.heap.size 1 A1 n1 (ts l)) (h2 : Reads w w.heap.size 1 A2 n2 (bs lb)) (hlb : ∀ x ∈ lb, x < 256) (hqq : q ≤ 255) (hmet : Met w) :
    Calls Tryd.prog 4 #[.slice A1 n1 c1, .slice A2 n2 c2, .int .i64 k, .int .u8 (q : Int)] w fun e w' => e = .returned (.bool true) ∧ Below w.heap.size w w' := by
  by_cases h : grB l 100 100 = true ∨ 800 < n2 ∨ 500 < k ∧ k ≤ 65536
  · exact backT_else A1 A2 n1 c1 n2 c2 k q l w h1 h
  · obtain rfl : n1 = l.length := by have := h1.1; rw [ts_length] at this; omega
    have hg : grB l 100 100 = false := by
      cases hg : grB l 100 100 with
      | true => exact absurd (.inl hg) h
      | false => rfl
    exact backT_main A1 A2 c1 n2 c2 k q l lb w h1 h2 hlb hqq hg (fun h2 => h (.inr (.inl h2))) (by
      by_cases h3 : 500 < k
      · exact .inr fun h4 => h (.inr (.inr ⟨h3, h4⟩))
      · exact .inl h3) hmet
end Go.Proofs.YtppeagjklndidaaDoor
