import Derived.Test.YtpgdlmnhomnblaaGreatDoorJ26
import Derived.Deep.RegionLaw
namespace Go.Proofs.YtpgdlmnhomnblaaGreatDoor
open Go.RowKit
set_option linter.unusedVariables false
set_option linter.unusedSimpArgs false
set_option maxRecDepth 100000
def Else (w w' : World) (g : Nat) (r : Option Nat) : Prop := w.heap.size ≤ w'.heap.size ∧ ∀ k, k < w.heap.size → k ≠ g → some k ≠ r → w'.heap[k]? = w.heap[k]?
theorem Else.refl (w : World) (g : Nat) (r : Option Nat) : Else w w g r := ⟨Nat.le_refl _, fun _ _ _ _ => rfl⟩
theorem Else.obj {w w' w2 : World} {g : Nat} {r : Option Nat} (h : Else w w' g r) (hg : w'.grownBy w2 (some g)) : Else w w2 g r :=
  ⟨Nat.le_trans h.1 hg.size, fun k hk h1 h2 => (hg.block k (Nat.lt_of_lt_of_le hk h.1) (fun e => h1 (by injection e))).trans (h.2 k hk h1 h2)⟩
theorem Else.row {w w' w2 : World} {g : Nat} {r r' : Option Nat} (h : Else w w' g r) (hg : w'.grownBy w2 r') (hr : r' = r ∨ ∀ b, r' = some b → w.heap.size ≤ b) : Else w w2 g r :=
  ⟨Nat.le_trans h.1 hg.size, fun k hk h1 h2 => (hg.block k (Nat.lt_of_lt_of_le hk h.1) (fun e => by
    rcases hr with hr | hr
    · exact h2 (e.trans hr)
    · have := hr k e.symm; omega)).trans (h.2 k hk h1 h2)⟩
def MidS (w wr : World) (B g : Nat) (o : Value) (N : Nat) (M : List Nat) (gk : Nat) (v : Value) (r : Option Nat) : Prop :=
  ∃ (Lq q : List Nat) (A : Option Addr) (c : Nat), v = .slice A q.length c ∧ M = Lq ++ q ∧ Lq.length % 64 = 0 ∧ q.length / 64 = gk ∧ q.length ≤ c ∧ Pt wr g o A q.length q ∧ Wk wr B g o Lq N ∧ Below B w wr ∧ (Else w wr g r ∧ (o.ownBlock = r ∨ ∀ b, o.ownBlock = some b → w.heap.size ≤ b)) ∧ ∀ b ∈ q, b < 256
def AddTo (w : World) (B g : Nat) (o : Value) (M : List Nat) (N : Nat) (e : Ending) (w' : World) : Prop := e = .returned (.tuple #[]) ∧ ∃ o', Wk w' B g o' M N ∧ Below B w w' ∧ Else w w' g o.ownBlock
theorem ownS_cut (A : Option Addr) (n m c : Nat) : (Value.slice A n c).ownBlock = (Value.slice A m c).ownBlock := by cases A <;> rfl
theorem Wk.laid {w w3 : World} {B g : Nat} {o o3 : Value} {L p : List Nat} {N : Nat} (h : Wk w B g o L N) (hs : st8 (L ++ p) = st8 L) (ho : opn (L ++ p) = opn L ++ p) (hl : L.length % 64 + p.length = (L ++ p).length % 64) (hp : ∀ b ∈ p, b < 256)
    (hown : w3.ownsRow B 5 1 o3 (L.length % 64 + p.length) (bs (opn L) ++ bs p)) (hg : w.grownBy w3 o.ownBlock) (hat : o3.ownBlock = o.ownBlock ∨ o3.ownBlock = some w.heap.size) :
    Wk (w3.setCell ⟨g, 8, none⟩ o3) B g o3 (L ++ p) N := by
  have hfar : o3.ownBlock ≠ some g := by
    rcases hat with h1 | h1
    · rw [h1]; exact h.far
    · rw [h1]; intro e; injection e with e; have := h.lt; omega
  refine ⟨?_, ?_, hfar, h.base, ?_⟩
  · have hB := (h.blk.grown hg (fun e => h.far e.symm)).set_ 8 o3
    rw [workL_setOpen _ (list_length _)] at hB
    rw [hs]
    exact hB
  · rw [ho, bs_append, ← hl]
    refine hown.kept (row := some g) (only_setCell (World.grownBy.refl w3 _) (.inl rfl) _) (.inr hfar)
  · intro b hb
    rcases List.mem_append.1 hb with hb | hb
    · exact h.byte b hb
    · exact hp b hb
theorem opn_nil {L : List Nat} (h : L.length % 64 = 0) : opn L = [] := List.eq_nil_of_length_eq_zero (by rw [opn_length]; exact h)
theorem wk_block {w w2 : World} {B g : Nat} {o : Value} {L p : List Nat} {N : Nat} (h : Wk w B g o L N) (h0 : L.length % 64 = 0) (hl : p.length = 64) (hp : ∀ b ∈ p, b < 256)
    (hB : Blk w2 g 133 (workL (blk (st8 L) p).list o N)) (hg : w.grownBy w2 (some g)) : Wk w2 B g o (L ++ p) N := by
  obtain ⟨e1, e2⟩ := opn_full L p (by omega)
  rw [opn_nil h0, List.nil_append] at e1
  refine ⟨by rw [e1]; exact hB, ?_, h.far, h.base, ?_⟩
  · have ho := h.own
    rw [opn_nil h0] at ho
    rw [e2, show (L ++ p).length % 64 = L.length % 64 by rw [List.length_append]; omega]
    exact ho.kept hg (.inr h.far)
  · intro b hb
    rcases List.mem_append.1 hb with hb | hb
    · exact h.byte b hb
    · exact hp b hb
set_option maxHeartbeats 4000000 in
theorem add_tail (B g : Nat) (o : Value) (L p : List Nat) (A : Option Addr) (c N : Nat) (w : World) (hk : Wk w B g o L N) (h0 : L.length % 64 = 0) (hp : Pt w g o A p.length p) (hpl : ∀ b ∈ p, b < 256) (hc : p.length ≤ c) (hN : N + p.length ≤ 140737488355328) (hL : L.length + p.length ≤ 140737488355328)
    (ht : ShTab w) (htB : 0 < B) :
    Calls Tryz.prog 49 #[.pointer (some ⟨g, 0, none⟩), .slice A p.length c] w (AddTo w B g o (L ++ p) (N + p.length)) := by
  obtain ⟨i0, hi0, hz0, hz1, hz2⟩ := info_parts info_u8
  obtain ⟨n, hn⟩ : ∃ n, p.length = n := ⟨_, rfl⟩
  rw [hn] at hc hN hL hp ⊢
  obtain ⟨Ao, co, hoe, hr0, _, _⟩ := own_slice hk.own
  subst hoe
  have h9 := hk.blk.cell 9
  rw [workL_size (list_length _)] at h9
  have h8 := hk.blk.cell 8
  rw [workL_open (list_length _)] at h8
  have f9 := hk.blk.frozen 9
  rw [h0] at h8
  have HN := Lib.hid hn; have HK := Lib.hid hk; have HP := Lib.hid hp; have HPL := Lib.hid hpl; have HT := Lib.hid ht; have H0 := Lib.hid h0
  have hadd : (N : Int) + (n : Int) = ((N + n : Nat) : Int) := by omega
  have hk1 : Wk (w.setCell ⟨g, 9, none⟩ (.int .u64 ((N + n : Nat) : Int))) B g (.slice Ao (L.length % 64) co) L (N + n) := by
    refine ⟨?_, ?_, hk.far, hk.base, hk.byte⟩
    · have := hk.blk.set_ 9 (.int .u64 ((N + n : Nat) : Int))
      rwa [workL_setSize _ (list_length _)] at this
    · exact hk.own.kept (row := some g) (only_setCell (World.grownBy.refl w _) (.inl rfl) _) (.inr hk.far)
  have hp1 : Pt (w.setCell ⟨g, 9, none⟩ (.int .u64 ((N + n : Nat) : Int))) g (.slice Ao (L.length % 64) co) A n p := hp.grown (only_setCell (World.grownBy.refl w _) (.inl rfl) _)
  have hb1 : Below B w (w.setCell ⟨g, 9, none⟩ (.int .u64 ((N + n : Nat) : Int))) := (Below.refl _ _).setCell hk.base _
  have hc8 := hk1.blk.cell 8
  rw [workL_open (list_length _), h0] at hc8
  have HEL1 := Lib.hid ((Else.refl w g (Value.slice Ao (L.length % 64) co).ownBlock).obj (only_setCell (World.grownBy.refl w (some g)) (p := ⟨g, 9, none⟩) (.inl rfl) (.int .u64 ((N + n : Nat) : Int))))
  have HK1 := Lib.hid hk1; have HP1 := Lib.hid hp1; have HB1 := Lib.hid hb1
  have hdiv : n < 140737488355329 := by omega
  clear hn hk hp hpl ht h0 hk1 hp1 hb1 hr0
  obtain ⟨N2, hN2⟩ : ∃ N2 : Nat, N + n = N2 := ⟨_, rfl⟩
  rw [hN2] at hadd HK1 HP1 HB1 HEL1 hc8 ⊢
  have HN2 := Lib.hid hN2; clear hN2
  obtain ⟨w1, hw1⟩ : ∃ w1 : World, w1 = w.setCell ⟨g, 9, none⟩ (.int .u64 (N2 : Int)) := ⟨_, rfl⟩
  rw [← hw1] at HK1 HP1 HB1 HEL1 hc8
  have hw1' := hw1.symm
  clear hw1
  go_enter Tryz.func49, Tryz.ntmps49
  go_wp2_with fail
  have HMID := Lib.hid (show MidS w w1 B g (.slice Ao 0 co) N2 (L ++ p) (n / 64) (.slice A n c) (Value.slice Ao (L.length % 64) co).ownBlock from
    ⟨L, p, A, c, by rw [HN.out], rfl, H0.out, by rw [HN.out], by rw [HN.out]; exact hc, by rw [HN.out]; have := HP1.out; rw [H0.out] at this; exact this, by have := HK1.out; rw [H0.out] at this; exact this, HB1.out, ⟨HEL1.out, .inl (ownS_cut _ _ _ _)⟩, HPL.out⟩)
  have HMl := Lib.hid (show (L ++ p).length ≤ 140737488355328 by rw [List.length_append, HN.out]; omega)
  clear hc8 h8 h9 f9 hw1' HK1 HP1 HB1 HEL1 hadd
  go_loopg [1] (n / 64) (fun gk s1 wr => Hid (MidS w wr B g (.slice Ao 0 co) N2 (L ++ p) gk s1 (Value.slice Ao (L.length % 64) co).ownBlock))
  case atStart => exact HMID
  case round =>
    clear HMID
    obtain ⟨Lq, q, A2, c2, rfl, hM, hq0, hqg, hqc, hpt, hwk, hb, ⟨hel, hro⟩, hqb⟩ := hrel.out
    clear hrel
    have hh8 := hwk.blk.cell 8
    rw [workL_open (list_length _)] at hh8
    have hBs : B ≤ wr.heap.size := Nat.le_trans hwk.base (Nat.le_of_lt hwk.lt)
    have hq47 : q.length ≤ 140737488355328 := by have h1 := congrArg List.length hM; have h2 := HMl.out; simp only [List.length_append] at h1 h2; omega
    cases gk with
    | zero =>
      have hq : (q.length : Int) < 64 := by omega
      have hq2 : q.length < 64 := by omega
      have HO := Lib.hid (show wr.ownsRow B 5 1 (.slice Ao 0 co) 0 [] by
        have := hwk.own
        rw [opn_nil hq0, hq0] at this
        exact this)
      have HR := Lib.hid hpt.1
      have HWK := Lib.hid hwk
      have HBL := Lib.hid hb
      have HEL := Lib.hid (And.intro hel hro)
      clear hel hro
      have HM2 := Lib.hid hM
      clear hwk hpt hb hM
      go_wp2_with (at_builtin
                   refine wpList_append_any _ rfl (.tmp 77) (.tmp 78) _ rfl B 5 i0 _ 1 1 Tryz.underlying66 hi0 hz0 hz1 hz2 rfl (by omega) (.slice Ao 0 co) 0 [] rfl
                     HO.out wr.heap.size A2 q.length c2 (bs q) rfl HR.out (bs_one _) (by unfold maxLen; omega) (by omega) hBs ?_
                   intro v3 w3 hown3 hg3 hat3
                   simp only [Nat.zero_add, List.nil_append] at hown3
                   obtain ⟨A3, c3, rfl, _⟩ := own_slice hown3
                   have hB3 := HWK.out.blk.grown hg3 (fun e => HWK.out.far e.symm)
                   have hk8 := hB3.cell 8
                   rw [workL_open (list_length _)] at hk8
                   have hf8 := hB3.frozen 8)
      go_end0
      obtain ⟨e1, e2⟩ := opn_more Lq q (by omega)
      have hlaid := HWK.out.laid e1 e2 (by rw [List.length_append]; omega) hqb (by rw [opn_nil hq0, hq0, Nat.zero_add]; exact hown3) hg3 hat3
      rw [← HM2.out] at hlaid
      exact ⟨rfl, .slice A3 q.length c3, by exact hlaid, ((HBL.out.grown hg3 hBs (fun k hk => (HO.out.lt k hk).1)).setCell HWK.out.base _), (HEL.out.1.row hg3 HEL.out.2).obj (only_setCell (World.grownBy.refl w3 (some g)) (.inl rfl) _)⟩
    | succ gk =>
      have hq64 : 64 ≤ q.length := by omega
      have hq : (64 : Int) ≤ (q.length : Int) := by omega
      have hqci : (64 : Int) ≤ (c2 : Int) := by omega
      have hcall := block_any g (st8 Lq) (.slice Ao 0 co) N2 A2 64 (q.take 64) wr hwk.blk hwk.ok (hpt.fore hq64).1 (fun b hb => hqb b (List.mem_of_mem_take hb)) (Nat.le_refl _) (HT.out.below hb htB) (by have := hwk.base; omega)
      have HC := Lib.hid hcall
      have HCUT := Lib.hid (fun w2 (hg : wr.grownBy w2 (some g)) => (hpt.cut (k := 64) hq64 hqc).grown hg)
      have HWK := Lib.hid hwk
      have HBL := Lib.hid hb
      have HEL := Lib.hid (And.intro hel hro)
      clear hel hro
      have HM2 := Lib.hid hM
      clear hcall hwk hpt hb hM
      by_cases hc64 : c2 = 64
      · subst hc64
        go_wp2_with fail
        refine HC.out.mono ?_
        rintro _ w2 ⟨rfl, hB2, hg2⟩
        go_wp2_with fail
        have hcut := HCUT.out w2 hg2
        simp only [if_true] at hcut
        go_roundg gk
        case measure => omega
        case rel =>
          refine Lib.hid ⟨Lq ++ q.take 64, q.drop 64, A2, 0, by rw [List.length_drop, show q.length - 64 = 0 by omega], by rw [HM2.out, List.append_assoc, List.take_append_drop], by rw [List.length_append, List.length_take]; omega, by rw [List.length_drop]; omega, by rw [List.length_drop]; omega, by rw [List.length_drop]; exact hcut, wk_block HWK.out hq0 (by rw [List.length_take]; omega) (fun b hb => hqb b (List.mem_of_mem_take hb)) hB2 hg2, HBL.out.grown hg2 hBs (fun k hk => by injection hk with hk; subst hk; exact HWK.out.base), ⟨HEL.out.1.obj hg2, HEL.out.2⟩, fun b hb => hqb b (List.mem_of_mem_drop hb)⟩
      · go_wp2_with fail
        refine HC.out.mono ?_
        rintro _ w2 ⟨rfl, hB2, hg2⟩
        go_wp2_with fail
        have hcut := HCUT.out w2 hg2
        rw [if_neg hc64] at hcut
        go_roundg gk
        case measure => omega
        case rel =>
          refine Lib.hid ⟨Lq ++ q.take 64, q.drop 64, A2.map (·.add 64), c2 - 64, by rw [List.length_drop]; first | rfl | simp [Addr.add], by rw [HM2.out, List.append_assoc, List.take_append_drop], by rw [List.length_append, List.length_take]; omega, by rw [List.length_drop]; omega, by rw [List.length_drop]; omega, by rw [List.length_drop]; exact hcut, wk_block HWK.out hq0 (by rw [List.length_take]; omega) (fun b hb => hqb b (List.mem_of_mem_take hb)) hB2 hg2, HBL.out.grown hg2 hBs (fun k hk => by injection hk with hk; subst hk; exact HWK.out.base), ⟨HEL.out.1.obj hg2, HEL.out.2⟩, fun b hb => hqb b (List.mem_of_mem_drop hb)⟩
end Go.Proofs.YtpgdlmnhomnblaaGreatDoor
namespace Go.Proofs.YtpgdlmnhomnblaaGreatDoor
open Go.RowKit
set_option linter.unusedVariables false
set_option linter.unusedSimpArgs false
set_option maxRecDepth 100000
set_option maxHeartbeats 4000000 in
theorem add_small (B g : Nat) (o : Value) (L p : List Nat) (A : Option Addr) (c N : Nat) (w : World) (hk : Wk w B g o L N) (h0 : 0 < L.length % 64) (hsm : L.length % 64 + p.length < 64) (hp : Pt w g o A p.length p) (hpl : ∀ b ∈ p, b < 256) (hc : p.length ≤ c) (hN : N + p.length ≤ 140737488355328) (hL : L.length + p.length ≤ 140737488355328)
    (ht : ShTab w) (htB : 0 < B) :
    Calls Tryz.prog 49 #[.pointer (some ⟨g, 0, none⟩), .slice A p.length c] w (AddTo w B g o (L ++ p) (N + p.length)) := by
  obtain ⟨i0, hi0, hz0, hz1, hz2⟩ := info_parts info_u8
  obtain ⟨n, hn⟩ : ∃ n, p.length = n := ⟨_, rfl⟩
  obtain ⟨r, hr⟩ : ∃ r, L.length % 64 = r := ⟨_, rfl⟩
  rw [hn] at hc hN hL hp hsm ⊢
  rw [hr] at h0 hsm
  obtain ⟨Ao, co, hoe, hr0, _, _⟩ := own_slice hk.own
  subst hoe
  have h9 := hk.blk.cell 9
  rw [workL_size (list_length _)] at h9
  have f9 := hk.blk.frozen 9
  have hadd : (N : Int) + (n : Int) = ((N + n : Nat) : Int) := by omega
  have hr64 : r < 64 := by omega
  have hk1 : Wk (w.setCell ⟨g, 9, none⟩ (.int .u64 ((N + n : Nat) : Int))) B g (.slice Ao (L.length % 64) co) L (N + n) := by
    refine ⟨?_, ?_, hk.far, hk.base, hk.byte⟩
    · have := hk.blk.set_ 9 (.int .u64 ((N + n : Nat) : Int))
      rwa [workL_setSize _ (list_length _)] at this
    · exact hk.own.kept (row := some g) (only_setCell (World.grownBy.refl w _) (.inl rfl) _) (.inr hk.far)
  have hp1 : Pt (w.setCell ⟨g, 9, none⟩ (.int .u64 ((N + n : Nat) : Int))) g (.slice Ao (L.length % 64) co) A n p := hp.grown (only_setCell (World.grownBy.refl w _) (.inl rfl) _)
  have hb1 : Below B w (w.setCell ⟨g, 9, none⟩ (.int .u64 ((N + n : Nat) : Int))) := (Below.refl _ _).setCell hk.base _
  rw [hr] at hk1 hp1
  have HEL1 := Lib.hid ((Else.refl w g (Value.slice Ao (L.length % 64) co).ownBlock).obj (only_setCell (World.grownBy.refl w (some g)) (p := ⟨g, 9, none⟩) (.inl rfl) (.int .u64 ((N + n : Nat) : Int))))
  have HN := Lib.hid hn; have HRR := Lib.hid hr; have HK1 := Lib.hid hk1; have HP1 := Lib.hid hp1; have HB1 := Lib.hid hb1; have HPL := Lib.hid hpl; have HT := Lib.hid ht
  clear hn hk hp hpl ht hk1 hp1 hb1 hr0 hr
  obtain ⟨N2, hN2⟩ : ∃ N2 : Nat, N + n = N2 := ⟨_, rfl⟩
  rw [hN2] at hadd HK1 HP1 HB1 HEL1 ⊢
  have HN2 := Lib.hid hN2; clear hN2
  obtain ⟨w1, hw1⟩ : ∃ w1 : World, w1 = w.setCell ⟨g, 9, none⟩ (.int .u64 (N2 : Int)) := ⟨_, rfl⟩
  rw [← hw1] at HK1 HP1 HB1 HEL1
  have HROF := Lib.hid (fun (v : Value) (hat : v.ownBlock = (Value.slice Ao r co).ownBlock ∨ v.ownBlock = some w1.drew.heap.size) => show v.ownBlock = (Value.slice Ao (L.length % 64) co).ownBlock ∨ ∀ b, v.ownBlock = some b → w.heap.size ≤ b from by
    rcases hat with h | h
    · exact .inl (h.trans (ownS_cut _ _ _ _))
    · refine .inr fun b hb => ?_
      rw [h] at hb
      injection hb with hb
      rw [← hb]
      exact HEL1.out.1)
  have hw1' := hw1.symm
  clear hw1
  have hc8 := HK1.out.blk.cell 8
  rw [workL_open (list_length _)] at hc8
  have hrp : (0 : Int) < (r : Int) := by omega
  have hmin : min (n : Int) (64 - (r : Int)) = (n : Int) := by omega
  have hmn : n ≤ n := Nat.le_refl _
  have hmr : r + n < 64 := by omega
  have hne1 : ((r : Int) + (n : Int) == 64) = false := by simp; omega
  have hne2 : ((r : Int) + (n : Int) != 64) = true := by simp; omega
  have HSM := Lib.hid (opn_more L p (by rw [HRR.out, HN.out]; exact hsm))
  have HO := Lib.hid (show w1.drew.ownsRow B 5 1 (.slice Ao r co) r (bs (opn L)) by have := HK1.out.own; rw [HRR.out] at this; exact this)
  have HR := Lib.hid (show Reads w1.drew w1.heap.size 1 A n (bs (p.take n)) from (HP1.out.fore hmn).1)
  have HSZ := Lib.hid (show B ≤ w1.drew.heap.size from Nat.le_trans HK1.out.base (Nat.le_of_lt HK1.out.lt))
  have HFAR := HK1.out.far
  by_cases hcm : c = n
  · obtain rfl := hcm.symm
    go_enter Tryz.func49, Tryz.ntmps49
    go_wp2_with fail
    go_region_law (first
      | (refine step_append_any _ rfl (.tmp 34) (.tmp 37) _ rfl B 5 i0 _ 1 1 Tryz.underlying66 hi0 hz0 hz1 hz2 rfl (by omega) (.slice Ao r co) r (bs (opn L)) (by simp [Act.eval, Act.put])
           (by exact HO.out) w1.heap.size A n n (bs (p.take n)) (by simp [Act.eval, Act.put]) (by exact HR.out) (bs_one _) (by unfold maxLen; omega) (by omega) (by exact HSZ.out) ?_
         intro v3 w3 hown3 hg3 hat3
         obtain ⟨A3, c3, rfl, _⟩ := own_slice hown3
         have hB3 := (Blk.drew HK1.out.blk).grown hg3 (fun e => HK1.out.far e.symm)
         have hk8 := hB3.cell 8
         rw [workL_open (list_length _)] at hk8
         have hf8 := hB3.frozen 8))
    go_wp2_with fail
    have hk4 : Wk (w3.setCell ⟨g, 8, none⟩ (.slice A3 (r + n) c3)) B g (.slice A3 (r + n) c3) (L ++ p) N2 := by
      have hx := HK1.out
      refine (show Wk w1.drew B g (.slice Ao r co) L N2 from ⟨hx.blk, hx.own, hx.far, hx.base, hx.byte⟩).laid HSM.out.1 HSM.out.2 (by rw [HRR.out, List.length_append, HN.out]; have := HRR.out; omega) HPL.out ?_ hg3 hat3
      rw [HRR.out, HN.out]
      have ht : p.take n = p := List.take_of_length_le (by rw [HN.out]; exact Nat.le_refl _)
      rw [ht] at hown3
      exact hown3
    have hb4 : Below B w (w3.setCell ⟨g, 8, none⟩ (.slice A3 (r + n) c3)) := ((HB1.out.drew).grown hg3 HSZ.out (fun k hk => (HO.out.lt k hk).1)).setCell HK1.out.base _
    obtain ⟨w4, hw4⟩ : ∃ w4, w4 = w3.setCell ⟨g, 8, none⟩ (.slice A3 (r + n) c3) := ⟨_, rfl⟩
    rw [← hw4] at hk4 hb4
    rw [← hw4]
    have HEL4 := Lib.hid ((HEL1.out.row (r' := (Value.slice Ao r co).ownBlock) (w' := w1.drew) hg3 (.inl (ownS_cut _ _ _ _))).obj (only_setCell (World.grownBy.refl w3 (some g)) (p := ⟨g, 8, none⟩) (.inl rfl) (.slice A3 (r + n) c3)))
    have HRO := Lib.hid (HROF.out _ hat3)
    rw [← hw4] at HEL4
    have HK4 := Lib.hid hk4; have HB4 := Lib.hid hb4
    have hLr : (L ++ p).length % 64 = r + n := by have := HRR.out; rw [List.length_append, HN.out]; omega
    have HO4 := Lib.hid (show w4.ownsRow B 5 1 (.slice A3 (r + n) c3) (r + n) (bs (opn (L ++ p))) by have := hk4.own; rw [hLr] at this; exact this)
    have hc4 := hk4.blk.cell 8
    rw [workL_open (list_length _)] at hc4
    have HSZ4 := Lib.hid (Nat.le_trans hk4.base (Nat.le_of_lt hk4.lt))
    clear hw4 hk4 hb4 hown3 hg3 hat3 hB3 hk8 hf8 hc8 h9 f9 hw1' HO HR HSZ hLr
    go_loopg [1] 0 (fun gk s1 wr => gk = 0 ∧ s1 = .slice A 0 0 ∧ wr = w4)
    case atStart => exact ⟨rfl, rfl, rfl⟩
    case round =>
      obtain ⟨rfl, rfl, rfl⟩ := hrel
      have HE := Lib.hid (show Reads wr wr.heap.size 1 A 0 (bs []) from ⟨rfl, fun h => absurd h (by omega)⟩)
      go_wp2_with (at_builtin
                   refine wpList_append_any _ rfl (.tmp 77) (.tmp 78) _ rfl B 5 i0 _ 1 1 Tryz.underlying66 hi0 hz0 hz1 hz2 rfl (by omega) (.slice A3 (r + n) c3) (r + n) _ rfl
                     HO4.out wr.heap.size A 0 0 (bs []) rfl HE.out (bs_one _) (by unfold maxLen; omega) (by omega) HSZ4.out ?_
                   intro v5 w5 hown5 hg5 hat5
                   obtain ⟨A5, c5, rfl, _⟩ := own_slice hown5
                   have hB5 := HK4.out.blk.grown hg5 (fun e => HK4.out.far e.symm)
                   have hk5 := hB5.cell 8
                   rw [workL_open (list_length _)] at hk5
                   have hf5 := hB5.frozen 8)
      go_end0
      have hlaid := HK4.out.laid (p := []) (by rw [List.append_nil]) (by rw [List.append_nil, List.append_nil]) (by rw [List.append_nil]; rfl) (by simp) (by have := HRR.out; rw [show (L ++ p).length % 64 = r + n by rw [List.length_append, HN.out]; omega]; exact hown5) hg5 hat5
      rw [List.append_nil] at hlaid
      exact ⟨rfl, _, hlaid, ((HB4.out.grown hg5 HSZ4.out (fun k hk => (HO4.out.lt k hk).1)).setCell HK4.out.base _), (HEL4.out.row hg5 HRO.out).obj (only_setCell (World.grownBy.refl w5 (some g)) (.inl rfl) _)⟩
  · skip
    go_enter Tryz.func49, Tryz.ntmps49
    go_wp2_with fail
    go_region_law (first
      | (refine step_append_any _ rfl (.tmp 34) (.tmp 37) _ rfl B 5 i0 _ 1 1 Tryz.underlying66 hi0 hz0 hz1 hz2 rfl (by omega) (.slice Ao r co) r (bs (opn L)) (by simp [Act.eval, Act.put])
           (by exact HO.out) w1.heap.size A n c (bs (p.take n)) (by simp [Act.eval, Act.put]) (by exact HR.out) (bs_one _) (by unfold maxLen; omega) (by omega) (by exact HSZ.out) ?_
         intro v3 w3 hown3 hg3 hat3
         obtain ⟨A3, c3, rfl, _⟩ := own_slice hown3
         have hB3 := (Blk.drew HK1.out.blk).grown hg3 (fun e => HK1.out.far e.symm)
         have hk8 := hB3.cell 8
         rw [workL_open (list_length _)] at hk8
         have hf8 := hB3.frozen 8))
    go_wp2_with fail
    have hk4 : Wk (w3.setCell ⟨g, 8, none⟩ (.slice A3 (r + n) c3)) B g (.slice A3 (r + n) c3) (L ++ p) N2 := by
      have hx := HK1.out
      refine (show Wk w1.drew B g (.slice Ao r co) L N2 from ⟨hx.blk, hx.own, hx.far, hx.base, hx.byte⟩).laid HSM.out.1 HSM.out.2 (by rw [HRR.out, List.length_append, HN.out]; have := HRR.out; omega) HPL.out ?_ hg3 hat3
      rw [HRR.out, HN.out]
      have ht : p.take n = p := List.take_of_length_le (by rw [HN.out]; exact Nat.le_refl _)
      rw [ht] at hown3
      exact hown3
    have hb4 : Below B w (w3.setCell ⟨g, 8, none⟩ (.slice A3 (r + n) c3)) := ((HB1.out.drew).grown hg3 HSZ.out (fun k hk => (HO.out.lt k hk).1)).setCell HK1.out.base _
    obtain ⟨w4, hw4⟩ : ∃ w4, w4 = w3.setCell ⟨g, 8, none⟩ (.slice A3 (r + n) c3) := ⟨_, rfl⟩
    rw [← hw4] at hk4 hb4
    rw [← hw4]
    have HEL4 := Lib.hid ((HEL1.out.row (r' := (Value.slice Ao r co).ownBlock) (w' := w1.drew) hg3 (.inl (ownS_cut _ _ _ _))).obj (only_setCell (World.grownBy.refl w3 (some g)) (p := ⟨g, 8, none⟩) (.inl rfl) (.slice A3 (r + n) c3)))
    have HRO := Lib.hid (HROF.out _ hat3)
    rw [← hw4] at HEL4
    have HK4 := Lib.hid hk4; have HB4 := Lib.hid hb4
    have hLr : (L ++ p).length % 64 = r + n := by have := HRR.out; rw [List.length_append, HN.out]; omega
    have HO4 := Lib.hid (show w4.ownsRow B 5 1 (.slice A3 (r + n) c3) (r + n) (bs (opn (L ++ p))) by have := hk4.own; rw [hLr] at this; exact this)
    have hc4 := hk4.blk.cell 8
    rw [workL_open (list_length _)] at hc4
    have HSZ4 := Lib.hid (Nat.le_trans hk4.base (Nat.le_of_lt hk4.lt))
    clear hw4 hk4 hb4 hown3 hg3 hat3 hB3 hk8 hf8 hc8 h9 f9 hw1' HO HR HSZ hLr
    go_loopg [1] 0 (fun gk s1 wr => gk = 0 ∧ s1 = .slice (A.map (·.add n)) 0 (c - n) ∧ wr = w4)
    case atStart => exact ⟨rfl, rfl, rfl⟩
    case round =>
      obtain ⟨rfl, rfl, rfl⟩ := hrel
      have HE := Lib.hid (show Reads wr wr.heap.size 1 (A.map (·.add n)) 0 (bs []) from ⟨rfl, fun h => absurd h (by omega)⟩)
      go_wp2_with (at_builtin
                   refine wpList_append_any _ rfl (.tmp 77) (.tmp 78) _ rfl B 5 i0 _ 1 1 Tryz.underlying66 hi0 hz0 hz1 hz2 rfl (by omega) (.slice A3 (r + n) c3) (r + n) _ rfl
                     HO4.out wr.heap.size (A.map (·.add n)) 0 (c - n) (bs []) rfl HE.out (bs_one _) (by unfold maxLen; omega) (by omega) HSZ4.out ?_
                   intro v5 w5 hown5 hg5 hat5
                   obtain ⟨A5, c5, rfl, _⟩ := own_slice hown5
                   have hB5 := HK4.out.blk.grown hg5 (fun e => HK4.out.far e.symm)
                   have hk5 := hB5.cell 8
                   rw [workL_open (list_length _)] at hk5
                   have hf5 := hB5.frozen 8)
      go_end0
      have hlaid := HK4.out.laid (p := []) (by rw [List.append_nil]) (by rw [List.append_nil, List.append_nil]) (by rw [List.append_nil]; rfl) (by simp) (by have := HRR.out; rw [show (L ++ p).length % 64 = r + n by rw [List.length_append, HN.out]; omega]; exact hown5) hg5 hat5
      rw [List.append_nil] at hlaid
      exact ⟨rfl, _, hlaid, ((HB4.out.grown hg5 HSZ4.out (fun k hk => (HO4.out.lt k hk).1)).setCell HK4.out.base _), (HEL4.out.row hg5 HRO.out).obj (only_setCell (World.grownBy.refl w5 (some g)) (.inl rfl) _)⟩
end Go.Proofs.YtpgdlmnhomnblaaGreatDoor
