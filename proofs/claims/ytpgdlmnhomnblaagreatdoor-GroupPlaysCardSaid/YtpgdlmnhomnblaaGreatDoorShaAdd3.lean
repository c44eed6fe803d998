import Derived.Test.YtpgdlmnhomnblaaGreatDoorJ27
import Derived.Deep.RegionLaw
namespace Go.Proofs.YtpgdlmnhomnblaaGreatDoor
open Go.RowKit
set_option linter.unusedVariables false
set_option linter.unusedSimpArgs false
set_option maxRecDepth 100000
theorem own_zero {w : World} {base : Nat} {e : TypeId} {A : Option Addr} {n c : Nat} {xs : List Value} (h : w.ownsRow base e 1 (.slice A n c) n xs) (hn : 0 < n) : w.ownsRow base e 1 (.slice A 0 c) 0 [] := by
  rcases h.2 with ⟨_, h0⟩ | ⟨g, cap, cur, hv, hb, hg, h1, h2, h3, _⟩
  · omega
  · injection hv with e1 e2 e3
    subst e1 e3
    exact ⟨rfl, .inr ⟨g, c, cur, rfl, hb, hg, Nat.zero_le _, h2, h3, by simp⟩⟩
set_option maxHeartbeats 4000000 in
theorem addS_full (B g : Nat) (o : Value) (L p : List Nat) (A : Option Addr) (c N : Nat) (w : World) (hk : Wk w B g o L N) (h0 : 0 < L.length % 64) (hfu : 64 ≤ L.length % 64 + p.length) (hp : Pt w g o A p.length p) (hpl : ∀ b ∈ p, b < 256) (hc : p.length ≤ c) (hN : N + p.length ≤ 140737488355328) (hL : L.length + p.length ≤ 140737488355328)
    (ht : ShTab w) (htB : 0 < B) :
    Calls Tryz.prog 49 #[.pointer (some ⟨g, 0, none⟩), .slice A p.length c] w (AddTo w B g o (L ++ p) (N + p.length)) := by
  obtain ⟨i0, hi0, hz0, hz1, hz2⟩ := info_parts info_u8
  obtain ⟨n, hn⟩ : ∃ n, p.length = n := ⟨_, rfl⟩
  obtain ⟨r, hr⟩ : ∃ r, L.length % 64 = r := ⟨_, rfl⟩
  rw [hn] at hc hN hL hp hfu ⊢
  rw [hr] at h0 hfu
  obtain ⟨Ao, co, hoe, hr0, _, _⟩ := own_slice hk.own
  subst hoe
  have h9 := hk.blk.cell 9
  rw [workL_size (list_length _)] at h9
  have f9 := hk.blk.frozen 9
  have hadd : (N : Int) + (n : Int) = ((N + n : Nat) : Int) := by omega
  have hr64 : r < 64 := by omega
  have hk1 : Wk (w.setCell ⟨g, 9, none⟩ (.int .u64 ((N + n : Nat) : Int))) B g (.slice Ao (L.length % 64) co) L (N + n) := by
    refine ⟨?_, ?_, hk.far, hk.base, hk.byte⟩
    · have := hk.blk.set_ 9 (.int .u64 ((N + n : Nat) : Int))
      rwa [workL_setSize _ (list_length _)] at this
    · exact hk.own.kept (row := some g) (only_setCell (World.grownBy.refl w _) (.inl rfl) _) (.inr hk.far)
  have hp1 : Pt (w.setCell ⟨g, 9, none⟩ (.int .u64 ((N + n : Nat) : Int))) g (.slice Ao (L.length % 64) co) A n p := hp.grown (only_setCell (World.grownBy.refl w _) (.inl rfl) _)
  have hb1 : Below B w (w.setCell ⟨g, 9, none⟩ (.int .u64 ((N + n : Nat) : Int))) := (Below.refl _ _).setCell hk.base _
  rw [hr] at hk1 hp1
  have HEL1 := Lib.hid ((Else.refl w g (Value.slice Ao (L.length % 64) co).ownBlock).obj (only_setCell (World.grownBy.refl w (some g)) (p := ⟨g, 9, none⟩) (.inl rfl) (.int .u64 ((N + n : Nat) : Int))))
  have HN := Lib.hid hn; have HRR := Lib.hid hr; have HK1 := Lib.hid hk1; have HP1 := Lib.hid hp1; have HB1 := Lib.hid hb1; have HPL := Lib.hid hpl; have HT := Lib.hid ht
  clear hn hk hp hpl ht hk1 hp1 hb1 hr0 hr
  obtain ⟨N2, hN2⟩ : ∃ N2 : Nat, N + n = N2 := ⟨_, rfl⟩
  rw [hN2] at hadd HK1 HP1 HB1 HEL1 ⊢
  have HN2 := Lib.hid hN2; clear hN2
  obtain ⟨w1, hw1⟩ : ∃ w1 : World, w1 = w.setCell ⟨g, 9, none⟩ (.int .u64 (N2 : Int)) := ⟨_, rfl⟩
  rw [← hw1] at HK1 HP1 HB1 HEL1
  have HROF := Lib.hid (fun (v : Value) (hat : v.ownBlock = (Value.slice Ao r co).ownBlock ∨ v.ownBlock = some w1.drew.heap.size) => show v.ownBlock = (Value.slice Ao (L.length % 64) co).ownBlock ∨ ∀ b, v.ownBlock = some b → w.heap.size ≤ b from by
    rcases hat with h | h
    · exact .inl (h.trans (ownS_cut _ _ _ _))
    · refine .inr fun b hb => ?_
      rw [h] at hb
      injection hb with hb
      rw [← hb]
      exact HEL1.out.1)
  have hw1' := hw1.symm
  clear hw1
  have hc8 := HK1.out.blk.cell 8
  rw [workL_open (list_length _)] at hc8
  have hrp : (0 : Int) < (r : Int) := by omega
  obtain ⟨m, hm⟩ : ∃ m, r + m = 64 := ⟨64 - r, by omega⟩
  have hmn : m ≤ n := by omega
  have hmc : m ≤ c := by omega
  have hmci : (m : Int) ≤ (c : Int) := by omega
  have hm64 : 64 - (r : Int) = (m : Int) := by omega
  have hmni : (m : Int) ≤ (n : Int) := by omega
  have hrmi : (r : Int) + (m : Int) = 64 := by omega
  have HFL := Lib.hid (opn_full L (p.take m) (by rw [HRR.out, List.length_take, HN.out]; omega))
  have HO := Lib.hid (show w1.drew.ownsRow B 5 1 (.slice Ao r co) r (bs (opn L)) by have := HK1.out.own; rw [HRR.out] at this; exact this)
  have HR := Lib.hid (show Reads w1.drew w1.heap.size 1 A m (bs (p.take m)) from (HP1.out.fore hmn).1)
  have HSZ := Lib.hid (show B ≤ w1.drew.heap.size from Nat.le_trans HK1.out.base (Nat.le_of_lt HK1.out.lt))
  have HFAR := HK1.out.far
  have HRM := Lib.hid hm
  have hway : (n = m ∧ c = m) ∨ (n = m ∧ c ≠ m) ∨ m < n := by omega
  rcases hway with ⟨hnm, hcm⟩ | ⟨hnm, hcm⟩ | hlt
  · obtain rfl := hnm
    obtain rfl := hcm.symm
    go_enter Tryz.func49, Tryz.ntmps49
    go_wp2_with fail
    go_region_law (first
      | (refine step_append_any _ rfl (.tmp 34) (.tmp 37) _ rfl B 5 i0 _ 1 1 Tryz.underlying66 hi0 hz0 hz1 hz2 rfl (by omega) (.slice Ao r co) r (bs (opn L)) (by simp [Act.eval, Act.put])
           (by exact HO.out) w1.heap.size A n n (bs (p.take n)) (by simp [Act.eval, Act.put]) (by exact HR.out) (bs_one _) (by unfold maxLen; omega) (by omega) (by exact HSZ.out) ?_
         intro v3 w3 hown3 hg3 hat3
         rw [HRM.out] at hown3
         obtain ⟨A3, c3, rfl, _⟩ := own_slice hown3
         have hB3 := (Blk.drew HK1.out.blk).grown hg3 (fun e => HK1.out.far e.symm)
         have hk8 := hB3.cell 8
         rw [workL_open (list_length _)] at hk8
         have hf8 := hB3.frozen 8))
    have hfar3 : (Value.slice A3 64 c3).ownBlock ≠ some g := by
      rcases hat3 with h1 | h1
      · rw [h1]; exact HK1.out.far
      · rw [h1]; intro e; injection e with e; have := HK1.out.lt; simp at e; omega
    have hB4 := hB3.set_ 8 (.slice A3 64 c3)
    rw [workL_setOpen _ (list_length _)] at hB4
    have hown4 : (w3.setCell ⟨g, 8, none⟩ (.slice A3 64 c3)).ownsRow B 5 1 (.slice A3 64 c3) 64 (bs (opn L ++ p.take n)) := by
      rw [bs_append]
      exact hown3.kept (row := some g) (only_setCell (World.grownBy.refl w3 _) (.inl rfl) _) (.inr hfar3)
    have hb4 : Below B w (w3.setCell ⟨g, 8, none⟩ (.slice A3 64 c3)) := ((HB1.out.drew).grown hg3 HSZ.out (fun k hk => (HO.out.lt k hk).1)).setCell HK1.out.base _
    have hpt4 : Pt (w3.setCell ⟨g, 8, none⟩ (.slice A3 64 c3)) g (.slice A3 64 c3) A (n - n) (p.drop n) := by
      have h1 := HP1.out.cut (k := n) hmn hc
      rw [if_pos rfl] at h1
      exact (Pt.grownOwn (w := w1.drew) (show Pt w1.drew g (.slice Ao r co) _ (n - n) (p.drop n) from h1) hg3 hat3).grown (only_setCell (World.grownBy.refl w3 _) (.inl rfl) _)
    have hcap : 64 ≤ c3 := by obtain ⟨_, _, he, hcap, _⟩ := own_slice hown4; injection he with e1 e2 e3; omega
    have hbytes : ∀ b ∈ opn L ++ p.take n, b < 256 := by
      intro b hb
      rcases List.mem_append.1 hb with hb | hb
      · exact HK1.out.byte b (List.mem_of_mem_drop hb)
      · exact HPL.out b (List.mem_of_mem_take hb)
    have HC := Lib.hid (block_any g (st8 L) (.slice A3 64 c3) N2 A3 c3 (opn L ++ p.take n) _ hB4 HK1.out.ok (Reads.of_own hown4) hbytes hcap (HT.out.below hb4 htB) (by have := HK1.out.base; omega))
    have HEL4 := Lib.hid ((HEL1.out.row (r' := (Value.slice Ao r co).ownBlock) (w' := w1.drew) hg3 (.inl (ownS_cut _ _ _ _))).obj (only_setCell (World.grownBy.refl w3 (some g)) (p := ⟨g, 8, none⟩) (.inl rfl) (.slice A3 64 c3)))
    have HRO6 := Lib.hid (show (Value.slice A3 0 c3).ownBlock = (Value.slice Ao (L.length % 64) co).ownBlock ∨ ∀ b, (Value.slice A3 0 c3).ownBlock = some b → w.heap.size ≤ b by rw [ownS_cut A3 0 64 c3]; exact HROF.out _ hat3)
    have HO4 := Lib.hid hown4; have HB4 := Lib.hid hb4; have HPT4 := Lib.hid hpt4; have HF3 := Lib.hid hfar3
    have HSB := Lib.hid (Nat.le_trans HSZ.out hg3.size)
    clear hfar3 hB4 hown4 hb4 hpt4 hcap hbytes
    go_wp2_with fail
    refine HC.out.mono ?_
    rintro _ w5 ⟨rfl, hB5, hg5⟩
    have hk5 := hB5.cell 8
    rw [workL_open (list_length _)] at hk5
    have hf5 := hB5.frozen 8
    go_wp2_with fail
    have hcg5 : (w3.setCell ⟨g, 8, none⟩ (.slice A3 64 c3)).grownBy (w5.setCell ⟨g, 8, none⟩ (.slice A3 0 c3)) (some g) := only_setCell hg5 (.inl rfl) _
    have hown6 := own_zero (HO4.out.kept hcg5 (.inr HF3.out)) (by omega)
    have hpt6 := HPT4.out.grown hcg5
    have hb6 : Below B w (w5.setCell ⟨g, 8, none⟩ (.slice A3 0 c3)) := HB4.out.grown hcg5 (by have := HSB.out; simpa using this) (fun k hk => by injection hk with hk; subst hk; exact HK1.out.base)
    have hl6 : (L ++ p.take n).length % 64 = 0 := by have := HRR.out; rw [List.length_append, List.length_take, HN.out]; omega
    have hk6 : Wk (w5.setCell ⟨g, 8, none⟩ (.slice A3 0 c3)) B g (.slice A3 0 c3) (L ++ p.take n) N2 := by
      refine ⟨?_, ?_, by rw [ownS_cut A3 0 64 c3]; exact HF3.out, HK1.out.base, ?_⟩
      · have h1 := hB5.set_ 8 (.slice A3 0 c3)
        rw [workL_setOpen _ (list_length _), ← HFL.out.1] at h1
        exact h1
      · rw [HFL.out.2, hl6]
        exact hown6
      · intro b hb
        rcases List.mem_append.1 hb with hb | hb
        · exact HK1.out.byte b hb
        · exact HPL.out b (List.mem_of_mem_take hb)
    have HMID := Lib.hid (show MidS w (w5.setCell ⟨g, 8, none⟩ (.slice A3 0 c3)) B g (.slice A3 0 c3) N2 (L ++ p) ((n - n) / 64) (.slice A 0 0) (Value.slice Ao (L.length % 64) co).ownBlock from
      ⟨L ++ p.take n, p.drop n, A, 0, by rw [List.length_drop, HN.out] <;> first | rfl | simp [Addr.add], by rw [List.append_assoc, List.take_append_drop], hl6, by rw [List.length_drop, HN.out], by rw [List.length_drop, HN.out]; omega, by
        rw [List.length_drop, HN.out]
        exact ⟨hpt6.1, fun hn ad had => by rw [ownS_cut A3 0 64 c3]; exact hpt6.2 hn ad had⟩, hk6, hb6, ⟨(HEL4.out.obj hcg5), HRO6.out⟩, fun b hb => HPL.out b (List.mem_of_mem_drop hb)⟩)
    have HMl := Lib.hid (show (L ++ p).length ≤ 140737488355328 by rw [List.length_append, HN.out]; omega)
    clear hk6 hl6 hb6 hpt6 hown6 hcg5 hk5 hf5 hB5 hg5 HSB HC hg3 hat3 hB3 hk8 hf8 hown3 hc8 h9 f9 hw1' hadd
    obtain ⟨w6, hw6⟩ : ∃ w6, w6 = w5.setCell ⟨g, 8, none⟩ (.slice A3 0 c3) := ⟨_, rfl⟩
    rw [← hw6] at HMID
    rw [← hw6]
    clear hw6
    go_loopg [1] ((n - n) / 64) (fun gk s1 wr => Hid (MidS w wr B g (.slice A3 0 c3) N2 (L ++ p) gk s1 (Value.slice Ao (L.length % 64) co).ownBlock))
    case atStart => exact HMID
    case round =>
      clear HMID
      obtain ⟨Lq, q, A2, c2, rfl, hM, hq0, hqg, hqc, hpt, hwk, hb, ⟨hel, hro⟩, hqb⟩ := hrel.out
      clear hrel
      have hh8 := hwk.blk.cell 8
      rw [workL_open (list_length _)] at hh8
      have hBs : B ≤ wr.heap.size := Nat.le_trans hwk.base (Nat.le_of_lt hwk.lt)
      have hq47 : q.length ≤ 140737488355328 := by have h1 := congrArg List.length hM; have h2 := HMl.out; simp only [List.length_append] at h1 h2; omega
      cases gk with
      | zero =>
        have hq : (q.length : Int) < 64 := by omega
        have hq2 : q.length < 64 := by omega
        have HO := Lib.hid (show wr.ownsRow B 5 1 (.slice A3 0 c3) 0 [] by
          have := hwk.own
          rw [opn_nil hq0, hq0] at this
          exact this)
        have HR := Lib.hid hpt.1
        have HWK := Lib.hid hwk
        have HBL := Lib.hid hb
        have HEL := Lib.hid (And.intro hel hro)
        clear hel hro
        have HM2 := Lib.hid hM
        clear hwk hpt hb hM
        go_wp2_with (at_builtin
                     refine wpList_append_any _ rfl (.tmp 77) (.tmp 78) _ rfl B 5 i0 _ 1 1 Tryz.underlying66 hi0 hz0 hz1 hz2 rfl (by omega) (.slice A3 0 c3) 0 [] rfl
                       HO.out wr.heap.size A2 q.length c2 (bs q) rfl HR.out (bs_one _) (by unfold maxLen; omega) (by omega) hBs ?_
                     intro v3 w3 hown3 hg3 hat3
                     simp only [Nat.zero_add, List.nil_append] at hown3
                     obtain ⟨A3, c3, rfl, _⟩ := own_slice hown3
                     have hB3 := HWK.out.blk.grown hg3 (fun e => HWK.out.far e.symm)
                     have hk8 := hB3.cell 8
                     rw [workL_open (list_length _)] at hk8
                     have hf8 := hB3.frozen 8)
        go_end0
        obtain ⟨e1, e2⟩ := opn_more Lq q (by omega)
        have hlaid := HWK.out.laid e1 e2 (by rw [List.length_append]; omega) hqb (by rw [opn_nil hq0, hq0, Nat.zero_add]; exact hown3) hg3 hat3
        rw [← HM2.out] at hlaid
        exact ⟨rfl, .slice A3 q.length c3, by exact hlaid, ((HBL.out.grown hg3 hBs (fun k hk => (HO.out.lt k hk).1)).setCell HWK.out.base _), (HEL.out.1.row hg3 HEL.out.2).obj (only_setCell (World.grownBy.refl w3 (some g)) (.inl rfl) _)⟩
      | succ gk =>
        have hq64 : 64 ≤ q.length := by omega
        have hq : (64 : Int) ≤ (q.length : Int) := by omega
        have hqci : (64 : Int) ≤ (c2 : Int) := by omega
        have hcall := block_any g (st8 Lq) (.slice A3 0 c3) N2 A2 64 (q.take 64) wr hwk.blk hwk.ok (hpt.fore hq64).1 (fun b hb => hqb b (List.mem_of_mem_take hb)) (Nat.le_refl _) (HT.out.below hb htB) (by have := hwk.base; omega)
        have HC := Lib.hid hcall
        have HCUT := Lib.hid (fun w2 (hg : wr.grownBy w2 (some g)) => (hpt.cut (k := 64) hq64 hqc).grown hg)
        have HWK := Lib.hid hwk
        have HBL := Lib.hid hb
        have HEL := Lib.hid (And.intro hel hro)
        clear hel hro
        have HM2 := Lib.hid hM
        clear hcall hwk hpt hb hM
        by_cases hc64 : c2 = 64
        · subst hc64
          go_wp2_with fail
          refine HC.out.mono ?_
          rintro _ w2 ⟨rfl, hB2, hg2⟩
          go_wp2_with fail
          have hcut := HCUT.out w2 hg2
          simp only [if_true] at hcut
          go_roundg gk
          case measure => omega
          case rel =>
            refine Lib.hid ⟨Lq ++ q.take 64, q.drop 64, A2, 0, by rw [List.length_drop, show q.length - 64 = 0 by omega], by rw [HM2.out, List.append_assoc, List.take_append_drop], by rw [List.length_append, List.length_take]; omega, by rw [List.length_drop]; omega, by rw [List.length_drop]; omega, by rw [List.length_drop]; exact hcut, wk_block HWK.out hq0 (by rw [List.length_take]; omega) (fun b hb => hqb b (List.mem_of_mem_take hb)) hB2 hg2, HBL.out.grown hg2 hBs (fun k hk => by injection hk with hk; subst hk; exact HWK.out.base), ⟨HEL.out.1.obj hg2, HEL.out.2⟩, fun b hb => hqb b (List.mem_of_mem_drop hb)⟩
        · go_wp2_with fail
          refine HC.out.mono ?_
          rintro _ w2 ⟨rfl, hB2, hg2⟩
          go_wp2_with fail
          have hcut := HCUT.out w2 hg2
          rw [if_neg hc64] at hcut
          go_roundg gk
          case measure => omega
          case rel =>
            refine Lib.hid ⟨Lq ++ q.take 64, q.drop 64, A2.map (·.add 64), c2 - 64, by rw [List.length_drop]; first | rfl | simp [Addr.add], by rw [HM2.out, List.append_assoc, List.take_append_drop], by rw [List.length_append, List.length_take]; omega, by rw [List.length_drop]; omega, by rw [List.length_drop]; omega, by rw [List.length_drop]; exact hcut, wk_block HWK.out hq0 (by rw [List.length_take]; omega) (fun b hb => hqb b (List.mem_of_mem_take hb)) hB2 hg2, HBL.out.grown hg2 hBs (fun k hk => by injection hk with hk; subst hk; exact HWK.out.base), ⟨HEL.out.1.obj hg2, HEL.out.2⟩, fun b hb => hqb b (List.mem_of_mem_drop hb)⟩
  · obtain rfl := hnm
    have hc0 : ¬ c = 0 := by omega
    have hc00 : 0 < c := by omega
    go_enter Tryz.func49, Tryz.ntmps49
    go_wp2_with fail
    go_region_law (first
      | (refine step_append_any _ rfl (.tmp 34) (.tmp 37) _ rfl B 5 i0 _ 1 1 Tryz.underlying66 hi0 hz0 hz1 hz2 rfl (by omega) (.slice Ao r co) r (bs (opn L)) (by simp [Act.eval, Act.put])
           (by exact HO.out) w1.heap.size A n c (bs (p.take n)) (by simp [Act.eval, Act.put]) (by exact HR.out) (bs_one _) (by unfold maxLen; omega) (by omega) (by exact HSZ.out) ?_
         intro v3 w3 hown3 hg3 hat3
         rw [HRM.out] at hown3
         obtain ⟨A3, c3, rfl, _⟩ := own_slice hown3
         have hB3 := (Blk.drew HK1.out.blk).grown hg3 (fun e => HK1.out.far e.symm)
         have hk8 := hB3.cell 8
         rw [workL_open (list_length _)] at hk8
         have hf8 := hB3.frozen 8))
    have hfar3 : (Value.slice A3 64 c3).ownBlock ≠ some g := by
      rcases hat3 with h1 | h1
      · rw [h1]; exact HK1.out.far
      · rw [h1]; intro e; injection e with e; have := HK1.out.lt; simp at e; omega
    have hB4 := hB3.set_ 8 (.slice A3 64 c3)
    rw [workL_setOpen _ (list_length _)] at hB4
    have hown4 : (w3.setCell ⟨g, 8, none⟩ (.slice A3 64 c3)).ownsRow B 5 1 (.slice A3 64 c3) 64 (bs (opn L ++ p.take n)) := by
      rw [bs_append]
      exact hown3.kept (row := some g) (only_setCell (World.grownBy.refl w3 _) (.inl rfl) _) (.inr hfar3)
    have hb4 : Below B w (w3.setCell ⟨g, 8, none⟩ (.slice A3 64 c3)) := ((HB1.out.drew).grown hg3 HSZ.out (fun k hk => (HO.out.lt k hk).1)).setCell HK1.out.base _
    have hpt4 : Pt (w3.setCell ⟨g, 8, none⟩ (.slice A3 64 c3)) g (.slice A3 64 c3) (A.map (·.add n)) (n - n) (p.drop n) := by
      have h1 := HP1.out.cut (k := n) hmn hc
      rw [if_neg hcm] at h1
      exact (Pt.grownOwn (w := w1.drew) (show Pt w1.drew g (.slice Ao r co) _ (n - n) (p.drop n) from h1) hg3 hat3).grown (only_setCell (World.grownBy.refl w3 _) (.inl rfl) _)
    have hcap : 64 ≤ c3 := by obtain ⟨_, _, he, hcap, _⟩ := own_slice hown4; injection he with e1 e2 e3; omega
    have hbytes : ∀ b ∈ opn L ++ p.take n, b < 256 := by
      intro b hb
      rcases List.mem_append.1 hb with hb | hb
      · exact HK1.out.byte b (List.mem_of_mem_drop hb)
      · exact HPL.out b (List.mem_of_mem_take hb)
    have HC := Lib.hid (block_any g (st8 L) (.slice A3 64 c3) N2 A3 c3 (opn L ++ p.take n) _ hB4 HK1.out.ok (Reads.of_own hown4) hbytes hcap (HT.out.below hb4 htB) (by have := HK1.out.base; omega))
    have HEL4 := Lib.hid ((HEL1.out.row (r' := (Value.slice Ao r co).ownBlock) (w' := w1.drew) hg3 (.inl (ownS_cut _ _ _ _))).obj (only_setCell (World.grownBy.refl w3 (some g)) (p := ⟨g, 8, none⟩) (.inl rfl) (.slice A3 64 c3)))
    have HRO6 := Lib.hid (show (Value.slice A3 0 c3).ownBlock = (Value.slice Ao (L.length % 64) co).ownBlock ∨ ∀ b, (Value.slice A3 0 c3).ownBlock = some b → w.heap.size ≤ b by rw [ownS_cut A3 0 64 c3]; exact HROF.out _ hat3)
    have HO4 := Lib.hid hown4; have HB4 := Lib.hid hb4; have HPT4 := Lib.hid hpt4; have HF3 := Lib.hid hfar3
    have HSB := Lib.hid (Nat.le_trans HSZ.out hg3.size)
    clear hfar3 hB4 hown4 hb4 hpt4 hcap hbytes
    go_wp2_with fail
    refine HC.out.mono ?_
    rintro _ w5 ⟨rfl, hB5, hg5⟩
    have hk5 := hB5.cell 8
    rw [workL_open (list_length _)] at hk5
    have hf5 := hB5.frozen 8
    go_wp2_with fail
    have hcg5 : (w3.setCell ⟨g, 8, none⟩ (.slice A3 64 c3)).grownBy (w5.setCell ⟨g, 8, none⟩ (.slice A3 0 c3)) (some g) := only_setCell hg5 (.inl rfl) _
    have hown6 := own_zero (HO4.out.kept hcg5 (.inr HF3.out)) (by omega)
    have hpt6 := HPT4.out.grown hcg5
    have hb6 : Below B w (w5.setCell ⟨g, 8, none⟩ (.slice A3 0 c3)) := HB4.out.grown hcg5 (by have := HSB.out; simpa using this) (fun k hk => by injection hk with hk; subst hk; exact HK1.out.base)
    have hl6 : (L ++ p.take n).length % 64 = 0 := by have := HRR.out; rw [List.length_append, List.length_take, HN.out]; omega
    have hk6 : Wk (w5.setCell ⟨g, 8, none⟩ (.slice A3 0 c3)) B g (.slice A3 0 c3) (L ++ p.take n) N2 := by
      refine ⟨?_, ?_, by rw [ownS_cut A3 0 64 c3]; exact HF3.out, HK1.out.base, ?_⟩
      · have h1 := hB5.set_ 8 (.slice A3 0 c3)
        rw [workL_setOpen _ (list_length _), ← HFL.out.1] at h1
        exact h1
      · rw [HFL.out.2, hl6]
        exact hown6
      · intro b hb
        rcases List.mem_append.1 hb with hb | hb
        · exact HK1.out.byte b hb
        · exact HPL.out b (List.mem_of_mem_take hb)
    have HMID := Lib.hid (show MidS w (w5.setCell ⟨g, 8, none⟩ (.slice A3 0 c3)) B g (.slice A3 0 c3) N2 (L ++ p) ((n - n) / 64) (.slice (A.map (·.add n)) 0 (c - n)) (Value.slice Ao (L.length % 64) co).ownBlock from
      ⟨L ++ p.take n, p.drop n, (A.map (·.add n)), (c - n), by rw [List.length_drop, HN.out] <;> first | rfl | simp [Addr.add], by rw [List.append_assoc, List.take_append_drop], hl6, by rw [List.length_drop, HN.out], by rw [List.length_drop, HN.out]; omega, by
        rw [List.length_drop, HN.out]
        exact ⟨hpt6.1, fun hn ad had => by rw [ownS_cut A3 0 64 c3]; exact hpt6.2 hn ad had⟩, hk6, hb6, ⟨(HEL4.out.obj hcg5), HRO6.out⟩, fun b hb => HPL.out b (List.mem_of_mem_drop hb)⟩)
    have HMl := Lib.hid (show (L ++ p).length ≤ 140737488355328 by rw [List.length_append, HN.out]; omega)
    clear hk6 hl6 hb6 hpt6 hown6 hcg5 hk5 hf5 hB5 hg5 HSB HC hg3 hat3 hB3 hk8 hf8 hown3 hc8 h9 f9 hw1' hadd
    obtain ⟨w6, hw6⟩ : ∃ w6, w6 = w5.setCell ⟨g, 8, none⟩ (.slice A3 0 c3) := ⟨_, rfl⟩
    rw [← hw6] at HMID
    rw [← hw6]
    clear hw6
    go_loopg [1] ((n - n) / 64) (fun gk s1 wr => Hid (MidS w wr B g (.slice A3 0 c3) N2 (L ++ p) gk s1 (Value.slice Ao (L.length % 64) co).ownBlock))
    case atStart => exact HMID
    case round =>
      clear HMID
      obtain ⟨Lq, q, A2, c2, rfl, hM, hq0, hqg, hqc, hpt, hwk, hb, ⟨hel, hro⟩, hqb⟩ := hrel.out
      clear hrel
      have hh8 := hwk.blk.cell 8
      rw [workL_open (list_length _)] at hh8
      have hBs : B ≤ wr.heap.size := Nat.le_trans hwk.base (Nat.le_of_lt hwk.lt)
      have hq47 : q.length ≤ 140737488355328 := by have h1 := congrArg List.length hM; have h2 := HMl.out; simp only [List.length_append] at h1 h2; omega
      cases gk with
      | zero =>
        have hq : (q.length : Int) < 64 := by omega
        have hq2 : q.length < 64 := by omega
        have HO := Lib.hid (show wr.ownsRow B 5 1 (.slice A3 0 c3) 0 [] by
          have := hwk.own
          rw [opn_nil hq0, hq0] at this
          exact this)
        have HR := Lib.hid hpt.1
        have HWK := Lib.hid hwk
        have HBL := Lib.hid hb
        have HEL := Lib.hid (And.intro hel hro)
        clear hel hro
        have HM2 := Lib.hid hM
        clear hwk hpt hb hM
        go_wp2_with (at_builtin
                     refine wpList_append_any _ rfl (.tmp 77) (.tmp 78) _ rfl B 5 i0 _ 1 1 Tryz.underlying66 hi0 hz0 hz1 hz2 rfl (by omega) (.slice A3 0 c3) 0 [] rfl
                       HO.out wr.heap.size A2 q.length c2 (bs q) rfl HR.out (bs_one _) (by unfold maxLen; omega) (by omega) hBs ?_
                     intro v3 w3 hown3 hg3 hat3
                     simp only [Nat.zero_add, List.nil_append] at hown3
                     obtain ⟨A3, c3, rfl, _⟩ := own_slice hown3
                     have hB3 := HWK.out.blk.grown hg3 (fun e => HWK.out.far e.symm)
                     have hk8 := hB3.cell 8
                     rw [workL_open (list_length _)] at hk8
                     have hf8 := hB3.frozen 8)
        go_end0
        obtain ⟨e1, e2⟩ := opn_more Lq q (by omega)
        have hlaid := HWK.out.laid e1 e2 (by rw [List.length_append]; omega) hqb (by rw [opn_nil hq0, hq0, Nat.zero_add]; exact hown3) hg3 hat3
        rw [← HM2.out] at hlaid
        exact ⟨rfl, .slice A3 q.length c3, by exact hlaid, ((HBL.out.grown hg3 hBs (fun k hk => (HO.out.lt k hk).1)).setCell HWK.out.base _), (HEL.out.1.row hg3 HEL.out.2).obj (only_setCell (World.grownBy.refl w3 (some g)) (.inl rfl) _)⟩
      | succ gk =>
        have hq64 : 64 ≤ q.length := by omega
        have hq : (64 : Int) ≤ (q.length : Int) := by omega
        have hqci : (64 : Int) ≤ (c2 : Int) := by omega
        have hcall := block_any g (st8 Lq) (.slice A3 0 c3) N2 A2 64 (q.take 64) wr hwk.blk hwk.ok (hpt.fore hq64).1 (fun b hb => hqb b (List.mem_of_mem_take hb)) (Nat.le_refl _) (HT.out.below hb htB) (by have := hwk.base; omega)
        have HC := Lib.hid hcall
        have HCUT := Lib.hid (fun w2 (hg : wr.grownBy w2 (some g)) => (hpt.cut (k := 64) hq64 hqc).grown hg)
        have HWK := Lib.hid hwk
        have HBL := Lib.hid hb
        have HEL := Lib.hid (And.intro hel hro)
        clear hel hro
        have HM2 := Lib.hid hM
        clear hcall hwk hpt hb hM
        by_cases hc64 : c2 = 64
        · subst hc64
          go_wp2_with fail
          refine HC.out.mono ?_
          rintro _ w2 ⟨rfl, hB2, hg2⟩
          go_wp2_with fail
          have hcut := HCUT.out w2 hg2
          simp only [if_true] at hcut
          go_roundg gk
          case measure => omega
          case rel =>
            refine Lib.hid ⟨Lq ++ q.take 64, q.drop 64, A2, 0, by rw [List.length_drop, show q.length - 64 = 0 by omega], by rw [HM2.out, List.append_assoc, List.take_append_drop], by rw [List.length_append, List.length_take]; omega, by rw [List.length_drop]; omega, by rw [List.length_drop]; omega, by rw [List.length_drop]; exact hcut, wk_block HWK.out hq0 (by rw [List.length_take]; omega) (fun b hb => hqb b (List.mem_of_mem_take hb)) hB2 hg2, HBL.out.grown hg2 hBs (fun k hk => by injection hk with hk; subst hk; exact HWK.out.base), ⟨HEL.out.1.obj hg2, HEL.out.2⟩, fun b hb => hqb b (List.mem_of_mem_drop hb)⟩
        · go_wp2_with fail
          refine HC.out.mono ?_
          rintro _ w2 ⟨rfl, hB2, hg2⟩
          go_wp2_with fail
          have hcut := HCUT.out w2 hg2
          rw [if_neg hc64] at hcut
          go_roundg gk
          case measure => omega
          case rel =>
            refine Lib.hid ⟨Lq ++ q.take 64, q.drop 64, A2.map (·.add 64), c2 - 64, by rw [List.length_drop]; first | rfl | simp [Addr.add], by rw [HM2.out, List.append_assoc, List.take_append_drop], by rw [List.length_append, List.length_take]; omega, by rw [List.length_drop]; omega, by rw [List.length_drop]; omega, by rw [List.length_drop]; exact hcut, wk_block HWK.out hq0 (by rw [List.length_take]; omega) (fun b hb => hqb b (List.mem_of_mem_take hb)) hB2 hg2, HBL.out.grown hg2 hBs (fun k hk => by injection hk with hk; subst hk; exact HWK.out.base), ⟨HEL.out.1.obj hg2, HEL.out.2⟩, fun b hb => hqb b (List.mem_of_mem_drop hb)⟩
  · have hcm : ¬ c = m := by omega
    have hlti : (m : Int) < (n : Int) := by omega
    have hlti2 : ¬ (n : Int) ≤ (m : Int) := by omega
    have hminx : min (n : Int) (m : Int) = (m : Int) := by omega
    have hc0 : ¬ c = 0 := by omega
    have hc00 : 0 < c := by omega
    go_enter Tryz.func49, Tryz.ntmps49
    go_wp2_with fail
    go_region_law (first
      | (refine step_append_any _ rfl (.tmp 34) (.tmp 37) _ rfl B 5 i0 _ 1 1 Tryz.underlying66 hi0 hz0 hz1 hz2 rfl (by omega) (.slice Ao r co) r (bs (opn L)) (by simp [Act.eval, Act.put])
           (by exact HO.out) w1.heap.size A m c (bs (p.take m)) (by simp [Act.eval, Act.put]) (by exact HR.out) (bs_one _) (by unfold maxLen; omega) (by omega) (by exact HSZ.out) ?_
         intro v3 w3 hown3 hg3 hat3
         rw [HRM.out] at hown3
         obtain ⟨A3, c3, rfl, _⟩ := own_slice hown3
         have hB3 := (Blk.drew HK1.out.blk).grown hg3 (fun e => HK1.out.far e.symm)
         have hk8 := hB3.cell 8
         rw [workL_open (list_length _)] at hk8
         have hf8 := hB3.frozen 8))
    have hfar3 : (Value.slice A3 64 c3).ownBlock ≠ some g := by
      rcases hat3 with h1 | h1
      · rw [h1]; exact HK1.out.far
      · rw [h1]; intro e; injection e with e; have := HK1.out.lt; simp at e; omega
    have hB4 := hB3.set_ 8 (.slice A3 64 c3)
    rw [workL_setOpen _ (list_length _)] at hB4
    have hown4 : (w3.setCell ⟨g, 8, none⟩ (.slice A3 64 c3)).ownsRow B 5 1 (.slice A3 64 c3) 64 (bs (opn L ++ p.take m)) := by
      rw [bs_append]
      exact hown3.kept (row := some g) (only_setCell (World.grownBy.refl w3 _) (.inl rfl) _) (.inr hfar3)
    have hb4 : Below B w (w3.setCell ⟨g, 8, none⟩ (.slice A3 64 c3)) := ((HB1.out.drew).grown hg3 HSZ.out (fun k hk => (HO.out.lt k hk).1)).setCell HK1.out.base _
    have hpt4 : Pt (w3.setCell ⟨g, 8, none⟩ (.slice A3 64 c3)) g (.slice A3 64 c3) (A.map (·.add m)) (n - m) (p.drop m) := by
      have h1 := HP1.out.cut (k := m) hmn hc
      rw [if_neg hcm] at h1
      exact (Pt.grownOwn (w := w1.drew) (show Pt w1.drew g (.slice Ao r co) _ (n - m) (p.drop m) from h1) hg3 hat3).grown (only_setCell (World.grownBy.refl w3 _) (.inl rfl) _)
    have hcap : 64 ≤ c3 := by obtain ⟨_, _, he, hcap, _⟩ := own_slice hown4; injection he with e1 e2 e3; omega
    have hbytes : ∀ b ∈ opn L ++ p.take m, b < 256 := by
      intro b hb
      rcases List.mem_append.1 hb with hb | hb
      · exact HK1.out.byte b (List.mem_of_mem_drop hb)
      · exact HPL.out b (List.mem_of_mem_take hb)
    have HC := Lib.hid (block_any g (st8 L) (.slice A3 64 c3) N2 A3 c3 (opn L ++ p.take m) _ hB4 HK1.out.ok (Reads.of_own hown4) hbytes hcap (HT.out.below hb4 htB) (by have := HK1.out.base; omega))
    have HEL4 := Lib.hid ((HEL1.out.row (r' := (Value.slice Ao r co).ownBlock) (w' := w1.drew) hg3 (.inl (ownS_cut _ _ _ _))).obj (only_setCell (World.grownBy.refl w3 (some g)) (p := ⟨g, 8, none⟩) (.inl rfl) (.slice A3 64 c3)))
    have HRO6 := Lib.hid (show (Value.slice A3 0 c3).ownBlock = (Value.slice Ao (L.length % 64) co).ownBlock ∨ ∀ b, (Value.slice A3 0 c3).ownBlock = some b → w.heap.size ≤ b by rw [ownS_cut A3 0 64 c3]; exact HROF.out _ hat3)
    have HO4 := Lib.hid hown4; have HB4 := Lib.hid hb4; have HPT4 := Lib.hid hpt4; have HF3 := Lib.hid hfar3
    have HSB := Lib.hid (Nat.le_trans HSZ.out hg3.size)
    clear hfar3 hB4 hown4 hb4 hpt4 hcap hbytes
    go_wp2_with fail
    refine HC.out.mono ?_
    rintro _ w5 ⟨rfl, hB5, hg5⟩
    have hk5 := hB5.cell 8
    rw [workL_open (list_length _)] at hk5
    have hf5 := hB5.frozen 8
    go_wp2_with fail
    have hcg5 : (w3.setCell ⟨g, 8, none⟩ (.slice A3 64 c3)).grownBy (w5.setCell ⟨g, 8, none⟩ (.slice A3 0 c3)) (some g) := only_setCell hg5 (.inl rfl) _
    have hown6 := own_zero (HO4.out.kept hcg5 (.inr HF3.out)) (by omega)
    have hpt6 := HPT4.out.grown hcg5
    have hb6 : Below B w (w5.setCell ⟨g, 8, none⟩ (.slice A3 0 c3)) := HB4.out.grown hcg5 (by have := HSB.out; simpa using this) (fun k hk => by injection hk with hk; subst hk; exact HK1.out.base)
    have hl6 : (L ++ p.take m).length % 64 = 0 := by have := HRR.out; rw [List.length_append, List.length_take, HN.out]; omega
    have hk6 : Wk (w5.setCell ⟨g, 8, none⟩ (.slice A3 0 c3)) B g (.slice A3 0 c3) (L ++ p.take m) N2 := by
      refine ⟨?_, ?_, by rw [ownS_cut A3 0 64 c3]; exact HF3.out, HK1.out.base, ?_⟩
      · have h1 := hB5.set_ 8 (.slice A3 0 c3)
        rw [workL_setOpen _ (list_length _), ← HFL.out.1] at h1
        exact h1
      · rw [HFL.out.2, hl6]
        exact hown6
      · intro b hb
        rcases List.mem_append.1 hb with hb | hb
        · exact HK1.out.byte b hb
        · exact HPL.out b (List.mem_of_mem_take hb)
    have HMID := Lib.hid (show MidS w (w5.setCell ⟨g, 8, none⟩ (.slice A3 0 c3)) B g (.slice A3 0 c3) N2 (L ++ p) ((n - m) / 64) (.slice (A.map (·.add m)) (n - m) (c - m)) (Value.slice Ao (L.length % 64) co).ownBlock from
      ⟨L ++ p.take m, p.drop m, (A.map (·.add m)), (c - m), by rw [List.length_drop, HN.out] <;> first | rfl | simp [Addr.add], by rw [List.append_assoc, List.take_append_drop], hl6, by rw [List.length_drop, HN.out], by rw [List.length_drop, HN.out]; omega, by
        rw [List.length_drop, HN.out]
        exact ⟨hpt6.1, fun hn ad had => by rw [ownS_cut A3 0 64 c3]; exact hpt6.2 hn ad had⟩, hk6, hb6, ⟨(HEL4.out.obj hcg5), HRO6.out⟩, fun b hb => HPL.out b (List.mem_of_mem_drop hb)⟩)
    have HMl := Lib.hid (show (L ++ p).length ≤ 140737488355328 by rw [List.length_append, HN.out]; omega)
    clear hk6 hl6 hb6 hpt6 hown6 hcg5 hk5 hf5 hB5 hg5 HSB HC hg3 hat3 hB3 hk8 hf8 hown3 hc8 h9 f9 hw1' hadd
    obtain ⟨w6, hw6⟩ : ∃ w6, w6 = w5.setCell ⟨g, 8, none⟩ (.slice A3 0 c3) := ⟨_, rfl⟩
    rw [← hw6] at HMID
    rw [← hw6]
    clear hw6
    go_loopg [1] ((n - m) / 64) (fun gk s1 wr => Hid (MidS w wr B g (.slice A3 0 c3) N2 (L ++ p) gk s1 (Value.slice Ao (L.length % 64) co).ownBlock))
    case atStart => exact HMID
    case round =>
      clear HMID
      obtain ⟨Lq, q, A2, c2, rfl, hM, hq0, hqg, hqc, hpt, hwk, hb, ⟨hel, hro⟩, hqb⟩ := hrel.out
      clear hrel
      have hh8 := hwk.blk.cell 8
      rw [workL_open (list_length _)] at hh8
      have hBs : B ≤ wr.heap.size := Nat.le_trans hwk.base (Nat.le_of_lt hwk.lt)
      have hq47 : q.length ≤ 140737488355328 := by have h1 := congrArg List.length hM; have h2 := HMl.out; simp only [List.length_append] at h1 h2; omega
      cases gk with
      | zero =>
        have hq : (q.length : Int) < 64 := by omega
        have hq2 : q.length < 64 := by omega
        have HO := Lib.hid (show wr.ownsRow B 5 1 (.slice A3 0 c3) 0 [] by
          have := hwk.own
          rw [opn_nil hq0, hq0] at this
          exact this)
        have HR := Lib.hid hpt.1
        have HWK := Lib.hid hwk
        have HBL := Lib.hid hb
        have HEL := Lib.hid (And.intro hel hro)
        clear hel hro
        have HM2 := Lib.hid hM
        clear hwk hpt hb hM
        go_wp2_with (at_builtin
                     refine wpList_append_any _ rfl (.tmp 77) (.tmp 78) _ rfl B 5 i0 _ 1 1 Tryz.underlying66 hi0 hz0 hz1 hz2 rfl (by omega) (.slice A3 0 c3) 0 [] rfl
                       HO.out wr.heap.size A2 q.length c2 (bs q) rfl HR.out (bs_one _) (by unfold maxLen; omega) (by omega) hBs ?_
                     intro v3 w3 hown3 hg3 hat3
                     simp only [Nat.zero_add, List.nil_append] at hown3
                     obtain ⟨A3, c3, rfl, _⟩ := own_slice hown3
                     have hB3 := HWK.out.blk.grown hg3 (fun e => HWK.out.far e.symm)
                     have hk8 := hB3.cell 8
                     rw [workL_open (list_length _)] at hk8
                     have hf8 := hB3.frozen 8)
        go_end0
        obtain ⟨e1, e2⟩ := opn_more Lq q (by omega)
        have hlaid := HWK.out.laid e1 e2 (by rw [List.length_append]; omega) hqb (by rw [opn_nil hq0, hq0, Nat.zero_add]; exact hown3) hg3 hat3
        rw [← HM2.out] at hlaid
        exact ⟨rfl, .slice A3 q.length c3, by exact hlaid, ((HBL.out.grown hg3 hBs (fun k hk => (HO.out.lt k hk).1)).setCell HWK.out.base _), (HEL.out.1.row hg3 HEL.out.2).obj (only_setCell (World.grownBy.refl w3 (some g)) (.inl rfl) _)⟩
      | succ gk =>
        have hq64 : 64 ≤ q.length := by omega
        have hq : (64 : Int) ≤ (q.length : Int) := by omega
        have hqci : (64 : Int) ≤ (c2 : Int) := by omega
        have hcall := block_any g (st8 Lq) (.slice A3 0 c3) N2 A2 64 (q.take 64) wr hwk.blk hwk.ok (hpt.fore hq64).1 (fun b hb => hqb b (List.mem_of_mem_take hb)) (Nat.le_refl _) (HT.out.below hb htB) (by have := hwk.base; omega)
        have HC := Lib.hid hcall
        have HCUT := Lib.hid (fun w2 (hg : wr.grownBy w2 (some g)) => (hpt.cut (k := 64) hq64 hqc).grown hg)
        have HWK := Lib.hid hwk
        have HBL := Lib.hid hb
        have HEL := Lib.hid (And.intro hel hro)
        clear hel hro
        have HM2 := Lib.hid hM
        clear hcall hwk hpt hb hM
        by_cases hc64 : c2 = 64
        · subst hc64
          go_wp2_with fail
          refine HC.out.mono ?_
          rintro _ w2 ⟨rfl, hB2, hg2⟩
          go_wp2_with fail
          have hcut := HCUT.out w2 hg2
          simp only [if_true] at hcut
          go_roundg gk
          case measure => omega
          case rel =>
            refine Lib.hid ⟨Lq ++ q.take 64, q.drop 64, A2, 0, by rw [List.length_drop, show q.length - 64 = 0 by omega], by rw [HM2.out, List.append_assoc, List.take_append_drop], by rw [List.length_append, List.length_take]; omega, by rw [List.length_drop]; omega, by rw [List.length_drop]; omega, by rw [List.length_drop]; exact hcut, wk_block HWK.out hq0 (by rw [List.length_take]; omega) (fun b hb => hqb b (List.mem_of_mem_take hb)) hB2 hg2, HBL.out.grown hg2 hBs (fun k hk => by injection hk with hk; subst hk; exact HWK.out.base), ⟨HEL.out.1.obj hg2, HEL.out.2⟩, fun b hb => hqb b (List.mem_of_mem_drop hb)⟩
        · go_wp2_with fail
          refine HC.out.mono ?_
          rintro _ w2 ⟨rfl, hB2, hg2⟩
          go_wp2_with fail
          have hcut := HCUT.out w2 hg2
          rw [if_neg hc64] at hcut
          go_roundg gk
          case measure => omega
          case rel =>
            refine Lib.hid ⟨Lq ++ q.take 64, q.drop 64, A2.map (·.add 64), c2 - 64, by rw [List.length_drop]; first | rfl | simp [Addr.add], by rw [HM2.out, List.append_assoc, List.take_append_drop], by rw [List.length_append, List.length_take]; omega, by rw [List.length_drop]; omega, by rw [List.length_drop]; omega, by rw [List.length_drop]; exact hcut, wk_block HWK.out hq0 (by rw [List.length_take]; omega) (fun b hb => hqb b (List.mem_of_mem_take hb)) hB2 hg2, HBL.out.grown hg2 hBs (fun k hk => by injection hk with hk; subst hk; exact HWK.out.base), ⟨HEL.out.1.obj hg2, HEL.out.2⟩, fun b hb => hqb b (List.mem_of_mem_drop hb)⟩
end Go.Proofs.YtpgdlmnhomnblaaGreatDoor
