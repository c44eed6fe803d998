/- Contract of package texts' readList: the texts that it reads, and the reader behind them. -/
import Derived.BigQuiet
import Derived.Deep.QuietTactic
import Derived.Test.YtppeagjklndidaaGreatDoorTxRead
import Derived.Test.YtppeagjklndidaaGreatDoorJ34
import Derived.Test.YtppeagjklndidaaGreatDoorJ12
import Derived.Test.YtppeagjklndidaaGreatDoorJ29
import Derived.Test.YtppeagjklndidaaGreatDoorJ31
import Derived.Test.YtppeagjklndidaaGreatDoorRBlob
import Derived.Test.YtppeagjklndidaaGreatDoorJ6
namespace Go.Proofs.YtppeagjklndidaaGreatDoor
open Go.RowKit
set_option linter.unusedVariables false
set_option linter.unusedSimpArgs false
set_option maxRecDepth 100000
attribute [local go_sem] binOp_leq_tx

theorem varT_first {w : World} {g : Nat} {b : List Nat} (h : RdS w g b 0 none) :
    Calls Tryz.prog 35 #[.pointer (some ⟨g, 0, none⟩)] w fun e w' => e = .returned (.int .u64 (vv b 0 : Int)) ∧ RdTo w g b (vst b 1).1 (vst b 1).2 w' := var_is h
/-- The texts that are read, all of them where there is no error; the reader behind them. -/
def ReadLT (w : World) (g : Nat) (b : List Nat) (n : Nat) (e : Ending) (w' : World) : Prop :=
  ∃ v X, e = .returned v ∧ w'.ownsRow w.heap.size 9 1 v X.length (ts X) ∧ (X.length ≤ n ∧ ((rdt b n).1.2 = none → X = (rdt b n).2)) ∧ RdTo w g b (rdt b n).1.1 (rdt b n).1.2 w'
theorem blobS_byte {b : List Nat} (hb : ∀ x ∈ b, x < 256) (at_ : Nat) (x : Option (Int × Nat)) (most : Int) : ∀ y ∈ (blobS b at_ x most).1, y < 256 := by
  intro y hy
  unfold blobS at hy
  cases x with
  | some z => simp at hy
  | none =>
    simp only at hy
    split at hy
    · exact hb y (List.mem_of_mem_drop (List.mem_of_mem_take (List.mem_of_mem_drop hy)))
    · simp at hy
theorem only_row {a w w2 : World} {g n : Nat} {B : Nat} {t : TypeId} {v : Value} {xs : List Value} (h : a.grownBy w (some g)) (hB : a.heap.size ≤ B) (hown : w.ownsRow B t 1 v n xs) (o : Obj) (hg : (w.alloc o).grownBy w2 v.ownBlock) : a.grownBy w2 (some g) := by
  have h1 := only_alloc h o
  refine ⟨hg.os.trans h1.os, hg.tape.trans h1.tape, hg.output.trans h1.output, Nat.le_trans h1.size hg.size, fun i hi hne => ?_⟩
  refine (hg.block i (Nat.lt_of_lt_of_le hi h1.size) (fun e => ?_)).trans (h1.block i hi hne)
  have := (hown.lt i e.symm).1
  omega
theorem Met.rd {w w' : World} {g : Nat} {l : List Nat} {at_ : Nat} {x : Option (Int × Nat)} (h : Met w) (hS : RdS w g l at_ x) (hg : w.grownBy w' (some g)) : Met w' := by
  unfold Met at h ⊢
  refine hg.cell h (fun e => ?_)
  injection e with e
  obtain ⟨A, n, c, err, hR, _⟩ := hS
  have h0 := hR.blk.cell 0
  rw [← e] at h0
  rw [h0] at h
  simp at h
set_option maxHeartbeats 1000000 in
theorem readLT_much {w : World} {g : Nat} {b : List Nat} (n : Nat) (h : RdS w g b 0 none) (hn : n ≤ 65536) (hmet : Met w) (hcn : n < vv b 0) :
    Calls Tryz.prog 25 #[.pointer (some ⟨g, 0, none⟩), .int .i64 (n : Int)] w (ReadLT w g b n) := by
  have hby := h.byte
  have hgw := h.lt
  have hv0 := vv_lt hby 0
  have hnw : IntKind.u64.wrap (n : Int) = (n : Int) := IntWalk.u64_in _ (by omega)
  have hvi := varT_first h
  have hno : (vst b 1).2 = none := by
    cases hx : (vst b 1).2 with
    | none => rfl
    | some y => have := vv_err hx; omega
  have HR : Hid (rdt b n = (((vst b 1).1, some (5, (vst b 1).1)), [])) := Lib.hid (by unfold rdt; rw [if_pos hcn, hno]; rfl)
  rw [hno] at hvi
  have HV := Lib.hid hvi
  obtain ⟨c, hc⟩ : ∃ c, c = vv b 0 := ⟨_, rfl⟩
  obtain ⟨a1, ha⟩ : ∃ a1, a1 = (vst b 1).1 := ⟨_, rfl⟩
  rw [← hc] at HV hv0 hcn
  rw [← ha] at HV HR
  have hc0 : 0 < c := by omega
  clear hvi hno hc ha hby
  go_enter Tryz.func25, Tryz.ntmps25
  go_wp2_with fail
  go_step3
  go_wp2_with fail
  refine HV.out.mono ?_
  rintro e w1 ⟨rfl, hS1, hG1⟩
  go_wp2_with fail
  refine (fail_is 5 hS1).mono ?_
  rintro e w2 ⟨rfl, hS2, hG2⟩
  have hS2' : RdS w2 g b a1 (some (5, a1)) := hS2
  have hG02 := only_trans hG1 hG2
  clear hS1 hG1 hS2 hG2
  go_wp2_with fail
  go_step3
  go_wp2_with fail
  go_loopg [6, 19] 0 (fun gg s6 s19 wr => s6 = .slice none 0 0 ∧ s19 = .int .u64 ((0 : Nat) : Int) ∧ wr = w2)
  case atStart => exact ⟨rfl, rfl, rfl⟩
  case round =>
    obtain ⟨rfl, rfl, rfl⟩ := hrel
    go_wp2_with fail
    refine (blob_is 65536 hS2' (by omega) (by omega)).mono ?_
    rintro e w3 ⟨⟨A3, n3, c3, rfl, r3⟩, hS3, hG3⟩
    have hcv := text_of c3 r3 (by intro x hx; simp [blobS] at hx)
    have hS3' : RdS w3 g b a1 (some (5, a1)) := hS3
    have hG03 := only_trans hG02 hG3
    have hm3 := hmet.rd h hG03
    have HE := Lib.hid (err_is hm3 hS3')
    clear hS3 hG3 r3 hS2' hG02
    go_wp2_with fail
    refine HE.out.mono ?_
    rintro e w4 ⟨he, hb4⟩
    have he' : e = .returned (.tuple #[.int .i64 5, .int .i64 (a1 : Int)]) := he
    subst he'
    have hS4 := hS3'.next hb4
    have hG04 := only_below hG03 hb4
    clear he hcv hm3 hS3' hG03 hb4
    go_wp2_with fail
    rw [Exit.noGoto_ret]
    go_ret
    refine ⟨.slice none 0 0, [], rfl, own_nil _ _ _ _, ⟨Nat.zero_le _, fun h0 => ?_⟩, ?_⟩
    · rw [HR.out] at h0; cases h0
    · rw [HR.out]; exact ⟨hS4, hG04⟩
theorem ts_snoc' (l : List Tx) (s : Tx) : ts l ++ [Value.string ⟨s.toArray⟩] = ts (l ++ [s]) := by simp [ts]
theorem tdS_go {b : List Nat} {k a2 : Nat} {p : List Nat} {x2 : Option (Int × Nat)} (hx : (tdS b k).1.2 = none) (hv : blobS b (tdS b k).1.1 none 65536 = (p, a2, x2)) :
    tdS b (k + 1) = (if k ≠ 0 ∧ ¬ tlt (tdS b k).2 (tb p) then (a2, failS a2 x2 4) else (a2, x2), tb p) := by
  conv => lhs; unfold tdS
  simp only
  rw [hx, hv]
theorem tdS_far {b : List Nat} {k c : Nat} {y : Int × Nat} {a : Nat} (hk : k ≤ c) (h : (tdS b k).1 = (a, some y)) : (tdS b c).1 = (a, some y) := by
  have := tdS_stop (b := b) (k := k) (y := y) (by rw [h]) (c - k)
  rw [show k + (c - k) = c by omega] at this
  rw [this, h]
set_option maxHeartbeats 2000000 in
theorem readLT_ok {w : World} {g : Nat} {b : List Nat} (n : Nat) (h : RdS w g b 0 none) (hn : n ≤ 65536) (hmet : Met w) (hcn : ¬ n < vv b 0) :
    Calls Tryz.prog 25 #[.pointer (some ⟨g, 0, none⟩), .int .i64 (n : Int)] w (ReadLT w g b n) := by
  obtain ⟨i1, hi1, hy0, hy1, hy2⟩ := info_parts info_str
  have hby := h.byte
  have hgw := h.lt
  have hnw : IntKind.u64.wrap (n : Int) = (n : Int) := IntWalk.u64_in _ (by omega)
  have hvi := varT_first h
  have HR : Hid (rdt b n = ((tdS b (vv b 0)).1, tdL b (vv b 0))) := Lib.hid (by unfold rdt; rw [if_neg hcn])
  have HER : Hid ((tdS b 0).1.2 = none ∨ vv b 0 = 0) := Lib.hid (by
    cases hx : (vst b 1).2 with
    | none => exact .inl hx
    | some y => exact .inr (vv_err hx))
  have hfa : 9 ≠ 116 := by decide
  have HV := Lib.hid hvi
  obtain ⟨c, hc⟩ : ∃ c, c = vv b 0 := ⟨_, rfl⟩
  rw [← hc] at HV hcn HR HER
  have hcn' : c ≤ n := by omega
  have d15 : decide (n < c) = false := by simp; omega
  have HBY := Lib.hid hby
  have HFA := Lib.hid hfa
  clear hvi hc hby hcn hfa
  go_enter Tryz.func25, Tryz.ntmps25
  go_wp2_with fail
  go_step3
  go_wp2_with fail
  refine HV.out.mono ?_
  rintro e w1 ⟨rfl, hS1, hG1⟩
  have hS1' : RdS w1 g b (tdS b 0).1.1 (tdS b 0).1.2 := hS1
  clear hS1
  go_wp2_with fail
  go_step3
  go_wp2_with fail
  go_loopg [6, 19] c (fun gg s6 s19 wr => ∃ k : Nat, k + gg = c ∧ s19 = .int .u64 (k : Int) ∧ wr.ownsRow w.heap.size 9 1 s6 k (ts (tdL b k)) ∧ RdS wr g b (tdS b k).1.1 (tdS b k).1.2 ∧ w.grownBy wr (some g) ∧ Hid ((tdS b k).1.2 = none ∨ c = 0))
  case atStart => exact ⟨0, by omega, rfl, own_nil _ _ _ _, hS1', hG1, HER⟩
  case round =>
    clear hS1' hG1
    obtain ⟨k, hkg, rfl, hown, hS, hG, hX⟩ := hrel
    by_cases hlt : k < c
    · have hx0 : (tdS b k).1.2 = none := hX.out.resolve_right (by omega)
      rcases hV : blobS b (tdS b k).1.1 none 65536 with ⟨p, a2, x2⟩
      have hgo := tdS_go hx0 hV
      rw [hx0] at hS
      have hpb : ∀ y ∈ p, y < 256 := by have := blobS_byte HBY.out (tdS b k).1.1 none 65536; rw [hV] at this; exact this
      have hbl := blob_is 65536 hS (by omega) (by omega)
      rw [hV] at hbl
      have hok : ∀ y, x2 = some y → y.1 ≠ 0 := fun y hy => blobS_ok b (tdS b k).1.1 65536 y (by rw [hV]; exact hy)
      have HLA : Hid (∀ j, k = j + 1 → (ts (tdL b k))[j]? = some (.string ⟨(tdS b k).2.toArray⟩)) := Lib.hid fun j hj => ts_get (by rw [tdL_at b k j (by omega), hj])
      obtain ⟨last, hl0⟩ : ∃ s, s = (tdS b k).2 := ⟨_, rfl⟩
      rw [← hl0] at hgo HLA
      have HBL := Lib.hid hbl; have HPB := Lib.hid hpb; have HOK := Lib.hid hok; have HGO := Lib.hid hgo
      obtain ⟨A6, c6, rfl, _, _, _⟩ := own_slice hown
      clear hbl hpb hok hgo hV hl0 hX hx0 hS
      go_wp2_with fail
      refine HBL.out.mono ?_
      rintro e w3 ⟨⟨A3, n3, c3, rfl, r3⟩, hS3, hG3⟩
      have hcv := text_of c3 r3 HPB.out
      have hS3' : RdS w3 g b a2 x2 := hS3
      have hG03 := only_trans hG hG3
      have hown3 := own_before hown hG3 (fun r hr => by injection hr with hr; omega)
      have hm3 := hmet.rd h hG03
      have HE := Lib.hid (err_is hm3 hS3')
      obtain ⟨T, hT⟩ : ∃ T, T = tb p := ⟨_, rfl⟩
      have hcv' : (convert 22 9 (.slice A3 n3 c3)).run Tryz.prog w3 = .ok (.string ⟨T.toArray⟩) w3 := by rw [hT]; exact hcv
      rw [← hT] at HGO
      clear hS3 hG3 r3 hG hown hT hcv HBL HPB
      go_wp2_with fail
      refine HE.out.mono ?_
      rintro e w4 ⟨he, hb4⟩
      have hS4 := hS3'.next hb4
      have hG04 := only_below hG03 hb4
      have hown4 := own_below hown3 hb4
      clear hcv' hm3 hS3' hG03 hb4 HE hown3
      cases x2 with
      | some y =>
        have hy := HOK.out y rfl
        obtain ⟨y1, y2⟩ := y
        have he' : e = .returned (.tuple #[.int .i64 y1, .int .i64 (y2 : Int)]) := he
        subst he'
        have q1 : (y1 != 0) = true := by simpa using hy
        have q2 : (y1 == 0) = false := by simpa using hy
        have HF : Hid ((tdS b c).1 = (a2, some (y1, y2))) := Lib.hid (tdS_far (k := k + 1) (by omega) (by rw [HGO.out]; simp only; split <;> rfl))
        clear he hy HGO HOK
        go_wp2_with fail
        rw [Exit.noGoto_ret]
        go_ret
        refine ⟨_, tdL b k, rfl, by rw [tdL_length]; exact hown4, ⟨by rw [tdL_length]; omega, fun h0 => ?_⟩, ?_⟩
        · rw [HR.out] at h0; simp only at h0; rw [HF.out] at h0; cases h0
        · rw [HR.out]; simp only; rw [HF.out]; exact ⟨hS4, hG04⟩
      | none =>
        have he' : e = .returned (.tuple #[.int .i64 0, .int .i64 ((0 : Nat) : Int)]) := he
        subst he'
        clear he HOK
        have hfin : ∀ (v5 : Value) (w5 : World) (o : Obj), w5.ownsRow w.heap.size 9 1 v5 (k + 1) (ts (tdL b k) ++ [.string ⟨T.toArray⟩]) → (w4.alloc o).grownBy w5 (Value.slice A6 k c6).ownBlock → tdS b (k + 1) = ((a2, none), T) →
            w5.ownsRow w.heap.size 9 1 v5 (k + 1) (ts (tdL b (k + 1))) ∧ RdS w5 g b (tdS b (k + 1)).1.1 (tdS b (k + 1)).1.2 ∧ w.grownBy w5 (some g) ∧ Hid ((tdS b (k + 1)).1.2 = none ∨ c = 0) := by
          intro v5 w5 o h1 h2 h3
          refine ⟨?_, ?_, only_row hG04 (Nat.le_refl _) hown4 o h2, Lib.hid (.inl (by rw [h3]))⟩
          · rw [tdL_succ, h3, ← ts_snoc' ]; exact h1
          · rw [h3]; exact hS4.app hown4 HFA.out hgw o h2
        have HFIN := Lib.hid hfin
        clear hfin
        by_cases hk0 : k = 0
        case' pos =>
          have HG1 : Hid (tdS b (k + 1) = ((a2, none), T)) := Lib.hid (by rw [HGO.out, if_neg (fun hh => hh.1 hk0)])
          have d1 : ¬ 0 < k := by omega
          clear HLA HGO hk0
          go_wp2_with (at_builtin
                       refine wpList_append_any _ rfl (.tmp 48) (.tmp 50) _ rfl w.heap.size 9 i1 _ 1 16 Tryz.underlying32 hi1 hy0 hy1 hy2 rfl (by omega) (.slice A6 k c6) k (ts (tdL b k)) rfl
                         (hown4.alloc _) (w4.heap.size + 1) (some ⟨w4.heap.size, 0, none⟩) 1 1 [.string ⟨T.toArray⟩] rfl (Reads.new w4 _ _) (ts_one [T]) (by unfold maxLen; omega) (by omega) (by have := hG04.size; simp; omega) ?_
                       intro v5 w5 hown5 hg5 hat5)
        case' neg =>
          obtain ⟨j, hj⟩ : ∃ j, k = j + 1 := ⟨k - 1, by omega⟩
          have HJ := Lib.hid (HLA.out j hj)
          have hjk : j < k := by omega
          have hk1 : (k : Int) - 1 = (j : Int) := by omega
          have d1 : 0 < k := by omega
          have hkn : k ≠ 0 := hk0
          obtain ⟨ad, u, rfl, _, hu, hcl⟩ := (Reads.of_own hown4).at_ hjk
          obtain rfl : u = .string ⟨last.toArray⟩ := by rw [HJ.out] at hu; exact (Option.some.inj hu).symm
          by_cases hlt2 : tlt last T
          case' neg =>
            have HF : Hid ((tdS b c).1 = (a2, some (4, a2))) := Lib.hid (tdS_far (k := k + 1) (by omega) (by rw [HGO.out, if_pos ⟨hkn, hlt2⟩]; rfl))
            have q1 : decide (tlt last T) = false := by simp [hlt2]
            clear HGO hlt2 hu hj hk0 hkn HFIN HJ HLA
            go_wp2_with fail
            refine (fail_is 4 hS4).mono ?_
            rintro e w5 ⟨rfl, hS5, hG5⟩
            have hG05 := only_trans hG04 hG5
            have hown5 := own_before hown4 hG5 (fun r hr => by injection hr with hr; omega)
            clear hS4 hG5 hG04 hown4
            go_wp2_with fail
            rw [Exit.noGoto_ret]
            go_ret
            refine ⟨_, tdL b k, rfl, by rw [tdL_length]; exact hown5, ⟨by rw [tdL_length]; omega, fun h0 => ?_⟩, ?_⟩
            · rw [HR.out] at h0; simp only at h0; rw [HF.out] at h0; cases h0
            · rw [HR.out]; simp only; rw [HF.out]; exact ⟨hS5, hG05⟩
          case' pos =>
            have HG1 : Hid (tdS b (k + 1) = ((a2, none), T)) := Lib.hid (by rw [HGO.out, if_neg (fun hh => hh.2 hlt2)])
            have q1 : decide (tlt last T) = true := by simp [hlt2]
            clear HGO hlt2 hu hj hk0 hkn HJ HLA
            go_wp2_with (at_builtin
                         refine wpList_append_any _ rfl (.tmp 48) (.tmp 50) _ rfl w.heap.size 9 i1 _ 1 16 Tryz.underlying32 hi1 hy0 hy1 hy2 rfl (by omega) (.slice (some ad) k c6) k (ts (tdL b k)) rfl
                           (hown4.alloc _) (w4.heap.size + 1) (some ⟨w4.heap.size, 0, none⟩) 1 1 [.string ⟨T.toArray⟩] rfl (Reads.new w4 _ _) (ts_one [T]) (by unfold maxLen; omega) (by omega) (by have := hG04.size; simp; omega) ?_
                         intro v5 w5 hown5 hg5 hat5)
        all_goals
          obtain ⟨f1, f2, f3, f4⟩ := HFIN.out v5 w5 _ hown5 hg5 HG1.out
          clear hown5 hg5 hS4 hown4 hG04 HFIN
          go_roundg (c - (k + 1))
          case rel => exact ⟨k + 1, by omega, by go_num, f1, f2, f3, f4⟩
          case measure => omega
    · obtain rfl : k = c := by omega
      go_wp2_with fail
      rw [Exit.noGoto_ret]
      go_ret
      refine ⟨_, tdL b k, rfl, by rw [tdL_length]; exact hown, ⟨by rw [tdL_length]; exact hcn', fun _ => by rw [HR.out]⟩, ?_⟩
      rw [HR.out]; exact ⟨hS, hG⟩
end Go.Proofs.YtppeagjklndidaaGreatDoor
