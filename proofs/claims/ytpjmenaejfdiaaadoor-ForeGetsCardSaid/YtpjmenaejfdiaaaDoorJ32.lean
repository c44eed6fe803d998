/- Texts joined: FoGet SameZ. -/
import Derived.Test.YtpjmenaejfdiaaaDoorJ31
import Derived.Test.YtpjmenaejfdiaaaDoorJ17
import Derived.Test.YtpjmenaejfdiaaaDoorJ16
import Derived.Deep.QuietTactic
import Derived.BigQuiet
import Derived.Test.YtpjmenaejfdiaaaDoorJ11
import Derived.Test.YtpjmenaejfdiaaaDoorJ2
/- Contract of package fore's Get: the numbers in new memory, or the error's number. -/
namespace Go.Proofs.YtpjmenaejfdiaaaDoor
open Go.RowKit
set_option linter.unusedVariables false
set_option linter.unusedSimpArgs false
set_option maxRecDepth 100000

theorem foGet_no (A : Option Addr) (n c : Nat) (b : List Nat) (k : Int) (w : World) (h : k < 0 ∨ 65536 < k) :
    Calls Tryd.prog 6 #[.slice A n c, .int .i64 k] w (NewLE w (fG b k) (fE b k)) := by
  obtain ⟨h1, h2⟩ := fE_bad (b := b) h
  rw [h1, h2]
  clear h1 h2
  by_cases hk : k < 0
  · clear h
    go_enter Tryd.func6, Tryd.ntmps6
    go_wp2_with fail
    go_ret2
    exact ⟨.slice none 0 0, rfl, own_nil _ _ _ _, Below.refl _ _⟩
  · have d1 : decide (k < 0) = false := by simp; omega
    have h2 : 65536 < k := by omega
    clear h
    go_enter Tryd.func6, Tryd.ntmps6
    go_wp2_with fail
    go_ret2
    exact ⟨.slice none 0 0, rfl, own_nil _ _ _ _, Below.refl _ _⟩
set_option maxHeartbeats 1000000 in
theorem foGet_zero (A : Option Addr) (n c : Nat) (b : List Nat) (w : World) (hr : Reads w w.heap.size 1 A n (bs b)) (hb : ∀ x ∈ b, x < 256) (hn : n ≤ 140737488355328) (hmet : Met w) :
    Calls Tryd.prog 6 #[.slice A n c, .int .i64 0] w (NewLE w (fG b 0) (fE b 0)) := by
  rw [fG_zero]
  have hmk : ∀ W : World, (Instr.makeSlice 24 (.int .i64 0) (.int .i64 0)).run Tryd.prog W = .ok (.slice (some ⟨W.heap.size, 0, none⟩) 0 0) (W.alloc (.cells (madeCells #[.int .i64 0] 0) 2)) := fun W => run_make_i64 0 0 (Nat.le_refl _) (by omega) W
  have HE : Hid (fE b 0 = (endS b 0 none).1) := Lib.hid (by
    unfold fE fst_
    rw [if_neg (by omega), show (0 : Int).toNat = 0 from rfl, if_pos rfl])
  have HB := Lib.hid hb
  clear hb
  go_enter Tryd.func6, Tryd.ntmps6
  go_wp2_with fail
  refine (newReader_any A n c b w hr hn HB.out).mono ?_
  rintro e w1 ⟨g, A1, c1, rfl, hg, hR1, hb1⟩
  have hS1 := rd_new hR1
  have hcl := end_is (hmet.next hb1) hS1
  obtain ⟨r, hr0⟩ : ∃ r, r = (endS b 0 none).1 := ⟨_, rfl⟩
  obtain ⟨o, ho⟩ : ∃ o : Int, o = ((endS b 0 none).2 : Int) := ⟨_, rfl⟩
  rw [← hr0, ← ho] at hcl
  rw [← hr0] at HE
  have HCL := Lib.hid hcl
  clear hr0 ho hcl hR1 hS1
  go_wp2_with fail
  refine HCL.out.mono ?_
  rintro e wy ⟨he, hby⟩
  have he' : e = .returned (.tuple #[.int .i64 r, .int .i64 o]) := he
  subst he'
  clear he HCL
  have hb0y := hb1.trans (hby.mono hb1.size)
  by_cases hrz : r = 0
  · subst hrz
    clear hb1 hby
    go_wp2_with fail
    clear hmk
    go_loop [43] (fun s43 => s43 = .int .i64 0) (fun _ => 0)
    case atStart => rfl
    case round =>
      subst hrel
      go_wp2_with fail
      go_ret2
      rw [HE.out]
      have hown : (wy.alloc (.cells (madeCells #[.int .i64 0] 0) 2)).ownsRow wy.heap.size 2 1 (.slice (some ⟨wy.heap.size, 0, none⟩) 0 0) 0 [] :=
        World.ownsRow_made wy _ _ (Nat.le_refl _) (by unfold maxLen; omega) (by rw [size_madeCells])
      exact ⟨_, rfl, own_base hown hb0y.size, hb0y.alloc hb0y.size _⟩
  · have q1 : (r == 0) = false := by simp [hrz]
    have q2 : (r != 0) = true := by simp [hrz]
    clear hrz hb1 hby
    go_wp2_with fail
    go_ret2
    rw [HE.out]
    exact ⟨.slice none 0 0, rfl, own_nil _ _ _ _, hb0y⟩
theorem up_eq {m : Int} {d : Nat} (hm : In64 m) (h : d ≤ roomI m) : wrap64 (m + wrap64 (d : Int)) = m + (d : Int) := by
  unfold In64 at hm
  unfold roomI at h
  rw [w64, w64]
  omega
theorem ups_at {m : Int} {D : List Nat} {k d : Nat} (h : D[k]? = some d) : (zs (ups m D))[k]? = some (.int .i64 (m + (d : Int))) := by
  refine zs_get ?_
  unfold ups
  rw [List.getElem?_map, h]
  rfl
set_option maxHeartbeats 2000000 in
theorem foGet_ok (A : Option Addr) (n c N : Nat) (b : List Nat) (w : World) (hr : Reads w w.heap.size 1 A n (bs b)) (hb : ∀ x ∈ b, x < 256) (hn : n ≤ 140737488355328) (hN : N ≤ 65536) (h0 : 0 < N) (hmet : Met w) :
    Calls Tryd.prog 6 #[.slice A n c, .int .i64 (N : Int)] w (NewLE w (fG b (N : Int)) (fE b (N : Int))) := by
  have d1 : decide ((N : Int) < 0) = false := by simp
  have d2 : decide ((65536 : Int) < (N : Int)) = false := by simp; omega
  have HE : Hid (fE b (N : Int) = (endS b (fst_ b N).1 (fst_ b N).2).1) := by
    unfold fE
    rw [if_neg (by omega), Int.toNat_natCast]
    try exact Lib.hid rfl
  have HG : Hid (fG b (N : Int) = if fE b (N : Int) = 0 then ups (fM b) (fD b N) else []) := by
    unfold fG
    rw [Int.toNat_natCast]
    try exact Lib.hid rfl
  have hok := fun h => fD_ok hb hN (k := N) h
  have hv0 := vv_lt hb 0
  have hM64 := fM_in hb
  have hst : fst_ b N = (raS b (vst b 1).1 (vst b 1).2 (N : Int) (fM b)).2 := by unfold fst_; rw [if_neg (by omega)]
  have hfd : fD b N = (raS b (vst b 1).1 (vst b 1).2 (N : Int) (fM b)).1 := by unfold fD; rw [if_neg (by omega)]
  have hM : zagI (vv b 0 : Int) = fM b := rfl
  obtain ⟨m, hm⟩ : ∃ m, m = fM b := ⟨_, rfl⟩
  rw [← hm] at hM64 hst hfd hM hok HG
  have HB := Lib.hid hb; have HOK := Lib.hid hok; have HST := Lib.hid hst; have HFD := Lib.hid hfd; have HM := Lib.hid hM
  clear hb hok hst hfd hM hm
  go_enter Tryd.func6, Tryd.ntmps6
  go_wp2_with fail
  refine (newReader_any A n c b w hr hn HB.out).mono ?_
  rintro e w1 ⟨g, A1, c1, rfl, hg, hR1, hb1⟩
  have hS1 := rd_new hR1
  have hz1 := hb1.size
  clear hR1
  go_wp2_with fail
  refine (var_0 hS1).mono ?_
  rintro e w3 ⟨rfl, hS3, hG3⟩
  have hb3 : Below w.heap.size w w3 := hb1.grown hG3 hb1.size (fun j hj => by injection hj with hj; omega)
  clear hS1 hG3
  go_wp2_with fail
  refine (zag_any (vv b 0) w3 hv0).mono ?_
  rintro e w' ⟨rfl, rfl⟩
  rw [HM.out]
  have hcall := above_any (N : Int) m hS3 (by omega) hM64
  rw [← HFD.out, ← HST.out] at hcall
  have HC := Lib.hid hcall
  have hgl := hS3.lt
  clear hcall hS3
  go_wp2_with fail
  refine HC.out.mono ?_
  rintro e w5 ⟨v5, rfl, hown5, hS5, hG5⟩
  have hb5 : Below w.heap.size w w5 := hb3.grown hG5 hb3.size (fun j hj => by injection hj with hj; omega)
  obtain ⟨A5, c5, rfl, _, _, r5⟩ := own_slice hown5
  have hcl := end_is (hmet.next hb5) hS5
  obtain ⟨r, hr0⟩ : ∃ r, r = (endS b (fst_ b N).1 (fst_ b N).2).1 := ⟨_, rfl⟩
  obtain ⟨o, ho⟩ : ∃ o : Int, o = ((endS b (fst_ b N).1 (fst_ b N).2).2 : Int) := ⟨_, rfl⟩
  rw [← hr0, ← ho] at hcl
  rw [← hr0] at HE
  have HCL := Lib.hid hcl
  clear hr0 ho hcl hS5 hG5 hown5 HC hb3
  go_wp2_with fail
  refine HCL.out.mono ?_
  rintro e wy ⟨he, hby⟩
  have he' : e = .returned (.tuple #[.int .i64 r, .int .i64 o]) := he
  subst he'
  clear he HCL
  have hb0y := hb5.trans (hby.mono hb5.size)
  have ry := r5.next hby
  clear r5 hb5 hby
  by_cases hrz : r = 0
  · subst hrz
    obtain ⟨hlen, hfit⟩ := HOK.out HE.out
    have HG' : Hid (fG b (N : Int) = ups m (fD b N)) := Lib.hid (by rw [HG.out, HE.out, if_pos rfl])
    obtain ⟨D, hD⟩ : ∃ D, D = fD b N := ⟨_, rfl⟩
    rw [← hD] at hlen hfit HG' ry ⊢
    have hXz : (zs (ups m D)).length = N := by rw [zs_length, ups_length, hlen]
    have hmk := fun W => run_make_i64 N N (Nat.le_refl _) (by omega) W
    rw [← fillW_zero (zs (ups m D)) (.int .i64 0) N hXz] at hmk
    have hF0 := Blk.new wy 2 (fillW (zs (ups m D)) (.int .i64 0) 0)
    have hb0 : Below wy.heap.size wy (wy.alloc (.cells (fillW (zs (ups m D)) (.int .i64 0) 0) 2)) := (Below.refl _ _).alloc (Nat.le_refl _) _
    have HX := Lib.hid hXz; have HFT := Lib.hid hfit; have HLN := Lib.hid hlen
    rw [hlen] at ry ⊢
    clear hXz hfit hlen hD HOK
    go_wp2_with fail
    clear hmk
    go_loopw [43] (fun s43 wr => ∃ k : Nat, k ≤ N ∧ s43 = .int .i64 (k : Int) ∧ Blk wr wy.heap.size 2 (fillW (zs (ups m D)) (.int .i64 0) k) ∧ Below wy.heap.size wy wr) (fun i _ => N - (intOf i).toNat)
    case atStart => exact ⟨0, by omega, rfl, hF0, hb0⟩
    case round =>
      clear hF0 hb0
      obtain ⟨k, hk, rfl, hF, hbr⟩ := hrel
      by_cases hlt : k < N
      · obtain ⟨ad, u, rfl, _, hu, hc0⟩ := (ry.below hbr).at_ hlt
        obtain ⟨d, hd, rfl⟩ := us_at hu
        have hdr := HFT.out d (List.mem_of_getElem? hd)
        have hup := up_eq hM64 hdr
        have hc := hF.cell k
        rw [fillW_old _ _ k (by rw [HX.out]; omega)] at hc
        have hf := hF.frozen k
        have HZ := Lib.hid (ups_at (m := m) hd)
        have HUP := Lib.hid hup
        clear hu hd hup
        go_wp2_with fail
        go_round
        case rel =>
          refine ⟨k + 1, by omega, by go_num, ?_, hbr.setCell (Nat.le_refl _) _⟩
          have h1 := hF.set_ k (.int .i64 (m + (d : Int)))
          rw [fillW_next _ _ k _ HZ.out, ← HUP.out] at h1
          exact h1
        case measure => simp [intOf]; omega
      · obtain rfl : k = N := by omega
        go_wp2_with fail
        go_ret2
        rw [fillW_all _ _ k HX.out] at hF
        have hown := own_whole (B := w.heap.size) hF hb0y.size HX.out (by unfold maxLen; omega)
        rw [HG'.out, HE.out]
        refine ⟨_, rfl, ?_, hb0y.trans (hbr.mono hb0y.size)⟩
        rw [ups_length, HLN.out]
        exact hown
  · have q1 : (r == 0) = false := by simp [hrz]
    have q2 : (r != 0) = true := by simp [hrz]
    have H0 := Lib.hid hrz
    clear hrz
    go_wp2_with fail
    go_ret2
    rw [HG.out, HE.out, if_neg H0.out]
    exact ⟨.slice none 0 0, rfl, own_nil _ _ _ _, hb0y⟩
theorem foGet_any (A : Option Addr) (n c : Nat) (k : Int) (b : List Nat) (w : World) (hr : Reads w w.heap.size 1 A n (bs b)) (hb : ∀ x ∈ b, x < 256) (hn : n ≤ 140737488355328) (hmet : Met w) :
    Calls Tryd.prog 6 #[.slice A n c, .int .i64 k] w (NewLE w (fG b k) (fE b k)) := by
  by_cases h : k < 0 ∨ 65536 < k
  · exact foGet_no A n c b k w h
  · obtain ⟨N, rfl⟩ : ∃ N : Nat, k = (N : Int) := ⟨k.toNat, by omega⟩
    rcases Nat.eq_zero_or_pos N with h0 | h0
    · subst h0; exact foGet_zero A n c b w hr hb hn hmet
    · exact foGet_ok A n c N b w hr hb hn (by omega) h0 hmet
end Go.Proofs.YtpjmenaejfdiaaaDoor

/- Contract of the statements' own Same over numbers with a sign (layer 8's): it answers true of the same numbers; nothing changes. -/
namespace Go.Proofs.YtpjmenaejfdiaaaDoor
open Go.RowKit
set_option linter.unusedVariables false
set_option linter.unusedSimpArgs false
set_option maxRecDepth 100000

set_option maxHeartbeats 400000 in
theorem sameZ_true (A A' : Option Addr) (n c c' : Nat) (l : List Int) (w : World) (h1 : Reads w w.heap.size 1 A n (zs l)) (h2 : Reads w w.heap.size 1 A' n (zs l)) (hn : n ≤ 140737488355328) :
    Calls Tryd.prog 8 #[.slice A n c, .slice A' n c'] w fun e w' => e = .returned (.bool true) ∧ Drawn w w' := by
  go_enter Tryd.func8, Tryd.ntmps8
  go_wp2_with fail
  go_loopw [5] (fun i wr => ∃ k : Nat, k ≤ n ∧ i = .int .i64 (k : Int) ∧ ∃ q, wr = w.drewN q) (fun i _ => n - (intOf i).toNat)
  case atStart => exact ⟨0, Nat.zero_le _, rfl, 0, rfl⟩
  case round =>
    obtain ⟨k, hk, rfl, q, rfl⟩ := hrel
    by_cases hlt : k < n
    · obtain ⟨ad, u, rfl, _, hu, hc⟩ := h1.at_ hlt
      obtain ⟨ad', u', rfl, _, hu', hc'⟩ := h2.at_ hlt
      obtain ⟨b, hb, rfl⟩ := zs_at hu
      obtain ⟨b', hb', rfl⟩ := zs_at hu'
      obtain rfl : b = b' := by rw [hb] at hb'; exact Option.some.inj hb'
      clear hb hb' hu hu'
      go_wp2_with fail
      go_quiet (fail)
      go_wp2_with fail
      exact ⟨⟨k + 1, by omega, by go_num, _, rfl⟩, by simp [intOf]; omega⟩
    · go_wp2_with fail
      go_ret
      exact ⟨rfl, _, rfl⟩
end Go.Proofs.YtpjmenaejfdiaaaDoor
