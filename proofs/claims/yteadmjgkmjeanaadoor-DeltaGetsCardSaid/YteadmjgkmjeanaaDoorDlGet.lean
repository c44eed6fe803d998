/- Contract of package delta's Get: the numbers in new memory, or the error's number. -/
import Derived.Test.YteadmjgkmjeanaaDoorJ31
import Derived.Test.YteadmjgkmjeanaaDoorDlSteps
namespace Go.Proofs.YteadmjgkmjeanaaDoor
open Go.RowKit
set_option linter.unusedVariables false
set_option linter.unusedSimpArgs false
set_option maxRecDepth 100000

theorem dlGet_no (A : Option Addr) (n c : Nat) (b : List Nat) (k : Int) (w : World) (h : k < 0 ∨ 65536 < k) :
    Calls Tryd.prog 6 #[.slice A n c, .int .i64 k] w (NewLE w (dG b k) (dE b k)) := by
  obtain ⟨h1, h2⟩ := dE_bad (b := b) h
  rw [h1, h2]
  clear h1 h2
  by_cases hk : k < 0
  · clear h
    go_enter Tryd.func6, Tryd.ntmps6
    go_wp2_with fail
    go_ret2
    exact ⟨.slice none 0 0, rfl, own_nil _ _ _ _, Below.refl _ _⟩
  · have d1 : decide (k < 0) = false := by simp; omega
    have h2 : 65536 < k := by omega
    clear h
    go_enter Tryd.func6, Tryd.ntmps6
    go_wp2_with fail
    go_ret2
    exact ⟨.slice none 0 0, rfl, own_nil _ _ _ _, Below.refl _ _⟩
theorem var_0 {w : World} {g : Nat} {b : List Nat} (h : RdS w g b 0 none) :
    Calls Tryd.prog 15 #[.pointer (some ⟨g, 0, none⟩)] w fun e w' => e = .returned (.int .u64 (vv b 0 : Int)) ∧ RdTo w g b (vst b 1).1 (vst b 1).2 w' := var_is h
/-- What stands ahead of the end: the reader, the steps that are read. -/
def AtEnd (w wr : World) (g : Nat) (b : List Nat) (k : Nat) (v : Value) : Prop :=
  RdS wr g b (dst b k).1 (dst b k).2 ∧ wr.ownsRow w.heap.size 2 1 v (dL b k).length (zs (dL b k)) ∧ Below w.heap.size w wr
theorem zs_cons_snoc (z y : Int) (l : List Int) : zs (z :: l) ++ [Value.int .i64 y] = zs (z :: (l ++ [y])) := by simp [zs]
theorem map_step {l : List Nat} {k v : Nat} (h : l[k]? = some v) : (l.take (k + 1)).map (fun v : Nat => zagI (v : Int)) = (l.take k).map (fun v : Nat => zagI (v : Int)) ++ [zagI (v : Int)] := by
  rw [take_snoc h]; simp
/-- What stands behind so many rounds of the loop over the steps behind the first number. -/
def InLoop (w wr : World) (B g : Nat) (b : List Nat) (s : Nat × Option (Int × Nat)) (A5 : Option Addr) (L : List Nat) (z0 : Int) (k : Nat) (v : Value) : Prop :=
  wr.ownsRow B 2 1 v (k + 1) (zs (z0 :: (L.take k).map fun v : Nat => zagI (v : Int))) ∧ OffR wr v.ownBlock A5 L.length (us L) ∧ RdS wr g b s.1 s.2 ∧ Below w.heap.size w wr
set_option maxHeartbeats 2000000 in
theorem dlGet_ok (A : Option Addr) (n c N : Nat) (b : List Nat) (w : World) (hr : Reads w w.heap.size 1 A n (bs b)) (hb : ∀ x ∈ b, x < 256) (hn : n ≤ 140737488355328) (hN : N ≤ 65536) (hmet : Met w) :
    Calls Tryd.prog 6 #[.slice A n c, .int .i64 (N : Int)] w (NewLE w (dG b (N : Int)) (dE b (N : Int))) := by
  obtain ⟨i1, hi1, hy0, hy1, hy2⟩ := info_parts info_i64
  have d1 : decide ((N : Int) < 0) = false := by simp
  have d2 : decide ((65536 : Int) < (N : Int)) = false := by simp; omega
  have hmk : ∀ W : World, (Instr.makeSlice 24 (.int .i64 0) (.int .i64 (N : Int))).run Tryd.prog W = .ok (.slice (some ⟨W.heap.size, 0, none⟩) 0 N) (W.alloc (.cells (madeCells #[.int .i64 0] N) 2)) := fun W => run_make_i64 0 N (Nat.zero_le _) (by omega) W
  have HE : Hid (dE b (N : Int) = (endS b (dst b N).1 (dst b N).2).1) := by
    unfold dE
    rw [if_neg (by omega), Int.toNat_natCast]
    try exact Lib.hid rfl
  have HG : Hid (dG b (N : Int) = if dE b (N : Int) = 0 then sms 0 (dL b N) else []) := by
    unfold dG
    rw [Int.toNat_natCast]
    try exact Lib.hid rfl
  have hlen := dL_length b N
  have hv0 := vv_lt hb 0
  have HB := Lib.hid hb
  clear hb
  go_enter Tryd.func6, Tryd.ntmps6
  go_wp2_with fail
  refine (newReader_any A n c b w hr hn HB.out).mono ?_
  rintro e w1 ⟨g, A1, c1, rfl, hg, hR1, hb1⟩
  have hS1 := rd_new hR1
  have hg1 := hS1.lt
  have hz1 := hb1.size
  clear hR1
  have hS2 : RdS (w1.alloc (.cells (madeCells #[.int .i64 0] N) 2)) g b 0 none := hS1.alloc _
  have hown2 : (w1.alloc (.cells (madeCells #[.int .i64 0] N) 2)).ownsRow w1.heap.size 2 1 (.slice (some ⟨w1.heap.size, 0, none⟩) 0 N) 0 [] :=
    World.ownsRow_made w1 _ _ (Nat.le_refl _) (by unfold maxLen; omega) (by rw [size_madeCells]; omega)
  have hb2 : Below w.heap.size w (w1.alloc (.cells (madeCells #[.int .i64 0] N) 2)) := hb1.alloc hz1 _
  clear hS1 hb1
  by_cases h0 : N = 0
  case' pos =>
    have h0i : ¬ 0 < N := by omega
    have h1i : ¬ 1 < N := by omega
    have hd : dst b N = (0, none) := by rw [h0]; rfl
    have hL : dL b N = [] := by rw [h0]; rfl
    have hend : AtEnd w (w1.alloc (.cells (madeCells #[.int .i64 0] N) 2)) g b N (.slice (some ⟨w1.heap.size, 0, none⟩) 0 N) := by
      unfold AtEnd
      rw [hd, hL]
      exact ⟨hS2, own_base hown2 hz1, hb2⟩
    clear hS2 hown2 hb2 hd hL h0
    go_wp2_with fail
    obtain ⟨wz, hwz⟩ : ∃ wz, wz = w1.alloc (.cells (madeCells #[.int .i64 0] N) 2) := ⟨_, rfl⟩
    rw [← hwz] at hend ⊢
    obtain ⟨vz, hvz⟩ : ∃ vz, vz = (Value.slice (some ⟨w1.heap.size, 0, none⟩) 0 N) := ⟨_, rfl⟩
    rw [← hvz] at hend ⊢
    clear hwz hvz hmk h0i h1i
  case' neg =>
    have h0i : 0 < N := by omega
    go_wp2_with fail
    refine (var_0 hS2).mono ?_
    rintro e w3 ⟨rfl, hS3, hG3⟩
    have hown3 := own_before hown2 hG3 (fun r hr => by injection hr with hr; omega)
    have hb3 : Below w.heap.size w w3 := hb2.grown hG3 hb2.size (fun j hj => by injection hj with hj; omega)
    have hz3 : w1.heap.size ≤ w3.heap.size := by have := hG3.size; simp at this; omega
    clear hS2 hown2 hb2 hG3 hmk h0i
    go_wp2_with fail
    refine (zag_any (vv b 0) w3 hv0).mono ?_
    rintro e w' ⟨rfl, rfl⟩
    by_cases h1 : N = 1
    case' pos =>
      have h1i : ¬ 1 < N := by omega
      have hd : dst b N = vst b 1 := by rw [h1]; rfl
      have hL : dL b N = [zagI (vv b 0 : Int)] := by rw [h1]; rfl
      have HD := Lib.hid (And.intro hd hL)
      clear h1 h0 hd hL
      go_wp2_with (at_builtin
                   refine wpList_append_any _ rfl (.tmp 24) (.tmp 28) _ rfl w1.heap.size 2 i1 _ 1 8 Tryd.underlying24 hi1 hy0 hy1 hy2 rfl (by omega) (.slice (some ⟨w1.heap.size, 0, none⟩) 0 N) 0 [] rfl
                     (hown3.alloc _) (w3.heap.size + 1) (some ⟨w3.heap.size, 0, none⟩) 1 1 [.int .i64 (zagI (vv b 0 : Int))] rfl (Reads.new w3 _ _) (one_int _ _) (by unfold maxLen; omega) (by omega) (by simp; omega) ?_
                   intro vz wz hown4 hg4 hat4)
      have hend : AtEnd w wz g b N vz := by
        unfold AtEnd
        rw [HD.out.1, HD.out.2]
        exact ⟨hS3.app hown3 (by decide) hg1 _ hg4, own_base hown4 hz1, below_app hb3 (own_base hown3 hz1) hb3.size hg4⟩
      clear HD h1i hS3 hown3 hb3 hown4 hg4 hat4
    case' neg =>
      have h1i : 1 < N := by omega
      have hd : dst b N = (rbS b (vst b 1).1 (vst b 1).2 ((N : Int) - 1)).2 := by unfold dst; rw [if_neg h0, if_neg h1]
      have hL : dL b N = zagI (vv b 0 : Int) :: ((rbS b (vst b 1).1 (vst b 1).2 ((N : Int) - 1)).1.map fun v : Nat => zagI (v : Int)) := by unfold dL; rw [if_neg h0, if_neg h1]
      go_wp2_with (at_builtin
                   refine wpList_append_any _ rfl (.tmp 24) (.tmp 28) _ rfl w1.heap.size 2 i1 _ 1 8 Tryd.underlying24 hi1 hy0 hy1 hy2 rfl (by omega) (.slice (some ⟨w1.heap.size, 0, none⟩) 0 N) 0 [] rfl
                     (hown3.alloc _) (w3.heap.size + 1) (some ⟨w3.heap.size, 0, none⟩) 1 1 [.int .i64 (zagI (vv b 0 : Int))] rfl (Reads.new w3 _ _) (one_int _ _) (by unfold maxLen; omega) (by omega) (by simp; omega) ?_
                   intro v4 w4 hown4 hg4 hat4)
      have hS4 := hS3.app hown3 (by decide) hg1 _ hg4
      have hz34 : w1.heap.size ≤ w4.heap.size := by have := hg4.size; simp at this; omega
      have hb4 : Below w.heap.size w w4 := below_app hb3 (own_base hown3 hz1) hb3.size hg4
      have hrb := rb_lt b (vst b 1).1 (vst b 1).2 ((N : Int) - 1)
      have hcall := behind_any ((N : Int) - 1) hS4 (by omega)
      rcases hrS : rbS b (vst b 1).1 (vst b 1).2 ((N : Int) - 1) with ⟨L, s⟩
      rw [hrS] at hrb hcall hd hL
      simp only at hrb hcall hd hL
      have HC := Lib.hid hcall; have HD := Lib.hid hd; have HL := Lib.hid hL
      obtain ⟨hrb1, hrb2⟩ := hrb
      have HV := Lib.hid hrb1
      clear hcall hd hL hrS hrb1 hS3 hown3 hb3 hg4 hat4
      go_wp2_with fail
      refine HC.out.mono ?_
      rintro e w5 ⟨v5, rfl, hown5, hS5, hG5⟩
      obtain ⟨A5, c5, rfl, _, _, _⟩ := own_slice hown5
      have hz5 := hG5.size
      have hz4 : w1.heap.size ≤ w4.heap.size := hz34
      have hO5 : OffR w5 v4.ownBlock A5 L.length (us L) := OffR.of_own hown5 _ (fun q hq => (hown4.lt q hq).2)
      have hown45 := own_before hown4 hG5 (fun r hr => by injection hr with hr; omega)
      have hb5 : Below w.heap.size w w5 := hb4.grown hG5 hb4.size (fun j hj => by injection hj with hj; omega)
      have hin : InLoop w w5 w1.heap.size g b s A5 L (zagI (vv b 0 : Int)) 0 v4 := ⟨hown45, hO5, hS5, hb5⟩
      clear hown5 hS5 hG5 hO5 hown45 hb5 hown4 hS4 hb4 HC
      go_wp2_with fail
      go_loopw [7, 37] (fun s7 s37 wr => ∃ k : Nat, k ≤ L.length ∧ s37 = .int .i64 (k : Int) ∧ w1.heap.size ≤ wr.heap.size ∧ InLoop w wr w1.heap.size g b s A5 L (zagI (vv b 0 : Int)) k s7) (fun _ i _ => L.length - (intOf i).toNat)
      case atStart => exact ⟨0, Nat.zero_le _, rfl, by omega, hin⟩
      case round =>
        clear hin
        obtain ⟨k, hk, rfl, hzr, hown, hO, hS, hbr⟩ := hrel
        by_cases hlt : k < L.length
        · obtain ⟨ad, u, rfl, _, hu, hc⟩ := hO.reads.at_ hlt
          obtain ⟨v, hv, rfl⟩ := us_at hu
          have hv64 := HV.out v (List.mem_of_getElem? hv)
          have HS := Lib.hid (map_step hv)
          clear hu hv
          go_wp2_with fail
          refine (zag_any v wr hv64).mono ?_
          rintro e w' ⟨rfl, rfl⟩
          go_wp2_with (at_builtin
                       refine wpList_append_any _ rfl (.tmp 41) (.tmp 44) _ rfl w1.heap.size 2 i1 _ 1 8 Tryd.underlying24 hi1 hy0 hy1 hy2 rfl (by omega) u7 (k + 1) (zs (zagI (vv b 0 : Int) :: (L.take k).map fun v : Nat => zagI (v : Int))) rfl
                         (hown.alloc _) (wr.heap.size + 1) (some ⟨wr.heap.size, 0, none⟩) 1 1 [.int .i64 (zagI (v : Int))] rfl (Reads.new wr _ _) (one_int _ _) (by unfold maxLen; omega) (by omega) (by simp; omega) ?_
                       intro v8 w8 hown8 hg8 hat8)
          go_round
          case rel =>
            refine ⟨k + 1, by omega, by go_num, by have := hg8.size; simp at this; omega, ?_, (hO.alloc _).grown hg8 hat8, hS.app hown (by decide) hg1 _ hg8, below_app hbr (own_base hown hz1) hbr.size hg8⟩
            rw [HS.out, ← zs_cons_snoc]
            exact hown8
          case measure => simp [intOf]; omega
        · obtain rfl : k = L.length := by omega
          have hend : AtEnd w wr g b N u7 := by
            unfold AtEnd
            rw [HD.out, HL.out]
            refine ⟨hS, ?_, hbr⟩
            rw [List.take_of_length_le (Nat.le_refl _)] at hown
            rw [List.length_cons, List.length_map]
            exact own_base hown hz1
          clear hown hO hS hbr hk
          go_wp2_with fail
          obtain ⟨wz, hwz⟩ : ∃ x, x = wr := ⟨_, rfl⟩
          rw [← hwz] at hend ⊢
          obtain ⟨vz, hvz⟩ : ∃ x, x = u7 := ⟨_, rfl⟩
          rw [← hvz] at hend ⊢
          clear hwz hvz
          obtain ⟨hSz, hownz, hbz⟩ := hend
          have hmz := hmet.next hbz
          have hcl := end_is hmz hSz
          obtain ⟨r, hr0⟩ : ∃ r, r = (endS b (dst b N).1 (dst b N).2).1 := ⟨_, rfl⟩
          obtain ⟨o, ho⟩ : ∃ o : Int, o = ((endS b (dst b N).1 (dst b N).2).2 : Int) := ⟨_, rfl⟩
          rw [← hr0, ← ho] at hcl
          rw [← hr0] at HE
          have HCL := Lib.hid hcl
          clear hr0 ho hcl hSz hmz
          refine HCL.out.mono ?_
          rintro e wy ⟨he, hby⟩
          have he' : e = .returned (.tuple #[.int .i64 r, .int .i64 o]) := he
          subst he'
          clear he HCL
          have hb0y := hbz.trans (hby.mono hbz.size)
          by_cases hrz : r = 0
          · subst hrz
            have hownY := own_below hownz hby
            obtain ⟨Az, cz, rfl, _, _, rY⟩ := own_slice hownY
            clear hownY hownz hbz hby
            go_wp2_with fail
            refine (sums_any Az (dL b N).length cz (dL b N) wy rY (by omega)).mono ?_
            rintro e wx ⟨vx, rfl, hownx, hbx⟩
            go_wp2_with fail
            go_ret2
            rw [HG.out, HE.out, if_pos rfl]
            exact ⟨vx, rfl, own_base hownx hb0y.size, hb0y.trans (hbx.mono hb0y.size)⟩
          · have q1 : (r == 0) = false := by simp [hrz]
            have q2 : (r != 0) = true := by simp [hrz]
            have H0 := Lib.hid hrz
            clear hrz hownz hbz hby
            go_wp2_with fail
            go_ret2
            rw [HG.out, HE.out, if_neg H0.out]
            exact ⟨.slice none 0 0, rfl, own_nil _ _ _ _, hb0y⟩
  all_goals
    obtain ⟨hSz, hownz, hbz⟩ := hend
    have hmz := hmet.next hbz
    have hcl := end_is hmz hSz
    obtain ⟨r, hr0⟩ : ∃ r, r = (endS b (dst b N).1 (dst b N).2).1 := ⟨_, rfl⟩
    obtain ⟨o, ho⟩ : ∃ o : Int, o = ((endS b (dst b N).1 (dst b N).2).2 : Int) := ⟨_, rfl⟩
    rw [← hr0, ← ho] at hcl
    rw [← hr0] at HE
    have HCL := Lib.hid hcl
    clear hr0 ho hcl hSz hmz
    refine HCL.out.mono ?_
    rintro e wy ⟨he, hby⟩
    have he' : e = .returned (.tuple #[.int .i64 r, .int .i64 o]) := he
    subst he'
    clear he HCL
    have hb0y := hbz.trans (hby.mono hbz.size)
    by_cases hrz : r = 0
    · subst hrz
      have hownY := own_below hownz hby
      obtain ⟨Az, cz, rfl, _, _, rY⟩ := own_slice hownY
      clear hownY hownz hbz hby
      go_wp2_with fail
      refine (sums_any Az (dL b N).length cz (dL b N) wy rY (by omega)).mono ?_
      rintro e wx ⟨vx, rfl, hownx, hbx⟩
      go_wp2_with fail
      go_ret2
      rw [HG.out, HE.out, if_pos rfl]
      exact ⟨vx, rfl, own_base hownx hb0y.size, hb0y.trans (hbx.mono hb0y.size)⟩
    · have q1 : (r == 0) = false := by simp [hrz]
      have q2 : (r != 0) = true := by simp [hrz]
      have H0 := Lib.hid hrz
      clear hrz hownz hbz hby
      go_wp2_with fail
      go_ret2
      rw [HG.out, HE.out, if_neg H0.out]
      exact ⟨.slice none 0 0, rfl, own_nil _ _ _ _, hb0y⟩
theorem dlGet_any (A : Option Addr) (n c : Nat) (k : Int) (b : List Nat) (w : World) (hr : Reads w w.heap.size 1 A n (bs b)) (hb : ∀ x ∈ b, x < 256) (hn : n ≤ 140737488355328) (hmet : Met w) :
    Calls Tryd.prog 6 #[.slice A n c, .int .i64 k] w (NewLE w (dG b k) (dE b k)) := by
  by_cases h : k < 0 ∨ 65536 < k
  · exact dlGet_no A n c b k w h
  · obtain ⟨N, rfl⟩ : ∃ N : Nat, k = (N : Int) := ⟨k.toNat, by omega⟩
    exact dlGet_ok A n c N b w hr hb hn (by omega) hmet
end Go.Proofs.YteadmjgkmjeanaaDoor
