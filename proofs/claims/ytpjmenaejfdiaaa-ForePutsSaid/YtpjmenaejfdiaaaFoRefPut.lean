/- The document's form by the least one. -/
import Derived.Test.YtpjmenaejfdiaaaFoPlain
import Derived.Test.YtpjmenaejfdiaaaArith64
import Derived.Test.YtpjmenaejfdiaaaI64Row
import Derived.Test.YtpjmenaejfdiaaaMem64
import Derived.Test.YtpjmenaejfdiaaaRefZigN
import Derived.Test.YtpjmenaejfdiaaaRefPVar
import Derived.Test.YtpjmenaejfdiaaaRefPackF
import Derived.Test.YtpjmenaejfdiaaaRefWid
import Derived.Test.YtpjmenaejfdiaaaOpened
import Derived.Test.YtpjmenaejfdiaaaFoDist
namespace Go.Proofs.Ytpjmenaejfdiaaa
open Go.RowKit
set_option linter.unusedVariables false
set_option linter.unusedSimpArgs false
set_option maxRecDepth 100000

theorem refFo_nil (A : Option Addr) (c : Nat) (w : World) :
    Calls Try.prog 8 #[.slice A 0 c] w (New w (bs (fo [])) (fo []).length) := by
  go_enter Try.func8, Try.ntmps8
  go_wp2_with fail
  go_ret
  exact ⟨.slice none 0 0, rfl, own_nil _ _ _ _, Below.refl _ _⟩
/-- The least one of the first and of so many. -/
def lsF (z : Int) (l : List Int) (k : Nat) : Int := lsI z (l.take k)
theorem lsF_step {z x : Int} {l : List Int} {k : Nat} (h : l[k]? = some x) : lsF z l (k + 1) = min (lsF z l k) x := by
  unfold lsF
  rw [List.take_add_one, h]
  exact lsI_snoc _ _ _
theorem lsF_all {z : Int} {l : List Int} (h : l[0]? = some z) : lsF z l l.length = ls l := by
  unfold lsF
  rw [List.take_length]
  cases l with
  | nil => simp at h
  | cons y r =>
    simp at h
    subst h
    show lsI (min y y) r = lsI y r
    rw [Int.min_self]
set_option maxHeartbeats 2000000 in
theorem refFo_main (A : Option Addr) (n c : Nat) (l : List Int) (w : World) (hr : Reads w w.heap.size 1 A n (zs l)) (hl : ∀ x ∈ l, In64 x) (h0 : 0 < n) (hn : n ≤ 65536) :
    Calls Try.prog 8 #[.slice A n c] w (New w (bs (fo l)) (fo l).length) := by
  obtain ⟨i0, hi0, hz0, hz1, hz2⟩ := info_parts info_u8
  obtain ⟨i1, hi1, hy0, hy1, hy2⟩ := info_parts info_u64
  have e1 : l.length = n := by have := hr.1; rw [zs_length] at this; omega
  have hne : l ≠ [] := by intro e; subst e; simp at e1; omega
  obtain ⟨ad, u, rfl, _, hu, hc⟩ := hr.at_ h0
  obtain ⟨z0, hz00, rfl⟩ := zs_at hu
  have hc0 : w.cell? ad = some (.int .i64 z0) := by simpa [Addr.add] using hc
  have hm64 := ls_in hl
  have hvl := vb_length (zg (ls l))
  have hzg := (zg_int hm64).2
  have hD64 := dfs_lt hl hm64
  have hK64 := wd_dfs hl
  have hle := fun z (hz : z ∈ l) => ls_le (l := l) z hz
  have hDl := dfs_length (ls l) l
  have hpl : (packB (wd (dfs (ls l) l)) (dfs (ls l) l)).length ≤ 524290 := by have := foB_length hl (by omega); unfold foB at this; rw [List.length_append] at this; omega
  have hfo : fo l = vb (zg (ls l)) ++ [wd (dfs (ls l) l)] ++ packB (wd (dfs (ls l) l)) (dfs (ls l) l) := by rw [fo_ne hne]; unfold foB; simp
  have hstep := fun (k : Nat) (z : Int) (h : l[k]? = some z) => dfs_step (m := ls l) h
  have hall : lsF z0 l n = ls l := by rw [← e1]; exact lsF_all hz00
  obtain ⟨m, hm⟩ : ∃ m, m = ls l := ⟨_, rfl⟩
  rw [← hm] at hm64 hvl hzg hD64 hK64 hle hDl hpl hfo hstep hall
  obtain ⟨D, hD⟩ : ∃ D, D = dfs m l := ⟨_, rfl⟩
  rw [← hD] at hD64 hK64 hDl hpl hfo hstep
  obtain ⟨K, hK⟩ : ∃ K, K = wd D := ⟨_, rfl⟩
  rw [← hK] at hK64 hpl hfo
  rw [e1] at hDl
  have HK := Lib.hid hK; have HL := Lib.hid hl; have HLT := Lib.hid hD64; have HD := Lib.hid hfo; have HS := Lib.hid hstep; have HLE := Lib.hid hle; have HDL := Lib.hid hDl; have HA := Lib.hid hall
  have q0 : ((n : Int) == 0) = false := by simp; omega
  clear hK hl hD64 hfo hstep hle hD hm hDl e1 hall hu hc hz00
  go_enter Try.func8, Try.ntmps8
  go_wp2_with fail
  go_loop [3, 4] (fun s3 s4 => ∃ (k : Nat) (y : Int), k ≤ n ∧ s4 = .int .i64 (k : Int) ∧ s3 = .int .i64 y ∧ Hid (y = lsF z0 l k)) (fun _ i => n - (intOf i).toNat)
  case atStart => exact ⟨0, z0, Nat.zero_le _, rfl, rfl, Lib.hid rfl⟩
  case round =>
    obtain ⟨k, y, hk, rfl, rfl, hy⟩ := hrel
    by_cases hlt : k < n
    · obtain ⟨ad', u, e', _, hu, hc⟩ := hr.at_ hlt
      injection e' with e'
      subst e'
      obtain ⟨x, hx, rfl⟩ := zs_at hu
      have HX := Lib.hid (lsF_step (z := z0) hx)
      clear hu hx
      go_wp2_with fail
      go_round
      case rel =>
        refine ⟨k + 1, _, by omega, by go_num, rfl, Lib.hid ?_⟩
        rw [HX.out, ← hy.out]
      case measure => simp [intOf]; omega
    · obtain rfl : k = n := by omega
      obtain rfl : m = y := by rw [hy.out, HA.out]
      clear hy hc0
      go_wp2_with fail
      go_loopw [5, 6] (fun s5 s6 wr => ∃ j : Nat, j ≤ k ∧ s6 = .int .i64 (j : Int) ∧ wr.ownsRow w.heap.size 33 1 s5 j (us (D.take j)) ∧ Below w.heap.size w wr) (fun _ i _ => k - (intOf i).toNat)
      case atStart => exact ⟨0, Nat.zero_le _, rfl, own_nil _ _ _ _, Below.refl _ _⟩
      case round =>
        obtain ⟨j, hj, rfl, hown, hb⟩ := hrel
        have hsz := hb.size
        by_cases hlt : j < k
        · obtain ⟨ad', u, e', _, hu, hc⟩ := (hr.below hb).at_ hlt
          injection e' with e'
          subst e'
          obtain ⟨x, hx, rfl⟩ := zs_at hu
          have hx64 := HL.out x (List.mem_of_getElem? hx)
          have hmx := HLE.out x (List.mem_of_getElem? hx)
          have HX := HS.out j x hx
          have hdi := dist_eq hm64 hx64 hmx
          obtain ⟨q, hq⟩ : ∃ q, q = (x - m).toNat := ⟨_, rfl⟩
          rw [← hq] at hdi HX
          have HDI := Lib.hid hdi
          have HX := Lib.hid HX
          clear hu hx hdi hq hmx
          go_wp2_with (at_builtin
                       refine wpList_append_any _ rfl (.tmp 34) (.tmp 43) _ rfl w.heap.size 33 i1 _ 1 8 Try.underlying37 hi1 hy0 hy1 hy2 rfl (by omega) u5 j (us (D.take j)) rfl
                         (hown.alloc _) (wr.heap.size + 1) (some ⟨wr.heap.size, 0, none⟩) 1 1 [.int .u64 (IntKind.u64.wrap (IntKind.u64.wrap x - IntKind.u64.wrap m))] rfl (Reads.new wr _ _) (one_int _ _) (by unfold maxLen; omega) (by omega) (by simp; omega) ?_
                       intro v4 w4 hown4 hg4 hat4)
          go_round
          case rel =>
            refine ⟨j + 1, by omega, by go_num, ?_, below_app hb hown hsz hg4⟩
            have h1 := us_snoc [] (D.take j) q _ HDI.out
            simp only [List.nil_append] at h1
            rw [HX.out, ← h1]
            exact hown4
          case measure => simp [intOf]; omega
        · obtain rfl : j = k := by omega
          rw [List.take_of_length_le (by rw [HDL.out]; exact Nat.le_refl _)] at hown
          obtain ⟨A3, c3, rfl, _, _, r3⟩ := own_slice hown
          clear hown hr
          go_wp2_with fail
          refine (refWidth_any A3 j c3 D wr r3 HLT.out (by omega)).mono ?_
          rintro e w' ⟨rfl, rfl⟩
          rw [← HK.out]
          go_wp2_with fail
          refine (refPack_fit A3 j c3 D _ K rfl wr r3 HLT.out (by omega) (by omega) (by rw [HK.out]; exact Nat.le_refl _)).mono ?_
          rintro e w4 ⟨v4, rfl, hown4, hb4⟩
          obtain ⟨A4, c4, rfl, _, _, r4⟩ := own_slice hown4
          have hb04 := hb.trans (hb4.mono hb.size)
          clear r3
          go_wp2_with fail
          refine (refZigN_any m w4 hm64).mono ?_
          rintro e w' ⟨rfl, rfl⟩
          go_wp2_with fail
          refine (refVar_any (zg m) w4 hzg).mono ?_
          rintro e2 w5 ⟨v5, rfl, hown5, hb5⟩
          obtain ⟨A5, c5, rfl, _, _, _⟩ := own_slice hown5
          have hb05 := hb04.trans (hb5.mono hb04.size)
          have o45 := own_below hown4 hb5
          have t5 := hb5.size
          have t0 := hb05.size
          have hne : (Value.slice A4 (packB K D).length c4).ownBlock = none ∨ (Value.slice A4 (packB K D).length c4).ownBlock ≠ (Value.slice A5 (vb (zg m)).length c5).ownBlock := by
            cases hv : (Value.slice A4 (packB K D).length c4).ownBlock with
            | none => exact .inl rfl
            | some q =>
              refine .inr fun e => ?_
              have h1 := (hown4.lt q hv).2
              have h2 := (hown5.lt q e.symm).1
              omega
          have hb06 := fun (o : Obj) (w6 : World) (hg : (w5.alloc o).grownBy w6 (Value.slice A5 (vb (zg m)).length c5).ownBlock) => below_app hb05 (own_base hown5 hb04.size) (hb05.size) hg
          clear r4
          go_wp2_with (first
            | (at_builtin
               refine wpList_append_any _ rfl (.tmp 55) (.tmp 58) _ rfl w4.heap.size 5 i0 _ 1 1 Try.underlying24 hi0 hz0 hz1 hz2 rfl (by omega) (.slice A5 (vb (zg m)).length c5) (vb (zg m)).length (bs (vb (zg m))) rfl
                 (hown5.alloc _) (w5.heap.size + 1) (some ⟨w5.heap.size, 0, none⟩) 1 1 [.int .u8 (K : Int)] rfl (Reads.new w5 _ _) (one_int _ _) (by unfold maxLen; omega) (by omega) (by simp; omega) ?_
               intro v6 w6 hown6 hg6 hat6
               have o46 := (o45.alloc (.cells #[.int .u8 (K : Int)] 5)).kept hg6 hne
               have hb6 := hb06 _ _ hg6
               have r6 := Reads.of_own o46)
            | (at_builtin
               refine wpList_append_any _ rfl (.tmp 59) (.tmp 60) _ rfl w4.heap.size 5 i0 _ 1 1 Try.underlying24 hi0 hz0 hz1 hz2 rfl (by omega) v6 ((vb (zg m)).length + 1) (bs (vb (zg m)) ++ [.int .u8 (K : Int)]) rfl
                 hown6 w6.heap.size A4 (packB K D).length c4 (bs (packB K D)) rfl r6 (bs_one _) (by unfold maxLen; omega) (by omega) (by have := hg6.size; simp at this; omega) ?_
               intro v7 w7 hown7 hg7 hat7))
          go_ret
          have hb7 := hb6.grown hg7 hb6.size (fun q hq => by have := (hown6.lt q hq).1; have := hb04.size; omega)
          have hd : bs (vb (zg m)) ++ [.int .u8 (K : Int)] ++ bs (packB K D) = bs (fo l) := by
            rw [HD.out, bs_append, bs_append]; rfl
          have hdl2 : (vb (zg m)).length + 1 + (packB K D).length = (fo l).length := by
            rw [HD.out, List.length_append, List.length_append]; rfl
          rw [hd, hdl2] at hown7
          exact ⟨v7, rfl, own_base hown7 hb04.size, hb7⟩
theorem refFo_any (A : Option Addr) (n c : Nat) (l : List Int) (w : World) (hr : Reads w w.heap.size 1 A n (zs l)) (hl : ∀ x ∈ l, In64 x) (hn : n ≤ 65536) :
    Calls Try.prog 8 #[.slice A n c] w (New w (bs (fo l)) (fo l).length) := by
  have e1 : l.length = n := by have := hr.1; rw [zs_length] at this; omega
  rcases Nat.eq_zero_or_pos n with h0 | h0
  · subst h0
    rw [List.eq_nil_of_length_eq_zero e1]
    exact refFo_nil A c w
  · exact refFo_main A n c l w hr hl h0 hn
end Go.Proofs.Ytpjmenaejfdiaaa
