import Derived.Deep.DeepCutAuto
import Derived.Deep.CutBlock
import Derived.Test.YtpgdlmnhomnblaaGreatDoorJ32
import Derived.Test.YtpgdlmnhomnblaaGreatDoorJ34
import Derived.Test.YtpgdlmnhomnblaaGreatDoorGrShows
import Derived.Test.YtpgdlmnhomnblaaGreatDoorJ49
import Derived.Test.YtpgdlmnhomnblaaGreatDoorJ10
namespace Go.Proofs.YtpgdlmnhomnblaaGreatDoor
open Go.RowKit
set_option linter.unusedVariables false
set_option linter.unusedSimpArgs false
set_option maxRecDepth 100000
attribute [local go_sem ↓] Go.wp_at_zero Go.wp_at_succ
structure PlS (w wr : World) (B2 Bq Bw ga da ha gb db hb xb qb cq wb n m : Nat) (vw : Value) (XV HW : Array Value) (rows : List (List Vl)) (hs : List (Zn × List Nat)) (ks : List (List Nat)) (la lq lz : List Nat) : Prop where
  a : GrI wr (fun b => b < w.heap.size ∨ b = ha ∨ b = qb) ga da rows hs ks
  sa : SetIn wr w.heap.size da ha n la
  b : GrI wr (fun b => b < w.heap.size ∨ b = ha ∨ b = qb) gb db rows hs ks
  sb : SetIn wr B2 db hb n lz
  x : Blk wr xb 33 XV
  q : wr.ownsRow Bq 4 1 (.slice (some ⟨qb, 0, none⟩) n cq) n (bl (bit lq) n)
  wv : Blk wr wb 42 HW
  wo : wr.ownsRow Bw 57 40 vw m (hcs hs)
  low : Below w.heap.size w wr
  n1 : w.heap.size ≤ ha
  n2 : w.heap.size ≤ qb
  d1 : ha ≠ qb
  d2 : db ≠ ha
  d3 : db ≠ qb
  d4 : hb ≠ ha
  d5 : hb ≠ qb
  d6 : xb ≠ ha
  d7 : xb ≠ qb
  d8 : wb ≠ ha
  d9 : wb ≠ qb
  d10 : da ≠ qb
  d11 : vw.ownBlock ≠ some ha
  d12 : vw.ownBlock ≠ some qb
section
variable {w wr W : World} {B2 Bq Bw ga da ha gb db hb xb qb cq wb n m : Nat} {vw : Value} {XV HW : Array Value} {rows : List (List Vl)} {hs : List (Zn × List Nat)} {ks : List (List Nat)} {la lq lz l' : List Nat}
theorem PlS.below (T : PlS w wr B2 Bq Bw ga da ha gb db hb xb qb cq wb n m vw XV HW rows hs ks la lq lz) (h : Below wr.heap.size wr W) : PlS w W B2 Bq Bw ga da ha gb db hb xb qb cq wb n m vw XV HW rows hs ks la lq lz :=
  ⟨T.a.step (Stp.of_below h), T.sa.below h (Nat.le_refl _), T.b.step (Stp.of_below h), T.sb.below h (Nat.le_refl _), T.x.below h T.x.lt, own_below T.q h, T.wv.below h T.wv.lt, own_below T.wo h, T.low.trans (h.mono T.low.size), T.n1, T.n2, T.d1, T.d2, T.d3, T.d4, T.d5, T.d6, T.d7, T.d8, T.d9, T.d10, T.d11, T.d12⟩
theorem PlS.kill (T : PlS w wr B2 Bq Bw ga da ha gb db hb xb qb cq wb n m vw XV HW rows hs ks la lq lz) (s : SetIn W w.heap.size da ha n l') (hg : wr.grownBy W (some ha)) : PlS w W B2 Bq Bw ga da ha gb db hb xb qb cq wb n m vw XV HW rows hs ks l' lq lz :=
  ⟨T.a.step ⟨hg, fun q hq => by injection hq with hq; exact .inl (.inr (.inl hq.symm)), fun q hq => .inl hq⟩, s, T.b.step ⟨hg, fun q hq => by injection hq with hq; exact .inl (.inr (.inl hq.symm)), fun q hq => .inl hq⟩,
    T.sb.grown hg (fun e => by injection e with e; exact T.d2 e) (fun e => by injection e with e; exact T.d4 e), T.x.grown hg (fun e => by injection e with e; exact T.d6 e), T.q.kept hg (.inr fun e => by injection e with e; exact T.d1 e.symm), T.wv.grown hg (fun e => by injection e with e; exact T.d8 e),
    T.wo.kept hg (.inr T.d11), T.low.grown hg T.low.size (fun k hk => by injection hk with hk; have := T.n1; omega), T.n1, T.n2, T.d1, T.d2, T.d3, T.d4, T.d5, T.d6, T.d7, T.d8, T.d9, T.d10, T.d11, T.d12⟩
theorem PlS.mark (T : PlS w wr B2 Bq Bw ga da ha gb db hb xb qb cq wb n m vw XV HW rows hs ks la lq lz) (hq' : W.ownsRow Bq 4 1 (.slice (some ⟨qb, 0, none⟩) n cq) n (bl (bit l') n)) (hg : wr.grownBy W (some qb)) : PlS w W B2 Bq Bw ga da ha gb db hb xb qb cq wb n m vw XV HW rows hs ks la l' lz :=
  ⟨T.a.step ⟨hg, fun q hq => by injection hq with hq; exact .inl (.inr (.inr hq.symm)), fun q hq => .inl hq⟩, T.sa.grown hg (fun e => by injection e with e; exact T.d10 e) (fun e => by injection e with e; exact T.d1 e), T.b.step ⟨hg, fun q hq => by injection hq with hq; exact .inl (.inr (.inr hq.symm)), fun q hq => .inl hq⟩,
    T.sb.grown hg (fun e => by injection e with e; exact T.d3 e) (fun e => by injection e with e; exact T.d5 e), T.x.grown hg (fun e => by injection e with e; exact T.d7 e), hq', T.wv.grown hg (fun e => by injection e with e; exact T.d9 e),
    T.wo.kept hg (.inr T.d12), T.low.grown hg T.low.size (fun k hk => by injection hk with hk; have := T.n2; omega), T.n1, T.n2, T.d1, T.d2, T.d3, T.d4, T.d5, T.d6, T.d7, T.d8, T.d9, T.d10, T.d11, T.d12⟩
end
theorem grownBy_transP {a w w' : World} {row : Option Nat} (h : a.grownBy w row) (k : w.grownBy w' row) : a.grownBy w' row :=
  ⟨k.os.trans h.os, k.tape.trans h.tape, k.output.trans h.output, Nat.le_trans h.size k.size, fun i hi hr => (k.block i (Nat.lt_of_lt_of_le hi h.size) hr).trans (h.block i hi hr)⟩
theorem cnt_zerosP (n m : Nat) : cnt (bit (List.replicate m 0)) n = 0 := by
  induction n with
  | zero => rfl
  | succ n ih => rw [cnt, ih, bit_zeros]; rfl
theorem LenG_nil (w : World) : Calls Tryz.prog 8 #[.pointer none] w fun e w' => e = .returned (.int .i64 0) ∧ w = w' := by
  go_enter Tryz.func8, Tryz.ntmps8
  go_wp2_with fail
  go_ret
  exact ⟨rfl, rfl⟩
section
variable {w : World} {A S K : Option Addr} {n c m cs nk ck : Nat} {sl : List Cl} {rows : List (List Vl)} {kl : List Int}
set_option maxHeartbeats 8000000 in
theorem plays18_any (HP : PutG) (ht : ShTab w) (hS : Reads w w.heap.size 3 S m (cls sl)) (hm0 : m ≤ 9223372036854775807) (hci : ∀ c ∈ sl, In64 c.1 ∧ In64 c.2.2) (hV : VV w A rows) (hrn : rows.length = n) (hn0 : n ≤ 9223372036854775807) (hin : ∀ r ∈ rows, ∀ v ∈ r, In64 v.1 ∧ In64 v.2.1) (hK : Reads w w.heap.size 1 K nk (zs kl)) (hkn : nk ≤ 9223372036854775807) :
    Calls Tryz.prog 3 #[.slice S m cs, .slice A n c, .slice K nk ck] w fun e w' => e = .returned (.bool true) ∧ Below w.heap.size w w' := by
  have hkl : kl.length = nk := by have := hK.1; rw [zs_length] at this; omega
  have HGR := Lib.hid fun (W : World) (hb : Below w.heap.size w W) => greatR_any A c 60 70 100 rows W (hV.next hb) (by omega) (by omega) (by omega) (by omega) _ rfl
  rw [hrn] at HGR
  have HAW := Lib.hid (awakeG_any HP ht)
  have hsl : sl.length = m := by have := hS.1; rw [cls_length] at this; omega
  have HVV := Lib.hid hV; have HSR := Lib.hid hS; have HCI := Lib.hid hci; have HIN := Lib.hid hin; have HKK := Lib.hid hK; have HKL := Lib.hid hkl; have HE := Lib.hid hrn; have HT := Lib.hid ht; have HPP := Lib.hid HP; have HSL := Lib.hid hsl
  obtain ⟨G, hG⟩ : ∃ G, grR rows 60 70 100 = G := ⟨_, rfl⟩
  rw [hG] at HGR
  clear hS hci hV hin hK hkl hrn ht HP hsl
  have hr0 := Below.refl w.heap.size w
  go_enter Tryz.func3, Tryz.ntmps3
  by_cases h1 : 70 < m
  · have d1 : decide ((70 : Int) < (m : Int)) = true := by simp; omega
    go_wp2_with fail
    refine (HAW.out w (Below.refl _ _)).mono ?_
    rintro e w1 ⟨rfl, hb1⟩
    go_wp2_with fail
    go_ret
    exact ⟨rfl, hb1⟩
  have d1 : decide ((70 : Int) < (m : Int)) = false := by simp; omega
  go_wp2_with fail
  refine (HGR.out w hr0).mono ?_
  rintro e w1 ⟨rfl, rfl⟩
  cases G with
  | true =>
    go_wp2_with fail
    refine (HAW.out w (Below.refl _ _)).mono ?_
    rintro e w1 ⟨rfl, hb1⟩
    go_wp2_with fail
    go_ret
    exact ⟨rfl, hb1⟩
  | false =>
  obtain ⟨hg1, hg2⟩ := grR_false hG
  by_cases h2 : 60 < nk
  · have d2 : decide ((60 : Int) < (nk : Int)) = true := by simp; omega
    go_wp2_with fail
    refine (HAW.out w (Below.refl _ _)).mono ?_
    rintro e w1 ⟨rfl, hb1⟩
    go_wp2_with fail
    go_ret
    exact ⟨rfl, hb1⟩
  have d2 : decide ((60 : Int) < (nk : Int)) = false := by simp; omega
  have hn60 : n ≤ 60 := by rw [← HE.out]; exact hg1
  have HN := Lib.hid fun (W : World) (hb : Below w.heap.size w W) => newG_any (n := n) (c := c) (cs := cs) HPP.out (HT.out.next hb) ((HSR.out.below hb).more hb.size) HCI.out (by omega) (HVV.out.next hb) HE.out (by omega) HIN.out (fun r hr => by have := (hg2 r hr).1; omega)
  have RN := Lib.hid fun (W : World) (hb : Below w.heap.size w W) => refNew_G (cs := cs) (c := c) ((HSR.out.below hb).more hb.size) (by omega) (HVV.out.next hb) HE.out (by omega) (fun r hr => by have := (hg2 r hr).1; omega)
  unfold RefNewG at RN
  clear hg1 hg2 hG HGR
  by_cases he : newE sl rows = 0
  case neg =>
    simp only [if_neg he] at HN RN
    obtain ⟨E, hE⟩ : ∃ E, newE sl rows = E := ⟨_, rfl⟩
    rw [hE] at he HN RN
    have q1 : (E == 0) = false := by simpa using he
    have q2 : decide (E = 0) = false := by simpa using he
    have HLN := Lib.hid LenG_nil
    clear hE
    go_wp2_with fail
    refine (HN.out w hr0).mono ?_
    rintro e w1 ⟨rfl, hb1⟩
    go_wp2_with fail
    refine (RN.out w1 hb1).mono ?_
    rintro e w2 ⟨rfl, hb2⟩
    have HB2 := Lib.hid ((hb1.trans (hb2.mono hb1.size)).alloc (hb1.trans (hb2.mono hb1.size)).size (.cells #[.slice none 0 0, .slice none 0 0, .slice none 0 0] 33))
    clear hb1 hb2
    go_wp2_with fail
    refine (HLN.out _).mono ?_
    rintro _ _ ⟨rfl, rfl⟩
    go_wp2_with fail
    refine (HAW.out _ HB2.out).mono ?_
    rintro e w3 ⟨rfl, hb3⟩
    have HB3 := Lib.hid (HB2.out.trans (hb3.mono HB2.out.size))
    clear hb3
    go_wp2_with fail
    go_ret
    exact ⟨by first | rfl | simp, HB3.out⟩
  simp only [if_pos he] at HN RN
  have hrows : ∀ r ∈ rows, rwE sl r = 0 := by
    unfold newE at he
    by_cases a1 : scE sl ≠ 0
    · rw [if_pos a1] at he; exact absurd he a1
    · rw [if_neg a1] at he
      by_cases a2 : rows.length < 1 ∨ 65536 < rows.length
      · rw [if_pos a2] at he; omega
      · rw [if_neg a2] at he
        exact rowsE_all he
  have hn1 : 1 ≤ n := by
    unfold newE at he
    by_cases a1 : scE sl ≠ 0
    · rw [if_pos a1] at he; exact absurd he a1
    · rw [if_neg a1] at he
      by_cases a2 : rows.length < 1 ∨ 65536 < rows.length
      · rw [if_pos a2] at he; omega
      · rw [HE.out] at a2; omega
  have HLEN : Hid (∀ r ∈ rows, r.length = m) := Lib.hid fun r hr => by rw [row_len (hrows r hr), HSL.out]
  have HCIN : Hid (∀ k, ∀ v ∈ colV rows k, In64 v.1 ∧ In64 v.2.1) := Lib.hid fun k => col_in HIN.out k
  have HCT : Hid (∀ k, k < m → ∀ v ∈ colV rows k, v.2.2.length ≤ 65536) := Lib.hid fun k hk => by
    obtain ⟨x, hx⟩ : ∃ x, sl[k]? = some x := ⟨_, List.getElem?_eq_getElem (by rw [HSL.out]; exact hk)⟩
    exact col_text hrows hx
  clear hrows HCI he
  go_wp2_with fail
  refine (HN.out w hr0).mono ?_
  rintro e w1 ⟨ga, da, ha, rfl, hGa, hSa, hb1⟩
  have HGa := Lib.hid hGa; have HSa := Lib.hid hSa; have HB1 := Lib.hid hb1
  clear hGa hSa hb1
  go_wp2_with fail
  refine (RN.out w1 HB1.out).mono ?_
  rintro e w2 ⟨q0, rfl, hq0, _, hb2⟩
  obtain ⟨hs, hhs⟩ : ∃ q, hdsG sl rows sl.length = q := ⟨_, rfl⟩
  obtain ⟨ks, hks⟩ : ∃ q, chsG sl rows sl.length = q := ⟨_, rfl⟩
  have h32 : ∀ y ∈ hs, y.2.length = 32 := by rw [← hhs]; exact hdsG_32 _ _ _
  have hhl : hs.length = m := by rw [← hhs, hdsG_length, HSL.out]
  rw [hhs, hks] at HGa
  obtain ⟨Z, hZ⟩ : ∃ Z, List.replicate (siz rows.length) 0 = Z := ⟨_, rfl⟩
  have hcz : cnt (bit Z) n = 0 := by rw [← hZ]; exact cnt_zerosP _ _
  have hbz : bl (bit Z) n = bl (fun _ => false) n := by rw [← hZ]; exact bl_congr fun k _ => bit_zeros _ _
  rw [hZ, HE.out] at HSa
  rw [← hbz] at hq0
  rw [HSL.out] at hhs hks
  have HHS := Lib.hid hhs; have HKS := Lib.hid hks; have H32 := Lib.hid h32; have HHL := Lib.hid hhl; have HCZ := Lib.hid hcz
  have a2 : GrI w2 (fun b => b < w.heap.size ∨ b = ha) ga da rows hs ks := HGa.out.step (Stp.of_below hb2)
  have s2 := HSa.out.below hb2 (Nat.le_refl _)
  have b12 := HB1.out.trans (hb2.mono HB1.out.size)
  have A2 := Lib.hid a2; have S2 := Lib.hid s2; have B12 := Lib.hid b12; have Q0 := Lib.hid hq0
  clear hhs hks hZ h32 hhl hcz hbz a2 s2 b12 hq0 hb2 HGa HSa HB1 HN RN
  obtain ⟨X0, hX0⟩ : ∃ X0 : Array Value, #[.slice S m cs, .slice A n c, .slice (some ⟨q0, 0, none⟩) n n] = X0 := ⟨_, rfl⟩
  have b3 := B12.out.alloc B12.out.size (.cells #[.slice S m cs, .slice A n c, .slice (some ⟨q0, 0, none⟩) n n] 33)
  have bw3 := (Below.refl w2.heap.size w2).alloc (Nat.le_refl _) (.cells #[.slice S m cs, .slice A n c, .slice (some ⟨q0, 0, none⟩) n n] 33)
  have kx3 := Blk.new w2 33 #[.slice S m cs, .slice A n c, .slice (some ⟨q0, 0, none⟩) n n]
  rw [hX0] at b3 bw3 kx3
  have hq2 : q0 < w2.heap.size := Q0.out.lt
  have q3 := Q0.out.below bw3 hq2
  have a3 : GrI (w2.alloc (.cells X0 33)) (fun b => b < w.heap.size ∨ b = ha ∨ b = w2.heap.size) ga da rows hs ks := A2.out.step (Stp.below' bw3 (fun q h => by
    rcases h with h | h | h
    · exact .inl (.inl h)
    · exact .inl (.inr h)
    · exact .inr (by omega)))
  have s3 := S2.out.below bw3 (Nat.le_refl _)
  have hxl : w2.heap.size < (w2.alloc (.cells X0 33)).heap.size := kx3.lt
  have hql : w.heap.size ≤ w2.heap.size := B12.out.size
  have hgz := (zero_of_info info_hdr).1
  obtain ⟨Z35, hZ35⟩ : ∃ Z35 : Array Value, #[.int .i64 0, .int .i64 0] ++ Array.replicate 32 (.int .u8 0) ++ #[.slice none 0 0] = Z35 := ⟨_, rfl⟩
  rw [hZ35] at hgz
  have HZ35 : Hid (Z35.size = 35) := Lib.hid (by rw [← hZ35]; simp)
  have HSZ := Lib.hid (zero_of_info info_hdr).2
  have KX3 := Lib.hid kx3; have Q3 := Lib.hid q3; have A3 := Lib.hid a3; have S3 := Lib.hid s3; have B3 := Lib.hid b3; have HX0 := Lib.hid hX0
  have HQ2 := Lib.hid hq2; have HQL := Lib.hid hql; have HXL := Lib.hid hxl
  clear kx3 q3 a3 s3 b3 bw3 hX0 hq2 hql hxl hZ35 A2 S2 B12 Q0
  go_wp2_with fail
  rw [HX0.out]
  obtain ⟨xb, hxb⟩ : ∃ q, w2.heap.size = q := ⟨_, rfl⟩
  obtain ⟨W3, hW3⟩ : ∃ q, w2.alloc (.cells X0 33) = q := ⟨_, rfl⟩
  rw [hW3] at KX3 Q3 A3 S3 B3 HXL ⊢
  rw [hxb] at KX3 HQ2 HQL HXL A3 ⊢
  have hxl := HXL.out; have hql := HQL.out
  refine (Copy_G A3.out S3.out (P' := fun b => b < w.heap.size ∨ b = ha ∨ b = xb) (fun q h => .inl h) (fun q h1 h2 => by
    rcases h2 with h2 | h2 | h2
    · omega
    · have := S3.out.row.lt; omega
    · omega)).mono ?_
  rintro e w4 ⟨gb, db, hb, rfl, hGb, hSb, hb4⟩
  have a4 := A3.out.step (P' := fun b => b < w.heap.size ∨ b = ha ∨ b = xb) (Stp.of_below hb4)
  have s4 := S3.out.below hb4 (Nat.le_refl _)
  have q4 := Q3.out.below hb4 Q3.out.lt
  have kx4 := KX3.out.below hb4 KX3.out.lt
  have b4 := B3.out.trans (hb4.mono B3.out.size)
  have hz34 := hb4.size
  have hdb : W3.heap.size ≤ db := hSb.bg
  have hhb : W3.heap.size ≤ hb := hSb.bh
  have hha : ha < W3.heap.size := S3.out.row.lt
  have hda : da < W3.heap.size := S3.out.obj.lt
  have hhaw : w.heap.size ≤ ha := S3.out.bh
  have hxw : xb < W3.heap.size := KX3.out.lt
  have hqw : q0 < W3.heap.size := Q3.out.lt
  have hhx : ha ≠ xb := Blk.type_ne S3.out.row KX3.out (by decide +kernel)
  have hdx : da ≠ xb := Blk.type_ne S3.out.obj KX3.out (by decide +kernel)
  have HH4 := Lib.hid (Header_G hGb (by rw [HE.out]; exact hSb) (HT.out.next b4) (by rw [HHL.out]; omega))
  simp only [HE.out, HHL.out] at HH4
  have A4 := Lib.hid a4; have S4 := Lib.hid s4; have Q4 := Lib.hid q4; have KX4 := Lib.hid kx4; have B4 := Lib.hid b4; have GB4 := Lib.hid hGb; have SB4 := Lib.hid hSb
  have Hn := Lib.hid (And.intro hz34 (And.intro hdb (And.intro hhb (And.intro hha (And.intro hda (And.intro hhaw (And.intro hxw (And.intro hqw (And.intro hhx (And.intro hdx (And.intro hxl hql)))))))))))
  clear a4 s4 q4 kx4 b4 hGb hSb hb4 hz34 hdb hhb hha hda hhaw hxw hqw hhx hdx hxl hql A3 S3 Q3 KX3 B3
  go_wp2_with fail
  refine HH4.out.mono ?_
  rintro e w5 ⟨vw, rfl, ho5, hb5⟩
  have hD32 : (bs (shaN Z)).length = 32 := by rw [bs_length, shaN_length]
  obtain ⟨HV, hHV⟩ : ∃ HV : Array Value, (hdC (n : Int) ((n : Int) - (cnt (bit Z) n : Int)) (bs (shaN Z)) vw).toArray = HV := ⟨_, rfl⟩
  have hHA : hdA (n : Int) ((n : Int) - (cnt (bit Z) n : Int)) (bs (shaN Z)) vw = .agg HV := by rw [← hHV]; rfl
  obtain ⟨Aw, cw, hvw, _, _, _⟩ := own_slice ho5
  have HVS : Hid (HV.size = 35) := Lib.hid (by rw [← hHV, List.size_toArray]; exact hdC_len hD32)
  have HVO : Hid (HV.all (·.oneCell') = true) := Lib.hid (by
    rw [← hHV, Array.all_eq_true_iff_forall_mem]
    intro u hu
    unfold hdC at hu
    simp only [List.mem_toArray, List.mem_append, List.mem_cons, List.not_mem_nil, or_false] at hu
    rcases hu with ((rfl | rfl) | hu) | rfl
    · rfl
    · rfl
    · exact bs_one _ u hu
    · rw [hvw]; rfl)
  have HVI : Hid ((Tryz.prog.info? 42).map (·.size) = some HV.size) := Lib.hid (by rw [HVS.out]; exact HSZ.out)
  rw [hHA]
  have HHV := Lib.hid hHV; have HO5 := Lib.hid ho5; have HB5 := Lib.hid hb5; have HVW := Lib.hid hvw
  clear hHV ho5 hb5 hHA hD32 hvw HH4
  have bE0 := (Below.refl w5.heap.size w5).alloc (Nat.le_refl _) (.cells Z35 42)
  have bE := Below.row bE0 (Nat.le_refl _) HV
  have kE := (Blk.new w5 42 Z35).row HV
  have kxE := (KX4.out.below HB5.out KX4.out.lt).below bE (Nat.lt_of_lt_of_le KX4.out.lt HB5.out.size)
  have kqE := (Q4.out.below HB5.out Q4.out.lt).below bE (Nat.lt_of_lt_of_le Q4.out.lt HB5.out.size)
  have hoE := own_below HO5.out bE
  have b4E := HB5.out.trans (bE.mono HB5.out.size)
  obtain ⟨E1, hE1⟩ : ∃ q, (w5.alloc (.cells Z35 42)).setRow w5.heap.size HV = q := ⟨_, rfl⟩
  rw [hE1] at bE kE kxE kqE hoE b4E
  have hE5 : w5.heap.size < E1.heap.size := kE.lt
  have hE4 : w4.heap.size ≤ w5.heap.size := HB5.out.size
  have bE2 := (Below.refl E1.heap.size E1).alloc (Nat.le_refl _) (.cells #[] 4)
  have kx2 := kxE.below bE2 kxE.lt
  have hx2 := kx2.cell 2
  have hqr : Reads (E1.alloc (.cells #[] 4)) E1.heap.size 1 (some ⟨q0, 0, none⟩) n (bl (bit Z) n) := reads_blk (kqE.below bE2 kqE.lt) _ _ _ kqE.lt (bl_length _ _) (by simp [bl_length, List.take_of_length_le])
  have hone : ∀ u ∈ bl (bit Z) n, u.oneCell' = true := fun u hu => by
    unfold bl at hu
    obtain ⟨_, _, rfl⟩ := List.mem_map.1 hu
    rfl
  have hmk : (E1.alloc (.cells #[] 4)).ownsRow E1.heap.size 4 1 (.slice (some ⟨E1.heap.size, 0, none⟩) 0 0) 0 [] := World.ownsRow_made E1 _ _ (Nat.le_refl _) (by unfold maxLen; omega) (by simp)
  rw [← HX0.out] at hx2
  simp only [List.getElem?_toArray, List.getElem?_cons_zero, List.getElem?_cons_succ] at hx2
  obtain ⟨ib, hib, hx3, hx4, hx5⟩ := info_parts info_bool
  have KE := Lib.hid kE; have KXE := Lib.hid kxE; have HOE := Lib.hid hoE; have B4E := Lib.hid b4E; have HQR := Lib.hid hqr; have HONE := Lib.hid hone; have HMK := Lib.hid hmk; have HSE := Lib.hid (And.intro hE5 hE4); have HE1 := Lib.hid hE1; have BE2 := Lib.hid bE2
  clear bE bE0 kE kxE kqE hoE b4E hqr hone hmk hE5 hE4 bE2 kx2 hE1
  go_wp2_with (first
    | (refine wpList_store_row (by rfl) (.tmp 12) (.tmp 62) (by rfl) (by rfl) (by rfl) (Blk.new w5 42 Z35) HVI.out (by rw [HVS.out, HZ35.out]) HVO.out ?_
       rw [HE1.out])
    | (at_builtin
       refine wpList_append_any _ rfl (.tmp 63) (.tmp 65) _ rfl E1.heap.size 4 ib _ 1 1 Tryz.underlying31 hib hx3 hx4 hx5 rfl (by omega) (.slice (some ⟨E1.heap.size, 0, none⟩) 0 0) 0 [] rfl
         HMK.out E1.heap.size (some ⟨q0, 0, none⟩) n n (bl (bit Z) n) rfl HQR.out HONE.out (by unfold maxLen; omega) (by omega) (by simp) ?_
       intro v6 w6 hown6 hg6 hat6
       rw [Nat.zero_add, List.nil_append] at hown6
       have b6 : Below E1.heap.size E1 w6 := BE2.out.grown hg6 (by simp) (fun k hk => by simp [Value.ownBlock] at hk; omega)
       have kx6 := KXE.out.below b6 KXE.out.lt
       have hown6' := hown6
       obtain ⟨_, ⟨_, h0⟩ | ⟨qb, cq, cur, rfl, hqb, hqc, _⟩⟩ := hown6
       · omega
       have y2 := kx6.cell 2
       have z2 := kx6.frozen 2
       have l2 := kx6.lt
       rw [← HX0.out] at y2
       simp only [List.getElem?_toArray, List.getElem?_cons_zero, List.getElem?_cons_succ] at y2
       have HO6 := Lib.hid hown6'; have B6 := Lib.hid b6; have KX6 := Lib.hid kx6; have HQB := Lib.hid hqb
       clear hown6' b6 kx6 hqb hqc hg6 hat6))
  have T0 : PlS w (w6.setCell ⟨xb, 2, none⟩ (.slice (some ⟨qb, 0, none⟩) n cq)) W3.heap.size E1.heap.size w4.heap.size ga da ha gb db hb xb qb cq w5.heap.size n m vw #[.slice S m cs, .slice A n c, .slice (some ⟨qb, 0, none⟩) n cq] HV rows hs ks Z Z Z := by
    obtain ⟨hz34, hdb, hhb, hha, hda, hhaw, hxw, hqw, hhx, hdx, hxl, hql⟩ := Hn.out
    obtain ⟨hE5, hE4⟩ := HSE.out
    have hqb := HQB.out
    have hsb1 := SB4.out.obj.lt
    have hsb2 := SB4.out.row.lt
    have b46 : Below w4.heap.size w4 w6 := B4E.out.trans (B6.out.mono (by omega))
    have hs6 : w6.grownBy (w6.setCell ⟨xb, 2, none⟩ (.slice (some ⟨qb, 0, none⟩) n cq)) (some xb) := ⟨rfl, rfl, rfl, by simp [World.setCell], fun k _ hk => Below.heap_setCell _ _ _ _ (fun e => hk (by simp [e]))⟩
    have hg : w4.grownBy (w6.setCell ⟨xb, 2, none⟩ (.slice (some ⟨qb, 0, none⟩) n cq)) (some xb) := grownBy_transP (only_below (World.grownBy.refl w4 (some xb)) b46) hs6
    have hvo : ∀ k, vw.ownBlock = some k → w4.heap.size ≤ k ∧ k < w5.heap.size := fun k hk => HO5.out.lt k hk
    have hP : ∀ q, (q < w.heap.size ∨ q = ha ∨ q = qb) → (q < w.heap.size ∨ q = ha ∨ q = xb) ∨ w4.heap.size ≤ q := fun q h => by
      rcases h with h | h | h
      · exact .inl (.inl h)
      · exact .inl (.inr (.inl h))
      · exact .inr (by omega)
    have hPx : ∀ q, some xb = some q → (q < w.heap.size ∨ q = ha ∨ q = xb) ∨ w4.heap.size ≤ q := fun q hq => by injection hq with hq; exact .inl (.inr (.inr hq.symm))
    have kx := KX6.out.set_ 2 (.slice (some ⟨qb, 0, none⟩) n cq)
    rw [← HX0.out] at kx
    exact ⟨A4.out.step ⟨hg, hPx, hP⟩, S4.out.grown hg (fun e => by injection e with e; exact hdx e) (fun e => by injection e with e; exact hhx e), GB4.out.step ⟨hg, hPx, hP⟩,
      SB4.out.grown hg (fun e => by injection e with e; omega) (fun e => by injection e with e; omega), kx, HO6.out.kept hs6 (.inr fun e => by simp [Value.ownBlock] at e; omega),
      (KE.out.below B6.out KE.out.lt).grown hs6 (fun e => by injection e with e; omega), (own_below HOE.out B6.out).kept hs6 (.inr fun e => by have := hvo _ e; omega),
      B4.out.grown hg B4.out.size (fun k hk => by injection hk with hk; omega), hhaw, by omega, by omega, by omega, by omega, by omega, by omega, fun e => hhx e.symm, by omega, by omega, by omega, by omega,
      fun e => by have := hvo _ e; omega, fun e => by have := hvo _ e; omega⟩
  have HT0 := Lib.hid T0; have HOZ := Lib.hid T0.sa.ok
  have hqb1 : w.heap.size ≤ qb := T0.n2
  clear T0 Hn HSE HQB B6 HO6 KX6 KE KXE HOE B4E HQR HONE HMK HE1 BE2 A4 S4 Q4 KX4 B4 GB4 SB4 HO5 HB5 HX0
  obtain ⟨B2, hB2⟩ : ∃ q, W3.heap.size = q := ⟨_, rfl⟩
  obtain ⟨Bq, hBq⟩ : ∃ q, E1.heap.size = q := ⟨_, rfl⟩
  obtain ⟨Bw, hBw⟩ : ∃ q, w4.heap.size = q := ⟨_, rfl⟩
  obtain ⟨wb, hwb⟩ : ∃ q, w5.heap.size = q := ⟨_, rfl⟩
  rw [hB2, hBq, hBw, hwb] at HT0
  rw [hwb]
  clear hB2 hBq hBw hwb
  go_loopw [13] (fun i wr => ∃ k : Nat, k ≤ nk ∧ i = .int .i64 (k : Int) ∧ PlS w wr B2 Bq Bw ga da ha gb db hb xb qb cq wb n m vw #[.slice S m cs, .slice A n c, .slice (some ⟨qb, 0, none⟩) n cq] HV rows hs ks ((kl.take k).foldl (mrk n) Z) ((kl.take k).foldl (mrk n) Z) Z) (fun i _ => nk - (intOf i).toNat)
  case atStart => exact ⟨0, Nat.zero_le _, rfl, by simpa using HT0.out⟩
  case round =>
    clear HT0
    obtain ⟨k, hk, rfl, T⟩ := hrel
    by_cases hlt : k < nk
    · obtain ⟨v, hv⟩ : ∃ v, kl[k]? = some v := ⟨_, List.getElem?_eq_getElem (by rw [HKL.out]; exact hlt)⟩
      have hu1 : (zs kl)[k]? = some (.int .i64 v) := by unfold zs; rw [List.getElem?_map, hv]; rfl
      obtain ⟨bb, oo, hKK, hbb, hcell⟩ := reads_plain2 HKK.out (by omega) hu1
      subst hKK
      have hck := (T.low.cell (p := ⟨bb, oo + k, none⟩) hbb).trans (hcell _ _ hu1)
      have HN1 := Lib.hid (show (kl.take (k + 1)).foldl (mrk n) Z = mrk n ((kl.take k).foldl (mrk n) Z) v by rw [List.take_add_one, hv]; simp [List.foldl_append])
      have HKA := Lib.hid (Kill_G T.a T.sa v)
      have HTT := Lib.hid T
      have hok := T.sa.ok
      have hx2 := T.x.cell 2
      simp only [List.getElem?_toArray, List.getElem?_cons_zero, List.getElem?_cons_succ] at hx2
      obtain ⟨la, hla⟩ : ∃ q, (kl.take k).foldl (mrk n) Z = q := ⟨_, rfl⟩
      rw [hla] at HN1 HKA HTT hok
      have HOK := Lib.hid hok
      clear hv hu1 hcell hla T hok
      unfold MarkD at HKA
      rcases plc_cases n v with hp | ⟨j, rfl, hj, hp⟩
      · obtain ⟨hc1, hc2⟩ := canM_no (l := la) hp
        rw [hc1, hc2] at HKA
        rw [hc2] at HN1
        have HP' := Lib.hid hp
        by_cases hv0 : 0 ≤ v
        · have hvn : decide (v < (n : Int)) = false := by
            have h2 := HP'.out
            unfold plc at h2
            rw [decide_eq_true hv0, Bool.true_and] at h2
            exact h2
          have hv1 : decide (0 ≤ v) = true := decide_eq_true hv0
          have hv2 : decide (v ≥ 0) = true := decide_eq_true hv0
          clear hp hc1 hc2
          go_wp2_with fail
          refine HKA.out.mono ?_
          rintro e w7 ⟨rfl, hs7, hg7⟩
          have T7 := Lib.hid (HTT.out.kill hs7 hg7)
          clear hs7 hg7 HTT HKA hck hx2
          go_wp2_with fail
          go_round
          case rel => exact ⟨k + 1, by omega, by go_num, by rw [HN1.out]; exact T7.out⟩
          case measure => simp [intOf]; omega
        · have hv1 : decide (0 ≤ v) = false := decide_eq_false hv0
          have hv2 : decide (v ≥ 0) = false := decide_eq_false hv0
          clear hp hc1 hc2
          go_wp2_with fail
          refine HKA.out.mono ?_
          rintro e w7 ⟨rfl, hs7, hg7⟩
          have T7 := Lib.hid (HTT.out.kill hs7 hg7)
          clear hs7 hg7 HTT HKA hck hx2
          go_wp2_with fail
          go_round
          case rel => exact ⟨k + 1, by omega, by go_num, by rw [HN1.out]; exact T7.out⟩
          case measure => simp [intOf]; omega
      · have hy := (HTT.out.q.cellAt j (by omega)).trans (bl_at (bit la) hj)
        have hvn : decide ((j : Int) < (n : Int)) = true := decide_eq_true (by omega)
        have hv1 : decide (0 ≤ (j : Int)) = true := decide_eq_true (by omega)
        have hv2 : decide ((j : Int) ≥ 0) = true := decide_eq_true (by omega)
        obtain ⟨q, hq⟩ : ∃ q, bit la j = q := ⟨_, rfl⟩
        cases q with
        | true =>
          obtain ⟨hc1, hc2⟩ := canM_had (n := n) hq
          rw [hc1, hc2] at HKA
          rw [hc2] at HN1
          rw [hq] at hy
          clear hp hc1 hc2 hq
          go_wp2_with fail
          refine HKA.out.mono ?_
          rintro e w7 ⟨rfl, hs7, hg7⟩
          have T7 := Lib.hid (HTT.out.kill hs7 hg7)
          clear hs7 hg7 HTT HKA hck hx2 hy
          go_wp2_with fail
          go_round
          case rel => exact ⟨k + 1, by omega, by go_num, by rw [HN1.out]; exact T7.out⟩
          case measure => simp [intOf]; omega
        | false =>
          obtain ⟨hc1, hc2⟩ := canM_new hj hq
          rw [hc1, hc2] at HKA
          rw [hc2] at HN1
          rw [hq] at hy
          clear hp hc1 hc2 hq
          go_wp2_with fail
          refine HKA.out.mono ?_
          rintro e w7 ⟨rfl, hs7, hg7⟩
          have T7 := HTT.out.kill hs7 hg7
          have hx7 := T7.x.cell 2
          simp only [List.getElem?_toArray, List.getElem?_cons_zero, List.getElem?_cons_succ] at hx7
          have hy7 := (T7.q.cellAt j (by omega)).trans (bl_at (bit la) hj)
          have hf7 := T7.q.frozenAt j
          have hso := T7.q.stored j (.bool true)
          have hll : j / 8 < la.length := by have := HOK.out.len; unfold siz at this; omega
          have hsm : bl (fun i => decide (i = j) || bit la i) n = bl (bit (mark la j)) n := bl_congr fun i _ => (bit_mark la j i hll).symm
          rw [bl_set _ hj, hsm] at hso
          have T8 := Lib.hid (T7.mark hso.1 hso.2)
          clear hs7 hg7 HTT HKA hck hx2 hy hso hsm T7
          go_wp2_with fail
          go_round
          case rel => exact ⟨k + 1, by omega, by go_num, by rw [HN1.out]; exact T8.out⟩
          case measure => simp [intOf]; omega
    · obtain rfl : k = nk := by omega
      have hkI : ¬ (k : Int) < (k : Int) := by omega
      rw [List.take_of_length_le (by rw [HKL.out]; exact Nat.le_refl _)] at T
      obtain ⟨M, hM⟩ : ∃ M, kl.foldl (mrk n) Z = M := ⟨_, rfl⟩
      rw [hM] at T
      have hsaE : ∀ {V : World}, SetIn V w.heap.size da ha n M → SetIn V w.heap.size da ha rows.length M := fun h => by rw [HE.out]; exact h
      have hsbE : ∀ {V : World}, SetIn V B2 db hb n Z → SetIn V B2 db hb rows.length Z := fun h => by rw [HE.out]; exact h
      obtain ⟨X7, hX7⟩ : ∃ X7 : Array Value, [Value.slice S m cs, .slice A n c, .slice (some ⟨qb, 0, none⟩) n cq].toArray = X7 := ⟨_, rfl⟩
      have hx7 : (.agg #[.slice S m cs, .slice A n c, .slice (some ⟨qb, 0, none⟩) n cq] : Value) = .agg X7 := by rw [← hX7]
      obtain ⟨L, hL⟩ : ∃ L : Int, (n : Int) - (cnt (bit Z) n : Int) = L := ⟨_, rfl⟩
      have hLn : L = (n : Int) := by rw [← hL, HCZ.out]; simp
      obtain ⟨HVl, hHVl⟩ : ∃ q, hdC (n : Int) L (bs (shaN Z)) vw = q := ⟨_, rfl⟩
      have hHVa : HVl.toArray = HV := by rw [← hHVl, ← hL]; exact HHV.out
      have hhd : hdA (n : Int) L (bs (shaN Z)) vw = .agg HV := by rw [← hHVa, ← hHVl]; rfl
      have CSH := Lib.hid fun (W : World) (hb : Below wr.heap.size wr W) => shows_any (cs := cs) (c := c) (cd := cq) (T.below hb).a (hsaE (T.below hb).sa) HE.out (HT.out.next (T.below hb).low) ((HSR.out.below (T.below hb).low).more (T.below hb).low.size) HSL.out (by omega) (HVV.out.next (T.below hb).low) (by omega) (Reads.of_own (T.below hb).q) HHS.out HKS.out HLEN.out HCIN.out HCT.out
      rw [hx7] at CSH
      have CHD := Lib.hid fun (W : World) (hb : Below wr.heap.size wr W) => Header_G (T.below hb).b (hsbE (T.below hb).sb) (HT.out.next (T.below hb).low) (by rw [HHL.out]; omega)
      have CLV := Lib.hid fun (W : World) (hb : Below wr.heap.size wr W) => Live_G (T.below hb).b (hsbE (T.below hb).sb)
      simp only [HE.out, HHL.out] at CHD CLV
      rw [hL] at CHD CLV
      have hr1 := range_blkG (l := [Value.slice S m cs, .slice A n c, .slice (some ⟨qb, 0, none⟩) n cq]) (g := xb) (t := 33) T.x
      have hw0 := T.wv
      rw [← hHVa] at hw0
      have hr2 := range_blkG hw0
      have HS0 : Hid (∀ (W : World), Below wr.heap.size wr W → W.rangeAt xb 0 [Value.slice S m cs, .slice A n c, .slice (some ⟨qb, 0, none⟩) n cq] ∧ W.rangeAt wb 0 HVl) := Lib.hid fun W hW => ⟨range_nextG hr1 T.x.lt hW, range_nextG hr2 T.wv.lt hW⟩
      have HX7 := Lib.hid hX7; have HHA := Lib.hid hHVa; have HHD := Lib.hid hhd; have HLN := Lib.hid hLn; have HTT := Lib.hid T
      have HXI : Hid ((Tryz.prog.info? 33).map (·.size) = some [Value.slice S m cs, .slice A n c, .slice (some ⟨qb, 0, none⟩) n cq].length) := Lib.hid size_refG
      have HWI : Hid ((Tryz.prog.info? 42).map (·.size) = some HVl.length) := Lib.hid (by rw [← hHVl, hdC_len (by rw [bs_length, shaN_length])]; exact HSZ.out)
      clear hX7 hx7 hHVl hHVa hhd hLn hr1 hw0 hr2 T hsaE hsbE hM hL
      go_upto_region 21 with fail
      have HB := Below.drew (Below.refl wr.heap.size wr)
      refine wp_region_noPanic ?_
      refine wp_region_held_drew (S := fun w' => w'.rangeAt xb 0 [Value.slice S m cs, .slice A n c, .slice (some ⟨qb, 0, none⟩) n cq] ∧ w'.rangeAt wb 0 HVl) (by kernel_rfl) (HS0.out _ HB) (fun hHeld => ?_)
      refine wpAnyH_take (i := 0) (oi := { dst := some 104, op := Go.Op.move (Go.Operand.tmp 7), type := 27, pos := "law.go:71", after := #[], guard := none }) (v := ?_) rfl (by kernel_rfl) (by kernel_rfl) (by kernel_rfl) (fun _ _ _ => np) (Or.inl ⟨by rfl, ?_⟩) (by assumption) ?_
      rotate_left
      · (intro _ hSw; (try dsimp only at hSw); clear hSw; go_simp; try with_reducible rfl)
      try simp only [Act.put, List.setIfInBounds_toArray, List.set_cons_zero, List.set_cons_succ]
      refine wpAnyH_take (i := 1) (oi := { dst := some 105, op := Go.Op.load 33 (Go.Operand.tmp 9), type := 33, pos := "law.go:71", after := #[], guard := none }) (v := .agg X7) rfl (by kernel_rfl) (by kernel_rfl) (by kernel_rfl) (fun _ _ _ => np) (yieldsIf_load_midX (by rfl) 33 (.tmp 9) rfl xb 0 rfl [Value.slice S m cs, .slice A n c, .slice (some ⟨qb, 0, none⟩) n cq] X7 HX7.out _ (fun w' hS => hS.1) Tryz.underlying33 rfl HXI.out) (by assumption) ?_
      try simp only [Act.put, List.setIfInBounds_toArray, List.set_cons_zero, List.set_cons_succ]
      refine wpAnyH_ready (rs := [2]) (by kernel_rfl) (by simp) ?_
      refine AllReadyH.cons rfl (fun K hK => ?_) AllReadyH.nil
      go_simp
      go_at_call 12
      refine (CSH.out _ HB).mono ?_
      rintro _ w2 ⟨rfl, hb2⟩
      have HB2 := HB.trans (hb2.mono HB.size)
      go_wp2_with fail
      refine hK.out _ _ (HS0.out _ HB2) (fun hHeld => ?_)
      clear hK K
      try simp only [Act.put, List.setIfInBounds_toArray, List.set_cons_zero, List.set_cons_succ]
      refine wpAnyH_take (i := 3) (oi := { dst := some 107, op := Go.Op.move (Go.Operand.tmp 106), type := 4, pos := "law.go:71", after := #[{ on := 2, ground := Go.Ground.data }, { on := 2, ground := Go.Ground.chain }], guard := none }) (v := ?_) rfl (by kernel_rfl) (by kernel_rfl) (by kernel_rfl) (fun _ _ _ => np) (Or.inl ⟨by rfl, ?_⟩) (by assumption) ?_
      rotate_left
      · (intro _ hSw; (try dsimp only at hSw); clear hSw; go_simp; try with_reducible rfl)
      try simp only [Act.put, List.setIfInBounds_toArray, List.set_cons_zero, List.set_cons_succ]
      refine wpAnyH_take (i := 4) (oi := { dst := some 108, op := Go.Op.move (Go.Operand.tmp 11), type := 27, pos := "law.go:71", after := #[{ on := 3, ground := Go.Ground.guard }], guard := some (3, true) }) (v := ?_) rfl (by kernel_rfl) (by kernel_rfl) (by kernel_rfl) (fun _ _ _ => np) (Or.inl ⟨by rfl, ?_⟩) (by assumption) ?_
      rotate_left
      · (intro _ hSw; (try dsimp only at hSw); clear hSw; go_simp; try with_reducible rfl)
      try simp only [Act.put, List.setIfInBounds_toArray, List.set_cons_zero, List.set_cons_succ]
      refine wpAnyH_take (i := 6) (oi := { dst := some 110, op := Go.Op.load 42 (Go.Operand.tmp 12), type := 42, pos := "law.go:71", after := #[{ on := 3, ground := Go.Ground.guard }], guard := some (3, true) }) (v := .agg HV) rfl (by kernel_rfl) (by kernel_rfl) (by kernel_rfl) (fun _ _ _ => np) (yieldsIf_load_midX (by rfl) 42 (.tmp 12) rfl wb 0 rfl HVl HV HHA.out _ (fun w' hS => hS.2) Tryz.underlying42 rfl HWI.out) (by assumption) ?_
      try simp only [Act.put, List.setIfInBounds_toArray, List.set_cons_zero, List.set_cons_succ]
      refine wpAnyH_ready (rs := [5]) (by kernel_rfl) (by simp) ?_
      refine AllReadyH.cons rfl (fun K hK => ?_) AllReadyH.nil
      go_simp
      go_at_call 10
      refine (CHD.out _ HB2).mono ?_
      rintro _ w3 ⟨v9, rfl, ho3, hb3⟩
      obtain ⟨A9, c9, rfl, _, _, r9⟩ := own_slice ho3
      have HB3 := HB2.trans (hb3.mono HB2.size)
      go_wp2_with fail
      refine hK.out _ _ (HS0.out _ HB3) (fun hHeld => ?_)
      clear hK K
      try simp only [Act.put, List.setIfInBounds_toArray, List.set_cons_zero, List.set_cons_succ]
      refine wpAnyH_ready (rs := [7]) (by kernel_rfl) (by simp) ?_
      refine AllReadyH.cons rfl (fun K hK => ?_) AllReadyH.nil
      go_simp
      go_at_call 13
      rw [← HHD.out, HVW.out]
      refine (sameH_true (c := c9) (c' := cw) (n := (n : Int)) (L := L) (l := shaN Z) r9 (Reads.of_own (by have h := (HTT.out.below HB3).wo; rw [HVW.out] at h; exact h)) (shaN_length _) H32.out HHL.out (by omega)).mono ?_
      rintro _ w4 ⟨rfl, hb4⟩
      have HB4 := HB3.trans (hb4.mono HB3.size)
      go_wp2_with fail
      refine hK.out _ _ (HS0.out _ HB4) (fun hHeld => ?_)
      clear hK K
      try simp only [Act.put, List.setIfInBounds_toArray, List.set_cons_zero, List.set_cons_succ]
      refine wpAnyH_take (i := 8) (oi := { dst := some 112, op := Go.Op.pick (Go.Operand.tmp 107) (Go.Operand.tmp 111) (Go.Operand.const (Go.Value.bool false)), type := 4, pos := "law.go:71", after := #[{ on := 3, ground := Go.Ground.data }, { on := 7, ground := Go.Ground.data }], guard := none }) (v := ?_) rfl (by kernel_rfl) (by kernel_rfl) (by kernel_rfl) (fun _ _ _ => np) (Or.inl ⟨by rfl, ?_⟩) (by assumption) ?_
      rotate_left
      · (intro _ hSw; (try dsimp only at hSw); clear hSw; go_simp; try with_reducible rfl)
      try simp only [Act.put, List.setIfInBounds_toArray, List.set_cons_zero, List.set_cons_succ]
      refine wpAnyH_take (i := 9) (oi := { dst := some 113, op := Go.Op.move (Go.Operand.tmp 112), type := 4, pos := "law.go:71", after := #[{ on := 8, ground := Go.Ground.data }, { on := 7, ground := Go.Ground.chain }], guard := none }) (v := ?_) rfl (by kernel_rfl) (by kernel_rfl) (by kernel_rfl) (fun _ _ _ => np) (Or.inl ⟨by rfl, ?_⟩) (by assumption) ?_
      rotate_left
      · (intro _ hSw; (try dsimp only at hSw); clear hSw; go_simp; try with_reducible rfl)
      try simp only [Act.put, List.setIfInBounds_toArray, List.set_cons_zero, List.set_cons_succ]
      refine wpAnyH_take (i := 10) (oi := { dst := some 114, op := Go.Op.move (Go.Operand.tmp 11), type := 27, pos := "law.go:71", after := #[{ on := 9, ground := Go.Ground.guard }], guard := some (9, true) }) (v := ?_) rfl (by kernel_rfl) (by kernel_rfl) (by kernel_rfl) (fun _ _ _ => np) (Or.inl ⟨by rfl, ?_⟩) (by assumption) ?_
      rotate_left
      · (intro _ hSw; (try dsimp only at hSw); clear hSw; go_simp; try with_reducible rfl)
      try simp only [Act.put, List.setIfInBounds_toArray, List.set_cons_zero, List.set_cons_succ]
      refine wpAnyH_take (i := 12) (oi := { dst := some 116, op := Go.Op.move (Go.Operand.tmp 1), type := 23, pos := "law.go:71", after := #[{ on := 9, ground := Go.Ground.guard }], guard := some (9, true) }) (v := ?_) rfl (by kernel_rfl) (by kernel_rfl) (by kernel_rfl) (fun _ _ _ => np) (Or.inl ⟨by rfl, ?_⟩) (by assumption) ?_
      rotate_left
      · (intro _ hSw; (try dsimp only at hSw); clear hSw; go_simp; try with_reducible rfl)
      try simp only [Act.put, List.setIfInBounds_toArray, List.set_cons_zero, List.set_cons_succ]
      refine wpAnyH_take (i := 13) (oi := { dst := some 117, op := Go.Op.call { callee := Go.Callee.builtin Go.Builtin.len, args := #[Go.Operand.tmp 116], argTypes := #[23] }, type := 3, pos := "law.go:71", after := #[{ on := 12, ground := Go.Ground.data }, { on := 9, ground := Go.Ground.guard }], guard := some (9, true) }) (v := ?_) rfl (by kernel_rfl) (by kernel_rfl) (by kernel_rfl) (fun _ _ _ => np) (Or.inl ⟨by rfl, ?_⟩) (by assumption) ?_
      rotate_left
      · (intro _ hSw; (try dsimp only at hSw); clear hSw; go_simp; try with_reducible rfl)
      try simp only [Act.put, List.setIfInBounds_toArray, List.set_cons_zero, List.set_cons_succ]
      refine wpAnyH_ready (rs := [11]) (by kernel_rfl) (by simp) ?_
      refine AllReadyH.cons rfl (fun K hK => ?_) AllReadyH.nil
      go_simp
      go_at_call 14
      refine (CLV.out _ HB4).mono ?_
      rintro _ w5 ⟨rfl, hb5⟩
      rw [HLN.out]
      have HB5 := HB4.trans (hb5.mono HB4.size)
      go_wp2_with fail
      refine hK.out _ _ (HS0.out _ HB5) (fun hHeld => ?_)
      clear hK K
      try simp only [Act.put, List.setIfInBounds_toArray, List.set_cons_zero, List.set_cons_succ]
      refine wpAnyH_take (i := 14) (oi := { dst := some 118, op := Go.Op.binOp Go.BinOp.eql 3 (Go.Operand.tmp 115) (Go.Operand.tmp 117) 3, type := 4, pos := "law.go:71", after := #[{ on := 11, ground := Go.Ground.data }, { on := 13, ground := Go.Ground.data }, { on := 9, ground := Go.Ground.guard }], guard := some (9, true) }) (v := ?_) rfl (by kernel_rfl) (by kernel_rfl) (by kernel_rfl) (fun _ _ _ => np) (Or.inl ⟨by rfl, ?_⟩) (by assumption) ?_
      rotate_left
      · (intro _ hSw; (try dsimp only at hSw); clear hSw; go_simp; try with_reducible rfl)
      try simp only [Act.put, List.setIfInBounds_toArray, List.set_cons_zero, List.set_cons_succ]
      refine wpAnyH_take (i := 15) (oi := { dst := some 119, op := Go.Op.pick (Go.Operand.tmp 113) (Go.Operand.tmp 118) (Go.Operand.const (Go.Value.bool false)), type := 4, pos := "law.go:71", after := #[{ on := 9, ground := Go.Ground.data }, { on := 14, ground := Go.Ground.data }], guard := none }) (v := ?_) rfl (by kernel_rfl) (by kernel_rfl) (by kernel_rfl) (fun _ _ _ => np) (Or.inl ⟨by rfl, ?_⟩) (by assumption) ?_
      rotate_left
      · (intro _ hSw; (try dsimp only at hSw); clear hSw; go_simp; try with_reducible rfl)
      try simp only [Act.put, List.setIfInBounds_toArray, List.set_cons_zero, List.set_cons_succ]
      refine wpAnyH_take (i := 16) (oi := { dst := some 120, op := Go.Op.move (Go.Operand.tmp 119), type := 4, pos := "law.go:71", after := #[{ on := 15, ground := Go.Ground.data }, { on := 11, ground := Go.Ground.chain }], guard := none }) (v := ?_) rfl (by kernel_rfl) (by kernel_rfl) (by kernel_rfl) (fun _ _ _ => np) (Or.inl ⟨by rfl, ?_⟩) (by assumption) ?_
      rotate_left
      · (intro _ hSw; (try dsimp only at hSw); clear hSw; go_simp; try with_reducible rfl)
      try simp only [Act.put, List.setIfInBounds_toArray, List.set_cons_zero, List.set_cons_succ]
      refine wpAnyH_ready (rs := [17]) (by kernel_rfl) (by simp) ?_
      refine AllReadyH.cons rfl (fun K hK => ?_) AllReadyH.nil
      go_simp
      go_at_call 5
      refine (HAW.out _ (HTT.out.below HB5).low).mono ?_
      rintro _ w6 ⟨rfl, hb6⟩
      have HB6 := HB5.trans (hb6.mono HB5.size)
      go_wp2_with fail
      refine hK.out _ _ (HS0.out _ HB6) (fun hHeld => ?_)
      clear hK K
      try simp only [Act.put, List.setIfInBounds_toArray, List.set_cons_zero, List.set_cons_succ]
      refine wpAnyH_take (i := 18) (oi := { dst := some 122, op := Go.Op.pick (Go.Operand.tmp 120) (Go.Operand.tmp 121) (Go.Operand.const (Go.Value.bool false)), type := 4, pos := "law.go:71", after := #[{ on := 16, ground := Go.Ground.data }, { on := 17, ground := Go.Ground.data }], guard := none }) (v := ?_) rfl (by kernel_rfl) (by kernel_rfl) (by kernel_rfl) (fun _ _ _ => np) (Or.inl ⟨by rfl, ?_⟩) (by assumption) ?_
      rotate_left
      · (intro _ hSw; (try dsimp only at hSw); clear hSw; go_simp; try with_reducible rfl)
      try simp only [Act.put, List.setIfInBounds_toArray, List.set_cons_zero, List.set_cons_succ]
      refine wpAnyH_take (i := 19) (oi := { dst := some 6, op := Go.Op.assign (Go.Operand.tmp 122), type := 4, pos := "law.go:71", after := #[{ on := 18, ground := Go.Ground.data }, { on := 17, ground := Go.Ground.chain }, { on := 0, ground := Go.Ground.phase }, { on := 1, ground := Go.Ground.phase }, { on := 2, ground := Go.Ground.phase }, { on := 3, ground := Go.Ground.phase }, { on := 4, ground := Go.Ground.phase }, { on := 5, ground := Go.Ground.phase }, { on := 6, ground := Go.Ground.phase }, { on := 7, ground := Go.Ground.phase }, { on := 8, ground := Go.Ground.phase }, { on := 9, ground := Go.Ground.phase }, { on := 10, ground := Go.Ground.phase }, { on := 11, ground := Go.Ground.phase }, { on := 12, ground := Go.Ground.phase }, { on := 13, ground := Go.Ground.phase }, { on := 14, ground := Go.Ground.phase }, { on := 15, ground := Go.Ground.phase }, { on := 16, ground := Go.Ground.phase }, { on := 17, ground := Go.Ground.phase }, { on := 18, ground := Go.Ground.phase }], guard := none }) (v := ?_) rfl (by kernel_rfl) (by kernel_rfl) (by kernel_rfl) (fun _ _ _ => np) (Or.inl ⟨by rfl, ?_⟩) (by assumption) ?_
      rotate_left
      · (intro _ hSw; (try dsimp only at hSw); clear hSw; go_simp; try with_reducible rfl)
      try simp only [Act.put, List.setIfInBounds_toArray, List.set_cons_zero, List.set_cons_succ]
      refine wpAnyH_done (by kernel_rfl) ?_ _
      refine NoPanic.normal ?_
      go_wp2_with fail
      go_ret
      exact ⟨rfl, (HTT.out.below HB6).low⟩
end
end Go.Proofs.YtpgdlmnhomnblaaGreatDoor
