/- The law DiskSure: what was synced stays, and what is behind it is a beginning of what was put behind, whatever fails. -/
import Derived.Outline
import Derived.Deep.RegionHeld3
import Derived.Test.YthgopedojgbaoaaSureMem
import Derived.Test.YthgopedojgbaoaaListsIn
namespace Go.Proofs.Ythgopedojgbaoaa
open Go.RowKit Go.Maps Go.WideMaps Go.ChangeMaps
set_option linter.unusedVariables false
set_option linter.unusedSimpArgs false
set_option maxRecDepth 100000

def x1 (k : Nat) (a : List Nat) : Option Fl := if k = 0 then none else some (a, 0)
theorem x1_add {k : Nat} {a : List Nat} (h : k = 0 → a = []) (y : List Nat) : some (addF (x1 k a) y) = x1 (k + 1) (a ++ y) := by
  unfold x1
  rw [if_neg (by omega : ¬ k + 1 = 0)]
  by_cases e : k = 0
  · rw [if_pos e, h e]; rfl
  · rw [if_neg e]; rfl
theorem x1_len {k : Nat} {a : List Nat} : flen (x1 k a) ≤ a.length := by
  unfold x1
  split <;> simp [flen]
/-- Ahead of the k-th text of those that are made sure. -/
def At1 (w : World) (d k : Nat) (v : Value) (wr : World) : Prop :=
  ∃ X a, a.length ≤ 100 * k ∧ (k = 0 → a = []) ∧ OwnX w.heap.size wr X v a ∧ Dsk wr X d (one (x1 k a) (-1) false) ∧ Step w Z wr X
theorem At1.next {w wr wa w2 : World} {d k : Nat} {v v' : Value} {X X1 : Nat → Prop} {a y : List Nat} (hl : a.length ≤ 100 * k) (h0 : k = 0 → a = []) (hy : y.length ≤ 100) (hv : OwnX w.heap.size wr X v a) (hs : Step w Z wr X)
    (hs1 : Step wr X wa X1) (hD : Dsk wa X1 d (one (x1 (k + 1) (a ++ y)) (-1) false)) (ho : w2.ownsRow w.heap.size 5 1 v' (a.length + y.length) (bs a ++ bs y)) (hg : wa.grownBy w2 v.ownBlock) (hb : v'.ownBlock = v.ownBlock ∨ v'.ownBlock = some wa.heap.size) :
    At1 w d (k + 1) v' w2 := by
  have hv1 := hv.step hs1
  exact ⟨X1, a ++ y, by simp; omega, fun e => by omega, hv1.app (fun i hi => hD.lt i hi) ho hb, hD.app hv1 hg, (hs.trans hs1).zapp hv1 hg⟩
/-- Ahead of the k-th text of the tail. -/
def At2 (w : World) (d : Nat) (va : Value) (a : List Nat) (s0 : Prop) (k : Nat) (v : Value) (wr : World) : Prop :=
  ∃ X b x fu dn, b.length ≤ 100 * k ∧ OwnX w.heap.size wr X va a ∧ OwnX w.heap.size wr X v b ∧ (∀ g, va.ownBlock = some g → v.ownBlock ≠ some g) ∧ Dsk wr X d (one x fu dn) ∧ 0 ≤ fu ∧ Tl a b s0 x dn ∧ Step w Z wr X
theorem At2.next {w wr wa w2 : World} {d k : Nat} {va v v' : Value} {X X1 : Nat → Prop} {a b y : List Nat} {s0 : Prop} {x : Option Fl} {fu : Int} {dn : Bool} (hl : b.length ≤ 100 * k) (hy : y.length ≤ 100) (hva : OwnX w.heap.size wr X va a) (hv : OwnX w.heap.size wr X v b) (hne : ∀ g, va.ownBlock = some g → v.ownBlock ≠ some g) (hs : Step w Z wr X)
    (hs1 : Step wr X wa X1) (hD : Dsk wa X1 d (one x fu dn)) (hf : 0 ≤ fu) (ht : Tl a (b ++ y) s0 x dn) (ho : w2.ownsRow w.heap.size 5 1 v' (b.length + y.length) (bs b ++ bs y)) (hg : wa.grownBy w2 v.ownBlock) (hb : v'.ownBlock = v.ownBlock ∨ v'.ownBlock = some wa.heap.size) :
    At2 w d va a s0 (k + 1) v' w2 := by
  have hv1 := hv.step hs1
  have hva1 := hva.step hs1
  exact ⟨X1, b ++ y, x, fu, dn, by simp; omega, hva1.beside hg hne, hv1.app (fun i hi => hD.lt i hi) ho hb, hva1.apart hne hb, hD.app hv1 hg, hf, ht, (hs.trans hs1).zapp hv1 hg⟩
def Yes (w : World) (e : Ending) (w' : World) : Prop := e = .returned (.bool true) ∧ Below w.heap.size w w'
theorem Yes.mk' {w w1 w2 : World} (h1 : Below w.heap.size w w1) (h2 : Below w1.heap.size w1 w2) : Yes w (.returned (.bool true)) w2 := ⟨rfl, h1.trans (h2.mono h1.size)⟩
theorem np {Q : Exit → Act → World → Prop} {c} {a a' : Act} {w : World} (h : NoPanic Q (.panic c) a w) : NoPanic Q (.panic c) a' w := (h : False).elim
theorem below_drew {B : Nat} {w W : World} (h : Below B w W) : Below B w W.drew := ⟨h.os, h.tape, h.output, h.size, h.block⟩
/-- What follows wants of a callee: an answer, and that what stood below still stands. -/
def Yields (B : Nat) (w : World) (f : FuncId) (args : Array Value) (v : Value) : Prop :=
  ∀ W, Below B w W → Calls Try.prog f args W fun e w' => e = .returned v ∧ Below B w w'
theorem same_yields (A A' : Option Addr) (n c m c' : Nat) (l : List Nat) (w : World) (h1 : Reads w w.heap.size 1 A n (bs l)) (h2 : Reads w w.heap.size 1 A' m (bs l)) (hn : n ≤ 140737488355328) :
    Yields w.heap.size w 14 #[.slice A n c, .slice A' m c'] (.bool true) := by
  intro W hb
  refine (same_true A A' n c m c' l W ((h1.below hb).more hb.size) ((h2.below hb).more hb.size) hn).mono ?_
  rintro e w1 ⟨rfl, hd⟩
  exact ⟨rfl, hd.below hb⟩
theorem down_yields {w : World} {X : Nat → Prop} {d : Nat} {S : St} (h : Dsk w X d S) (hd : S.down = false) : Yields w.heap.size w 15 #[.pointer (some ⟨d, 0, none⟩)] (.bool false) := by
  intro W hb
  have hc := Down_any (h.keep hb.size (fun i hi => hb.block i (h.lt i hi)))
  rw [hd] at hc
  refine hc.mono ?_
  rintro e w1 ⟨rfl, hd⟩
  exact ⟨rfl, hd.below hb⟩
theorem awake_yields (w : World) : Yields w.heap.size w 7 #[] (.bool true) := by
  intro W hb
  refine (awake_any W).mono ?_
  rintro e w1 ⟨rfl, hb1⟩
  exact ⟨rfl, hb.trans (hb1.mono hb.size)⟩
theorem sure_big (A0 A1 : Option Addr) (n0 c0 n1 c1 : Nat) (keep : Int) (fz : Nat) (w : World) (h : 10 < n0 ∨ 10 < n1) :
    Calls Try.prog 3 #[.slice A0 n0 c0, .slice A1 n1 c1, .int .i64 keep, .int .u8 (fz : Int)] w (Yes w) := by
  by_cases h1 : 10 < n0
  · go_enter Try.func3, Try.ntmps3
    go_wp2_with (go_at_call 7; refine (awake_any _).mono ?_; rintro e w5 ⟨rfl, hb5⟩)
    go_ret
    exact ⟨rfl, hb5⟩
  · have h2 : 10 < n1 := by omega
    go_enter Try.func3, Try.ntmps3
    go_wp2_with (go_at_call 7; refine (awake_any _).mono ?_; rintro e w5 ⟨rfl, hb5⟩)
    go_ret
    exact ⟨rfl, hb5⟩
def s102 : ByteArray := ⟨#[102]⟩
set_option maxHeartbeats 4000000 in
theorem sure_main (A0 A1 : Option Addr) (n0 c0 n1 c1 : Nat) (keep : Int) (fz : Nat) (ls0 ls1 : List (List Nat)) (w : World) (h0 : IsList w A0 n0 ls0) (h1 : IsList w A1 n1 ls1) (hk : -9223372036854775808 ≤ keep ∧ keep < 9223372036854775808) (hfz : fz < 256) (hn0 : n0 ≤ 10) (hn1 : n1 ≤ 10) :
    Calls Try.prog 3 #[.slice A0 n0 c0, .slice A1 n1 c1, .int .i64 keep, .int .u8 (fz : Int)] w (Yes w) := by
  obtain ⟨hl0, hL0, hb0⟩ := h0
  obtain ⟨hl1, hL1, hb1⟩ := h1
  obtain ⟨i0, hi0, hz0, hz1, hz2⟩ := info_parts info_u8
  obtain ⟨vs0, hr0, he0⟩ := hL0
  obtain ⟨vs1, hr1, he1⟩ := hL1
  rw [hl0] at hr0
  rw [hl1] at hr1
  have hit0 : ∀ k, k < n0 → ∃ l, ls0[k]? = some l ∧ (∀ b ∈ l, b < 256) := fun k hk => ⟨ls0[k]'(by omega), List.getElem?_eq_getElem (by omega), hb0 _ (List.getElem_mem _)⟩
  have hit1 : ∀ k, k < n1 → ∃ l, ls1[k]? = some l ∧ (∀ b ∈ l, b < 256) := fun k hk => ⟨ls1[k]'(by omega), List.getElem?_eq_getElem (by omega), hb1 _ (List.getElem_mem _)⟩
  have H0 := Lib.hid hit0
  have H1 := Lib.hid hit1
  clear hit0 hit1 hl0 hl1 hb0 hb1
  have hne0 : decide ((10 : Int) < (n0 : Int)) = false := decide_eq_false (by omega)
  go_enter Try.func3, Try.ntmps3
  go_wp2_with fail
  refine (New_yes 5000 (by omega) w).mono ?_
  rintro e w1 ⟨d, X, rfl, hD, hs⟩
  rw [new_one] at hD
  have hat : At1 w d 0 (.slice none 0 0) w1 := ⟨X, [], Nat.zero_le _, fun _ => rfl, OwnX.none_ _ _ _, hD, hs⟩
  clear hD hs
  go_wp2_with fail
  go_loopg [10, 12] n0 (fun g s10 s12 wr => ∃ k : Nat, k + g = n0 ∧ s12 = .int .i64 (k : Int) ∧ At1 w d k s10 wr)
  case atStart => exact ⟨0, by omega, rfl, hat⟩
  case round =>
    clear hat
    obtain ⟨k, hkg, rfl, X, a, ha1, ha2, hav, hD, hs⟩ := hrel
    cases gk with
    | succ g =>
      have hk0 : k < n0 := by omega
      obtain ⟨x, hx, hxb⟩ := H0.out k hk0
      obtain ⟨ad, v, rfl, hadb, hv, hcl⟩ := (hr0.below hs.zbelow).at_ hk0
      obtain ⟨v0, hv0, hB⟩ := he0.at_ hx
      rw [hv] at hv0
      cases hv0
      have HX := Lib.hid hx
      have HXB := Lib.hid hxb
      clear hx hxb hv
      by_cases h100 : 100 < x.length
      · obtain ⟨B1, d1, rfl, _⟩ := hB
        go_wp2_with fail
        refine (awake_any wr).mono ?_
        rintro e w2 ⟨rfl, hb2⟩
        go_wp2_with fail
        go_ret
        exact Yes.mk' hs.zbelow hb2
      · obtain ⟨B1, d1, rfl, hsrc⟩ := src_in hB hs HXB.out (by unfold maxLen; omega)
        have hcall := Append_any hD s102 B1 x.length d1 x hsrc
        rw [deed_calm, show s102.data.toList = [102] from rfl, add_one _ _ _ _ (by have := x1_len (k := k) (a := a); omega), x1_add ha2] at hcall
        have hadX : ¬ X (ad.add k).block := fun e => by
          rw [block_of_add] at e
          rcases hs.new _ e with e1 | e1
          · exact e1
          · omega
        have hadl : (ad.add k).block < wr.heap.size := by rw [block_of_add]; exact Nat.lt_of_lt_of_le hadb hs.size
        have HC := Lib.hid hcall
        have hnext := fun (wa w2 : World) (v' : Value) (X1 : Nat → Prop) (hs1 : Step wr X wa X1) (hD : Dsk wa X1 d (one (x1 (k + 1) (a ++ x)) (-1) false)) ho hg hb => At1.next (v' := v') ha1 ha2 (y := x) (by omega) hav hs hs1 hD (w2 := w2) ho hg hb
        obtain ⟨n, hn⟩ : ∃ n, x.length = n := ⟨_, rfl⟩
        obtain ⟨la, hla⟩ : ∃ n, a.length = n := ⟨_, rfl⟩
        have hown := hav.own
        rw [hn] at hnext hsrc hcall h100
        rw [hla] at hnext hown ha1
        have HNX := Lib.hid hnext
        have HN := Lib.hid hn
        have HLA := Lib.hid hla
        have HS := Lib.hid hs
        have h100e : decide ((100 : Int) < (n : Int)) = false := decide_eq_false (by omega)
        clear hcall hnext hla hs hD hB ha2
        rw [hn] at HC hcl
        clear hn
        go_wp2_with fail
        refine HC.out.mono ?_
        rintro e wa ⟨rfl, X1, hD1, hs1⟩
        have hcl1 := hs1.at_ hcl hadl hadX
        have hsrc1 := (hsrc.step hs1).rd
        have hown1 := (OwnX.step (B := w.heap.size) hav hs1).own
        rw [HLA.out] at hown1
        have hbase : w.heap.size ≤ wa.heap.size := Nat.le_trans HS.out.size hs1.size
        have HD1 := Lib.hid hD1
        have HS1 := Lib.hid hs1
        clear hD1 hs1
        go_wp2_with (at_builtin
                     refine wpList_append_any _ rfl (.tmp 57) (.tmp 61) _ rfl w.heap.size 5 i0 _ 1 1 Try.underlying26 hi0 hz0 hz1 hz2 rfl (by omega) u10 la (bs a) rfl
                       hown1 wa.heap.size B1 n d1 (bs x) rfl hsrc1 (bs_one _) (by unfold maxLen; omega) (by omega) hbase ?_
                     intro v3 w3 hown3 hg3 hat3)
        go_roundg g
        case rel => exact ⟨k + 1, by omega, by go_num, HNX.out wa w3 v3 X1 HS1.out HD1.out hown3 hg3 hat3⟩
        case measure => exact Nat.lt_succ_self _
    | zero =>
      obtain rfl : k = n0 := by omega
      clear hkg
      have hk100 : a.length ≤ 1000 := by omega
      have HFR := Lib.hid (show (fz : Int) % 12 = ((fz % 12 : Nat) : Int) by omega)
      have hfi : -9223372036854775808 ≤ ((fz % 12 : Nat) : Int) ∧ ((fz % 12 : Nat) : Int) < 9223372036854775808 := by omega
      by_cases hz : k = 0
      case' pos =>
        have ha0 := Lib.hid (ha2 hz)
        have hx1 : x1 k a = none := if_pos hz
        rw [hx1] at hD
        have hz0 := Lib.hid hz
        have hc : decide ((0 : Int) < (k : Int)) = false := decide_eq_false (by omega)
        have hnk : ¬ 0 < k := by omega
        clear hz ha2 hx1
        go_wp2_with fail
        rw [HFR.out]
        refine (Fuse_any hD _ hfi).mono ?_
        rintro e wb ⟨rfl, X2, hD2, hs2⟩
        have hat2 : At2 w d u10 a (k = 0) 0 (.slice none 0 0) wb := ⟨X2, [], none, _, false, Nat.zero_le _, hav.step hs2, OwnX.none_ _ _ _, (fun g e e' => by cases e'), hD2, Int.natCast_nonneg _, .inl ⟨rfl, .inl ⟨rfl, ha0.out, rfl, hz0.out⟩⟩, hs.trans hs2⟩
        clear hD hD2 hs hs2 hav ha0 hz0
      case' neg =>
        have hc : decide ((0 : Int) < (k : Int)) = true := decide_eq_true (by omega)
        have hnk : 0 < k := by omega
        have hx1 : x1 k a = some (a, 0) := if_neg hz
        rw [hx1] at hD
        have hz0 := Lib.hid hz
        clear hz ha2 hx1
        go_wp2_with fail
        have hcs := Sync_any hD s102
        rw [show s102.data.toList = [102] from rfl, sync_one] at hcs
        refine hcs.mono ?_
        rintro e wc ⟨rfl, X1, hD1, hs1⟩
        have hav1 := hav.step hs1
        have hs01 := hs.trans hs1
        clear hcs hD hs hs1 hav
        go_wp2_with fail
        rw [HFR.out]
        refine (Fuse_any hD1 _ hfi).mono ?_
        rintro e wb ⟨rfl, X2, hD2, hs2⟩
        have hat2 : At2 w d u10 a (k = 0) 0 (.slice none 0 0) wb := ⟨X2, [], some (a, a.length), _, false, Nat.zero_le _, hav1.step hs2, OwnX.none_ _ _ _, (fun g e e' => by cases e'), hD2, Int.natCast_nonneg _, .inl ⟨rfl, .inr (by rw [List.append_nil])⟩, hs01.trans hs2⟩
        clear hD1 hD2 hs01 hs2 hav1 hz0
      all_goals
        clear HFR hfi
        go_wp2_with fail
        go_loopg [11, 13] n1 (fun g s11 s13 wr => ∃ k1 : Nat, k1 + g = n1 ∧ s13 = .int .i64 (k1 : Int) ∧ At2 w d u10 a (k = 0) k1 s11 wr)
        case atStart => exact ⟨0, by omega, rfl, hat2⟩
        case round =>
          clear hat2
          obtain ⟨k1, hkg, rfl, X, b, x0, fu, dn, hb1, hva, hv, hne, hD, hfu, hT, hs⟩ := hrel
          cases gk with
          | succ g =>
            have hk0 : k1 < n1 := by omega
            obtain ⟨x, hx, hxb⟩ := H1.out k1 hk0
            obtain ⟨ad, v, rfl, hadb, hv0, hcl⟩ := (hr1.below hs.zbelow).at_ hk0
            obtain ⟨v1, hv1, hB⟩ := he1.at_ hx
            rw [hv0] at hv1
            cases hv1
            have HX := Lib.hid hx
            have HXB := Lib.hid hxb
            clear hx hxb hv0
            by_cases h100 : 100 < x.length
            · obtain ⟨B1, d1, rfl, _⟩ := hB
              go_wp2_with fail
              refine (awake_any _).mono ?_
              rintro e w2 ⟨rfl, hb2⟩
              go_wp2_with fail
              go_ret
              exact Yes.mk' hs.zbelow hb2
            · obtain ⟨B1, d1, rfl, hsrc⟩ := src_in hB hs HXB.out (by unfold maxLen; omega)
              obtain ⟨e0, x', fu', dn', hfu', hdd, hT'⟩ := hT.next hfu x (by omega)
              have hcall := Append_any hD s102 B1 x.length d1 x hsrc
              rw [show s102.data.toList = [102] from rfl, hdd] at hcall
              have hadX : ¬ X (ad.add k1).block := fun e => by
                rw [block_of_add] at e
                rcases hs.new _ e with e1 | e1
                · exact e1
                · omega
              have hadl : (ad.add k1).block < wr.heap.size := by rw [block_of_add]; exact Nat.lt_of_lt_of_le hadb hs.size
              have HC := Lib.hid hcall
              have hnext := fun (wa w2 : World) (v' : Value) (X1 : Nat → Prop) (hs1 : Step wr X wa X1) (hD : Dsk wa X1 d (one x' fu' dn')) ho hg hb => At2.next (v' := v') hb1 (y := x) (by omega) hva hv hne hs hs1 hD hfu' hT' (w2 := w2) ho hg hb
              obtain ⟨n, hn⟩ : ∃ n, x.length = n := ⟨_, rfl⟩
              obtain ⟨lb, hlb⟩ : ∃ n, b.length = n := ⟨_, rfl⟩
              have hown := hv.own
              rw [hn] at hnext hsrc hcall h100
              rw [hlb] at hnext hown hb1
              have HNX := Lib.hid hnext
              have HN := Lib.hid hn
              have HLB := Lib.hid hlb
              have HS := Lib.hid hs
              have h100e : decide ((100 : Int) < (n : Int)) = false := decide_eq_false (by omega)
              clear hcall hnext hlb hs hD hB hT hT' hdd hfu hfu'
              rw [hn] at HC hcl
              clear hn
              go_wp2_with fail
              refine HC.out.mono ?_
              rintro e wa ⟨rfl, X1, hD1, hs1⟩
              have hcl1 := hs1.at_ hcl hadl hadX
              have hsrc1 := (hsrc.step hs1).rd
              have hown1 := (OwnX.step (B := w.heap.size) hv hs1).own
              rw [HLB.out] at hown1
              have hbase : w.heap.size ≤ wa.heap.size := Nat.le_trans HS.out.size hs1.size
              have HD1 := Lib.hid hD1
              have HS1 := Lib.hid hs1
              clear hD1 hs1
              go_wp2_with (at_builtin
                           refine wpList_append_any _ rfl (.tmp 95) (.tmp 99) _ rfl w.heap.size 5 i0 _ 1 1 Try.underlying26 hi0 hz0 hz1 hz2 rfl (by omega) u11 lb (bs b) rfl
                             hown1 wa.heap.size B1 n d1 (bs x) rfl hsrc1 (bs_one _) (by unfold maxLen; omega) (by omega) hbase ?_
                           intro v3 w3 hown3 hg3 hat3)
              go_roundg g
              case rel => exact ⟨k1 + 1, by omega, by go_num, HNX.out wa w3 v3 X1 HS1.out HD1.out hown3 hg3 hat3⟩
              case measure => exact Nat.lt_succ_self _
          | zero =>
            obtain rfl : k1 = n1 := by omega
            clear hkg
            have hb1000 : b.length ≤ 1000 := by omega
            go_wp2_with fail
            have hq := Boot_any (hD.alloc (.cells #[.int .i64 keep] 3)) _ 1 1 [keep] (Ints.lit hD keep hk)
            refine hq.mono ?_
            clear hq
            rintro e w5 ⟨rfl, ts, hts, hD5, hs5⟩
            have hends := hT.ends (keep := keep) hts hD.1
            have hs05 := ((Step.refl wr X).alloc (.cells #[.int .i64 keep] 3)).trans hs5
            have hva5 := hva.step hs05
            have hv5 := hv.step hs05
            have hb5 := (hs.trans hs05).zbelow
            obtain ⟨S5, hS5⟩ : ∃ s, (bootS ts ({ one x0 fu dn with down := false, fuse := -1 }, [keep])).1 = s := ⟨_, rfl⟩
            rw [hS5] at hD5 hends
            clear hS5 hts hs5 hs05 hva hv hs hD hT hfu hb1 ha1
            have hc5 := Read_any hD5 s102
            rw [show s102.data.toList = [102] from rfl] at hc5
            rcases hends with ⟨hk0, hdn, hrd⟩ | ⟨bq, hbq, hdn, hrd⟩
            · rw [hrd] at hc5
              have hc0 : ((k : Int) = 0) := by omega
              clear hD5
              go_wp2_with fail
              refine hc5.mono ?_
              rintro e w6 ⟨v, rfl, ho6, hb6⟩
              have hb06 := hb5.trans (hb6.mono hb5.size)
              clear hb5 hb6 hc5
              go_wp2_with fail
              refine (awake_any _).mono ?_
              rintro e w7 ⟨rfl, hb7⟩
              go_wp2_with fail
              go_ret
              exact Yes.mk' hb06 hb7
            · rw [hrd] at hc5
              go_wp2_with fail
              refine hc5.mono ?_
              rintro e w6 ⟨v, rfl, ho6, hb6⟩
              have hD6 := hD5.keep hb6.size (fun i hi => hb6.block i (hD5.lt i hi))
              have ha6 := own_below hva5.own hb6
              have hv6 := own_below hv5.own hb6
              have hb06 := hb5.trans (hb6.mono hb5.size)
              obtain ⟨Aa, ca, rfl, ha61, ha62, har⟩ := own_slice ha6
              obtain ⟨Ab, cb, rfl, hv61, hv62, hvr⟩ := own_slice hv6
              obtain ⟨Ap, cp, rfl, hp61, hp62, hpr⟩ := own_slice ho6
              clear hb5 hb6 hc5 hva5 hv5 hD5 ha6 hv6 ho6
              have hlp : (a ++ bq).length = a.length + bq.length := List.length_append
              have hlq := hbq.length_le
              obtain ⟨la, hla⟩ : ∃ n, a.length = n := ⟨_, rfl⟩
              obtain ⟨lb, hlb⟩ : ∃ n, b.length = n := ⟨_, rfl⟩
              obtain ⟨lq, hqq⟩ : ∃ n, bq.length = n := ⟨_, rfl⟩
              have hpr1 : Reads w6 w6.heap.size 1 Ap (la + lq) (bs (a ++ bq)) := by
                have := hpr
                rw [show (0, a ++ bq).snd.length = la + lq by show (a ++ bq).length = _; omega] at this
                exact this
              have hp63 : la + lq ≤ cp := by have : (a ++ bq).length ≤ cp := hp61; omega
              rw [hla] at har ha61
              rw [hlb] at hvr hv61
              have hpa : Reads w6 w6.heap.size 1 Ap la (bs a) := by
                have := hpr1.fore (k := la) (by omega)
                rw [Nat.mul_one, bs_take, List.take_left' hla] at this
                exact this
              have hpq : Reads w6 w6.heap.size 1 (if cp = la then Ap else Option.map (fun x => x.add la) Ap) lq (bs bq) := by
                have := hpr1.cut (k := la) (cap := cp) (by omega) hp63
                rw [Nat.mul_one, bs_drop, List.drop_left' hla, Nat.add_sub_cancel_left] at this
                exact this
              have hbqr : Reads w6 w6.heap.size 1 Ab lq (bs bq) := by
                have := hvr.fore (k := lq) (by omega)
                rw [Nat.mul_one, bs_take, show b.take lq = bq by rw [← hqq]; exact (List.prefix_iff_eq_take.1 hbq).symm] at this
                exact this
              obtain ⟨A2, hA2⟩ : ∃ A2, (if cp = la then Ap else Option.map (fun x => x.add la) Ap) = A2 := ⟨_, rfl⟩
              rw [hA2] at hpq
              have S1 := Lib.hid (same_yields Ap Aa la cp la ca a w6 hpa har (by omega))
              have S2 := Lib.hid (same_yields A2 Ab lq (cp - la) lq cb bq w6 hpq hbqr (by omega))
              have S3 := Lib.hid (down_yields hD6 hdn)
              have S4 := Lib.hid (awake_yields w6)
              have hsub : (la : Int) + (lq : Int) - (la : Int) = (lq : Int) := by omega
              have hsubn : la + lq - la = lq := by omega
              have q1 : (la : Int) ≤ (cp : Int) := by omega
              have q2 : (la : Int) ≤ (la : Int) + (lq : Int) := by omega
              have q3 : (lq : Int) ≤ (cb : Int) := by omega
              have q4 : ¬ (lb : Int) < (lq : Int) := by omega
              have q5 : ¬ lb < lq := by omega
              have HB := Lib.hid (Below.refl w6.heap.size w6)
              have HB0 := Lib.hid hb06
              have HP := Lib.hid hp63
              clear hpa har hpq hbqr hpr hpr1 hvr hD6 hb06 hdn hbq hlq hlp hrd hp63 hp61
              rw [show (0, a ++ bq).snd.length = la + lq by show (a ++ bq).length = _; rw [List.length_append, hla, hqq]]
              go_wp2_with fail
              refine wp_region_noPanic ?_
              refine wp_region_held_drew (S := fun w' => Below w6.heap.size w6 w') (by kernel_rfl) (below_drew HB.out) (fun hHeld => ?_)
              refine wpAnyH_take (i := 0) (oi := { dst := some 135, op := Op.move (Operand.tmp 14), type := 26, pos := "law.go:147", after := #[], guard := none }) (v := ?_) rfl (by kernel_rfl) (by kernel_rfl) (by kernel_rfl) (fun _ _ _ => np) (Or.inl ⟨by rfl, ?_⟩) (by assumption) ?_
              rotate_left
              · (intro _ hSw; (try dsimp only at hSw); clear hSw; go_simp; try with_reducible rfl)
              try simp only [Act.put, List.setIfInBounds_toArray, List.set_cons_zero, List.set_cons_succ]
              refine wpAnyH_take (i := 1) (oi := { dst := some 136, op := Op.move (Operand.tmp 10), type := 26, pos := "law.go:147", after := #[], guard := none }) (v := ?_) rfl (by kernel_rfl) (by kernel_rfl) (by kernel_rfl) (fun _ _ _ => np) (Or.inl ⟨by rfl, ?_⟩) (by assumption) ?_
              rotate_left
              · (intro _ hSw; (try dsimp only at hSw); clear hSw; go_simp; try with_reducible rfl)
              try simp only [Act.put, List.setIfInBounds_toArray, List.set_cons_zero, List.set_cons_succ]
              refine wpAnyH_take (i := 2) (oi := { dst := some 137, op := Op.call { callee := Callee.builtin Builtin.len, args := #[Operand.tmp 136], argTypes := #[26] }, type := 3, pos := "law.go:147", after := #[{ on := 1, ground := Ground.data }], guard := none }) (v := ?_) rfl (by kernel_rfl) (by kernel_rfl) (by kernel_rfl) (fun _ _ _ => np) (Or.inl ⟨by rfl, ?_⟩) (by assumption) ?_
              rotate_left
              · (intro _ hSw; (try dsimp only at hSw); clear hSw; go_simp; try with_reducible rfl)
              try simp only [Act.put, List.setIfInBounds_toArray, List.set_cons_zero, List.set_cons_succ]
              refine wpAnyH_take (i := 3) (oi := { dst := some 138, op := Op.slice 26 (Operand.tmp 135) none (some (Operand.tmp 137)) none, type := 26, pos := "law.go:147", after := #[{ on := 0, ground := Ground.data }, { on := 2, ground := Ground.data }], guard := none }) (v := ?_) rfl (by kernel_rfl) (by kernel_rfl) (by kernel_rfl) (fun _ _ _ => np) (Or.inl ⟨by rfl, ?_⟩) (by assumption) ?_
              rotate_left
              · (intro _ hSw; (try dsimp only at hSw); clear hSw; go_simp; try with_reducible rfl)
              try simp only [Act.put, List.setIfInBounds_toArray, List.set_cons_zero, List.set_cons_succ]
              refine wpAnyH_take (i := 4) (oi := { dst := some 139, op := Op.move (Operand.tmp 10), type := 26, pos := "law.go:147", after := #[], guard := none }) (v := ?_) rfl (by kernel_rfl) (by kernel_rfl) (by kernel_rfl) (fun _ _ _ => np) (Or.inl ⟨by rfl, ?_⟩) (by assumption) ?_
              rotate_left
              · (intro _ hSw; (try dsimp only at hSw); clear hSw; go_simp; try with_reducible rfl)
              try simp only [Act.put, List.setIfInBounds_toArray, List.set_cons_zero, List.set_cons_succ]
              refine wpAnyH_ready (rs := [5]) (by kernel_rfl) (by simp) ?_
              refine AllReadyH.cons rfl (fun K hK => ?_) AllReadyH.nil
              go_simp
              go_at_call 14
              refine (S1.out _ (by assumption)).mono ?_
              clear hHeld
              rintro _ wn ⟨rfl, hHeld⟩
              go_wp2_with fail
              refine hK.out _ _ hHeld (fun _ => ?_)
              clear hK K
              try simp only [Act.put, List.setIfInBounds_toArray, List.set_cons_zero, List.set_cons_succ]
              refine wpAnyH_take (i := 6) (oi := { dst := some 141, op := Op.move (Operand.tmp 140), type := 4, pos := "law.go:147", after := #[{ on := 5, ground := Ground.data }, { on := 5, ground := Ground.chain }], guard := none }) (v := ?_) rfl (by kernel_rfl) (by kernel_rfl) (by kernel_rfl) (fun _ _ _ => np) (Or.inl ⟨by rfl, ?_⟩) (by assumption) ?_
              rotate_left
              · (intro _ hSw; (try dsimp only at hSw); clear hSw; go_simp; try with_reducible rfl)
              try simp only [Act.put, List.setIfInBounds_toArray, List.set_cons_zero, List.set_cons_succ]
              refine wpAnyH_take (i := 7) (oi := { dst := some 142, op := Op.move (Operand.tmp 14), type := 26, pos := "law.go:147", after := #[{ on := 6, ground := Ground.guard }], guard := some (6, true) }) (v := ?_) rfl (by kernel_rfl) (by kernel_rfl) (by kernel_rfl) (fun _ _ _ => np) (Or.inl ⟨by rfl, ?_⟩) (by assumption) ?_
              rotate_left
              · (intro _ hSw; (try dsimp only at hSw); clear hSw; go_simp; try with_reducible rfl)
              try simp only [Act.put, List.setIfInBounds_toArray, List.set_cons_zero, List.set_cons_succ]
              refine wpAnyH_take (i := 8) (oi := { dst := some 143, op := Op.move (Operand.tmp 10), type := 26, pos := "law.go:147", after := #[{ on := 6, ground := Ground.guard }], guard := some (6, true) }) (v := ?_) rfl (by kernel_rfl) (by kernel_rfl) (by kernel_rfl) (fun _ _ _ => np) (Or.inl ⟨by rfl, ?_⟩) (by assumption) ?_
              rotate_left
              · (intro _ hSw; (try dsimp only at hSw); clear hSw; go_simp; try with_reducible rfl)
              try simp only [Act.put, List.setIfInBounds_toArray, List.set_cons_zero, List.set_cons_succ]
              refine wpAnyH_take (i := 9) (oi := { dst := some 144, op := Op.call { callee := Callee.builtin Builtin.len, args := #[Operand.tmp 143], argTypes := #[26] }, type := 3, pos := "law.go:147", after := #[{ on := 8, ground := Ground.data }, { on := 6, ground := Ground.guard }], guard := some (6, true) }) (v := ?_) rfl (by kernel_rfl) (by kernel_rfl) (by kernel_rfl) (fun _ _ _ => np) (Or.inl ⟨by rfl, ?_⟩) (by assumption) ?_
              rotate_left
              · (intro _ hSw; (try dsimp only at hSw); clear hSw; go_simp; try with_reducible rfl)
              try simp only [Act.put, List.setIfInBounds_toArray, List.set_cons_zero, List.set_cons_succ]
              refine wpAnyH_take (i := 10) (oi := { dst := some 145, op := Op.slice 26 (Operand.tmp 142) (some (Operand.tmp 144)) none none, type := 26, pos := "law.go:147", after := #[{ on := 7, ground := Ground.data }, { on := 9, ground := Ground.data }, { on := 6, ground := Ground.guard }], guard := some (6, true) }) (v := ?_) rfl (by kernel_rfl) (by kernel_rfl) (by kernel_rfl) (fun _ _ _ => np) (Or.inl ⟨by rfl, ?_⟩) (by assumption) ?_
              rotate_left
              · (intro _ hSw; (try dsimp only at hSw); clear hSw; go_simp; try with_reducible rfl)
              try simp only [Act.put, List.setIfInBounds_toArray, List.set_cons_zero, List.set_cons_succ]
              refine wpAnyH_take (i := 11) (oi := { dst := some 146, op := Op.move (Operand.tmp 11), type := 26, pos := "law.go:147", after := #[{ on := 6, ground := Ground.guard }], guard := some (6, true) }) (v := ?_) rfl (by kernel_rfl) (by kernel_rfl) (by kernel_rfl) (fun _ _ _ => np) (Or.inl ⟨by rfl, ?_⟩) (by assumption) ?_
              rotate_left
              · (intro _ hSw; (try dsimp only at hSw); clear hSw; go_simp; try with_reducible rfl)
              try simp only [Act.put, List.setIfInBounds_toArray, List.set_cons_zero, List.set_cons_succ]
              refine wpAnyH_take (i := 12) (oi := { dst := some 147, op := Op.move (Operand.tmp 16), type := 3, pos := "law.go:147", after := #[{ on := 6, ground := Ground.guard }], guard := some (6, true) }) (v := ?_) rfl (by kernel_rfl) (by kernel_rfl) (by kernel_rfl) (fun _ _ _ => np) (Or.inl ⟨by rfl, ?_⟩) (by assumption) ?_
              rotate_left
              · (intro _ hSw; (try dsimp only at hSw); clear hSw; go_simp; try with_reducible rfl)
              try simp only [Act.put, List.setIfInBounds_toArray, List.set_cons_zero, List.set_cons_succ]
              refine wpAnyH_take (i := 13) (oi := { dst := some 148, op := Op.slice 26 (Operand.tmp 146) none (some (Operand.tmp 147)) none, type := 26, pos := "law.go:147", after := #[{ on := 11, ground := Ground.data }, { on := 12, ground := Ground.data }, { on := 6, ground := Ground.guard }], guard := some (6, true) }) (v := ?_) rfl (by kernel_rfl) (by kernel_rfl) (by kernel_rfl) (fun _ _ _ => np) (Or.inl ⟨by rfl, ?_⟩) (by assumption) ?_
              rotate_left
              · (intro _ hSw; (try dsimp only at hSw); clear hSw; go_simp; try with_reducible rfl)
              try simp only [Act.put, List.setIfInBounds_toArray, List.set_cons_zero, List.set_cons_succ]
              refine wpAnyH_ready (rs := [14]) (by kernel_rfl) (by simp) ?_
              refine AllReadyH.cons rfl (fun K hK => ?_) AllReadyH.nil
              go_simp
              go_at_call 14
              refine (S2.out _ (by assumption)).mono ?_
              clear hHeld
              rintro _ wn ⟨rfl, hHeld⟩
              go_wp2_with fail
              refine hK.out _ _ hHeld (fun _ => ?_)
              clear hK K
              try simp only [Act.put, List.setIfInBounds_toArray, List.set_cons_zero, List.set_cons_succ]
              refine wpAnyH_take (i := 15) (oi := { dst := some 150, op := Op.pick (Operand.tmp 141) (Operand.tmp 149) (Operand.const (Value.bool false)), type := 4, pos := "law.go:147", after := #[{ on := 6, ground := Ground.data }, { on := 14, ground := Ground.data }], guard := none }) (v := ?_) rfl (by kernel_rfl) (by kernel_rfl) (by kernel_rfl) (fun _ _ _ => np) (Or.inl ⟨by rfl, ?_⟩) (by assumption) ?_
              rotate_left
              · (intro _ hSw; (try dsimp only at hSw); clear hSw; go_simp; try with_reducible rfl)
              try simp only [Act.put, List.setIfInBounds_toArray, List.set_cons_zero, List.set_cons_succ]
              refine wpAnyH_take (i := 16) (oi := { dst := some 151, op := Op.move (Operand.tmp 150), type := 4, pos := "law.go:147", after := #[{ on := 15, ground := Ground.data }, { on := 14, ground := Ground.chain }], guard := none }) (v := ?_) rfl (by kernel_rfl) (by kernel_rfl) (by kernel_rfl) (fun _ _ _ => np) (Or.inl ⟨by rfl, ?_⟩) (by assumption) ?_
              rotate_left
              · (intro _ hSw; (try dsimp only at hSw); clear hSw; go_simp; try with_reducible rfl)
              try simp only [Act.put, List.setIfInBounds_toArray, List.set_cons_zero, List.set_cons_succ]
              refine wpAnyH_take (i := 17) (oi := { dst := some 152, op := Op.move (Operand.tmp 9), type := 24, pos := "law.go:147", after := #[{ on := 16, ground := Ground.guard }], guard := some (16, true) }) (v := ?_) rfl (by kernel_rfl) (by kernel_rfl) (by kernel_rfl) (fun _ _ _ => np) (Or.inl ⟨by rfl, ?_⟩) (by assumption) ?_
              rotate_left
              · (intro _ hSw; (try dsimp only at hSw); clear hSw; go_simp; try with_reducible rfl)
              try simp only [Act.put, List.setIfInBounds_toArray, List.set_cons_zero, List.set_cons_succ]
              refine wpAnyH_ready (rs := [18]) (by kernel_rfl) (by simp) ?_
              refine AllReadyH.cons rfl (fun K hK => ?_) AllReadyH.nil
              go_simp
              go_at_call 15
              refine (S3.out _ (by assumption)).mono ?_
              clear hHeld
              rintro _ wn ⟨rfl, hHeld⟩
              go_wp2_with fail
              refine hK.out _ _ hHeld (fun _ => ?_)
              clear hK K
              try simp only [Act.put, List.setIfInBounds_toArray, List.set_cons_zero, List.set_cons_succ]
              refine wpAnyH_take (i := 19) (oi := { dst := some 154, op := Op.unOp UnOp.not 4 (Operand.tmp 153), type := 4, pos := "law.go:147", after := #[{ on := 18, ground := Ground.data }, { on := 16, ground := Ground.guard }], guard := some (16, true) }) (v := ?_) rfl (by kernel_rfl) (by kernel_rfl) (by kernel_rfl) (fun _ _ _ => np) (Or.inl ⟨by rfl, ?_⟩) (by assumption) ?_
              rotate_left
              · (intro _ hSw; (try dsimp only at hSw); clear hSw; go_simp; try with_reducible rfl)
              try simp only [Act.put, List.setIfInBounds_toArray, List.set_cons_zero, List.set_cons_succ]
              refine wpAnyH_take (i := 20) (oi := { dst := some 155, op := Op.pick (Operand.tmp 151) (Operand.tmp 154) (Operand.const (Value.bool false)), type := 4, pos := "law.go:147", after := #[{ on := 16, ground := Ground.data }, { on := 19, ground := Ground.data }], guard := none }) (v := ?_) rfl (by kernel_rfl) (by kernel_rfl) (by kernel_rfl) (fun _ _ _ => np) (Or.inl ⟨by rfl, ?_⟩) (by assumption) ?_
              rotate_left
              · (intro _ hSw; (try dsimp only at hSw); clear hSw; go_simp; try with_reducible rfl)
              try simp only [Act.put, List.setIfInBounds_toArray, List.set_cons_zero, List.set_cons_succ]
              refine wpAnyH_take (i := 21) (oi := { dst := some 156, op := Op.move (Operand.tmp 155), type := 4, pos := "law.go:147", after := #[{ on := 20, ground := Ground.data }, { on := 18, ground := Ground.chain }], guard := none }) (v := ?_) rfl (by kernel_rfl) (by kernel_rfl) (by kernel_rfl) (fun _ _ _ => np) (Or.inl ⟨by rfl, ?_⟩) (by assumption) ?_
              rotate_left
              · (intro _ hSw; (try dsimp only at hSw); clear hSw; go_simp; try with_reducible rfl)
              try simp only [Act.put, List.setIfInBounds_toArray, List.set_cons_zero, List.set_cons_succ]
              refine wpAnyH_ready (rs := [22]) (by kernel_rfl) (by simp) ?_
              refine AllReadyH.cons rfl (fun K hK => ?_) AllReadyH.nil
              go_simp
              go_at_call 7
              refine (S4.out _ (by assumption)).mono ?_
              clear hHeld
              rintro _ wn ⟨rfl, hHeld⟩
              go_wp2_with fail
              refine hK.out _ _ hHeld (fun _ => ?_)
              clear hK K
              try simp only [Act.put, List.setIfInBounds_toArray, List.set_cons_zero, List.set_cons_succ]
              refine wpAnyH_take (i := 23) (oi := { dst := some 158, op := Op.pick (Operand.tmp 156) (Operand.tmp 157) (Operand.const (Value.bool false)), type := 4, pos := "law.go:147", after := #[{ on := 21, ground := Ground.data }, { on := 22, ground := Ground.data }], guard := none }) (v := ?_) rfl (by kernel_rfl) (by kernel_rfl) (by kernel_rfl) (fun _ _ _ => np) (Or.inl ⟨by rfl, ?_⟩) (by assumption) ?_
              rotate_left
              · (intro _ hSw; (try dsimp only at hSw); clear hSw; go_simp; try with_reducible rfl)
              try simp only [Act.put, List.setIfInBounds_toArray, List.set_cons_zero, List.set_cons_succ]
              refine wpAnyH_take (i := 24) (oi := { dst := some 8, op := Op.assign (Operand.tmp 158), type := 4, pos := "law.go:147", after := #[{ on := 23, ground := Ground.data }, { on := 22, ground := Ground.chain }, { on := 0, ground := Ground.phase }, { on := 1, ground := Ground.phase }, { on := 2, ground := Ground.phase }, { on := 3, ground := Ground.phase }, { on := 4, ground := Ground.phase }, { on := 5, ground := Ground.phase }, { on := 6, ground := Ground.phase }, { on := 7, ground := Ground.phase }, { on := 8, ground := Ground.phase }, { on := 9, ground := Ground.phase }, { on := 10, ground := Ground.phase }, { on := 11, ground := Ground.phase }, { on := 12, ground := Ground.phase }, { on := 13, ground := Ground.phase }, { on := 14, ground := Ground.phase }, { on := 15, ground := Ground.phase }, { on := 16, ground := Ground.phase }, { on := 17, ground := Ground.phase }, { on := 18, ground := Ground.phase }, { on := 19, ground := Ground.phase }, { on := 20, ground := Ground.phase }, { on := 21, ground := Ground.phase }, { on := 22, ground := Ground.phase }, { on := 23, ground := Ground.phase }], guard := none }) (v := ?_) rfl (by kernel_rfl) (by kernel_rfl) (by kernel_rfl) (fun _ _ _ => np) (Or.inl ⟨by rfl, ?_⟩) (by assumption) ?_
              rotate_left
              · (intro _ hSw; (try dsimp only at hSw); clear hSw; go_simp; try with_reducible rfl)
              try simp only [Act.put, List.setIfInBounds_toArray, List.set_cons_zero, List.set_cons_succ]
              refine wpAnyH_done (by kernel_rfl) ?_ _
              refine NoPanic.normal ?_
              go_wp2_with fail
              go_ret
              exact Yes.mk' HB0.out (by assumption)
end Go.Proofs.Ythgopedojgbaoaa
