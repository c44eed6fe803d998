/- The walk of the statement ValueChecks: the order of any values, and what is wrong with any schema and row, is what the document says. -/
import Derived.Lib.QuietBelow
import Derived.Test.YtieknhhhcjdbnaaVlCmp
import Derived.Test.YtieknhhhcjdbnaaJ23
import Derived.Test.YtieknhhhcjdbnaaVlSc
import Derived.Test.YtieknhhhcjdbnaaVlRow
import Derived.Test.YtieknhhhcjdbnaaJ26
namespace Go.Proofs.Ytieknhhhcjdbnaa
open Go.RowKit
set_option linter.unusedVariables false
set_option linter.unusedSimpArgs false
set_option maxRecDepth 100000

theorem checksV_else (a b : Vl) (A A' : Option Addr) (n c n' c' : Nat) (w : World) (h : 200 < n ∨ 200 < n') :
    Calls Try.prog 3 #[vW a, vW b, .slice A n c, .slice A' n' c'] w fun e w' => e = .returned (.bool true) ∧ Below w.heap.size w w' := by
  have HAW := Lib.hid fun W => awakeV_any cmpC_any schemaC_any W
  obtain ⟨a0, a1, za⟩ := a
  obtain ⟨b0, b1, zb⟩ := b
  rw [show vW (a0, a1, za) = .agg #[.int .i64 a0, .int .i64 a1, .string ⟨za.toArray⟩] from rfl, show vW (b0, b1, zb) = .agg #[.int .i64 b0, .int .i64 b1, .string ⟨zb.toArray⟩] from rfl]
  have HB : Hid (Below w.heap.size w ((w.alloc (.cells #[.int .i64 a0, .int .i64 a1, .string ⟨za.toArray⟩] 23)).alloc (.cells #[.int .i64 b0, .int .i64 b1, .string ⟨zb.toArray⟩] 23))) :=
    Lib.hid (((Below.refl _ _).alloc (Nat.le_refl _) _).alloc (by simp) _)
  by_cases h1 : 200 < n
  case' pos => clear h
  case' neg =>
    have h2 : 200 < n' := h.resolve_left h1
    clear h
  all_goals
    go_enter Try.func3, Try.ntmps3
    go_wp2_with fail
    refine (HAW.out _).mono ?_
    rintro e w1 ⟨rfl, hb1⟩
    go_wp2_with fail
    go_ret
    exact ⟨rfl, HB.out.trans (hb1.mono HB.out.size)⟩
set_option maxHeartbeats 4000000 in
theorem checksV_main (a b : Vl) (A A' : Option Addr) (n c n' c' : Nat) (s : List Cl) (row : List Vl) (w : World) (hs : Reads w w.heap.size 3 A n (cls s)) (hr : Reads w w.heap.size 3 A' n' (vs row)) (hn : n ≤ 200) (hn' : n' ≤ 200) :
    Calls Try.prog 3 #[vW a, vW b, .slice A n c, .slice A' n' c'] w fun e w' => e = .returned (.bool true) ∧ Below w.heap.size w w' := by
  have HAW := Lib.hid fun W => awakeV_any cmpC_any schemaC_any W
  have HC := Lib.hid fun W => cmpC_any a b W
  have HC2 := Lib.hid fun W => refCmp_any a b W
  obtain ⟨x, hx⟩ : ∃ x, cmpV a b = x := ⟨_, rfl⟩
  rw [hx] at HC HC2
  obtain ⟨a0, a1, za⟩ := a
  obtain ⟨b0, b1, zb⟩ := b
  rw [show vW (a0, a1, za) = .agg #[.int .i64 a0, .int .i64 a1, .string ⟨za.toArray⟩] from rfl, show vW (b0, b1, zb) = .agg #[.int .i64 b0, .int .i64 b1, .string ⟨zb.toArray⟩] from rfl] at HC HC2 ⊢
  clear hx
  have HB : Hid (Below w.heap.size w ((w.alloc (.cells #[.int .i64 a0, .int .i64 a1, .string ⟨za.toArray⟩] 23)).alloc (.cells #[.int .i64 b0, .int .i64 b1, .string ⟨zb.toArray⟩] 23))) :=
    Lib.hid (((Below.refl _ _).alloc (Nat.le_refl _) _).alloc (by simp) _)
  have K0 := Lib.hid ((Blk.new w 23 #[.int .i64 a0, .int .i64 a1, .string ⟨za.toArray⟩]).alloc (.cells #[.int .i64 b0, .int .i64 b1, .string ⟨zb.toArray⟩] 23))
  have k1 := Blk.new (w.alloc (.cells #[.int .i64 a0, .int .i64 a1, .string ⟨za.toArray⟩] 23)) 23 #[.int .i64 b0, .int .i64 b1, .string ⟨zb.toArray⟩]
  rw [World.size_alloc] at k1
  have K1 := Lib.hid k1
  have HS := Lib.hid hs; have HR := Lib.hid hr
  clear k1 hs hr
  have n1 : ¬ 200 < n := by omega
  have n2 : ¬ 200 < n' := by omega
  go_enter Try.func3, Try.ntmps3
  go_wp2_with fail
  obtain ⟨w0, hw0⟩ : ∃ q, q = ((w.alloc (.cells #[.int .i64 a0, .int .i64 a1, .string ⟨za.toArray⟩] 23)).alloc (.cells #[.int .i64 b0, .int .i64 b1, .string ⟨zb.toArray⟩] 23)) := ⟨_, rfl⟩
  rw [← hw0]
  rw [← hw0] at HB K0 K1
  clear hw0
  obtain ⟨p0, p1, p2⟩ := blk3 K0.out
  obtain ⟨q0, q1, q2⟩ := blk3 K1.out
  have s0 := cell_regrown p0; have s1 := cell_regrown p1; have s2 := cell_regrown p2
  have t0 := cell_regrown q0; have t1 := cell_regrown q1; have t2 := cell_regrown q2
  have hs0 := HS.out.next HB.out
  have hr0 := HR.out.next HB.out
  have f1 : Hid (Yields w0.heap.size w0 7 #[.agg #[.int .i64 a0, .int .i64 a1, .string ⟨za.toArray⟩], .agg #[.int .i64 b0, .int .i64 b1, .string ⟨zb.toArray⟩]] (.int .i64 x)) := Lib.hid fun V hbV => (HC.out V).mono fun e w' ⟨he, hb'⟩ => ⟨he, hbV.trans (hb'.mono hbV.size)⟩
  have f2 : Hid (Yields w0.heap.size w0 8 #[.agg #[.int .i64 a0, .int .i64 a1, .string ⟨za.toArray⟩], .agg #[.int .i64 b0, .int .i64 b1, .string ⟨zb.toArray⟩]] (.int .i64 x)) := Lib.hid fun V hbV => (HC2.out V).mono fun e w' ⟨he, hb'⟩ => ⟨he, hbV.trans (hb'.mono hbV.size)⟩
  obtain ⟨E, hE⟩ : ∃ E, scE s = E := ⟨_, rfl⟩
  have f3 : Hid (Yields w0.heap.size w0 9 #[.slice A n c] (.int .i64 E)) := Lib.hid fun V hbV => (schemaV_any A n c s V (hs0.next hbV) (by omega)).mono fun e w' ⟨he, hb'⟩ => ⟨by rw [he, hE], hb'.below hbV⟩
  have f4 : Hid (Yields w0.heap.size w0 10 #[.slice A n c] (.int .i64 E)) := Lib.hid fun V hbV => (refSchema_any A n c s V (hs0.next hbV) (by omega)).mono fun e w' ⟨he, hb'⟩ => ⟨by rw [he, hE], hb'.below hbV⟩
  obtain ⟨R, hR⟩ : ∃ R, rwE s row = R := ⟨_, rfl⟩
  have f5 : Hid (Yields w0.heap.size w0 11 #[.slice A n c, .slice A' n' c'] (.int .i64 R)) := Lib.hid fun V hbV => (rowV_any A A' n c n' c' s row V (hs0.next hbV) (hr0.next hbV) (by omega) (by omega)).mono fun e w' ⟨he, hb'⟩ => ⟨by rw [he, hR], hbV.trans (hb'.mono hbV.size)⟩
  have f6 : Hid (Yields w0.heap.size w0 12 #[.slice A n c, .slice A' n' c'] (.int .i64 R)) := Lib.hid fun V hbV => (refRow_any A A' n c n' c' s row V (hs0.next hbV) (hr0.next hbV) (by omega) (by omega)).mono fun e w' ⟨he, hb'⟩ => ⟨by rw [he, hR], hbV.trans (hb'.mono hbV.size)⟩
  have f7 : Hid (Yields w0.heap.size w0 6 #[] (.bool true)) := Lib.hid fun V hbV => (HAW.out V).mono fun e w' ⟨he, hb'⟩ => ⟨he, hbV.trans (hb'.mono hbV.size)⟩
  clear hs0 hr0 hE hR HS HR HC HC2 HAW
  refine wp_region_quiet_below (by kernel_rfl) (by kernel_rfl) ?_
  repeat (go_big_quiet_step (first
    | (go_at_call 7; with_reducible exact f1.out.quiet _ _)
    | (go_at_call 8; with_reducible exact f2.out.quiet _ _)
    | (go_at_call 9; with_reducible exact f3.out.quiet _ _)
    | (go_at_call 10; with_reducible exact f4.out.quiet _ _)
    | (go_at_call 11; with_reducible exact f5.out.quiet _ _)
    | (go_at_call 12; with_reducible exact f6.out.quiet _ _)
    | (go_at_call 6; with_reducible exact f7.out.quiet _ _)))
  refine wpQuiet_nil ?_
  intro _ hw'
  obtain ⟨p, hw''⟩ := hw'
  subst hw''
  have hbp := HB.out.trans ((below_regrown w0 p.d p.os).mono HB.out.size)
  clear s0 s1 s2 t0 t1 t2 f1 f2 f3 f4 f5 f6 f7
  go_wp2_with fail
  go_ret
  exact ⟨rfl, hbp⟩
theorem checksV_any (a b : Vl) (A A' : Option Addr) (n c n' c' : Nat) (s : List Cl) (row : List Vl) (w : World) (hs : Reads w w.heap.size 3 A n (cls s)) (hr : Reads w w.heap.size 3 A' n' (vs row)) :
    Calls Try.prog 3 #[vW a, vW b, .slice A n c, .slice A' n' c'] w fun e w' => e = .returned (.bool true) ∧ Below w.heap.size w w' := by
  by_cases h : 200 < n ∨ 200 < n'
  · exact checksV_else a b A A' n c n' c' w h
  · exact checksV_main a b A A' n c n' c' s row w hs hr (by omega) (by omega)
end Go.Proofs.Ytieknhhhcjdbnaa
