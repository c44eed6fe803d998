/- The walk of the statement PlainParts: two parts have their forms one behind the other. -/
import Derived.Test.YtjpcenbleolbgaaPlAwake
import Derived.Test.YtjpcenbleolbgaaI64Row
namespace Go.Proofs.Ytjpcenbleolbgaa
open Go.RowKit
set_option linter.unusedVariables false
set_option linter.unusedSimpArgs false
set_option maxRecDepth 100000

theorem parts_else (A1 A2 : Option Addr) (n1 c1 n2 c2 : Nat) (w : World) (h : 300 < n1 ∨ 300 < n2) :
    Calls Try.prog 4 #[.slice A1 n1 c1, .slice A2 n2 c2] w fun e w' => e = .returned (.bool true) ∧ Below w.heap.size w w' := by
  by_cases h1 : 300 < n1
  · clear h
    go_enter Try.func4, Try.ntmps4
    go_wp2_with fail
    refine (awake_any w).mono ?_
    rintro e w1 ⟨rfl, hb⟩
    go_wp2_with fail
    go_ret
    exact ⟨rfl, hb⟩
  · have h2 : 300 < n2 := by omega
    clear h
    go_enter Try.func4, Try.ntmps4
    go_wp2_with fail
    refine (awake_any w).mono ?_
    rintro e w1 ⟨rfl, hb⟩
    go_wp2_with fail
    go_ret
    exact ⟨rfl, hb⟩
set_option maxHeartbeats 2000000 in
theorem parts_main (A1 A2 : Option Addr) (n1 c1 n2 c2 : Nat) (la lb : List Int) (w : World) (h1 : Reads w w.heap.size 1 A1 n1 (zs la)) (h2 : Reads w w.heap.size 1 A2 n2 (zs lb)) (hl1 : ∀ z ∈ la, In64 z) (hl2 : ∀ z ∈ lb, In64 z)
    (hn1 : n1 ≤ 300) (hn2 : n2 ≤ 300) :
    Calls Try.prog 4 #[.slice A1 n1 c1, .slice A2 n2 c2] w fun e w' => e = .returned (.bool true) ∧ Below w.heap.size w w' := by
  obtain ⟨i0, hi0, hz0, hz1, hz2⟩ := info_parts info_u8
  obtain ⟨i1, hi1, hy0, hy1, hy2⟩ := info_parts info_i64
  have e1 : la.length = n1 := by have := h1.1; rw [zs_length] at this; omega
  have e2 : lb.length = n2 := by have := h2.1; rw [zs_length] at this; omega
  have p1 := pl_length la
  have p2 := pl_length lb
  rw [e1] at p1
  rw [e2] at p2
  clear e1 e2
  have d1 : decide ((300 : Int) < (n1 : Int)) = false := by simp; omega
  have d2 : decide ((300 : Int) < (n2 : Int)) = false := by simp; omega
  go_enter Try.func4, Try.ntmps4
  go_wp2_with fail
  refine (plPut_any A1 n1 c1 la w h1 hl1 (by omega)).mono ?_
  rintro e w1 ⟨v1, rfl, hown1, hb1⟩
  have h11 := h1.next hb1
  have h21 := h2.next hb1
  go_wp2_with fail
  refine (plPut_any A2 n2 c2 lb w1 h21 hl2 (by omega)).mono ?_
  rintro e w2 ⟨v2, rfl, hown2, hb2⟩
  have h12 := h11.next hb2
  have h22 := h21.next hb2
  have o12 := own_below hown1 hb2
  have hb02 := hb1.trans (hb2.mono hb1.size)
  clear h11 h21
  have o0 : (w2.alloc (.cells #[] 2)).ownsRow w2.heap.size 2 1 (.slice (some ⟨w2.heap.size, 0, none⟩) 0 0) 0 [] := World.ownsRow_made w2 _ _ (Nat.le_refl _) (by unfold maxLen; omega) (by simp)
  have r12 : Reads (w2.alloc (.cells #[] 2)) (w2.heap.size + 1) 1 A1 n1 (zs la) := (h12.alloc (Nat.le_refl _) _).more (by omega)
  go_wp2_with (first
    | (at_builtin
       refine wpList_append_any _ rfl (.tmp 31) (.tmp 32) _ rfl w2.heap.size 2 i1 _ 1 8 Try.underlying22 hi1 hy0 hy1 hy2 rfl (by omega) (.slice (some ⟨w2.heap.size, 0, none⟩) 0 0) 0 [] rfl
         o0 (w2.heap.size + 1) A1 n1 c1 (zs la) rfl r12 (zs_one _) (by unfold maxLen; omega) (by omega) (by simp) ?_
       intro v3 w3 hown3 hg3 hat3
       simp only [Nat.zero_add, List.nil_append] at hown3
       have hb3 : Below w2.heap.size w2 w3 := ((Below.refl _ _).alloc (Nat.le_refl _) _).grown hg3 (by simp) (fun k hk => by simp [Value.ownBlock] at hk; omega)
       have r23 := h22.next hb3)
    | (at_builtin
       refine wpList_append_any _ rfl (.tmp 33) (.tmp 34) _ rfl w2.heap.size 2 i1 _ 1 8 Try.underlying22 hi1 hy0 hy1 hy2 rfl (by omega) v3 n1 (zs la) rfl
         hown3 w3.heap.size A2 n2 c2 (zs lb) rfl r23 (zs_one _) (by unfold maxLen; omega) (by omega) hb3.size ?_
       intro v4 w4 hown4 hg4 hat4
       obtain ⟨A4, c4, rfl, _, _, r4⟩ := own_slice hown4
       rw [← zs_append] at r4
       have hb4 : Below w2.heap.size w2 w4 := hb3.grown hg4 hb3.size (fun k hk => (hown3.lt k hk).1)))
  refine (plPut_any A4 (n1 + n2) c4 (la ++ lb) w4 r4 (fun z hz => (List.mem_append.1 hz).elim (hl1 z) (hl2 z)) (by omega)).mono ?_
  rintro e w5 ⟨v5, rfl, hown5, hb5⟩
  have hz2' := hb2.size
  have hz4 := hb4.size
  have hz5 := hb5.size
  have hb25 : Below w2.heap.size w2 w5 := hb4.trans (hb5.mono hz4)
  have hb05 : Below w.heap.size w w5 := hb02.trans (hb25.mono hb02.size)
  have o15 := own_below o12 hb25
  obtain ⟨A2', c2', rfl, _, _, q2⟩ := own_slice hown2
  have q25 := (q2.below hb25).more hb25.size
  rw [pl_append, List.length_append] at hown5
  clear o0 r12 h12 h22 hown4 r4 hg4 hg3 hat3 hat4 hown3 q2 hb3
  obtain ⟨pa, hpa⟩ : ∃ p, p = pl la := ⟨_, rfl⟩
  obtain ⟨pb, hpb⟩ : ∃ p, p = pl lb := ⟨_, rfl⟩
  rw [← hpa] at o15 hown1 hown5 p1
  rw [← hpb] at q25 hown5 p2
  have HPA := Lib.hid hpa; have HPB := Lib.hid hpb
  rw [← hpb]
  clear hpa hpb
  go_wp2_with (at_builtin
               refine wpList_append_when _ (by rfl) (.tmp 50) (.tmp 51) _ rfl w.heap.size 5 i0 _ 1 1 Try.underlying24 hi0 hz0 hz1 hz2 rfl (by omega) v1 pa.length (bs pa) rfl
                 o15 w5.heap.size A2' pb.length c2' (bs pb) rfl q25 (bs_one _) (by unfold maxLen; omega) (by omega) hb05.size ?_
               intro v6 w6 hown6 hg6 hat6
               obtain ⟨A6, c6, rfl, _, _, r6⟩ := own_slice hown6
               rw [← bs_append] at r6
               have hb56 : Below w.heap.size w w6 := hb05.grown hg6 hb05.size (fun k hk => (o15.lt k hk).1)
               have hne : v5.ownBlock = none ∨ v5.ownBlock ≠ v1.ownBlock := by
                 cases hv : v5.ownBlock with
                 | none => exact .inl rfl
                 | some k =>
                   refine .inr fun h => ?_
                   have q1 := (hown5.lt k hv).1
                   have q2 := (hown1.lt k h.symm).2
                   omega
               have hown7 := hown5.kept hg6 hne
               obtain ⟨A5, c5, rfl, _, _, r7⟩ := own_slice hown7)
  refine (same_true A6 A5 (pa.length + pb.length) c6 (pa.length + pb.length) c5 (pa ++ pb) w6 r6 r7 (by omega)).mono ?_
  rintro e w7 ⟨rfl, hd7⟩
  have hb7 := hd7.below hb56
  have k1 := ((h1.below hb7).more hb7.size)
  have k2 := ((h2.below hb7).more hb7.size)
  clear hb56 hd7 r6 r7 hown6 hown7
  go_wp2_with fail
  refine (plen_any A1 n1 c1 la _ w7 k1 hl1 (by omega)).mono ?_
  rintro e w' ⟨rfl, rfl⟩
  go_wp2_with fail
  refine (plen_any A2 n2 c2 lb _ w7 k2 hl2 (by omega)).mono ?_
  rintro e w' ⟨rfl, rfl⟩
  rw [← HPA.out, ← HPB.out]
  go_wp2_with fail
  refine (awake_any w7).mono ?_
  rintro e w8 ⟨rfl, hb8⟩
  go_wp2_with fail
  go_ret
  exact ⟨rfl, hb7.trans (hb8.mono hb7.size)⟩
theorem parts_any (A1 A2 : Option Addr) (n1 c1 n2 c2 : Nat) (la lb : List Int) (w : World) (h1 : Reads w w.heap.size 1 A1 n1 (zs la)) (h2 : Reads w w.heap.size 1 A2 n2 (zs lb)) (hl1 : ∀ z ∈ la, In64 z) (hl2 : ∀ z ∈ lb, In64 z) :
    Calls Try.prog 4 #[.slice A1 n1 c1, .slice A2 n2 c2] w fun e w' => e = .returned (.bool true) ∧ Below w.heap.size w w' := by
  by_cases h : 300 < n1 ∨ 300 < n2
  · exact parts_else A1 A2 n1 c1 n2 c2 w h
  · exact parts_main A1 A2 n1 c1 n2 c2 la lb w h1 h2 hl1 hl2 (by omega) (by omega)
end Go.Proofs.Ytjpcenbleolbgaa
