/- The law DiskRoom: files never have more bytes than there is room for; what is refused as too much changes nothing. -/
import Derived.Test.YthgopedojgbaoaaGreat
import Derived.Test.YthgopedojgbaoaaDkAwake2
namespace Go.Proofs.Ythgopedojgbaoaa
open Go.RowKit Go.Maps Go.WideMaps Go.ChangeMaps
set_option linter.unusedVariables false
set_option linter.unusedSimpArgs false
set_option maxRecDepth 100000

def Yes6 (w : World) (e : Ending) (w' : World) : Prop := e = .returned (.bool true) ∧ Below w.heap.size w w'
theorem Yes6.mk' {w w1 w2 : World} (h1 : Below w.heap.size w w1) (h2 : Below w1.heap.size w1 w2) : Yes6 w (.returned (.bool true)) w2 := ⟨rfl, h1.trans (h2.mono h1.size)⟩
theorem shown_int (S : St) : (if S.down = true then (0 : Int) else (S.used : Int)) = ((shown S : Nat) : Int) := by
  unfold shown
  split <;> rfl
/-- Ahead of the k-th act. -/
def AtAct (w : World) (d : Nat) (room : Nat) (wr : World) : Prop := ∃ X S, Dsk wr X d S ∧ S.room = room ∧ Step w (fun _ => False) wr X
theorem used_any {w : World} {X : Nat → Prop} {d : Nat} {S : St} (h : Dsk w X d S) : Calls Try.prog 17 #[.pointer (some ⟨d, 0, none⟩)] w fun e w' => e = .returned (.int .i64 ((shown S : Nat) : Int)) ∧ Drawn w w' := by
  have h1 := Used_any h
  rw [shown_int] at h1
  exact h1
/-- An act's cells, in a world in which what came in stands. -/
theorem act_cells {w w1 : World} {b o k : Nat} {x : Ac} (hb : b < w.heap.size) (h : ∀ i v, x.cells[i]? = some v → w.cell? ⟨b, o + k * 6 + i, none⟩ = some v) (hs : Below w.heap.size w w1) : ∀ i v, x.cells[i]? = some v → w1.cell? ⟨b, o + k * 6 + i, none⟩ = some v :=
  fun i v hv => (hs.cell (p := ⟨b, o + k * 6 + i, none⟩) hb).trans (h i v hv)
set_option maxHeartbeats 2000000 in
theorem room_main (r : Nat) (A : Option Addr) (n c : Nat) (al : List Ac) (w : World) (h : Acts w A n al) (hn : n ≤ maxLen) (hr : r < 256) :
    Calls Try.prog 4 #[.int .u8 (r : Int), .slice A n c] w (Yes6 w) := by
  have hg := great_any A n c al w h hn
  obtain ⟨hl, hc⟩ := h
  unfold maxLen at hn
  have HC := Lib.hid hc
  have HL := Lib.hid hl
  clear hc hl
  go_enter Try.func4, Try.ntmps4
  go_wp2_with fail
  refine hg.mono ?_
  clear hg
  rintro e w1 ⟨b, rfl, hd⟩
  cases b with
  | true =>
    go_wp2_with fail
    refine (awake_any w1).mono ?_
    rintro e w2 ⟨rfl, hb2⟩
    go_wp2_with fail
    go_ret
    exact Yes6.mk' (hd.below (Below.refl w.heap.size w)) hb2
  | false =>
    go_wp2_with fail
    refine (New_yes r (by omega) w1).mono ?_
    rintro e w2 ⟨d, X, rfl, hD, hs⟩
    have hat : AtAct w d r w2 := ⟨X, _, hD, rfl, (Step.of_drawn hd (fun _ => False)).trans hs⟩
    clear hD hs
    go_wp2_with fail
    go_loopg [6] n (fun g s6 wr => ∃ k : Nat, k + g = n ∧ s6 = .int .i64 (k : Int) ∧ AtAct w d r wr)
    case atStart => exact ⟨0, by omega, rfl, hat⟩
    case round =>
      clear hat
      obtain ⟨k, hkg, rfl, X, S, hD, hroom, hs⟩ := hrel
      cases gk with
      | zero =>
        go_wp2_with fail
        refine (awake_any wr).mono ?_
        rintro e w3 ⟨rfl, hb3⟩
        go_wp2_with fail
        go_ret
        exact Yes6.mk' hs.below0 hb3
      | succ g =>
        have hk0 : k < n := by omega
        obtain ⟨b, o, rfl, hb, hx⟩ := HC.out (by omega)
        obtain ⟨x, hx0⟩ : ∃ x, al[k]? = some x := ⟨al[k]'(by rw [HL.out]; omega), List.getElem?_eq_getElem _⟩
        obtain ⟨hxi, hxc⟩ := hx k x hx0
        have hbX : ¬ X b := fun e => by
          rcases hs.new _ e with e1 | e1
          · exact e1
          · omega
        have hsu := shown_le hD.1
        have HU := Lib.hid (used_any hD)
        have HI := Lib.hid hxi
        have HXC := Lib.hid (act_cells hb hxc hs.below0)
        clear hx hxc hxi hx0
        go_wp2_with fail
        refine HU.out.mono ?_
        clear HU
        rintro e w3 ⟨rfl, hd3⟩
        have hD3 := hD.drawn hd3
        have hs3 := hs.trans (Step.of_drawn hd3 X)
        have hcell : ∀ i v, x.cells[i]? = some v → w3.cell? ⟨b, o + k * 6 + i, none⟩ = some v := fun i v hv => by
          obtain ⟨q, hq⟩ := hd3
          rw [hq]
          exact HXC.out i v hv
        have d0 : w3.cell? ⟨b, o + k * 6, none⟩ = _ := hcell 0 _ rfl
        have d1 : w3.cell? ⟨b, o + k * 6 + 1, none⟩ = _ := hcell 1 _ rfl
        have d2 : w3.cell? ⟨b, o + k * 6 + 2, none⟩ = _ := hcell 2 _ rfl
        have d3 : w3.cell? ⟨b, o + k * 6 + 3, none⟩ = _ := hcell 3 _ rfl
        have d4 : w3.cell? ⟨b, o + k * 6 + 4, none⟩ = _ := hcell 4 _ rfl
        have d5 : w3.cell? ⟨b, o + k * 6 + 5, none⟩ = _ := hcell 5 _ rfl
        have HD := Lib.hid (do_any hD3 (HI.out.at_ hs3))
        have HS := Lib.hid hs3
        clear hD hs hd3 hD3 hs3 hcell HXC HI
        go_wp2_with fail
        refine HD.out.mono ?_
        clear HD
        rintro e w4 ⟨⟨rn, S4⟩, hr4, rfl, X4, hD4, hs4⟩
        have hroom4 : S4.room = r := hr4.room.trans hroom
        have hfull : rn = 7 → shown S4 = shown S := hr4.full
        have hsu4 := shown_le hD4.1
        rw [hroom4] at hsu4
        have HU := Lib.hid (used_any hD4)
        have hs04 := HS.out.trans hs4
        have hat : ∀ w', Drawn w4 w' → AtAct w d r w' := fun w' hd' => ⟨X4, S4, hD4.drawn hd', hroom4, hs04.trans (Step.of_drawn hd' X4)⟩
        have hU5 : ∀ w', Drawn w4 w' → Calls Try.prog 17 #[.pointer (some ⟨d, 0, none⟩)] w' fun e w'' => e = .returned (.int .i64 ((shown S4 : Nat) : Int)) ∧ Drawn w' w'' := fun w' hd' => used_any (hD4.drawn hd')
        clear hr4 hD4 hs4 hroom4 HS hs04 d0 d1 d2 d3 d4 d5
        obtain ⟨u4, hu4⟩ : ∃ u, shown S4 = u := ⟨_, rfl⟩
        obtain ⟨u3, hu3⟩ : ∃ u, shown S = u := ⟨_, rfl⟩
        simp only [hu3, hu4] at hfull hsu4 HU hU5 ⊢
        clear hu3 hu4
        have HAT := Lib.hid hat
        have HU5 := Lib.hid hU5
        have q1 : ¬ r < u4 := by omega
        have q2 : decide ((r : Int) < (u4 : Int)) = false := decide_eq_false (by omega)
        clear hat hU5
        by_cases h7 : rn = 7
        · obtain rfl := hfull h7
          subst h7
          go_wp2_with fail
          refine HU.out.mono ?_
          rintro e w5 ⟨rfl, hd5⟩
          go_wp2_with fail
          refine (HU5.out _ hd5).mono ?_
          rintro e w6 ⟨rfl, hd6⟩
          have hat6 := HAT.out _ (hd5.trans hd6)
          go_wp2_with fail
          go_roundg g
          case rel => exact ⟨k + 1, by omega, by go_num, hat6⟩
          case measure => exact Nat.lt_succ_self _
        · have q3 : decide ((rn : Int) = 7) = false := decide_eq_false (by omega)
          have q4 : ¬ (rn : Int) = 7 := by omega
          clear hfull
          go_wp2_with fail
          refine HU.out.mono ?_
          rintro e w5 ⟨rfl, hd5⟩
          have hat6 := HAT.out _ hd5
          go_wp2_with fail
          go_roundg g
          case rel => exact ⟨k + 1, by omega, by go_num, hat6⟩
          case measure => exact Nat.lt_succ_self _
end Go.Proofs.Ythgopedojgbaoaa
