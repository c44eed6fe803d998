/- The walk of the statement TreeRoots. No condition. -/
import Derived.Test.YtkopoepoinkpeaaDoorTrPathN
import Derived.Test.YtkopoepoinkpeaaDoorTrRefPath
import Derived.Test.YtkopoepoinkpeaaDoorJ46
import Derived.Test.YtkopoepoinkpeaaDoorTrParts
namespace Go.Proofs.YtkopoepoinkpeaaDoor
open Go.RowKit
set_option linter.unusedVariables false
set_option linter.unusedSimpArgs false
set_option maxRecDepth 100000

theorem pathD_dg : ∀ (n : Nat) (l : List (List Nat)) (i : Nat), l.length = n → Dg l → Dg (pathD l i) := by
  intro n
  induction n using Nat.strongRecOn with
  | _ n ih =>
    intro l i hl hd
    by_cases h : n < 2
    · rw [pathD_one i (by omega)]
      intro d hd
      cases hd
    · have h2 : 2 ≤ l.length := by omega
      have h3 := spl_lt h2
      have h4 := spl_pos h2
      have hd1 := hd.take (spl l.length)
      have hd2 := hd.drop (spl l.length)
      have hl1 : 0 < (l.take (spl l.length)).length := by rw [List.length_take]; omega
      have hl2 : 0 < (l.drop (spl l.length)).length := by rw [List.length_drop]; omega
      by_cases hi : i < spl l.length
      · rw [pathD_left h2 hi]
        intro d hm
        rcases List.mem_append.1 hm with hm | hm
        · exact ih (spl l.length) (by omega) _ i (by rw [List.length_take]; omega) hd1 d hm
        · rw [List.mem_singleton.1 hm]
          exact ⟨rootD_len hl2 fun d hd => (hd2 d hd).1, rootD_byte hl2 fun d hd => (hd2 d hd).2⟩
      · rw [pathD_right h2 hi]
        intro d hm
        rcases List.mem_append.1 hm with hm | hm
        · exact ih (l.length - spl l.length) (by omega) _ (i - spl l.length) (by rw [List.length_drop]) hd2 d hm
        · rw [List.mem_singleton.1 hm]
          exact ⟨rootD_len hl1 fun d hd => (hd1 d hd).1, rootD_byte hl1 fun d hd => (hd1 d hd).2⟩
theorem leaf_yields (A : Option Addr) (n c : Nat) (l : List Nat) (w : World) (hr : Reads w w.heap.size 1 A n (bs l)) (hl : ∀ b ∈ l, b < 256) (hc : n ≤ c) (hn : n ≤ 4294960000) (ht : ShTab w) (V : Array Value) (hV : (bs (leafD l)).toArray = V) :
    Yields w.heap.size w 19 #[.slice A n c] (.agg V) := fun W hb => by
  have := leaf_any A n c l W ((hr.below hb).more hb.size) hl hc hn (ht.next hb)
  unfold HashTo at this
  rw [hV] at this
  exact this.mono fun e w' ⟨he, h⟩ => ⟨he, hb.trans (h.mono hb.size)⟩
theorem refLeaf_yields (A : Option Addr) (n c : Nat) (l : List Nat) (w : World) (hr : Reads w w.heap.size 1 A n (bs l)) (hl : ∀ b ∈ l, b < 256) (hc : n ≤ c) (hn : n ≤ 4294960000) (V : Array Value) (hV : (bs (leafD l)).toArray = V) :
    Yields w.heap.size w 21 #[.slice A n c] (.agg V) := fun W hb => by
  have := refLeaf_any A n c l W ((hr.below hb).more hb.size) hl hc hn
  unfold HashTo at this
  rw [hV] at this
  exact this.mono fun e w' ⟨he, h⟩ => ⟨he, hb.trans (h.mono hb.size)⟩
theorem refNode_yields (a b : List Nat) (w : World) (ha : a.length = 32) (hb : b.length = 32) (ha2 : ∀ x ∈ a, x < 256) (hb2 : ∀ x ∈ b, x < 256) (VA VB V : Array Value) (hVA : (bs a).toArray = VA) (hVB : (bs b).toArray = VB) (hV : (bs (nodeD a b)).toArray = V) :
    Yields w.heap.size w 20 #[.agg VA, .agg VB] (.agg V) := fun W hW => by
  have := refNode_any a b W ha hb ha2 hb2
  unfold HashTo at this
  rw [hVA, hVB, hV] at this
  exact this.mono fun e w' ⟨he, h⟩ => ⟨he, hW.trans (h.mono hW.size)⟩
set_option maxHeartbeats 8000000 in
theorem rootsT19_great (A : Option Addr) (n c : Nat) (ls : List (List Nat)) (i m : Int) (w : World) (hn : ls.length = n) (hp : LC w A ls) (hm : n ≤ 9223372036854775807) (ht : ShTab w) (h : grL ls 30 60 = true ∨ 1099511627776 < m) :
    Calls Tryd.prog 3 #[.slice A n c, .int .i64 i, .int .i64 m] w fun e w' => e = .returned (.bool true) ∧ Below w.heap.size w w' := by
  obtain ⟨g, hg⟩ : ∃ g, g = grL ls 30 60 := ⟨_, rfl⟩
  have HG := Lib.hid (greatL_any A n c 30 60 ls w hn hp (by omega) (by omega) g hg)
  have HAW := Lib.hid (awake19_any w ht)
  rw [← hg] at h
  clear hg ht hp hn
  cases g with
  | true =>
    clear h
    go_enter Tryd.func3, Tryd.ntmps3
    go_wp2_with fail
    refine HG.out.mono ?_
    rintro _ _ ⟨rfl, rfl⟩
    go_wp2_with fail
    refine HAW.out.mono ?_
    rintro _ w2 ⟨rfl, hb⟩
    go_wp2_with fail
    go_ret
    exact ⟨rfl, hb⟩
  | false =>
    have h1 : 1099511627776 < m := by rcases h with h | h; cases h; exact h
    clear h
    go_enter Tryd.func3, Tryd.ntmps3
    go_wp2_with fail
    refine HG.out.mono ?_
    rintro _ _ ⟨rfl, rfl⟩
    go_wp2_with fail
    refine HAW.out.mono ?_
    rintro _ w2 ⟨rfl, hb⟩
    go_wp2_with fail
    go_ret
    exact ⟨rfl, hb⟩
end Go.Proofs.YtkopoepoinkpeaaDoor
