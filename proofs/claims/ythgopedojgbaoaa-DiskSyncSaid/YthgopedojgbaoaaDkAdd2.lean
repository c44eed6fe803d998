/- Contract of package disk's add, where bytes are put; all ways. -/
import Derived.Test.YthgopedojgbaoaaDkAdd
import Derived.Deep.DeepMust
namespace Go.Proofs.Ythgopedojgbaoaa
open Go.RowKit Go.Maps Go.WideMaps Go.ChangeMaps
set_option linter.unusedVariables false
set_option linter.unusedSimpArgs false
set_option maxRecDepth 100000

section
variable {w w1 : World} {X : Nat → Prop} {d m : Nat} {D : DataW Unit} {C : Nat → Value} {S : St}
theorem Ans.put {k : List UInt8} {b : Nat} {f : Fl} {x : List Nat} {v' : Value} (h : DskAt w1 X d m D C S) (hok : (S.put k f x).ok) {w0 : World} {X0 : Nat → Prop} (hs : Step w0 X0 w1 X) {w2 : World} (hat : At D k b) (hf : S.V k = some f)
    (hown : w2.ownsRow 0 5 1 v' (f.1.length + x.length) (bs f.1 ++ bs x)) (hg : w1.grownBy w2 (C b).ownBlock) (hv : v'.ownBlock = (C b).ownBlock ∨ v'.ownBlock = some w1.heap.size) (z : Int) (hz : z = (S.used : Int) + (x.length : Int)) :
    Ans w0 X0 d (0, S.put k f x) (.returned (.int .i64 0)) ((w2.setCell ⟨b, 0, none⟩ v').setCell ⟨d, 1, none⟩ (.int .i64 z)) := by
  obtain ⟨h1, h2⟩ := h.grow hat hf hown hg hv z hz
  exact ⟨rfl, _, ⟨hok, m, D, _, h1⟩, hs.trans h2⟩
theorem add_old (h : DskAt w X d m D C S) (hok : S.ok) (s : ByteArray) (A : Option Addr) (n c B : Nat) (x : List Nat) (hrd : Reads w B 1 A n (bs x)) (hx : ∀ b ∈ x, b < 256) (hm : n ≤ maxLen) (hn : nm s.data.toList = true) {b : Nat} {f : Fl} (hat : At D s.data.toList b) (hv : S.V s.data.toList = some f) (hf : n ≤ S.room - S.used) :
    Calls Try.prog 24 #[.pointer (some ⟨d, 0, none⟩), .string s, .slice A n c] w (Ans w X d (S.add s.data.toList x)) := by
  have hlx := len_of x n hrd
  have he : S.add s.data.toList x = (0, S.put s.data.toList f x) := by unfold St.add; rw [if_neg (by simp [hn]), hv]; exact if_neg (by omega)
  have hok' := hok.add s.data.toList hx
  rw [he] at hok' ⊢
  clear he
  unfold maxLen at hm
  have hle := hok.le
  have hro := hok.room
  have hft := hok.tot.le hv
  obtain ⟨f0, hf0, hF⟩ := h.some_of hat
  rw [hv] at hf0
  cases hf0
  obtain ⟨A1, c1, hC, hcc, hcm, _⟩ := own_slice hF.own
  have hfin : ∀ (w1 w2 w3 : World) (v' : Value), Drawn w w1 → w2.ownsRow 0 5 1 v' (f.1.length + n) (bs f.1 ++ bs x) → w1.grownBy w2 (C b).ownBlock → (v'.ownBlock = (C b).ownBlock ∨ v'.ownBlock = some w1.heap.size) →
      Ans w X d (0, S.put s.data.toList f x) (.returned (.int .i64 0)) ((w2.setCell ⟨b, 0, none⟩ v').setCell ⟨d, 1, none⟩ (.int .i64 ((S.used : Int) + (n : Int)))) := by
    intro w1 w2 w3 v' hd ho hg hvv
    rw [← hlx] at ho ⊢
    exact Ans.put (h.drawn hd) hok' (Step.of_drawn hd X) hat hv ho hg hvv _ rfl
  obtain ⟨i0, hi0, hz0, hz1, hz2⟩ := info_parts info_u8
  have hne := hF.ne_d h
  obtain ⟨u, hu⟩ : ∃ u, S.used = u := ⟨_, rfl⟩
  obtain ⟨r, hr⟩ : ∃ r, S.room = r := ⟨_, rfl⟩
  obtain ⟨l, hl⟩ : ∃ l, f.1.length = l := ⟨_, rfl⟩
  rw [hu] at hfin hle hf hft
  rw [hr] at hle hro hf
  rw [hl] at hfin hft hcc hC
  rw [hC] at hfin
  have hlt : ¬ (r : Int) - (u : Int) < (n : Int) := by omega
  have hown0 := hF.own
  rw [hl, hC] at hown0
  have hblk := hF.blk
  rw [hC] at hblk
  have hsz : b < w.heap.size := h.lt b hF.x
  go_enter Try.func24, Try.ntmps24
  go_wp2_with fail
  refine (find_some h s hn hat).mono ?_
  rintro e w1 ⟨rfl, hd⟩
  have h1 := h.drawn hd
  obtain ⟨c0, c1', c2, c3, c4⟩ := h1.cells
  rw [hr] at c0
  rw [hu] at c1'
  have f1 := h1.free 1
  have hrd1 : Reads w1 B 1 A n (bs x) := by obtain ⟨q, rfl⟩ := hd; exact hrd
  have hown1 : w1.ownsRow 0 5 1 (.slice A1 l c1) l (bs f.1) := by obtain ⟨q, rfl⟩ := hd; exact hown0
  have hblk1 : Blk w1 b 58 #[.slice A1 l c1, .int .i64 (f.2 : Int)] := by obtain ⟨q, rfl⟩ := hd; exact hblk
  have b0 : w1.cell? ⟨b, 0, none⟩ = some (.slice A1 l c1) := hblk1.cell 0
  have g0 := hblk1.frozen 0
  have hmore := fun q => hd.more q
  have hlt1 : b < w1.heap.size := by obtain ⟨q, rfl⟩ := hd; exact hsz
  have hobj1 := h1.obj
  have hownb : ∀ g, (Value.slice A1 l c1).ownBlock = some g → g ≠ b ∧ g ≠ d := by
    intro g e
    rw [← hC] at e
    exact ⟨hF.g_ne_b hF g e, hF.g_ne_d h g e⟩
  have HR := Lib.hid hr
  have HU := Lib.hid hu
  have HL := Lib.hid hl
  have HFIN := Lib.hid hfin
  have HC := Lib.hid hC
  have HX := Lib.hid hlx
  have HOB := Lib.hid hownb
  clear hr hu hl hlx hC hfin h h1 hok hok' hF hx hrd hown0 hblk hownb
  have hdd : d < w1.heap.size := hobj1.lt
  go_wp2_with fail
  go_region
  have hdb := hne.symm
  have hob1 : some b ≠ (Value.slice A1 l c1).ownBlock := fun e => (HOB.out b e.symm).1 rfl
  have hob2 : some d ≠ (Value.slice A1 l c1).ownBlock := fun e => (HOB.out d e.symm).2 rfl
  have hcell1 : (objOf m S)[1]? = some (.int .i64 (u : Int)) := by rw [← HU.out]; rfl
  have HC1 := Lib.hid hcell1
  clear hcell1
  go_wp2_with (at_builtin
               go_must (refine wpList_append_any _ rfl (.tmp 54) (.tmp 55) _ rfl 0 5 i0 _ 1 1 Try.underlying26 hi0 hz0 hz1 hz2 rfl (by omega) (.slice A1 l c1) l (bs f.1) rfl
                          (show World.ownsRow _ _ _ _ _ _ _ from hown1) B A n c (bs x) rfl (show Reads _ _ _ _ _ _ from hrd1) (bs_one _) (by unfold maxLen; omega) (by omega) (Nat.zero_le _) ?_)
               intro v1 w3 hown3 hg3 hat3
               obtain ⟨A3, c9, rfl, _, _, _⟩ := own_slice hown3
               have hb3 := hblk1.drew.grown hg3 hob1
               have hd3 := hobj1.drew.grown hg3 hob2
               have b3 : w3.cell? ⟨b, 0, none⟩ = some (.slice A1 l c1) := hb3.cell 0
               have g3 := hb3.frozen 0
               have d3 := (hd3.cell 1).trans HC1.out
               have f3 := hd3.frozen 1)
  go_ret
  exact HFIN.out _ w3 w3 _ (hmore 1) hown3 hg3 hat3
theorem turned_cell {w w' : World} {b : Nat} (h : w.mapTurned w' b) (a : Addr) : w'.cell? a = w.cell? a := by
  obtain ⟨es, clock, es', clock', hb, rfl⟩ := h
  by_cases e : a.block = b
  · have h2 := heap_setBlock_same hb (.map es' clock')
    subst e
    simp [World.cell?, hb, h2]
  · exact World.cell?_of_block (heap_setBlock_other hb _ e)
theorem DskAt.fresh (h : DskAt w X d m D C S) {k : List UInt8} (hv : S.V k = none) {w3 : World} (hm : w3.ownsMap Try.prog 9 ptrR m (S.n + 1) (D.put (.string k) (.lit (.int .i64 (w.heap.size : Int)))))
    (ht : (w.alloc (.cells #[.slice none 0 0, .int .i64 0] 58)).mapTurned w3 m) :
    DskAt w3 (more X w w3) d m (D.put (.string k) (.lit (.int .i64 (w.heap.size : Int)))) (fun i => if i = w.heap.size then .slice none 0 0 else C i) { S with n := S.n + 1, V := upd S.V k (some ([], 0)) } ∧ Step w X w3 (more X w w3) := by
  have hlt := h.lt
  have hg := ht.grown
  have hsz : w.heap.size < w3.heap.size := by have := hg.size; simp at this; omega
  have hlow : ∀ i, X i → i ≠ m → w3.heap[i]? = w.heap[i]? := fun i hi hne => by
    have hi' := hlt i hi
    exact (hg.block i (by simp; omega) (fun e => hne (by injection e))).trans (Below.heap_alloc w _ i hi')
  have hb0 : ∀ k' b', At D k' b' → b' ≠ w.heap.size := fun k' b' a e => by
    obtain ⟨f, _, hF⟩ := h.some_of a
    have := hlt b' hF.x
    omega
  have hr := h.recell (C' := fun i => if i = w.heap.size then .slice none 0 0 else C i) (fun k' b' a => by simp [hb0 k' b' a])
  have hmm : w.heap.size ≠ m := fun e => by have := hlt m h.xm; omega
  have hF : FileIn w3 (more X w w3) ((fun i => if i = w.heap.size then Value.slice none 0 0 else C i) w.heap.size) w.heap.size ([], 0) := by
    have hb : Blk w3 w.heap.size 58 #[.slice none 0 0, .int .i64 0] := (Blk.new w _ _).grown hg (fun e => hmm (by injection e))
    simp only [if_pos rfl]
    exact ⟨.inr ⟨Nat.le_refl _, hsz⟩, hb, World.ownsRow_nil _ _ _ _, fun g e => by cases e⟩
  refine ⟨hr.put hv (by omega) hm (fun i hi => .inl hi) (fun i hi => ?_) hlow hF (fun k' a => hb0 k' _ a rfl) (fun k' b' g a e e' => ?_), ?_⟩
  · rcases hi with hi | hi
    · have := hlt i hi; omega
    · exact hi.2
  · simp at e'
    cases e'
  · refine Step.widen (X1 := X) (((Step.refl w X).alloc _).grown hg (fun g e => by cases e; exact .inl h.xm)) (fun i hi => ?_)
    rcases hi with hi | hi
    · exact .inl hi
    · exact .inr hi.1
theorem add_new (h : DskAt w X d m D C S) (hok : S.ok) (s : ByteArray) (A : Option Addr) (n c B : Nat) (x : List Nat) (hrd : Reads w B 1 A n (bs x)) (hB : B ≤ w.heap.size) (hx : ∀ b ∈ x, b < 256) (hm : n ≤ maxLen) (hn : nm s.data.toList = true) (hv : S.V s.data.toList = none) (hc : S.n ≠ 65536) (hf : n ≤ S.room - S.used) :
    Calls Try.prog 24 #[.pointer (some ⟨d, 0, none⟩), .string s, .slice A n c] w (Ans w X d (S.add s.data.toList x)) := by
  have hlx := len_of x n hrd
  have he : S.add s.data.toList x = (0, St.put { S with n := S.n + 1, V := upd S.V s.data.toList (some ([], 0)) } s.data.toList ([], 0) x) := by
    unfold St.add
    rw [if_neg (by simp [hn]), hv]
    refine ((if_neg hc).trans (if_neg (by omega))).trans ?_
    unfold St.put
    rw [upd_upd]
    rfl
  have hok' := hok.add s.data.toList hx
  rw [he] at hok' ⊢
  clear he
  unfold maxLen at hm
  have hle := hok.le
  have hro := hok.room
  have hcn := hok.cnt
  have hce : ((S.n : Int) == 65536) = false := by simp; omega
  have hkey := key_of (s := s) (by have := nm_size hn; unfold maxLen; omega)
  have hfin : ∀ (w1 w2 w3 : World) (v' : Value) (z : Int), z = (S.used : Int) + (n : Int) → Drawn w w1 → w2.ownsMap Try.prog 9 ptrR m (S.n + 1) (D.put (.string s.data.toList) (.lit (.int .i64 (w1.heap.size : Int)))) → (w1.alloc (.cells #[.slice none 0 0, .int .i64 0] 58)).mapTurned w2 m →
      w3.ownsRow 0 5 1 v' (0 + n) (bs [] ++ bs x) → w2.grownBy w3 none → (v'.ownBlock = none ∨ v'.ownBlock = some w2.heap.size) →
      Ans w X d (0, St.put { S with n := S.n + 1, V := upd S.V s.data.toList (some ([], 0)) } s.data.toList ([], 0) x) (.returned (.int .i64 0)) ((w3.setCell ⟨w1.heap.size, 0, none⟩ v').setCell ⟨d, 1, none⟩ (.int .i64 z)) := by
    intro w1 w2 w3 v' z hz hd hm2 ht2 ho hg hvv
    have h1 := h.drawn hd
    obtain ⟨h2, hs2⟩ := h1.fresh hv hm2 ht2
    rw [← hlx] at ho hz
    have hD := h.map.isMap
    exact Ans.put (f := ([], 0)) h2 hok' ((Step.of_drawn hd X).trans hs2) ((At.put hD).2 (.inl ⟨rfl, rfl⟩)) (upd_same _ _ _) ho (by simpa [Value.ownBlock] using hg) (by simpa [Value.ownBlock] using hvv) _ hz
  obtain ⟨i0, hi0, hz0, hz1, hz2⟩ := info_parts info_u8
  obtain ⟨u, hu⟩ : ∃ u, S.used = u := ⟨_, rfl⟩
  obtain ⟨r, hr⟩ : ∃ r, S.room = r := ⟨_, rfl⟩
  rw [hu] at hle hf
  rw [hr] at hle hro hf
  have hlt : ¬ (r : Int) - (u : Int) < (n : Int) := by omega
  have hsz : d < w.heap.size ∧ m < w.heap.size := ⟨h.lt d h.xd, h.lt m h.xm⟩
  have hdm := h.d_ne_m
  go_enter Try.func24, Try.ntmps24
  go_wp2_with fail
  refine (find_none h s hn hv).mono ?_
  rintro e w1 ⟨rfl, hd⟩
  have h1 := h.drawn hd
  obtain ⟨c0, c1', c2, c3, c4⟩ := h1.cells
  rw [hr] at c0
  rw [hu] at c1'
  have hl := fun ty => len_map h1 ty
  have hrd1 : Reads w1 B 1 A n (bs x) := by obtain ⟨q, rfl⟩ := hd; exact hrd
  have hB1 : B ≤ w1.heap.size := by obtain ⟨q, rfl⟩ := hd; exact hB
  have hmore := fun q => hd.more q
  have hsz1 : d < w1.heap.size ∧ m < w1.heap.size := by obtain ⟨q, rfl⟩ := hd; exact hsz
  obtain ⟨hdlt, hmlt⟩ := hsz1
  have hobj1 := h1.obj
  have hmap1 := h1.map
  have HR := Lib.hid hr
  have HU := Lib.hid hu
  have HFIN := Lib.hid hfin
  have HX := Lib.hid hlx
  have HC := Lib.hid hc
  have HV := Lib.hid hv
  clear hr hu hlx hfin h h1 hok hok' hx hrd hsz hc hv
  have hcell1 : (objOf m S)[1]? = some (.int .i64 (u : Int)) := by rw [← HU.out]; rfl
  have HC1 := Lib.hid hcell1
  clear hcell1
  go_wp2_with fail
  go_region
  have hdn : d ≠ w1.heap.size := by omega
  have hnd : w1.heap.size ≠ d := by omega
  go_wp2_with (first
    | (at_mapUpdate
       refine wpList_mapUpdate_in _ rfl _ _ _ 50 rfl 9 56 kS Try.underlying50 ptrR m S.n D rfl ((show World.ownsMap _ _ _ _ _ _ _ from hmap1.drew).alloc _) (by unfold maxLen; omega) _ _ _ rfl rfl hkey _ _ (ptrR_mk _) ?_
       intro w2 hown2 hturn2
       have hg2 := hturn2.grown
       have hmm : some w1.heap.size ≠ some m := by intro e; injection e with e; omega
       have hdd : some d ≠ some m := by intro e; injection e with e; exact hdm e
       have hb2 := (Blk.new w1.drew 58 #[.slice none 0 0, .int .i64 0]).grown hg2 hmm
       have hd2 := (hobj1.drew.alloc (.cells #[.slice none 0 0, .int .i64 0] 58)).grown hg2 hdd
       have hrd2 := (hrd1.drew.alloc (show B ≤ w1.drew.heap.size from hB1) (.cells #[.slice none 0 0, .int .i64 0] 58)).keep (fun p _ => turned_cell hturn2 p)
       have b2 : w2.cell? ⟨w1.heap.size, 0, none⟩ = some (.slice none 0 0) := hb2.cell 0)
    | (at_builtin
       go_must (refine wpList_append_any _ rfl (.tmp 54) (.tmp 55) _ rfl 0 5 i0 _ 1 1 Try.underlying26 hi0 hz0 hz1 hz2 rfl (by omega) (.slice none 0 0) 0 (bs []) rfl
                 (World.ownsRow_nil _ _ _ _) B A n c (bs x) rfl hrd2 (bs_one _) (by unfold maxLen; omega) (by omega) (Nat.zero_le _) ?_)
       intro v1 w3 hown3 hg3 hat3
       obtain ⟨A3, c9, rfl, _, _, _⟩ := own_slice hown3
       have hb3 := hb2.grown hg3 (by simp [Value.ownBlock])
       have hd3 := hd2.grown hg3 (by simp [Value.ownBlock])
       have b3 : w3.cell? ⟨w1.heap.size, 0, none⟩ = some (.slice none 0 0) := hb3.cell 0
       have g3 : w3.frozen? ⟨w1.heap.size, 0, none⟩ = false := hb3.frozen 0
       have d3 := (hd3.cell 1).trans HC1.out
       have f3 := hd3.frozen 1))
  go_ret
  rw [Nat.zero_add] at hown3 hat3
  exact HFIN.out (w1.drewN 1) w2 w3 _ _ (by rw [HU.out]) (hmore 1) hown2 hturn2 (by rw [Nat.zero_add]; exact hown3) hg3 hat3
end
end Go.Proofs.Ythgopedojgbaoaa
