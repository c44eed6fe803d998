/- Contract of package disk's Rename. -/
import Derived.Test.YthgopedojgbaoaaDkActs3
import Derived.Deep.RegionLaw
namespace Go.Proofs.Ythgopedojgbaoaa
open Go.RowKit Go.Maps Go.WideMaps Go.ChangeMaps
set_option linter.unusedVariables false
set_option linter.unusedSimpArgs false
set_option maxRecDepth 100000

/-- delete of a map, as one step of a region that draws. -/
theorem step_delete_own {P : Program} {ops : Array Oper} {o : Oper} {a : Act} {w : World} {K : Act → World → Prop} {Q : Exit → Act → World → Prop} {E : Prop}
    (hg : o.guard = none) (m x : Operand) (t k : TypeId) (hop : o.op = Op.call { callee := Callee.builtin Builtin.delete, args := #[m, x], argTypes := #[t, k] })
    (e : TypeId) (K' : Keyed P k) (ht : P.underlying t = some (.map k e)) (R : Value → Option (DataW Unit × List MemPlace)) (b n : Nat) (D : DataW Unit)
    (hm : a.eval m = .map (some b)) (hown : w.ownsMap P k R b n D) (key : Value) (kl : Lit) (hx : a.eval x = key) (hkey : keyOf P k key = some kl)
    (hK : ∀ w', w'.ownsMap P k R b n (D.del kl) → w.mapTurned w' b → K (a.put o.dst (.tuple #[])) w') :
    if Region.wanted o (yielded ops a.tmps) = true then Oper.wp P o a w K Q else E := by
  have hw : Region.wanted o (yielded ops a.tmps) = true := by simp [Region.wanted, hg]
  rw [if_pos hw]
  obtain ⟨w', hrun, r1, r2⟩ := hown.drop K' ht hkey o.type
  unfold Oper.wp
  simp [execOp, hop, resolve, invoke, builtin, hm, hx, hrun, Result.andThen]
  exact hK w' r1 r2
section
variable {w w1 : World} {X X1 : Nat → Prop} {d m : Nat} {D : DataW Unit} {C : Nat → Value} {S : St}
theorem rename1_bad (a1 a2 a3 b : Nat) (s s2 : ByteArray) {f : Fl} (hok : S.ok) (h : DskAt w X d m D C S)
    (c1 : w.cell? ⟨a1, 0, none⟩ = some (.string s2)) (hn : nm s2.data.toList = false) :
    Calls Try.prog 33 #[.pointer (some ⟨b, 0, none⟩), .pointer (some ⟨a1, 0, none⟩), .pointer (some ⟨a2, 0, none⟩), .pointer (some ⟨a3, 0, none⟩)] w (Ans w X d (actRen s.data.toList s2.data.toList S f)) := by
  have he : actRen s.data.toList s2.data.toList S f = (1, S) := by unfold actRen; rw [if_pos hn]
  rw [he]
  clear he
  go_enter Try.func33, Try.ntmps33
  go_wp2_with fail
  refine (isName_any s2 w).mono ?_
  rintro e w1 ⟨rfl, hd⟩
  rw [hn]
  go_wp2_with fail
  go_ret
  exact Ans.of (h.drawn hd) hok (Step.of_drawn hd X)
theorem rename1_same (a1 a2 a3 b : Nat) (s : ByteArray) {f : Fl} (hok : S.ok) (h : DskAt w X d m D C S)
    (c1 : w.cell? ⟨a1, 0, none⟩ = some (.string s)) (c2 : w.cell? ⟨a2, 0, none⟩ = some (.string s)) (hn : nm s.data.toList = true) :
    Calls Try.prog 33 #[.pointer (some ⟨b, 0, none⟩), .pointer (some ⟨a1, 0, none⟩), .pointer (some ⟨a2, 0, none⟩), .pointer (some ⟨a3, 0, none⟩)] w (Ans w X d (actRen s.data.toList s.data.toList S f)) := by
  have he : actRen s.data.toList s.data.toList S f = (0, S) := by unfold actRen; rw [if_neg (by simp [hn]), if_pos rfl]
  rw [he]
  clear he
  go_enter Try.func33, Try.ntmps33
  go_wp2_with fail
  refine (isName_any s w).mono ?_
  rintro e w1 ⟨rfl, hd⟩
  have p1 : w1.cell? ⟨a1, 0, none⟩ = some (.string s) := by obtain ⟨q, rfl⟩ := hd; exact c1
  have p2 : w1.cell? ⟨a2, 0, none⟩ = some (.string s) := by obtain ⟨q, rfl⟩ := hd; exact c2
  rw [hn]
  go_wp2_with fail
  go_ret
  exact Ans.of (h.drawn hd) hok (Step.of_drawn hd X)
/-- One name goes, another comes. -/
theorem DskAt.moved (h : DskAt w X d m D C S) (hok : S.ok) {k k2 : List UInt8} {b : Nat} {f : Fl} (hat : At D k b) (hf : S.V k = some f) (hne : k2 ≠ k) (h2 : S.V k2 = none) {w1 w2 : World}
    (ho1 : w1.ownsMap Try.prog 9 ptrR m S.n (D.del (.string k))) (ht1 : w.mapTurned w1 m) (ho2 : w2.ownsMap Try.prog 9 ptrR m (S.n + 1) ((D.del (.string k)).put (.string k2) (.lit (.int .i64 (b : Int))))) (ht2 : w1.drew.mapTurned w2 m) :
    DskAt w2 X d m ((D.del (.string k)).put (.string k2) (.lit (.int .i64 (b : Int)))) C (S.moved k k2 f) ∧ Step w X w2 X := by
  have g1 := ht1.grown
  have g2 : w1.grownBy w2 (some m) := ⟨ht2.grown.os, ht2.grown.tape, ht2.grown.output, ht2.grown.size, ht2.grown.block⟩
  have hlt := h.lt
  have d1 := h.del hf g1.size ho1 (fun i hi hne => g1.block i (hlt i hi) (fun e => hne (by injection e)))
  have hp := hok.tot.pos hf
  have hF : FileIn w1 X (C b) b f := by
    obtain ⟨f', e', hF⟩ := h.some_of hat
    rw [hf] at e'
    cases e'
    exact hF.keep (fun _ e => e) (g1.block b (hlt b hF.x) (fun e => hF.ne_m h (by injection e))) (fun g e => g1.block g (hlt g (hF.row g e)) (fun e' => hF.g_ne_m h g e (by injection e')))
  have hF2 : FileIn w2 X (C b) b f := hF.keep (fun _ e => e) (g2.block b (d1.lt b hF.x) (fun e => hF.ne_m d1 (by injection e))) (fun g e => g2.block g (d1.lt g (hF.row g e)) (fun e' => hF.g_ne_m d1 g e (by injection e')))
  have hsz : Maps.size (D.del (.string k)) = S.n - 1 := d1.sz
  have ho2' : w2.ownsMap Try.prog 9 ptrR m (S.n - 1 + 1) ((D.del (.string k)).put (.string k2) (.lit (.int .i64 (b : Int)))) := by
    obtain ⟨es, clock, hb, F, he, hD⟩ := ho2
    refine ⟨es, clock, hb, F, ?_, hD⟩
    have e1 : es.size = Maps.size ((D.del (.string k)).put (.string k2) (.lit (.int .i64 (b : Int)))) := by rw [hD]; simp [Maps.size, length_sorted]
    have e2 := size_put (k := .string k2) (d1.map.tidy kS) (.lit (.int .i64 (b : Int)))
    rw [hsz] at e2
    rw [e1, e2]
    split <;> omega
  have hk2 : ({ S with n := S.n - 1, V := upd S.V k none } : St).V k2 = none := by show upd S.V k none k2 = none; rw [upd_other _ _ hne]; exact h2
  have d2 := d1.put (k := k2) (b := b) (f := f) hk2 g2.size ho2' (fun _ e => e) (fun i hi => Nat.lt_of_lt_of_le (d1.lt i hi) g2.size) (fun i hi hne => g2.block i (d1.lt i hi) (fun e => hne (by injection e))) hF2
    (fun k' a => by have := At.del.1 a; exact this.1 (h.inj _ _ _ this.2 hat))
    (fun k' b' g a e e' => by have := At.del.1 a; exact this.1 (h.inj _ _ b (h.rows _ _ _ _ g this.2 hat e e' ▸ this.2) hat))
  refine ⟨?_, ((Step.refl w X).grown g1 (fun g e => by cases e; exact .inl h.xm)).grown g2 (fun g e => by cases e; exact .inl h.xm)⟩
  have e1 : S.n - 1 + 1 = S.n := by omega
  have e2 : S.moved k k2 f = { S with n := S.n - 1 + 1, V := upd (upd S.V k none) k2 (some f) } := by rw [e1]; rfl
  rw [e2]
  exact d2
theorem rename1_go (a1 a2 a3 b : Nat) (s s2 : ByteArray) {f : Fl} (hok : S.ok) (h : DskAt w X d m D C S) (hat : At D s.data.toList b) (hf : S.V s.data.toList = some f)
    (c1 : w.cell? ⟨a1, 0, none⟩ = some (.string s2)) (c2 : w.cell? ⟨a2, 0, none⟩ = some (.string s)) (c3 : w.cell? ⟨a3, 0, none⟩ = some (.pointer (some ⟨d, 0, none⟩))) (hn : nm s2.data.toList = true) (hne : s2.data.toList ≠ s.data.toList)
    (l1 : a1 < w.heap.size) (l2 : a2 < w.heap.size) (l3 : a3 < w.heap.size) (n1 : ¬ X a1) (n2 : ¬ X a2) (n3 : ¬ X a3) :
    Calls Try.prog 33 #[.pointer (some ⟨b, 0, none⟩), .pointer (some ⟨a1, 0, none⟩), .pointer (some ⟨a2, 0, none⟩), .pointer (some ⟨a3, 0, none⟩)] w (Ans w X d (actRen s.data.toList s2.data.toList S f)) := by
  have he : actRen s.data.toList s2.data.toList S f = (0, (S.gone s2.data.toList).moved s.data.toList s2.data.toList f) := by unfold actRen; rw [if_neg (by simp [hn]), if_neg (fun e => hne e.symm)]
  have hok2 := hok.ren (k := s.data.toList) (k2 := s2.data.toList) hf
  rw [he] at hok2 ⊢
  have hs := nm_size (hok.name _ _ hf)
  have hs2 := nm_size hn
  have key1 := key_of (s := s) (by unfold maxLen; omega)
  have key2 := key_of (s := s2) (by unfold maxLen; omega)
  have hgone := hok.gone s2.data.toList
  have hgV := St.gone_V S s2.data.toList
  have hne' : s2 ≠ s := fun e => hne (by rw [e])
  have hcnt := hgone.cnt
  have hf2 : (S.gone s2.data.toList).V s.data.toList = some f := by rw [hgV, upd_other _ _ (fun e => hne e.symm)]; exact hf
  have hv2 : (S.gone s2.data.toList).V s2.data.toList = none := by rw [hgV, upd_same]
  have hrem := fun (w1 : World) (hd : Drawn w w1) => remove_any (h.drawn hd) hok s2 hs2
  unfold Removed at hrem
  have HR := Lib.hid hrem
  have HH := Lib.hid hf2
  have HV := Lib.hid hv2
  have HN := Lib.hid hn
  have HE := Lib.hid hne
  have hlt := h.lt
  clear he hf hrem hf2 hv2 hgV hne' hne hn
  have hse : (s.toList == s2.toList) = false := by
    rw [beq_eq_false_iff_ne, ByteArray.toList_eq, ByteArray.toList_eq]
    exact HE.out.symm
  go_enter Try.func33, Try.ntmps33
  go_wp2_with fail
  refine (isName_any s2 w).mono ?_
  rintro e w1 ⟨rfl, hd⟩
  have p1 : w1.cell? ⟨a1, 0, none⟩ = some (.string s2) := by obtain ⟨q, rfl⟩ := hd; exact c1
  have p2 : w1.cell? ⟨a2, 0, none⟩ = some (.string s) := by obtain ⟨q, rfl⟩ := hd; exact c2
  have p3 : w1.cell? ⟨a3, 0, none⟩ = some (.pointer (some ⟨d, 0, none⟩)) := by obtain ⟨q, rfl⟩ := hd; exact c3
  rw [HN.out]
  go_wp2_with fail
  refine (HR.out w1 hd).mono ?_
  rintro e w2 ⟨rfl, hst2, D', h2, hkeep⟩
  have hlt1 : w1.heap.size = w.heap.size := by obtain ⟨q, rfl⟩ := hd; rfl
  have q1 := hst2.at_ p1 (by show a1 < _; rw [hlt1]; exact l1) n1
  have q2 := hst2.at_ p2 (by show a2 < _; rw [hlt1]; exact l2) n2
  have q3 := hst2.at_ p3 (by show a3 < _; rw [hlt1]; exact l3) n3
  have hat2 := hkeep _ _ HE.out.symm hat
  obtain ⟨m0, m1, m2, m3, m4⟩ := h2.cells
  have HL1 := Lib.hid hlt1
  clear hlt1 p1 p2 p3 c1 c2 c3 hkeep
  go_wp2_with fail
  go_region_law ((refine step_delete_own rfl _ _ 50 9 rfl 56 kS Try.underlying50 ptrR m (S.gone s2.data.toList).n D' rfl (show World.ownsMap _ _ _ _ _ _ _ from h2.map.drew) _ _ rfl key1 ?_; intro w3 ho3 ht3))
  all_goals
    have r1 := (turned_cell ht3 ⟨a1, 0, none⟩).trans q1
    have r3 := (turned_cell ht3 ⟨a3, 0, none⟩).trans q3
    have u2 := (turned_cell ht3 ⟨d, 2, none⟩).trans m2
    obtain ⟨w4, hrun4, ho4, ht4⟩ := (show World.ownsMap _ _ _ _ _ _ _ from ho3.drew).store kS Try.underlying50 (by unfold maxLen; omega) key2 (ptrR_mk b)
    go_wp2_with fail
    go_region
    go_wp2_with fail
    go_ret
    have hD := (show DskAt w2.drew X d m D' C (S.gone s2.data.toList) from h2.keep (Nat.le_refl _) (fun _ _ => rfl)).moved hgone hat2 HH.out HE.out HV.out ho3 ht3 ho4 ht4
    exact ⟨rfl, X, ⟨hok2, m, _, C, hD.1⟩, ((Step.of_drawn hd X).trans hst2).drew.trans hD.2⟩
theorem rename1_ok (a1 a2 a3 : Nat) (s s2 : ByteArray) (T : St) (c1 : w.cell? ⟨a1, 0, none⟩ = some (.string s2)) (c2 : w.cell? ⟨a2, 0, none⟩ = some (.string s)) (c3 : w.cell? ⟨a3, 0, none⟩ = some (.pointer (some ⟨d, 0, none⟩)))
    (l1 : a1 < w.heap.size) (l2 : a2 < w.heap.size) (l3 : a3 < w.heap.size) (n1 : ¬ X a1) (n2 : ¬ X a2) (n3 : ¬ X a3) :
    ActOk w X d s.data.toList 33 #[.pointer (some ⟨a1, 0, none⟩), .pointer (some ⟨a2, 0, none⟩), .pointer (some ⟨a3, 0, none⟩)] (actRen s.data.toList s2.data.toList) T := by
  intro w1 m D C b f hok h hst hat hf
  have p1 := hst.at_ c1 l1 n1
  have p2 := hst.at_ c2 l2 n2
  have p3 := hst.at_ c3 l3 n3
  have hsz := hst.size
  show Calls Try.prog _ #[.pointer (some ⟨b, 0, none⟩), .pointer (some ⟨a1, 0, none⟩), .pointer (some ⟨a2, 0, none⟩), .pointer (some ⟨a3, 0, none⟩)] w1 _
  cases hn : nm s2.data.toList with
  | false => exact rename1_bad a1 a2 a3 b s s2 hok h p1 hn
  | true =>
    by_cases he : s2.data.toList = s.data.toList
    · obtain rfl : s2 = s := by
        cases s; cases s2
        simp at he
        rw [he]
      exact rename1_same a1 a2 a3 b s2 hok h p1 p2 hn
    · exact rename1_go a1 a2 a3 b s s2 hok h hat hf p1 p2 p3 hn he (by omega) (by omega) (by omega) n1 n2 n3
theorem Rename_any (h : Dsk w X d S) (s s2 : ByteArray) :
    Calls Try.prog 19 #[.pointer (some ⟨d, 0, none⟩), .string s, .string s2] w (Ans w X d (S.deed (fun T => T.on s.data.toList (actRen s.data.toList s2.data.toList)) (fun T => (0, T)))) := by
  obtain ⟨k1, k2, k3⟩ := box3_cells w (.pointer (some ⟨d, 0, none⟩)) (.string s) (.string s2) 24 9 9
  have ksz := box3_size w (.pointer (some ⟨d, 0, none⟩)) (.string s) (.string s2) 24 9 9
  have hlt := h.lt
  have hD := ((h.alloc (.cells #[.pointer (some ⟨d, 0, none⟩)] 24)).alloc (.cells #[.string s] 9)).alloc (.cells #[.string s2] 9)
  have hst := (((Step.refl w X).alloc (.cells #[.pointer (some ⟨d, 0, none⟩)] 24)).alloc (.cells #[.string s] 9)).alloc (.cells #[.string s2] 9)
  have hnx : ∀ i, w.heap.size ≤ i → ¬ X i := fun i hi e => by have := hlt i e; omega
  have hcall := change_any hD s 33 #[.pointer (some ⟨w.heap.size + 2, 0, none⟩), .pointer (some ⟨w.heap.size + 1, 0, none⟩), .pointer (some ⟨w.heap.size, 0, none⟩)] enters_rename (actRen s.data.toList s2.data.toList)
    (rename1_ok (w.heap.size + 2) (w.heap.size + 1) w.heap.size s s2 _ k3 k2 k1 (by show w.heap.size + 2 < (box3 _ _ _ _ _ _ _).heap.size; rw [ksz]; omega) (by show w.heap.size + 1 < (box3 _ _ _ _ _ _ _).heap.size; rw [ksz]; omega) (by show w.heap.size < (box3 _ _ _ _ _ _ _).heap.size; rw [ksz]; omega) (hnx _ (by omega)) (hnx _ (by omega)) (hnx _ (Nat.le_refl _)))
  obtain ⟨r, hr⟩ : ∃ r, S.deed (fun T => T.on s.data.toList (actRen s.data.toList s2.data.toList)) (fun T => (0, T)) = r := ⟨_, rfl⟩
  rw [hr] at hcall ⊢
  have hf := hmf
  have HC := Lib.hid hcall
  have HST := Lib.hid hst
  clear hr hcall hst hD k1 k2 k3 ksz hnx hlt h
  go_enter Try.func19, Try.ntmps19
  go_wp2_with fail
  refine HC.out.mono ?_
  rintro e w2 ⟨rfl, h2⟩
  go_wp2_with fail
  go_ret
  exact ⟨rfl, h2.from HST.out⟩
end
end Go.Proofs.Ythgopedojgbaoaa
