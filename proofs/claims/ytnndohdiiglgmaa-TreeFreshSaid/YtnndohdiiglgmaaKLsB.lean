/- tree.Empty where there is room; list.secrets, list.names. -/
import Derived.Test.YtnndohdiiglgmaaKTrBd
import Derived.Test.YtnndohdiiglgmaaKTrAh


namespace Go.Proofs.Ytnndohdiiglgmaa.trees
set_option linter.unusedVariables false
set_option linter.unusedSimpArgs false
open Go.RowKit Go.Shelf Go.Proofs.Ytnndohdiiglgmaa.base Go.Proofs.Ytnndohdiiglgmaa.vers Go.Proofs.Ytnndohdiiglgmaa.nodes Go.Proofs.Ytnndohdiiglgmaa.quotas

set_option maxRecDepth 100000 in
set_option maxHeartbeats 4000000 in
theorem empty_ok (h : Nat) (S : Nat → Prop) (ns : List P3) (w : World) (hh : Hp w h S ns) (hn : ns.length + 2 ≤ 20000) :
    Calls Try.prog 12 #[pv h] w (RootPost w h S (ns ++ [(true, [], [])], refOf ns.length)) := by
  have hSl := hh.lt
  have b2 : Below w.heap.size w ((w.alloc (.cells #[.int .u64 0, .int .i64 0, .int .i64 0, .int .i64 0] 27)).alloc (.cells #[.bool true, .slice none 0 0, .slice none 0 0] 60)) := ((Below.refl _ _).alloc (Nat.le_refl _) _).alloc (by simp) _
  have kR := (Blk.new w 27 #[.int .u64 0, .int .i64 0, .int .i64 0, .int .i64 0]).alloc (.cells #[.bool true, .slice none 0 0, .slice none 0 0] 60)
  have kN := Blk.new (w.alloc (.cells #[.int .u64 0, .int .i64 0, .int .i64 0, .int .i64 0] 27)) 60 #[.bool true, .slice none 0 0, .slice none 0 0]
  rw [World.size_alloc] at kN
  have hro := rooted_ok [⟨true, [], [], none, 0, none, 0⟩] (some ⟨w.heap.size + 1, 0, none⟩) 1 h S ns _ (hh.below b2) (fun g => g = w.heap.size + 1) ⟨Nat.le_refl _, by simp, (fun e => by cases e), (fun j u hj => ?_), (fun x hx => by
    rw [List.mem_singleton.1 hx]
    exact ⟨EsF.nil _ _, KsF.nil _ _⟩)⟩ (fun g hg => by subst hg; exact ⟨by simp, fun h0 => by have := hSl _ h0; omega⟩) (Nat.le_refl _) (by simpa using hn)
  rotate_left
  · exact ⟨w.heap.size + 1, 0, rfl, rfl, by
      rw [kN.cell]
      simpa [cellsN, N.cells] using hj⟩
  have e0 : rootP ns ([⟨true, [], [], none, 0, none, 0⟩].map N.p) = (ns ++ [(true, [], [])], refOf ns.length) := rfl
  rw [e0] at hro
  have HR := vers.lay (rfl : refOf ns.length = refOf ns.length)
  generalize hrr : refOf ns.length = rr at hro ⊢
  obtain ⟨rk, rg, ro, rn⟩ := rr
  go_enter Try.func12, Try.ntmps12
  go_wp2_with fail
  refine hro.mono ?_
  rintro e w2 ⟨S', rfl, hH, hS', hK⟩
  have hnR : ¬ S w.heap.size := fun h0 => by have := hSl _ h0; omega
  have kR := hK.blk kR hnR
  have z := hK.size
  simp only [World.size_alloc] at z
  have f0 := kR.frozen 0
  have f1 := kR.frozen 1
  have f2 := kR.frozen 2
  have f3 := kR.frozen 3
  have z0 := kR.cell 0
  have z1 := kR.cell 1
  have z2 := kR.cell 2
  have z3 := kR.cell 3
  simp only [List.getElem?_toArray, List.getElem?_cons_zero, List.getElem?_cons_succ] at z0 z1 z2 z3
  have lR := kR.lt
  have HRR := vers.lay hrr
  clear hrr HR
  go_wp2_with fail
  have kz := (((kR.put 0 (.int .u64 (rk : Int))).put 1 (.int .i64 rg)).put 2 (.int .i64 ro)).put 3 (.int .i64 rn)
  have KK : Keep S w w2 := ⟨hK.os.trans b2.os, hK.tape.trans b2.tape, hK.output.trans b2.output, Nat.le_trans b2.size hK.size, fun k hk hn => (hK.block k (Nat.lt_of_lt_of_le hk b2.size) hn).trans (b2.block k hk)⟩
  have K4 := four4_keep KK (g := w.heap.size) (Nat.le_refl _) (.int .u64 (rk : Int)) (.int .i64 rg) (.int .i64 ro) (.int .i64 rn)
  have hne : ¬ S' w.heap.size := fun h0 => by
    rcases hS' _ h0 with h1 | h1
    · exact hnR h1
    · simp only [World.size_alloc] at h1; omega
  have H4 := hH.four hne (.int .u64 (rk : Int)) (.int .i64 rg) (.int .i64 ro) (.int .i64 rn)
  unfold four4 at K4 H4
  simp only [List.setIfInBounds_toArray, List.set_cons_zero, List.set_cons_succ] at kz
  generalize (((w2.setCell ⟨w.heap.size, 0, none⟩ (.int .u64 (rk : Int))).setCell ⟨w.heap.size, 1, none⟩ (.int .i64 rg)).setCell ⟨w.heap.size, 2, none⟩ (.int .i64 ro)).setCell ⟨w.heap.size, 3, none⟩ (.int .i64 rn) = wX at kz K4 H4 ⊢
  have z0 := kz.cell 0
  have z1 := kz.cell 1
  have z2 := kz.cell 2
  have z3 := kz.cell 3
  simp only [List.getElem?_toArray, List.getElem?_cons_zero, List.getElem?_cons_succ] at z0 z1 z2 z3
  refine bodyPost_ret (v := .tuple #[.agg #[.int .u64 (rk : Int), .int .i64 rg, .int .i64 ro, .int .i64 rn], .int .i64 0]) (by simp [results, Try.results12, go_sem, z0, z1, z2, z3]) rfl ⟨S', rfl, H4, fun g hg => ?_, K4⟩
  rcases hS' g hg with h1 | h1
  · exact .inl h1
  · simp only [World.size_alloc] at h1; exact .inr (by omega)

/-! ### the secrets of pages -/
def secretsN (l : List SN) : List E := l.flatMap fun s => if s.2.2.lf then s.2.2.es else []
theorem secretsN_p (l : List SN) : (secretsN l).map pe = secretsP (l.map psn) := by
  induction l with
  | nil => rfl
  | cons x l ih =>
    unfold secretsN secretsP at ih ⊢
    rw [List.flatMap_cons, List.map_cons, List.flatMap_cons, List.map_append, ih]
    simp only [psn, N.p]
    by_cases hx : x.2.2.lf = true <;> simp [hx]
def EPost (w : World) (F : Nat → Prop) (le : List E) (e : Ending) (w' : World) : Prop := Below w.heap.size w w' ∧ ∃ v, e = .returned v ∧ w'.ownsRow 0 47 2 v le.length (cellsE le) ∧ (∀ g, v.ownBlock = some g → w.heap.size ≤ g) ∧ ∀ x ∈ le, VsF w' F x.l x.A x.c ∧ x.s.size ≤ maxLen
theorem cellsSn_at : ∀ (l : List SN) {j : Nat} (hj : j < l.length), (cellsSn l)[j * 8]? = some (.int .i64 (l[j].1 : Int)) ∧ (cellsSn l)[j * 8 + 1]? = some (.int .u64 (l[j].2.1.k : Int)) ∧ (cellsSn l)[j * 8 + 2]? = some (.int .i64 l[j].2.1.g) ∧ (cellsSn l)[j * 8 + 3]? = some (.int .i64 l[j].2.1.o) ∧ (cellsSn l)[j * 8 + 4]? = some (.int .i64 l[j].2.1.n) ∧
    (cellsSn l)[j * 8 + 5]? = some (.bool l[j].2.2.lf) ∧ (cellsSn l)[j * 8 + 6]? = some (.slice l[j].2.2.A l[j].2.2.es.length l[j].2.2.c) ∧ (cellsSn l)[j * 8 + 7]? = some (.slice l[j].2.2.Q l[j].2.2.ks.length l[j].2.2.m)
  | x :: l, 0, _ => ⟨rfl, rfl, rfl, rfl, rfl, rfl, rfl, rfl⟩
  | x :: l, j + 1, hj => by
    have ih := cellsSn_at l (j := j) (by simpa using hj)
    have hl : (snc x).length = 8 := rfl
    rw [show (j + 1) * 8 = 8 + j * 8 by omega]
    have key : ∀ i, (cellsSn (x :: l))[8 + j * 8 + i]? = (cellsSn l)[j * 8 + i]? := fun i => by
      rw [cellsSn, List.getElem?_append_right (by rw [hl]; omega), hl, show 8 + j * 8 + i - 8 = j * 8 + i by omega]
    have k0 := key 0
    simp only [Nat.add_zero] at k0
    rw [k0, key, key, key, key, key, key, key]
    exact ih
theorem SeenF.at_ {w : World} {F : Nat → Prop} {v : Value} {l : List SN} (h : SeenF w F v l) (hF : ∀ g, F g → g < w.heap.size) {A : Option Addr} {c : Nat} (hv : v = .slice A l.length c) {j : Nat} (hj : j < l.length) : ∃ b off, A = some ⟨b, off, none⟩ ∧ b < w.heap.size ∧ w.cell? ⟨b, off + j * 8, none⟩ = some (.int .i64 (l[j].1 : Int)) ∧
    w.cell? ⟨b, off + j * 8 + 1, none⟩ = some (.int .u64 (l[j].2.1.k : Int)) ∧ w.cell? ⟨b, off + j * 8 + 2, none⟩ = some (.int .i64 l[j].2.1.g) ∧ w.cell? ⟨b, off + j * 8 + 3, none⟩ = some (.int .i64 l[j].2.1.o) ∧ w.cell? ⟨b, off + j * 8 + 4, none⟩ = some (.int .i64 l[j].2.1.n) ∧
    w.cell? ⟨b, off + j * 8 + 5, none⟩ = some (.bool l[j].2.2.lf) ∧ w.cell? ⟨b, off + j * 8 + 6, none⟩ = some (.slice l[j].2.2.A l[j].2.2.es.length l[j].2.2.c) ∧ w.cell? ⟨b, off + j * 8 + 7, none⟩ = some (.slice l[j].2.2.Q l[j].2.2.ks.length l[j].2.2.m) := by
  obtain ⟨A', c', e, _, _, hr⟩ := row_rdF h.1
  rw [hv] at e
  injection e with e1 _ e2
  subst e1 e2
  obtain ⟨g0, g1, g2, g3, g4, g5, g6, g7⟩ := cellsSn_at l hj
  obtain ⟨b, off, rfl, hb, x0⟩ := hr _ _ g0
  have at' : ∀ i u, (cellsSn l)[i]? = some u → w.cell? ⟨b, off + i, none⟩ = some u := fun i u hi => by
    obtain ⟨b', off', e, _, hc⟩ := hr i u hi
    injection e with e
    injection e with e1 e2
    subst e1 e2
    exact hc
  exact ⟨b, off, rfl, hF b (h.2.1 b (by rw [hv]; rfl)), x0, at' _ _ g1, at' _ _ g2, at' _ _ g3, at' _ _ g4, at' _ _ g5, at' _ _ g6, at' _ _ g7⟩

end Go.Proofs.Ytnndohdiiglgmaa.trees
