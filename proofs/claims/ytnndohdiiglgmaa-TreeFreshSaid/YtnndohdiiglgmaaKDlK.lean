/- What holds between two rounds of neighbours. -/
import Derived.Test.YtnndohdiiglgmaaKDlI
import Derived.Test.YtnndohdiiglgmaaKDlD
import Derived.Test.YtnndohdiiglgmaaKTrAf


namespace Go.Proofs.Ytnndohdiiglgmaa.trees
set_option linter.unusedVariables false
set_option linter.unusedSimpArgs false
open Go.RowKit Go.Shelf Go.Proofs.Ytnndohdiiglgmaa.base Go.Proofs.Ytnndohdiiglgmaa.vers Go.Proofs.Ytnndohdiiglgmaa.nodes Go.Proofs.Ytnndohdiiglgmaa.quotas
attribute [local go_sem] Oper.semAt_some

/-- a step with its neighbours in memory -/
structure SJ where
  n : N
  at_ : Nat
  la : List N
  Aa : Option Addr
  ca : Nat
  lb : List N
  Ab : Option Addr
  cb : Nat
def SJ.st (x : SJ) : St := ⟨x.n, x.at_, x.Aa, x.la.length, x.ca, x.Ab, x.lb.length, x.cb⟩
def SJ.ab (x : SJ) : AB := (x.la.map N.p, x.lb.map N.p)
abbrev SJ.w (x : SJ) : N × Nat := (x.n, x.at_)
def SJ.F (W : World) (F : Nat → Prop) (x : SJ) : Prop := LF W F x.la x.Aa x.ca ∧ LF W F x.lb x.Ab x.cb
theorem LF.mono' {w : World} {F G : Nat → Prop} {l : List N} {A : Option Addr} {c : Nat} (h : LF w F l A c) (hG : ∀ g, F g → G g) : LF w G l A c := ⟨h.1, h.2.1, h.2.2.1, h.2.2.2.1.mono hG, fun x hx => (h.2.2.2.2 x hx).mono hG⟩
theorem LF.cells {w : World} {F : Nat → Prop} {l : List N} {A : Option Addr} {c : Nat} (h : LF w F l A c) : LF w (fun g => F g ∧ isC w g) l A c := ⟨h.1, h.2.1, h.2.2.1, h.2.2.2.1.cells, fun x hx => (h.2.2.2.2 x hx).cells⟩
theorem SJ.F.agree {W W' : World} {F : Nat → Prop} {x : SJ} (h : x.F W F) (hk : Agree W W' F) : x.F W' F := ⟨h.1.agree hk, h.2.agree hk⟩
theorem SJ.F.mono {W : World} {F G : Nat → Prop} {x : SJ} (h : x.F W F) (hG : ∀ g, F g → G g) : x.F W G := ⟨h.1.mono' hG, h.2.mono' hG⟩
theorem SJ.F.cells {W : World} {F : Nat → Prop} {x : SJ} (h : x.F W F) : x.F W (fun g => F g ∧ isC W g) := ⟨LF.cells h.1, LF.cells h.2⟩
/-- memory that no round writes: neither the way's row nor the call's boxes -/
def MF (w : World) (v : Value) (W : World) (g : Nat) : Prop := g < W.heap.size ∧ v.ownBlock ≠ some g ∧ (g < w.heap.size ∨ w.heap.size + 5 ≤ g)
/-- what holds between two rounds: of the child y and the steps xs -/
def NIx (w : World) (h : Nat) (v : Value) (way : List (N × Nat)) (y : N) (xs : List SJ) (W : World) : Prop :=
  xs.map SJ.w = way ∧
    Blk W w.heap.size 111 #[.iface 23 (.pointer (some ⟨h, 0, none⟩))] ∧ Blk W (w.heap.size + 1) 113 #[v] ∧ Blk W (w.heap.size + 1 + 1) 60 #[.bool y.lf, .slice y.A y.es.length y.c, .slice y.Q y.ks.length y.m] ∧ Blk W (w.heap.size + 1 + 1 + 1) 28 #[.int .i64 0] ∧
    W.ownsRow 0 134 6 v way.length (cellsS (xs.map SJ.st)) ∧ (∀ g, v.ownBlock = some g → isC W g ∧ g < w.heap.size) ∧
    NsF W (fun g => MF w v W g ∧ isC W g) y ∧ (∀ x ∈ xs, x.F W (fun g => (MF w v W g ∧ w.heap.size + 5 ≤ g) ∧ isC W g)) ∧ Keep (fun g => v.ownBlock = some g) w W ∧ w.heap.size + 5 ≤ W.heap.size
def NI (w : World) (h : Nat) (v : Value) (way : List (N × Nat)) (st : List AB × P3) (W : World) : Prop :=
  ∃ (y : N) (xs : List SJ), y.p = st.2 ∧ xs.map SJ.ab = st.1 ∧ NIx w h v way y xs W
theorem NIx.moved {w : World} {h : Nat} {v : Value} {way : List (N × Nat)} {y : N} {xs : List SJ} {X Y : World} (hs : NIx w h v way y xs X) (K : ∀ {g}, isC X g → Y.heap[g]? = X.heap[g]?) (hz : X.heap.size ≤ Y.heap.size) (hk : Keep (fun g => v.ownBlock = some g) w Y) : NIx w h v way y xs Y := by
  obtain ⟨h2, h4, h5, h6, h7, h8, h9, h10, h11, h12, h13⟩ := hs
  have BK : ∀ {g : Nat} {t : TypeId} {cs : Array Value}, Blk X g t cs → Blk Y g t cs := fun hb => (K (isC_blk hb)).trans hb
  have MK : ∀ {g}, MF w v X g → MF w v Y g := fun hm => ⟨Nat.lt_of_lt_of_le hm.1 hz, hm.2⟩
  refine ⟨h2, BK h4, BK h5, BK h6, BK h7, ownsRow_agree h8 (fun g hg' => K (h9 g hg').1), fun g hg' => ⟨(h9 g hg').1.at (K (h9 g hg').1), (h9 g hg').2⟩, ?_, fun x hx => ?_, hk, Nat.le_trans h13 hz⟩
  · exact (h10.agree fun g hg' => K hg'.2).mono fun g hg' => ⟨MK hg'.1, hg'.2.at (K hg'.2)⟩
  · exact ((h11 x hx).agree fun g hg' => K hg'.2).mono fun g hg' => ⟨⟨MK hg'.1.1, hg'.1.2⟩, hg'.2.at (K hg'.2)⟩
theorem NIx.below {w : World} {h : Nat} {v : Value} {way : List (N × Nat)} {y : N} {xs : List SJ} {X Y : World} (hs : NIx w h v way y xs X) (hb : Below X.heap.size X Y) : NIx w h v way y xs Y :=
  hs.moved (fun ⟨_, _, _, hc⟩ => hb.block _ (Array.getElem?_eq_some_iff.1 hc).1) hb.size (hs.2.2.2.2.2.2.2.2.2.1.seq hb)
theorem NI.own {w : World} {h : Nat} {v : Value} {way : List (N × Nat)} {α : Type} (P : α → List AB × P3 → Prop) (B : Nat) (hB : w.heap.size ≤ B) : OwnFrom B (fun pre W => ∃ st, P pre st ∧ NI w h v way st W) := by
  intro pre X Y row hs hg hr
  have hr' : ∀ r, row = some r → ∃ o : Obj, X.heap[r]? = some o ∧ o.isCells = false := fun r e => (hr r e).2
  obtain ⟨st, hP, y, xs, h1, h3, hx⟩ := hs
  have h12 := hx.2.2.2.2.2.2.2.2.2.1
  refine ⟨st, hP, y, xs, h1, h3, hx.moved (fun hc => grown_isC hg hr' hc) hg.size ⟨hg.os.trans h12.os, hg.tape.trans h12.tape, hg.output.trans h12.output, Nat.le_trans h12.size hg.size, fun k hk hn => (hg.block k (by have := h12.size; omega) fun e => ?_).trans (h12.block k hk hn)⟩⟩
  have := (hr k e.symm).1
  omega
/-- a step's neighbours are set -/
theorem cellsS_set : ∀ (l : List St) (i r : Nat) (u : Value) (x : St) (hi : i < l.length), r < 6 → x.cells = l[i].cells.set r u → (cellsS l).set (i * 6 + r) u = cellsS (l.set i x)
  | z :: l, 0, r, u, x, _, hr, e => by
    have hz : z.cells.length = 6 := rfl
    rw [cellsS, List.set_append_left _ _ (by rw [hz]; omega), List.set_cons_zero, cellsS, e]
    simp
  | z :: l, i + 1, r, u, x, hi, hr, e => by
    have hz : z.cells.length = 6 := rfl
    rw [cellsS, List.set_append_right _ _ (by rw [hz]; omega), List.set_cons_succ, cellsS, hz, show (i + 1) * 6 + r - 6 = i * 6 + r by omega, cellsS_set l i r u x (by simpa using hi) hr (by simpa using e)]
theorem NIx.put {w : World} {h g m c : Nat} {way : List (N × Nat)} {y : N} {xs : List SJ} {W w1 : World} (hm : m = way.length) (hs : NIx w h (.slice (some ⟨g, 0, none⟩) m c) way y xs W) (hb : Below W.heap.size W w1) (i r : Nat) (u : Value) (x : SJ) (hi : i < xs.length) (hr : r < 6) (hx : x.w = xs[i].w) (hc : x.st.cells = xs[i].st.cells.set r u)
    (hF : x.F (w1.setCell ⟨g, i * 6 + r, none⟩ u) (fun q => (MF w (.slice (some ⟨g, 0, none⟩) m c) (w1.setCell ⟨g, i * 6 + r, none⟩ u) q ∧ w.heap.size + 5 ≤ q) ∧ isC (w1.setCell ⟨g, i * 6 + r, none⟩ u) q)) :
    NIx w h (.slice (some ⟨g, 0, none⟩) m c) way y (xs.set i x) (w1.setCell ⟨g, i * 6 + r, none⟩ u) := by
  subst hm
  obtain ⟨h2, h4, h5, h6, h7, h8, h9, h10, h11, h12, h13⟩ := hs.below hb
  have hgb := h9 g rfl
  have K : ∀ {q}, q ≠ g → (w1.setCell ⟨g, i * 6 + r, none⟩ u).heap[q]? = w1.heap[q]? := fun hq => Below.heap_setCell _ _ _ _ (by simpa using hq)
  have hz : (w1.setCell ⟨g, i * 6 + r, none⟩ u).heap.size = w1.heap.size := by simp
  have C : ∀ {q}, isC w1 q → isC (w1.setCell ⟨g, i * 6 + r, none⟩ u) q := fun {q} hq => by
    by_cases e : q = g
    · subst e
      obtain ⟨cs, t, fr, hq⟩ := hq
      have ho := (h8.stored (i * 6 + r) u).1
      rcases ho.2 with ⟨h', _⟩ | ⟨g', cap', cur, h', _, hg, _⟩
      · simp at h'
      · simp only [Value.slice.injEq, Option.some.injEq, Addr.mk.injEq, and_true, true_and] at h'
        obtain ⟨rfl, rfl⟩ := h'
        exact ⟨_, _, _, hg⟩
    · exact hq.at (K e)
  have BK : ∀ {q : Nat} {t : TypeId} {cs : Array Value}, q ≠ g → Blk w1 q t cs → Blk (w1.setCell ⟨g, i * 6 + r, none⟩ u) q t cs := fun e hb => (K e).trans hb
  have MK : ∀ {q}, MF w (.slice (some ⟨g, 0, none⟩) way.length c) w1 q → MF w (.slice (some ⟨g, 0, none⟩) way.length c) (w1.setCell ⟨g, i * 6 + r, none⟩ u) q := fun hm => ⟨by rw [hz]; exact hm.1, hm.2⟩
  have MN : ∀ {q}, MF w (.slice (some ⟨g, 0, none⟩) way.length c) w1 q → q ≠ g := fun hm e => hm.2.1 (by rw [e]; rfl)
  have hst : (xs.set i x).map SJ.st = (xs.map SJ.st).set i x.st := by rw [List.map_set]
  refine ⟨?_, BK (by omega) h4, BK (by omega) h5, BK (by omega) h6, BK (by omega) h7, ?_, fun q hq => ⟨C (h9 q hq).1, (h9 q hq).2⟩, ?_, fun z hz' => ?_, ?_, by rw [hz]; exact h13⟩
  · rw [List.map_set, ← h2]
    refine List.ext_getElem (by simp) fun j h1 h2 => ?_
    rw [List.getElem_set]
    split
    · rename_i e; subst e; rw [hx]; simp
    · rfl
  · rw [hst, ← cellsS_set (xs.map SJ.st) i r u x.st (by simpa using hi) hr (by simpa using hc)]
    exact (h8.stored (i * 6 + r) u).1
  · exact (h10.agree fun q hq => K (MN hq.1)).mono fun q hq => ⟨MK hq.1, C hq.2⟩
  · rcases List.mem_or_eq_of_mem_set hz' with h' | rfl
    · exact ((h11 z h').agree fun q hq => K (MN hq.1.1)).mono fun q hq => ⟨⟨MK hq.1.1, hq.1.2⟩, C hq.2⟩
    · exact hF
  · refine ⟨h12.os, h12.tape, h12.output, by rw [hz]; exact h12.size, fun k hk hn => (K (fun e => hn (by rw [e]; rfl))).trans (h12.block k hk hn)⟩
/-- the child is made anew -/
theorem NIx.child {w : World} {h : Nat} {v : Value} {way : List (N × Nat)} {y y' : N} {xs : List SJ} {W w4 : World} (hs : NIx w h v way y xs W) (hb : Below W.heap.size W w4)
    (hy : NsF (set3 w4 (w.heap.size + 1 + 1) (.bool y'.lf) (.slice y'.A y'.es.length y'.c) (.slice y'.Q y'.ks.length y'.m)) (fun g => MF w v (set3 w4 (w.heap.size + 1 + 1) (.bool y'.lf) (.slice y'.A y'.es.length y'.c) (.slice y'.Q y'.ks.length y'.m)) g) y') :
    NIx w h v way y' xs (set3 w4 (w.heap.size + 1 + 1) (.bool y'.lf) (.slice y'.A y'.es.length y'.c) (.slice y'.Q y'.ks.length y'.m)) := by
  obtain ⟨h2, h4, h5, h6, h7, h8, h9, h10, h11, h12, h13⟩ := hs.below hb
  have K := fun {q} (hq : q ≠ w.heap.size + 1 + 1) => set3_heap w4 (w.heap.size + 1 + 1) (.bool y'.lf) (.slice y'.A y'.es.length y'.c) (.slice y'.Q y'.ks.length y'.m) q hq
  have hz := set3_size w4 (w.heap.size + 1 + 1) (.bool y'.lf) (.slice y'.A y'.es.length y'.c) (.slice y'.Q y'.ks.length y'.m)
  have kb := set3_blk h6 (.bool y'.lf) (.slice y'.A y'.es.length y'.c) (.slice y'.Q y'.ks.length y'.m)
  have bl := set3_below (Below.refl 0 w4) (g := w.heap.size + 1 + 1) (Nat.zero_le _) (.bool y'.lf) (.slice y'.A y'.es.length y'.c) (.slice y'.Q y'.ks.length y'.m)
  generalize set3 w4 (w.heap.size + 1 + 1) (.bool y'.lf) (.slice y'.A y'.es.length y'.c) (.slice y'.Q y'.ks.length y'.m) = W9 at *
  have C : ∀ {q}, isC w4 q → isC W9 q := fun {q} hq => by
    by_cases e : q = w.heap.size + 1 + 1
    · subst e; exact isC_blk kb
    · exact hq.at (K e)
  have BK : ∀ {q : Nat} {t : TypeId} {cs : Array Value}, q ≠ w.heap.size + 1 + 1 → Blk w4 q t cs → Blk W9 q t cs := fun e hb => (K e).trans hb
  have MK : ∀ {q}, MF w v w4 q → MF w v W9 q := fun hm => ⟨by rw [hz]; exact hm.1, hm.2⟩
  have gl : ∀ q, v.ownBlock = some q → q ≠ w.heap.size + 1 + 1 := fun q hq => by have := (h9 q hq).2; omega
  refine ⟨h2, BK (by omega) h4, BK (by omega) h5, kb, BK (by omega) h7, ownsRow_agree h8 fun g hg => K (gl g hg), fun q hq => ⟨C (h9 q hq).1, (h9 q hq).2⟩, hy.cells, fun z hz' => ?_, ?_, by rw [hz]; exact h13⟩
  · exact ((h11 z hz').agree fun q hq => K (by have := hq.1.2; omega)).mono fun q hq => ⟨⟨MK hq.1.1, hq.1.2⟩, C hq.2⟩
  · exact ⟨bl.os.trans h12.os, bl.tape.trans h12.tape, bl.output.trans h12.output, by rw [hz]; exact h12.size, fun k hk hn => (K (by omega)).trans (h12.block k hk hn)⟩
theorem lf_one {w : World} {F : Nat → Prop} {g : Nat} {y : N} (hk : Blk w g 60 #[.bool y.lf, .slice y.A y.es.length y.c, .slice y.Q y.ks.length y.m]) (hy : NsF w F y) (hg : F g) : LF w F [y] (some ⟨g, 0, none⟩) 1 := by
  refine ⟨by simp, by simp, (fun e => by cases e), fun j u hj => ⟨g, 0, rfl, hg, ?_⟩, fun x hx => by simp at hx; subst hx; exact hy⟩
  have h0 := hk.cell 0
  have h1 := hk.cell 1
  have h2 := hk.cell 2
  simp only [List.getElem?_toArray, List.getElem?_cons_zero, List.getElem?_cons_succ] at h0 h1 h2
  match j, hj with
  | 0, hj => cases hj; exact h0
  | 1, hj => cases hj; exact h1
  | 2, hj => cases hj; exact h2
  | j + 3, hj => simp [cellsN, N.cells] at hj
/-- where a neighbour could not be read -/
def NE (w : World) (v : Value) (k : Int) (W : World) : Prop := Blk W (w.heap.size + 1 + 1 + 1) 28 #[.int .i64 k] ∧ Keep (fun g => v.ownBlock = some g) w W
theorem NE.own {w : World} {v : Value} {α : Type} (P : α → Int → Prop) (B : Nat) (hB : w.heap.size ≤ B) : OwnFrom B (fun pre W => ∃ k, P pre k ∧ NE w v k W) := by
  intro pre X Y row hs hg hr
  have hr' : ∀ r, row = some r → ∃ o : Obj, X.heap[r]? = some o ∧ o.isCells = false := fun r e => (hr r e).2
  obtain ⟨k, hP, h7, h12⟩ := hs
  have BK : ∀ {g : Nat} {t : TypeId} {cs : Array Value}, Blk X g t cs → Blk Y g t cs := fun hb => (grown_isC hg hr' (isC_blk hb)).trans hb
  refine ⟨k, hP, BK h7, hg.os.trans h12.os, hg.tape.trans h12.tape, hg.output.trans h12.output, Nat.le_trans h12.size hg.size, fun k hk hn => (hg.block k (by have := h12.size; omega) fun e => ?_).trans (h12.block k hk hn)⟩
  have := (hr k e.symm).1
  omega
theorem NIx.rowB {w W : World} {h : Nat} {A : Option Addr} {c : Nat} {way : List (N × Nat)} {y : N} {xs : List SJ} (hI : NIx w h (.slice A way.length c) way y xs W) (Bs : Nat) (hb : W.cell? ⟨Bs, 0, none⟩ = some (.slice A way.length c)) (hm : way.length * 112 ≤ 140737488355328) : RowB Bs (fun g => (Value.slice A way.length c).ownBlock = some g) A way.length c W := by
  obtain ⟨h2, h4, h5, h6, h7, h8, h9, h10, h11, h12, h13⟩ := hI
  have hl : xs.length = way.length := by rw [← h2, List.length_map]
  refine ⟨hb, xs.map SJ.st, by rw [List.length_map, hl], ?_⟩
  obtain ⟨A', c', e, hc, hn, hr⟩ := row_rdF h8
  injection e with e1 _ e2
  subst e1; subst e2
  exact ⟨by rw [List.length_map, hl]; exact hc, by rw [List.length_map, hl]; exact hm, hn, hr⟩
end Go.Proofs.Ytnndohdiiglgmaa.trees

/- climber.neighbours. -/

namespace Go.Proofs.Ytnndohdiiglgmaa.trees
set_option linter.unusedVariables false
set_option linter.unusedSimpArgs false
open Go.RowKit Go.Shelf Go.Proofs.Ytnndohdiiglgmaa.base Go.Proofs.Ytnndohdiiglgmaa.vers Go.Proofs.Ytnndohdiiglgmaa.nodes Go.Proofs.Ytnndohdiiglgmaa.quotas
attribute [local go_sem] Oper.semAt_some

def small (n : P3) : Prop := n.2.1.length ≤ 1000 ∧ n.2.2.length ≤ 1000
/-- what may be found so far -/
def StOk (way : List PS) (st : List AB × P3) : Prop := st.1.length = way.length ∧ (∀ i, i < way.length → AbOk (way[i]?.getD zS) (st.1[i]?.getD ([], []))) ∧ (∀ ab ∈ st.1, ∀ n ∈ ab.1 ++ ab.2, small n) ∧ small st.2
def WayOk (ns : List P3) (way : List PS) : Prop := ∀ x ∈ way, x.2 < x.1.2.2.length ∧ x.1.2.2.length ≤ 900 ∧ x.1.2.1.length ≤ 1000 ∧ ∀ d lf r, besideP ns x.1.2.2 x.2 d lf = .ok r → ∀ n ∈ r.1 ++ r.2, small n
theorem mem_abOf {old r : AB} {n : P3} (h : n ∈ (abOf old r).1 ++ (abOf old r).2) : n ∈ old.1 ++ old.2 ∨ n ∈ r.1 ++ r.2 := by
  unfold abOf at h
  simp only [List.mem_append] at h ⊢
  rcases h with h | h <;> (split at h <;> simp_all)
theorem child_small {s : PS} {ab : AB} {y : P3} (h2 : s.1.2.2.length ≤ 900) (h3 : s.1.2.1.length ≤ 1000) : small (childX s ab y) := by
  refine ⟨h3, ?_⟩
  have := joinP_len ab.1 y ab.2
  unfold childX overK
  simp only [List.length_append, List.length_take, List.length_drop, List.length_replicate]
  omega
theorem StOk.step {ns : List P3} {way : List PS} {st : List AB × P3} {i : Nat} {r : AB} (hw : WayOk ns way) (h : StOk way st) (hi : i < way.length) (hr : bes ns (way[i]?.getD zS) (i + 2) st.2 = .ok r) :
    StOk way (st.1.set i (abOf (st.1[i]?.getD ([], [])) r), childX (way[i]?.getD zS) (abOf (st.1[i]?.getD ([], [])) r) st.2) := by
  obtain ⟨h1, h2, h3, h4⟩ := h
  have hg : way[i]?.getD zS = way[i] := by rw [List.getElem?_eq_getElem hi]; rfl
  obtain ⟨w1, w2, w3, w4⟩ := hw _ (List.getElem_mem hi)
  have hA := (bes_ok hr).1
  have hs : ∀ n ∈ r.1 ++ r.2, small n := by
    unfold bes at hr
    rw [hg] at hr
    split at hr
    · exact w4 _ _ _ hr
    · cases hr
      intro n h; cases h
  refine ⟨by simpa using h1, fun j hj => ?_, fun ab hab n hn => ?_, ?_⟩
  · by_cases e : i = j
    · subst e
      simp only
      rw [List.getElem?_set_self (by omega)]
      exact (h2 i hj).of hA
    · simp only
      rw [List.getElem?_set_ne e]
      exact h2 j hj
  · rcases List.mem_or_eq_of_mem_set hab with h' | rfl
    · exact h3 _ h' n hn
    · rcases mem_abOf hn with h' | h'
      · have hl : i < st.1.length := by omega
        rw [List.getElem?_eq_getElem hl] at h'
        exact h3 _ (List.getElem_mem hl) n h'
      · exact hs n h'
  · rw [hg]
    exact child_small w2 w3
theorem neighX_ok {ns : List P3} {way : List PS} (hw : WayOk ns way) {st0 : List AB × P3} (h0 : StOk way st0) : ∀ (l : List Nat), (∀ i ∈ l, i < way.length) → ∀ st, neighX ns way st0 l = .ok st → StOk way st := by
  intro l
  induction l generalizing st0 with
  | nil => intro _ st h; cases h; exact h0
  | cons i l ih =>
    intro hl st h
    have hi := hl i (List.mem_cons_self ..)
    unfold neighX at h
    rw [List.foldlM_cons] at h
    cases hr : bes ns (way[i]?.getD zS) (i + 2) st0.2 with
    | error e =>
      have : nstepX ns way st0 i = .error e := by unfold nstepX; rw [hr]
      rw [this] at h
      cases h
    | ok r =>
      have : nstepX ns way st0 i = .ok (st0.1.set i (abOf (st0.1[i]?.getD ([], [])) r), childX (way[i]?.getD zS) (abOf (st0.1[i]?.getD ([], [])) r) st0.2) := by unfold nstepX; rw [hr]
      rw [this] at h
      exact ih (h0.step hw hi hr) (fun j hj => hl j (List.mem_cons_of_mem _ hj)) st h
/-- what neighbours leaves -/
def NePost (w : World) (v : Value) (way : List (N × Nat)) (r : Except Int (List AB × P3)) (e : Ending) (w' : World) : Prop := Keep (fun g => v.ownBlock = some g) w w' ∧ match r with
  | .error k => e = .returned (.int .i64 k)
  | .ok st => e = .returned (.int .i64 0) ∧ ∃ xs : List SJ, xs.map SJ.w = way ∧ xs.map SJ.ab = st.1 ∧ w'.ownsRow 0 134 6 v way.length (cellsS (xs.map SJ.st)) ∧ ∀ x ∈ xs, x.F w' (fun g => w.heap.size ≤ g ∧ g < w'.heap.size)

theorem boxes5 (w : World) (t0 t1 t2 t3 t4 : TypeId) (c0 c1 c2 c3 c4 : Array Value) (W : World) (e : ((((w.alloc (.cells c0 t0)).alloc (.cells c1 t1)).alloc (.cells c2 t2)).alloc (.cells c3 t3)).alloc (.cells c4 t4) = W) :
    Below w.heap.size w W ∧ W.heap.size = w.heap.size + 5 ∧ Blk W w.heap.size t0 c0 ∧ Blk W (w.heap.size + 1) t1 c1 ∧ Blk W (w.heap.size + 1 + 1) t2 c2 ∧ Blk W (w.heap.size + 1 + 1 + 1) t3 c3 ∧ Blk W (w.heap.size + 1 + 1 + 1 + 1) t4 c4 := by
  subst e
  refine ⟨((((((Below.refl _ w).alloc (Nat.le_refl _) _).alloc (by simp) _).alloc (by simp; omega) _).alloc (by simp; omega) _).alloc (by simp; omega) _), by simp, ?_, ?_, ?_, ?_, ?_⟩
  · exact ((((Blk.new w t0 c0).alloc _).alloc _).alloc _).alloc _
  · have := (((Blk.new (w.alloc (.cells c0 t0)) t1 c1).alloc (.cells c2 t2)).alloc (.cells c3 t3)).alloc (.cells c4 t4)
    simpa only [World.size_alloc] using this
  · have := ((Blk.new ((w.alloc (.cells c0 t0)).alloc (.cells c1 t1)) t2 c2).alloc (.cells c3 t3)).alloc (.cells c4 t4)
    simpa only [World.size_alloc] using this
  · have := (Blk.new (((w.alloc (.cells c0 t0)).alloc (.cells c1 t1)).alloc (.cells c2 t2)) t3 c3).alloc (.cells c4 t4)
    simpa only [World.size_alloc] using this
  · have := Blk.new ((((w.alloc (.cells c0 t0)).alloc (.cells c1 t1)).alloc (.cells c2 t2)).alloc (.cells c3 t3)) t4 c4
    simpa only [World.size_alloc] using this

theorem zK_fits : zK.fits := ⟨by simp [zK, maxLen, ByteArray.size], by simp [zK], by simp [zK, i64], by simp [zK, i64], by simp [zK, i64]⟩
/-- kids of a row of zeros -/
theorem mkKids (n : Nat) (hn : n = 1 ∨ n = 2) : ∃ M, (∀ u : World, (Instr.makeSlice 58 (.int .i64 (n : Int)) (.int .i64 (n : Int))).run Try.prog u = .ok (.slice (some ⟨u.heap.size, 0, none⟩) n n) (u.alloc (.cells M 66))) ∧ M.toList = cellsK (List.replicate n zK) ∧ M.size = n * 5 := by
  obtain ⟨i0, hi, hz0, hz1, hz2⟩ := info_parts infoK
  refine ⟨madeCells (Value.agg #[.string ⟨#[]⟩, .int .u64 0, .int .i64 0, .int .i64 0, .int .i64 0]).cells (n * 5), fun u => ?_, ?_, size_madeCells _ _⟩
  · have h := run_make (P := Try.prog) u 58 66 i0 _ Try.underlying58 hi hz0 .i64 .i64 (n : Int) (n : Int) (by omega) (Int.le_refl _) (by rw [hz2]; omega) (by omega)
    rw [hz1] at h
    simpa using h
  · rcases hn with rfl | rfl <;> simp [madeCells, Array.toList_map, Array.toList_range, List.range_succ, cellsK, K.cells, zK, Value.cells, List.replicate]
theorem mkKids_own {n : Nat} {M : Array Value} (hM : M.toList = cellsK (List.replicate n zK)) (hs : M.size = n * 5) (hn : n ≤ 2) (u : World) : KsF (u.alloc (.cells M 66)) (fun g => g < u.heap.size + 1) (List.replicate n zK) (some ⟨u.heap.size, 0, none⟩) n := by
  have ho := World.ownsRow_lit (e := 66) (size := 5) u M n (Nat.zero_le _) (by simp [maxLen]; omega) hs
  rw [hM] at ho
  obtain ⟨R, r, e, hK⟩ := own_ks (F := fun g => g < u.heap.size + 1) ho (by simp) (by simp; omega) (fun g hg => by have := (ho.lt g hg).2; simpa using this) (fun k hk => by rw [List.eq_of_mem_replicate hk]; exact zK_fits)
  injection e with e1 _ e2
  subst e1; subst e2
  exact hK
theorem child_ns {w w5 w6 : World} {v v6 : Value} {F : Nat → Prop} {X : N} {at_ na nb n : Nat} (hX : NsF w (fun g => F g ∧ some g ≠ v.ownBlock) X) (hF : ∀ g, F g → g < w.heap.size) (hk : Keep (fun g => v.ownBlock = some g) w w6) (hz : w.heap.size + 5 ≤ w5.heap.size) (hR : ∀ g, v.ownBlock = some g → g < w.heap.size)
    (ho : w6.ownsRow w5.heap.size 66 5 v6 (overK X.ks at_ na nb (List.replicate n zK)).length (cellsK (overK X.ks at_ na nb (List.replicate n zK)))) (hks : X.ks.length ≤ 900) (hn : n ≤ 2) :
    ∃ A6 c6, v6 = .slice A6 (overK X.ks at_ na nb (List.replicate n zK)).length c6 ∧ NsF (set3 w6 (w.heap.size + 1 + 1) (.bool X.lf) (.slice X.A X.es.length X.c) (.slice A6 (overK X.ks at_ na nb (List.replicate n zK)).length c6)) (fun g => MF w v (set3 w6 (w.heap.size + 1 + 1) (.bool X.lf) (.slice X.A X.es.length X.c) (.slice A6 (overK X.ks at_ na nb (List.replicate n zK)).length c6)) g) ⟨X.lf, X.es, overK X.ks at_ na nb (List.replicate n zK), X.A, X.c, A6, c6⟩ := by
  have hlen : (overK X.ks at_ na nb (List.replicate n zK)).length ≤ 1802 := by
    unfold overK
    simp only [List.length_append, List.length_take, List.length_drop, List.length_replicate]
    omega
  obtain ⟨R, r, e, hK⟩ := own_ks (F := fun g => w5.heap.size ≤ g ∧ g < w6.heap.size) ho rfl (by omega) (fun g hg => ho.lt g hg) (fun k hk => by
    unfold overK at hk
    rcases List.mem_append.1 hk with hk | hk
    · rcases List.mem_append.1 hk with hk | hk
      · exact hX.2.2.2.2.2 k (List.mem_of_mem_take hk)
      · rw [List.eq_of_mem_replicate hk]; exact zK_fits
    · exact hX.2.2.2.2.2 k (List.mem_of_mem_drop hk))
  refine ⟨R, r, e, ?_, ?_⟩
  · have h1 := hX.1.agree (w' := w6) (hk.agree fun g hg => ⟨hF g hg.1, fun e => hg.2 e.symm⟩)
    exact (h1.agree (set3_agree (g := w.heap.size + 1 + 1) (fun g hg => by have := hF g hg.1; omega) _ _ _)).mono fun g hg => ⟨by rw [set3_size]; have := hF g hg.1; have := hk.size; omega, fun e => hg.2 e.symm, .inl (hF g hg.1)⟩
  · exact (hK.agree (set3_agree (g := w.heap.size + 1 + 1) (fun g hg => by omega) _ _ _)).mono fun g hg => ⟨by rw [set3_size]; exact hg.2, fun e => by have := hR g e; omega, .inr (by omega)⟩

theorem nstepX_ok {ns : List P3} {way : List PS} {st : List AB × P3} {i : Nat} {s : PS} {ab r : AB} {yp : P3} (hs : way[i]?.getD zS = s) (ha : st.1[i]?.getD ([], []) = ab) (hy : yp = st.2) (hb : bes ns s (i + 2) yp = .ok r) : nstepX ns way st i = .ok (st.1.set i (abOf ab r), childX s (abOf ab r) yp) := by
  subst hs; subst ha; subst hy
  unfold nstepX
  rw [hb]
theorem nstepX_err {ns : List P3} {way : List PS} {st : List AB × P3} {i : Nat} {s : PS} {yp : P3} {k : Int} (hs : way[i]?.getD zS = s) (hy : yp = st.2) (hb : bes ns s (i + 2) yp = .error k) : nstepX ns way st i = .error k := by
  subst hs; subst hy
  unfold nstepX
  rw [hb]
theorem over_zero (s : St) (n : Nat) (R : Option Addr) (r : Nat) (F : Nat → Prop) (w : World) (hs : KsF w F s.n.ks s.n.Q s.n.m) (hR : KsF w F (List.replicate n zK) R r) (hF : ∀ g, F g → g < w.heap.size) (h1 : s.na ≤ s.at_) (h2 : s.at_ + 1 + s.nb ≤ s.n.ks.length) (hl : (s.n.ks.length + n) * 48 ≤ 140737488355328) :
    Calls Try.prog 88 #[s.v, .slice R n r] w (OPost w s.n.lf s.n.A s.n.es.length s.n.c (overK s.n.ks s.at_ s.na s.nb (List.replicate n zK))) := by
  have h := over_any s (List.replicate n zK) R r F w hs hR hF h1 h2 (by rw [List.length_replicate]; exact hl)
  rwa [List.length_replicate] at h
/-- what all answers of beside have in common -/
theorem be_sum {wx w' : World} {wb o i q : Nat} {ks : List K} {b : Bool} {r : Except Int (List P3 × List P3)} {e : Ending} {u : Value} (h : BePost wx wb o i ks b r e w') (hq : q ≠ wb) (hl : q < wx.heap.size) (hc : wx.cell? ⟨q, 0, none⟩ = some u) (hf : wx.frozen? ⟨q, 0, none⟩ = false) :
    ∃ k2 : Int, e = .returned (.int .i64 k2) ∧ w'.cell? ⟨q, 0, none⟩ = some u ∧ w'.frozen? ⟨q, 0, none⟩ = false ∧ q < w'.heap.size ∧ Hid (BePost wx wb o i ks b r (.returned (.int .i64 k2)) w') := by
  have hS : ∀ (r2 : Nat) (n : P3), BsPost wx wb (o + r2) n e w' → e = .returned (.int .i64 0) ∧ w'.cell? ⟨q, 0, none⟩ = some u ∧ w'.frozen? ⟨q, 0, none⟩ = false ∧ q < w'.heap.size := fun r2 n hB => by
    obtain ⟨he, w1, y, g, _, hb, rfl, _⟩ := hB
    have hh : (w1.setCell ⟨wb, o + r2, none⟩ (.slice (some ⟨g, 0, none⟩) 1 1)).heap[q]? = w1.heap[q]? := Below.heap_setCell _ _ _ _ (by simpa using hq)
    exact ⟨he, (World.cell?_of_block (a := ⟨q, 0, none⟩) hh).trans ((hb.cell (p := ⟨q, 0, none⟩) hl).trans hc), (World.frozen?_of_block (a := ⟨q, 0, none⟩) hh).trans ((hb.frozen (p := ⟨q, 0, none⟩) hl).trans hf), by simpa using Nat.lt_of_lt_of_le hl hb.size⟩
  rcases id h with ⟨k, _, _, he, hb⟩ | ⟨_, he, hb⟩ | ⟨n, _, _, _, hB⟩ | ⟨n, _, _, _, hB⟩
  · exact ⟨k, he, (hb.cell (p := ⟨q, 0, none⟩) hl).trans hc, (hb.frozen (p := ⟨q, 0, none⟩) hl).trans hf, Nat.lt_of_lt_of_le hl hb.size, vers.lay (he ▸ h)⟩
  · exact ⟨0, he, (hb.cell (p := ⟨q, 0, none⟩) hl).trans hc, (hb.frozen (p := ⟨q, 0, none⟩) hl).trans hf, Nat.lt_of_lt_of_le hl hb.size, vers.lay (he ▸ h)⟩
  · obtain ⟨he, h1, h2, h3⟩ := hS 5 n hB
    exact ⟨0, he, h1, h2, h3, vers.lay (he ▸ h)⟩
  · obtain ⟨he, h1, h2, h3⟩ := hS 4 n hB
    exact ⟨0, he, h1, h2, h3, vers.lay (he ▸ h)⟩
theorem NIx.found {w : World} {h g c : Nat} {way : List (N × Nat)} {y : N} {xs : List SJ} {W w1 w3 : World} (hs : NIx w h (.slice (some ⟨g, 0, none⟩) way.length c) way y xs W) (hb1 : Below W.heap.size W w1) (hb3 : Below w1.heap.size w1 w3) (i r gB : Nat) (y' : N) (X2 : SJ) (hi : i < xs.length) (hr : r < 6) (hgB : w1.heap.size ≤ gB)
    (hkB : Blk w3 gB 60 #[.bool y'.lf, .slice y'.A y'.es.length y'.c, .slice y'.Q y'.ks.length y'.m]) (hyB : NsF w3 (fun k => w1.heap.size ≤ k ∧ k < w3.heap.size) y') (hx : X2.w = xs[i].w) (hc : X2.st.cells = xs[i].st.cells.set r (.slice (some ⟨gB, 0, none⟩) 1 1))
    (hA : (X2.la = xs[i].la ∧ X2.Aa = xs[i].Aa ∧ X2.ca = xs[i].ca) ∨ (X2.la = [y'] ∧ X2.Aa = some ⟨gB, 0, none⟩ ∧ X2.ca = 1)) (hB : (X2.lb = xs[i].lb ∧ X2.Ab = xs[i].Ab ∧ X2.cb = xs[i].cb) ∨ (X2.lb = [y'] ∧ X2.Ab = some ⟨gB, 0, none⟩ ∧ X2.cb = 1)) :
    NIx w h (.slice (some ⟨g, 0, none⟩) way.length c) way y (xs.set i X2) (w3.setCell ⟨g, i * 6 + r, none⟩ (.slice (some ⟨gB, 0, none⟩) 1 1)) ∧ Keep (fun q => q = g ∨ q = w.heap.size + 1 + 1) W (w3.setCell ⟨g, i * 6 + r, none⟩ (.slice (some ⟨gB, 0, none⟩) 1 1)) := by
  have hb : Below W.heap.size W w3 := hb1.trans (hb3.mono hb1.size)
  have h3 := hs.below hb
  have hgl := (hs.2.2.2.2.2.2.1 g rfl).2
  have hzW := hs.2.2.2.2.2.2.2.2.2.2
  have hXF := h3.2.2.2.2.2.2.2.2.1 _ (List.getElem_mem hi)
  have K : ∀ {q}, q ≠ g → (w3.setCell ⟨g, i * 6 + r, none⟩ (.slice (some ⟨gB, 0, none⟩) 1 1)).heap[q]? = w3.heap[q]? := fun hq => Below.heap_setCell _ _ _ _ (by simpa using hq)
  have hz : (w3.setCell ⟨g, i * 6 + r, none⟩ (.slice (some ⟨gB, 0, none⟩) 1 1)).heap.size = w3.heap.size := by simp
  have z1 := hb1.size
  have hone := (LF.cells (lf_one (F := fun k => w1.heap.size ≤ k ∧ k < w3.heap.size) hkB hyB ⟨hgB, hkB.lt⟩))
  have hone' : LF (w3.setCell ⟨g, i * 6 + r, none⟩ (.slice (some ⟨gB, 0, none⟩) 1 1)) (fun q => (MF w (.slice (some ⟨g, 0, none⟩) way.length c) (w3.setCell ⟨g, i * 6 + r, none⟩ (.slice (some ⟨gB, 0, none⟩) 1 1)) q ∧ w.heap.size + 5 ≤ q) ∧ isC (w3.setCell ⟨g, i * 6 + r, none⟩ (.slice (some ⟨gB, 0, none⟩) 1 1)) q) [y'] (some ⟨gB, 0, none⟩) 1 :=
    (hone.agree fun q hq => K (by have := hq.1.1; omega)).mono' fun q hq => ⟨⟨⟨by rw [hz]; exact hq.1.2, (fun e => by have e' : g = q := Option.some.inj e; have := hq.1.1; omega), .inr (by have := hq.1.1; omega)⟩, by have := hq.1.1; omega⟩, hq.2.at (K (by have := hq.1.1; omega))⟩
  have hold : ∀ {l A c'}, LF w3 (fun q => (MF w (.slice (some ⟨g, 0, none⟩) way.length c) w3 q ∧ w.heap.size + 5 ≤ q) ∧ isC w3 q) l A c' → LF (w3.setCell ⟨g, i * 6 + r, none⟩ (.slice (some ⟨gB, 0, none⟩) 1 1)) (fun q => (MF w (.slice (some ⟨g, 0, none⟩) way.length c) (w3.setCell ⟨g, i * 6 + r, none⟩ (.slice (some ⟨gB, 0, none⟩) 1 1)) q ∧ w.heap.size + 5 ≤ q) ∧ isC (w3.setCell ⟨g, i * 6 + r, none⟩ (.slice (some ⟨gB, 0, none⟩) 1 1)) q) l A c' := fun hl =>
    (hl.agree fun q hq => K (by have := hq.1.2; omega)).mono' fun q hq => ⟨⟨⟨by rw [hz]; exact hq.1.1.1, hq.1.1.2⟩, hq.1.2⟩, hq.2.at (K (by have := hq.1.2; omega))⟩
  refine ⟨NIx.put rfl hs hb i r _ X2 hi hr hx hc ⟨?_, ?_⟩, ⟨hb.os, hb.tape, hb.output, by rw [hz]; exact hb.size, fun k hk hn => (K fun e => hn (.inl e)).trans (hb.block k hk)⟩⟩
  · rcases hA with ⟨e1, e2, e3⟩ | ⟨e1, e2, e3⟩ <;> rw [e1, e2, e3]
    · exact hold hXF.1
    · exact hone'
  · rcases hB with ⟨e1, e2, e3⟩ | ⟨e1, e2, e3⟩ <;> rw [e1, e2, e3]
    · exact hold hXF.2
    · exact hone'
theorem neighX_cut {ns : List P3} {way : List PS} {st : List AB × P3} {m k : Nat} {e : Int} (hk : k ≤ m) (h : neighX ns way st (desc m k) = .error e) : neighX ns way st (desc m m) = .error e := by
  have hd : desc m m = desc m k ++ (desc m m).drop k := by
    have ht : (desc m m).take k = desc m k := by
      unfold desc
      rw [← List.map_take, List.take_range, Nat.min_eq_left hk]
    rw [← ht, List.take_append_drop]
  rw [hd]
  unfold neighX at h ⊢
  rw [List.foldlM_append, h]
  rfl
theorem abOf_none (ab : AB) : abOf ab ([], []) = ab := rfl
theorem bes_no {ns : List P3} {s : PS} {d : Nat} {y : P3} (h : ¬ (partsP y < 2 ∧ 1 < s.1.2.2.length)) : bes ns s d y = .ok ([], []) := if_neg h
theorem bes_yes {ns : List P3} {s : PS} {d : Nat} {y : P3} (h : partsP y < 2 ∧ 1 < s.1.2.2.length) : bes ns s d y = besideP ns s.1.2.2 s.2 d y.1 := if_pos h
end Go.Proofs.Ytnndohdiiglgmaa.trees
