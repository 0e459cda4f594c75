/- slices.Backward over steps. -/
import Derived.Test.YtnndohdiiglgmaaKTrAc
import Derived.RangeFuncNested
import Derived.RangeFuncBound
import Derived.RangeFuncCalls
import Derived.RangeFuncLeaves
import Derived.Shelf.Abstract
import Derived.Shelf.RegionOpen
import Derived.WalkKit
import Derived.OwnWalkIn
import Derived.TacticsInMore
import Derived.LoopNIn
import Derived.LoopIn


namespace Go.Proofs.Ytnndohdiiglgmaa.trees
set_option linter.unusedVariables false
set_option linter.unusedSimpArgs false
open Go.RowKit Go.Shelf Go.Proofs.Ytnndohdiiglgmaa.base Go.Proofs.Ytnndohdiiglgmaa.vers Go.Proofs.Ytnndohdiiglgmaa.nodes Go.Proofs.Ytnndohdiiglgmaa.quotas
attribute [local go_sem] Oper.semAt_some

/-- a step -/
structure St where
  n : N
  at_ : Nat
  Aa : Option Addr
  na : Nat
  ca : Nat
  Ab : Option Addr
  nb : Nat
  cb : Nat
def St.cells (x : St) : List Value := [.bool x.n.lf, .slice x.n.A x.n.es.length x.n.c, .slice x.n.Q x.n.ks.length x.n.m, .int .i64 (x.at_ : Int), .slice x.Aa x.na x.ca, .slice x.Ab x.nb x.cb]
abbrev St.v (x : St) : Value := .agg #[.bool x.n.lf, .slice x.n.A x.n.es.length x.n.c, .slice x.n.Q x.n.ks.length x.n.m, .int .i64 (x.at_ : Int), .slice x.Aa x.na x.ca, .slice x.Ab x.nb x.cb]
def cellsS : List St → List Value
  | [] => []
  | x :: l => x.cells ++ cellsS l
theorem cellsS_len : ∀ l : List St, (cellsS l).length = 6 * l.length
  | [] => rfl
  | x :: l => by rw [cellsS, List.length_append, cellsS_len l]; simp [St.cells]; omega
theorem cellsS_at : ∀ (l : List St) {j : Nat} (hj : j < l.length) (r : Nat), r < 6 → (cellsS l)[j * 6 + r]? = l[j].cells[r]?
  | x :: l, 0, _, r, hr => by
    rw [cellsS, List.getElem?_append_left (by simp [St.cells]; omega)]
    simp
  | x :: l, j + 1, hj, r, hr => by
    have hl : x.cells.length = 6 := rfl
    rw [cellsS, List.getElem?_append_right (by rw [hl]; omega), hl, show (j + 1) * 6 + r - 6 = j * 6 + r by omega]
    exact cellsS_at l (by simpa using hj) r hr
def toSt (x : N × Nat) : St := ⟨x.1, x.2, none, 0, 0, none, 0, 0⟩
theorem cellsS_of : ∀ l : List (N × Nat), cellsS (l.map toSt) = cellsSt l
  | [] => rfl
  | x :: l => by rw [List.map_cons, cellsS, cellsSt, cellsS_of l]; rfl
def StF (w : World) (F : Nat → Prop) (l : List St) (A : Option Addr) (c : Nat) : Prop := l.length ≤ c ∧ l.length * 112 ≤ 140737488355328 ∧ (A = none → c = 0) ∧ RdF w F A (cellsS l)
theorem StF.agree {w w' : World} {F : Nat → Prop} {l : List St} {A : Option Addr} {c : Nat} (h : StF w F l A c) (hk : Agree w w' F) : StF w' F l A c := ⟨h.1, h.2.1, h.2.2.1, h.2.2.2.agree hk⟩
theorem StF.at_ {w : World} {F : Nat → Prop} {l : List St} {A : Option Addr} {c : Nat} (h : StF w F l A c) {j : Nat} (hj : j < l.length) : ∃ b off, A = some ⟨b, off, none⟩ ∧ F b ∧ w.cell? ⟨b, off + j * 6, none⟩ = some (.bool l[j].n.lf) ∧ w.cell? ⟨b, off + j * 6 + 1, none⟩ = some (.slice l[j].n.A l[j].n.es.length l[j].n.c) ∧
    w.cell? ⟨b, off + j * 6 + 2, none⟩ = some (.slice l[j].n.Q l[j].n.ks.length l[j].n.m) ∧ w.cell? ⟨b, off + j * 6 + 3, none⟩ = some (.int .i64 (l[j].at_ : Int)) ∧ w.cell? ⟨b, off + j * 6 + 4, none⟩ = some (.slice l[j].Aa l[j].na l[j].ca) ∧ w.cell? ⟨b, off + j * 6 + 5, none⟩ = some (.slice l[j].Ab l[j].nb l[j].cb) := by
  obtain ⟨b, off, e, hb, h0⟩ := h.2.2.2 _ _ (cellsS_at l hj 0 (by omega))
  have g : ∀ r v, r < 6 → l[j].cells[r]? = some v → w.cell? ⟨b, off + (j * 6 + r), none⟩ = some v := fun r v hr hv => by
    obtain ⟨b2, off2, e2, _, hc⟩ := h.2.2.2 _ _ ((cellsS_at l hj r hr).trans hv)
    rw [e] at e2
    cases e2
    exact hc
  exact ⟨b, off, e, hb, g 0 _ (by omega) rfl, g 1 _ (by omega) rfl, g 2 _ (by omega) rfl, g 3 _ (by omega) rfl, g 4 _ (by omega) rfl, g 5 _ (by omega) rfl⟩
theorem StF.of_steps {w : World} {F : Nat → Prop} {v : Value} {way : List (N × Nat)} (h : Steps w F v way) (hl : way.length * 112 ≤ 140737488355328) : ∃ A c, v = .slice A (way.map toSt).length c ∧ StF w F (way.map toSt) A c := by
  obtain ⟨A, c, e, hc, hn, hr⟩ := row_rdF h.1
  rw [← cellsS_of] at hr
  refine ⟨A, c, by rw [List.length_map]; exact e, by rw [List.length_map]; exact hc, by rw [List.length_map]; exact hl, hn, hr.mono h.2.1⟩

set_option maxRecDepth 100000 in
set_option maxHeartbeats 2000000 in
theorem back1S_in (F : Fence) (n : Nat) (hF : F.fn 107) (hro : F.round = none) (hn : 1 ≤ n) (l Bs : Nat) (G : Nat → Prop) {α : Type} (f : α → St) (ks : List α) (z : α) (A : Option Addr) (c : Nat) (J Jx : List (Nat × α) → World → Prop)
    (hY : ∀ pre x W, J pre W → pre.length < ks.length → YieldAt F (n - 1) Try.prog l #[.int .i64 (x.1 : Int), (f x.2).v] W fun e W' =>
      (e = .returned (.bool true) ∧ J (pre ++ [x]) W' ∧ Agree W W' G) ∨ (e = .returned (.bool false) ∧ Jx (pre ++ [x]) W'))
    (W : World) (hBs : W.cell? ⟨Bs, 0, none⟩ = some (.slice A ks.length c)) (hG : G Bs) (hK : StF W G (ks.map f) A c) (h0 : J [] W) :
    CallsIn F n Try.prog 107 #[.func (.yield l) #[] #[], .pointer (some ⟨Bs, 0, none⟩)] W fun e W' => (∃ v, e = .returned v) ∧
      ((∃ ys, ys = back ks z ks.length ∧ J ys W') ∨ (∃ pre, (∃ k, k ≤ ks.length ∧ pre = back ks z k) ∧ Jx pre W')) := by
  have hlen : ks.length ≤ 140737488355328 := by have := hK.2.1; rw [List.length_map] at this; omega
  have e0 : IntKind.i64.wrap ((ks.length : Int) - 1) = (ks.length : Int) - 1 := IntWalk.i64_in _ (by omega)
  refine callsIn_of_wp Try.func107 rfl hF ?_ hro
  simp only [Try.ntmps107, List.size_toArray, List.length_cons, List.length_nil, Nat.reduceAdd, Nat.reduceSub, Array.replicate_succ, Array.replicate_zero, List.push_toArray, List.append_toArray, List.nil_append, List.cons_append]
  gi_wp2
  gi_loopw [3] (fun i wr => ∃ k r : Nat, k + r = ks.length ∧ i = .int .i64 ((r : Int) - 1) ∧ J (back ks z k) wr ∧ Agree W wr G)
    (fun i _ => (intOf i + 1).toNat)
  case atStart => exact ⟨0, ks.length, by omega, rfl, h0, Agree.refl _ _⟩
  case round =>
    obtain ⟨k, r, hk, rfl, hJs, hag⟩ := hrel
    cases r with
    | zero =>
      gi_wp2
      go_end0
      have hk' : k = ks.length := by omega
      exact ⟨⟨_, rfl⟩, .inl ⟨_, rfl, hk' ▸ hJs⟩⟩
    | succ j =>
      have hj : (((j + 1 : Nat) : Int) - 1) = (j : Int) := by omega
      rw [hj]
      have hjl : j < ks.length := by omega
      have hf : (ks.length - 1 - k, ks[ks.length - 1 - k]?.getD z) = (j, ks[j]) := by
        have : ks.length - 1 - k = j := by omega
        rw [this, List.getElem?_eq_getElem hjl]; rfl
      have hKr := hK.agree hag
      have hb1 : wr.cell? ⟨Bs, 0, none⟩ = some (.slice A ks.length c) := (hag.cell (p := ⟨Bs, 0, none⟩) hG).trans hBs
      obtain ⟨bk, off, rfl, _, c0, c1, c2, c3, c4, c5⟩ := hKr.at_ (j := j) (by simpa using hjl)
      simp only [List.getElem_map] at c0 c1 c2 c3 c4 c5
      have k1 : (0 : Int) ≤ (j : Int) := by omega
      have k2 : (j : Int) < (ks.length : Int) := by omega
      have e1 : IntKind.i64.wrap ((j : Int) - 1) = (j : Int) - 1 := IntWalk.i64_in _ (by omega)
      obtain ⟨fn, tmps, assign, body, hy, hR⟩ := hY _ (j, ks[j]) wr hJs (by rw [back_length]; omega)
      dsimp only at hy
      have HK := vers.lay hk
      have HF := vers.lay hf
      clear hk hf hj
      gi_wp2
      refine hR.mono ?_
      rintro e W3 (⟨rfl, hJ3, hk3⟩ | ⟨rfl, hJx3⟩)
      · gi_wp2
        go_roundw
        case rel => exact ⟨k + 1, j, by have := HK.out; omega, rfl, by rw [back_succ, HF.out]; exact hJ3, hag.trans hk3⟩
        case measure => simp [intOf]
      · gi_wp2
        refine bodyPost_ret (results_none rfl _ _ _) rfl ?_
        exact ⟨⟨_, rfl⟩, .inr ⟨_, ⟨k + 1, by have := HK.out; omega, by rw [back_succ, HF.out]⟩, hJx3⟩⟩

set_option maxRecDepth 100000 in
set_option maxHeartbeats 2000000 in
theorem backS_in (F : Fence) (n : Nat) (hF : F.fn 85) (hro : F.round = none) (a : Option Addr) (len cap : Nat) (w : World) :
    CallsIn F n Try.prog 85 #[.slice a len cap] w fun e w' => e = .returned (.func (.func 107) #[] #[.pointer (some ⟨w.heap.size, 0, none⟩)]) ∧ w' = w.alloc (.cells #[.slice a len cap] 113) := by
  refine callsIn_of_wp Try.func85 rfl hF ?_ hro
  simp only [Try.ntmps85, List.size_toArray, List.length_cons, List.length_nil, Nat.reduceAdd, Nat.reduceSub, Array.replicate_succ, Array.replicate_zero, List.push_toArray, List.append_toArray, List.nil_append, List.cons_append]
  gi_wp2
  go_ret
  exact ⟨rfl, rfl⟩
theorem backS_stops (F : Fence) (n : Nat) (hF : F.fn 107) (hro : F.round = none) (hn : 1 ≤ n) (Bs : Nat) (G : Nat → Prop) {α : Type} (f : α → St) (ks : List α) (z : α) (A : Option Addr) (c : Nat) (w : World) (hG : G Bs) (hGl : ∀ g, G g → g < w.heap.size)
    (hc : w.cell? ⟨Bs, 0, none⟩ = some (.slice A ks.length c)) (hK : StF w G (ks.map f) A c) :
    SeqStopsK F n Try.prog 107 #[.pointer (some ⟨Bs, 0, none⟩)] (fun x : Nat × α => #[Value.int .i64 (x.1 : Int), (f x.2).v]) (fun X Y => Agree X Y G) (fun ys => ys = back ks z ks.length)
      (fun pre => ∃ k, k ≤ ks.length ∧ pre = back ks z k) ks.length w := fun l J Jx W hW _ _ hY h0 => by
  have hag : Agree w W G := Agree.of_below hW hGl
  exact back1S_in F n hF hro hn l Bs G f ks z A c J Jx hY W ((hag.cell (p := ⟨Bs, 0, none⟩) hG).trans hc) hG (hK.agree hag) h0

end Go.Proofs.Ytnndohdiiglgmaa.trees

/- climber.up: its pure side, and what holds between two rounds. -/

namespace Go.Proofs.Ytnndohdiiglgmaa.trees
set_option linter.unusedVariables false
set_option linter.unusedSimpArgs false
open Go.RowKit Go.Shelf Go.Proofs.Ytnndohdiiglgmaa.base Go.Proofs.Ytnndohdiiglgmaa.vers Go.Proofs.Ytnndohdiiglgmaa.nodes Go.Proofs.Ytnndohdiiglgmaa.quotas

/-! ### blocks of cells -/
def isC (w : World) (g : Nat) : Prop := ∃ cs t fr, w.heap[g]? = some (.cells cs t fr)
theorem isC_cell {w : World} {p : Addr} {v : Value} (h : w.cell? p = some v) : isC w p.block := by
  obtain ⟨o, ho, hc⟩ := cells_of_cell h
  cases o <;> simp [Obj.isCells] at hc
  exact ⟨_, _, _, ho⟩
theorem isC_blk {w : World} {g : Nat} {t : TypeId} {cs : Array Value} (h : Blk w g t cs) : isC w g := ⟨_, _, _, h⟩
section
variable {w w' : World} {F : Nat → Prop} {A : Option Addr} {xs : List Value} {c : Nat}
theorem RdF.cells (h : RdF w F A xs) : RdF w (fun g => F g ∧ isC w g) A xs := fun j u hj => by
  obtain ⟨b, off, e, hb, hc⟩ := h j u hj
  exact ⟨b, off, e, ⟨hb, isC_cell hc⟩, hc⟩
theorem VsF.cells {l : List V} (h : VsF w F l A c) : VsF w (fun g => F g ∧ isC w g) l A c := ⟨h.1, h.2.1, h.2.2.1, h.2.2.2.1.cells, h.2.2.2.2⟩
theorem EsF.cells {l : List E} (h : EsF w F l A c) : EsF w (fun g => F g ∧ isC w g) l A c := ⟨h.1, h.2.1, h.2.2.1, h.2.2.2.1.cells, fun x hx => ⟨(h.2.2.2.2 x hx).1.cells, (h.2.2.2.2 x hx).2⟩⟩
theorem KsF.cells {l : List K} (h : KsF w F l A c) : KsF w (fun g => F g ∧ isC w g) l A c := ⟨h.1, h.2.1, h.2.2.1, h.2.2.2.1.cells, h.2.2.2.2⟩
theorem NsF.cells {x : N} (h : NsF w F x) : NsF w (fun g => F g ∧ isC w g) x := ⟨h.1.cells, h.2.cells⟩
theorem Hp.cells {h : Nat} {S : Nat → Prop} {ns : List P3} (hh : Hp w h S ns) : Hp w h (fun g => S g ∧ isC w g) ns := by
  obtain ⟨v, l, h1, h2, h3, h4, h5, h6, h7, h8⟩ := hh
  refine ⟨v, l, h1, ⟨h2, isC_blk h4⟩, fun g hg => h3 g hg.1, h4, h5, fun g hg => ⟨⟨(h6 g hg).1, ?_⟩, (h6 g hg).2⟩, h7, fun x hx => (h8 x hx).cells.mono fun g hg => ⟨⟨hg.1.1, hg.2⟩, hg.1.2⟩⟩
  rcases h5.2 with ⟨rfl, _⟩ | ⟨g', cap, cur, rfl, _, hb, _⟩
  · cases hg
  · cases hg
    exact ⟨_, _, _, hb⟩
/-- blocks of cells are kept where a loop's own record turns -/
theorem grown_isC {row : Option Nat} (hg : w.grownBy w' row) (hr : ∀ r, row = some r → ∃ o : Obj, w.heap[r]? = some o ∧ o.isCells = false) {g : Nat} (h : isC w g) : w'.heap[g]? = w.heap[g]? := by
  obtain ⟨cs, t, fr, h⟩ := h
  refine hg.block g (Array.getElem?_eq_some_iff.1 h).1 fun e => ?_
  obtain ⟨o, ho, hc⟩ := hr g e.symm
  rw [h] at ho
  cases ho
  cases hc
theorem isC.at {g : Nat} (h : isC w g) (e : w'.heap[g]? = w.heap[g]?) : isC w' g := by
  obtain ⟨cs, t, fr, h⟩ := h
  exact ⟨cs, t, fr, e.trans h⟩
theorem keepsFrom_keep {S : Nat → Prop} (B : Nat) (h : Keep S w w') (hS : ∀ g, S g → isC w g) : KeepsFrom B w w' := ⟨h.size, fun k o _ hk ho => (h.block k (Array.getElem?_eq_some_iff.1 hk).1 (fun hs => by
  obtain ⟨cs, t, fr, h1⟩ := hS k hs
  rw [h1] at hk
  cases hk
  cases ho)).trans hk⟩
end

/-! ### the pure side -/
def lowP (x : P3) : ByteArray := if x.1 = true then (match x.2.1 with | y :: _ => y.1 | [] => ⟨#[]⟩) else (match x.2.2 with | y :: _ => y.s | [] => ⟨#[]⟩)
theorem lowP_of (x : N) : lowP x.p = lowOf x.lf x.es x.ks := by
  obtain ⟨lf, es, ks, A, c, Q, m⟩ := x
  unfold lowP lowOf N.p
  cases lf <;> cases es <;> cases ks <;> rfl
/-- the kids that nodes are, laid down from that number on -/
def laidP (i : Nat) (l : List P3) : List K := (l.zipIdx i).map fun p => kidP p.1 (lowP p.1) p.2
theorem laid_p (i : Nat) (l : List N) : laid i l = laidP i (l.map N.p) := by
  unfold laid laidP
  rw [List.zipIdx_map, List.map_map]
  refine List.map_congr_left fun p _ => ?_
  simp [lowP_of]
theorem laidP_len (i : Nat) (l : List P3) : (laidP i l).length = l.length := by simp [laidP]
/-- a step up: what a node was made to is laid down, and stands in the step's node -/
def stepP (made : P3 → St → List P3) (s : List P3 × P3) (x : St) : List P3 × P3 :=
  (s.1 ++ made s.2 x, (x.n.lf, x.n.es.map pe, overK x.n.ks x.at_ x.na x.nb (laidP s.1.length (made s.2 x))))
def upP (made : P3 → St → List P3) (s : List P3 × P3) (pre : List (Nat × St)) : List P3 × P3 := pre.foldl (fun s x => stepP made s x.2) s
theorem upP_snoc (made : P3 → St → List P3) (s : List P3 × P3) (pre : List (Nat × St)) (x : Nat × St) : upP made s (pre ++ [x]) = stepP made (upP made s pre) x.2 := by simp [upP, List.foldl_append]

/-- what holds between two rounds: the heap, the node that came of it, the boxes -/
def UpI (w : World) (h : Nat) (S : Nat → Prop) (fv : Value) (st : List P3 × P3) (W : World) : Prop :=
  ∃ (S' : Nat → Prop) (y : N), Hp W h S' st.1 ∧ y.p = st.2 ∧ (∀ g, S' g → (S g ∨ (w.heap.size + 6 ≤ g ∧ ∃ q, y.Q = some q ∧ g < q.block)) ∧ isC W g) ∧ Blk W (w.heap.size + 1) 60 #[.bool y.lf, .slice y.A y.es.length y.c, .slice y.Q y.ks.length y.m] ∧
    NsF W (fun g => (g < W.heap.size ∧ ¬ S' g ∧ (g < w.heap.size ∨ w.heap.size + 6 ≤ g)) ∧ isC W g) y ∧ Blk W w.heap.size 111 #[.iface 23 (.pointer (some ⟨h, 0, none⟩))] ∧
    Blk W (w.heap.size + 1 + 1) 121 #[fv] ∧ Blk W (w.heap.size + 1 + 1 + 1) 60 #[.bool false, .slice none 0 0, .slice none 0 0] ∧ Blk W (w.heap.size + 1 + 1 + 1 + 1) 28 #[.int .i64 0] ∧ Keep S w W ∧ w.heap.size + 6 ≤ W.heap.size ∧ ∀ a, y.Q = some a → a.block < W.heap.size
theorem UpI.own {w : World} {h : Nat} {S : Nat → Prop} {fv : Value} {α : Type} (f : List α → List P3 × P3) (B : Nat) (hB : w.heap.size ≤ B) : OwnFrom B (fun pre W => UpI w h S fv (f pre) W) := by
  intro pre X Y row hs hg hr
  have hr' : ∀ r, row = some r → ∃ o : Obj, X.heap[r]? = some o ∧ o.isCells = false := fun r e => (hr r e).2
  obtain ⟨S', y, h1, h2, h3, h4, h5, h6, h7, h8, h9, h10, h11, h12⟩ := hs
  have K : ∀ {g}, isC X g → Y.heap[g]? = X.heap[g]? := fun hc => grown_isC hg hr' hc
  have BK : ∀ {g : Nat} {t : TypeId} {cs : Array Value}, Blk X g t cs → Blk Y g t cs := fun hb => (K (isC_blk hb)).trans hb
  refine ⟨S', y, h1.agree (fun g hg => K (h3 g hg).2) hg.size, h2, fun g hg' => ⟨(h3 g hg').1, (h3 g hg').2.at (K (h3 g hg').2)⟩, BK h4, ?_, BK h6, BK h7, BK h8, BK h9, ?_, Nat.le_trans h11 hg.size, fun a e => Nat.lt_of_lt_of_le (h12 a e) hg.size⟩
  · refine (h5.agree fun g hg => K hg.2).mono fun g hg' => ⟨⟨Nat.lt_of_lt_of_le hg'.1.1 hg.size, hg'.1.2⟩, hg'.2.at (K hg'.2)⟩
  · refine ⟨hg.os.trans h10.os, hg.tape.trans h10.tape, hg.output.trans h10.output, Nat.le_trans h10.size hg.size, fun k hk hn => (hg.block k (by have := h10.size; omega) fun e => ?_).trans (h10.block k hk hn)⟩
    have := (hr k e.symm).1
    omega

def madePut (y : P3) (_ : St) : List P3 := splitP y
theorem low_fits {w : World} {F : Nat → Prop} {x : N} (h : NsF w F x) : (lowOf x.lf x.es x.ks).size ≤ maxLen := by
  obtain ⟨lf, es, ks, A, c, Q, m⟩ := x
  have z : (⟨#[]⟩ : ByteArray).size ≤ maxLen := by simp [maxLen, ByteArray.size]
  unfold lowOf
  cases lf with
  | true =>
    cases es with
    | nil => exact z
    | cons y l => exact (h.1.2.2.2.2 y List.mem_cons_self).2
  | false =>
    cases ks with
    | nil => exact z
    | cons y l => exact (h.2.2.2.2.2 y List.mem_cons_self).1
theorem laid_fits {w : World} {F : Nat → Prop} {l : List N} {i : Nat} (h : ∀ x ∈ l, NsF w F x) (hi : i + l.length ≤ 900000) : ∀ k ∈ laid i l, k.fits := by
  intro k hk
  unfold laid at hk
  obtain ⟨⟨x, j⟩, hx, rfl⟩ := List.mem_map.1 hk
  have h1 := List.mem_zipIdx hx
  have h2 : x ∈ l := by rw [h1.2.2]; exact List.getElem_mem _
  refine ⟨low_fits (h x h2), ?_⟩
  have : (refOf j).fits := by
    unfold R.fits i64
    simp only [refOf]
    omega
  exact this
theorem splitP_len (x : P3) : (splitP x).length ≤ 2 := by
  unfold splitP halvesP
  split
  · simp
  · dsimp only
    split <;> simp
theorem splitP_pos (x : P3) : 0 < (splitP x).length := by
  unfold splitP halvesP
  split
  · simp
  · dsimp only
    split <;> simp
theorem upP_len {ns : List P3} {x : P3} : ∀ pre : List (Nat × St), (upP madePut (ns, x) pre).1.length ≤ ns.length + 2 * pre.length := by
  suffices h : ∀ (pre : List (Nat × St)) (s : List P3 × P3), (upP madePut s pre).1.length ≤ s.1.length + 2 * pre.length from fun pre => h pre (ns, x)
  intro pre
  induction pre with
  | nil => intro s; exact Nat.le_refl _
  | cons a l ih =>
    intro s
    have h1 := ih (stepP madePut s a.2)
    have h2 : (stepP madePut s a.2).1.length ≤ s.1.length + 2 := by
      simp only [stepP, List.length_append, madePut]
      have := splitP_len s.2
      omega
    simp only [List.length_cons]
    have h3 : upP madePut s (a :: l) = upP madePut (stepP madePut s a.2) l := rfl
    rw [h3]
    omega
/-- one round -/
theorem up_next {w W w2 w3 w4 : World} {h B : Nat} {S S' : Nat → Prop} {F : Nat → Prop} {fv : Value} {st : List P3 × P3} {y : N} {s : St} {l : List N} {v : Value} {A4 : Option Addr} {c4 : Nat}
    (hSl : ∀ g, S g → g < w.heap.size) (h1 : Hp W h S' st.1) (h2 : y.p = st.2) (h30 : ∀ g, S' g → (S g ∨ (w.heap.size + 6 ≤ g ∧ ∃ q, y.Q = some q ∧ g < q.block)) ∧ isC W g) (h4 : Blk W (w.heap.size + 1) 60 #[.bool y.lf, .slice y.A y.es.length y.c, .slice y.Q y.ks.length y.m])
    (h6 : Blk W w.heap.size 111 #[.iface 23 (.pointer (some ⟨h, 0, none⟩))]) (h7 : Blk W (w.heap.size + 1 + 1) 121 #[fv]) (h8 : Blk W (w.heap.size + 1 + 1 + 1) 60 #[.bool false, .slice none 0 0, .slice none 0 0]) (h9 : Blk W (w.heap.size + 1 + 1 + 1 + 1) 28 #[.int .i64 0]) (h10 : Keep S w W) (h11 : w.heap.size + 6 ≤ W.heap.size)
    (hs : NsF w F s.n) (hF : ∀ g, F g → g < w.heap.size ∧ ¬ S g) (b2 : Below W.heap.size W w2) (hl : l.map N.p = splitP y.p)
    (hL : LP w2 h S' st.1 l l.length v w3) (ho4 : w4.ownsRow w3.heap.size 66 5 (.slice A4 (overK s.n.ks s.at_ 0 0 (laid st.1.length l)).length c4) (overK s.n.ks s.at_ 0 0 (laid st.1.length l)).length (cellsK (overK s.n.ks s.at_ 0 0 (laid st.1.length l)))) (b4 : Below w3.heap.size w3 w4)
    (hk : ∀ k ∈ laid st.1.length l, k.fits) (hks : s.n.ks.length ≤ 1000) (hll : l.length ≤ 2) (hna : s.na = 0) (hnb : s.nb = 0) (hB : w.heap.size + 1 < B) :
    UpI w h S fv (stepP madePut st s) (set3 w4 (w.heap.size + 1) (.bool s.n.lf) (.slice s.n.A s.n.es.length s.n.c) (.slice A4 (overK s.n.ks s.at_ 0 0 (laid st.1.length l)).length c4)) ∧
      KeepsFrom B W (set3 w4 (w.heap.size + 1) (.bool s.n.lf) (.slice s.n.A s.n.es.length s.n.c) (.slice A4 (overK s.n.ks s.at_ 0 0 (laid st.1.length l)).length c4)) ∧
      (∀ G : Nat → Prop, (∀ g, G g → g < W.heap.size ∧ ¬ S' g ∧ g ≠ w.heap.size + 1) → Agree W (set3 w4 (w.heap.size + 1) (.bool s.n.lf) (.slice s.n.A s.n.es.length s.n.c) (.slice A4 (overK s.n.ks s.at_ 0 0 (laid st.1.length l)).length c4)) G) := by
  obtain ⟨K3, _, _, S2, hH3, hS2, _⟩ := hL
  have h3 : ∀ g, S' g → (S g ∨ w.heap.size + 6 ≤ g) ∧ isC W g := fun g hg => ⟨(h30 g hg).1.imp id (fun h => h.1), (h30 g hg).2⟩
  have hpos : 0 < (overK s.n.ks s.at_ 0 0 (laid st.1.length l)).length := by
    have : 0 < l.length := by
      have h0 := congrArg List.length hl
      rw [List.length_map] at h0
      have := splitP_pos y.p
      omega
    unfold overK
    simp only [List.length_append, laid_len]
    omega
  obtain ⟨g4, cap4, e4, _, _, _⟩ := own_slice_form ho4 hpos
  injection e4 with e4 _ _
  have hg4 : w3.heap.size ≤ g4 := (ho4.lt g4 (by rw [e4]; rfl)).1
  have z2 := b2.size
  have z3 := K3.size
  have z4 := b4.size
  have zz := set3_size w4 (w.heap.size + 1) (.bool s.n.lf) (.slice s.n.A s.n.es.length s.n.c) (.slice A4 (overK s.n.ks s.at_ 0 0 (laid st.1.length l)).length c4)
  have ho9 := set3_below (Below.refl 0 w4) (g := w.heap.size + 1) (Nat.zero_le _) (.bool s.n.lf) (.slice s.n.A s.n.es.length s.n.c) (.slice A4 (overK s.n.ks s.at_ 0 0 (laid st.1.length l)).length c4)
  have hx := set3_heap w4 (w.heap.size + 1) (.bool s.n.lf) (.slice s.n.A s.n.es.length s.n.c) (.slice A4 (overK s.n.ks s.at_ 0 0 (laid st.1.length l)).length c4)
  have kx := fun {t} {a b c} (hb : Blk w4 (w.heap.size + 1) t #[a, b, c]) => set3_blk hb (.bool s.n.lf) (.slice s.n.A s.n.es.length s.n.c) (.slice A4 (overK s.n.ks s.at_ 0 0 (laid st.1.length l)).length c4)
  generalize set3 w4 (w.heap.size + 1) (.bool s.n.lf) (.slice s.n.A s.n.es.length s.n.c) (.slice A4 (overK s.n.ks s.at_ 0 0 (laid st.1.length l)).length c4) = W9 at zz hx kx ho9 ⊢
  -- what is kept from W on
  have hk4 : ∀ g, g < W.heap.size → ¬ S' g → w4.heap[g]? = W.heap[g]? := fun g hg hn => (b4.block g (by omega)).trans ((K3.block g (by omega) hn).trans (b2.block g hg))
  have hk9 : ∀ g, g < W.heap.size → ¬ S' g → g ≠ w.heap.size + 1 → W9.heap[g]? = W.heap[g]? := fun g hg hn hne => (hx g hne).trans (hk4 g hg hn)
  have hns : ∀ g, w.heap.size ≤ g → g < w.heap.size + 6 → ¬ S' g := fun g g1 g2 hg => by
    rcases (h3 g hg).1 with h | h
    · have := hSl g h; omega
    · omega
  have BK : ∀ {g : Nat} {t : TypeId} {cs : Array Value}, Blk W g t cs → w.heap.size ≤ g → g < w.heap.size + 6 → g ≠ w.heap.size + 1 → Blk W9 g t cs := fun hb g1 g2 g3 => (hk9 _ hb.lt (hns _ g1 g2) g3).trans hb
  have hS3 : ∀ g, S2 g → g < w3.heap.size := hH3.lt
  have hS2' : ∀ g, S2 g → (S g ∨ w.heap.size + 6 ≤ g) := fun g hg => by
    rcases hS2 g hg with h | h
    · exact (h3 g h).1
    · exact .inr (by omega)
  have hne2 : ∀ g, S2 g → g ≠ w.heap.size + 1 := fun g hg e => by
    rcases hS2' g hg with h | h
    · have := hSl g h; omega
    · omega
  have e39 : ∀ g, S2 g → W9.heap[g]? = w3.heap[g]? := fun g hg => (hx g (hne2 g hg)).trans (b4.block g (hS3 g hg))
  have KW : Keep S w W9 := by
    have b9 : W9.heap.size = w4.heap.size := zz
    refine ⟨?_, ?_, ?_, by have := h10.size; omega, fun k hk hn => ?_⟩
    · exact ho9.os.trans (b4.os.trans (K3.os.trans (b2.os.trans h10.os)))
    · exact ho9.tape.trans (b4.tape.trans (K3.tape.trans (b2.tape.trans h10.tape)))
    · exact ho9.output.trans (b4.output.trans (K3.output.trans (b2.output.trans h10.output)))
    · have h0 : ¬ S' k := fun hs => by
        rcases (h3 k hs).1 with h | h
        · exact hn h
        · omega
      exact (hk9 k (by have := h10.size; omega) h0 (by omega)).trans (h10.block k hk hn)
  have hFW : ∀ g, F g → W9.heap[g]? = w.heap[g]? := fun g hg => KW.block g (hF g hg).1 (hF g hg).2
  refine ⟨⟨fun g => S2 g ∧ isC w3 g, ⟨s.n.lf, s.n.es, overK s.n.ks s.at_ 0 0 (laid st.1.length l), s.n.A, s.n.c, A4, c4⟩, ?_, ?_, ?_, ?_, ?_, BK h6 (by omega) (by omega) (by omega), BK h7 (by omega) (by omega) (by omega), BK h8 (by omega) (by omega) (by omega), BK h9 (by omega) (by omega) (by omega), KW, by omega, fun a e => by have e : A4 = some a := e; rw [e4] at e; cases e; have := (ho4.lt g4 (by rw [e4]; rfl)).2; show g4 < _; omega⟩, ?_, ?_⟩
  · have := (hH3.cells).agree (w' := W9) (fun g hg => e39 g hg.1) (by omega)
    rw [List.take_length, hl, h2] at this
    exact this
  · simp only [stepP, madePut, hna, hnb, ← h2, ← hl, laid_p]
    rfl
  · exact fun g hg => ⟨(hS2' g hg.1).imp id (fun h => ⟨h, _, e4, by have := hS3 g hg.1; show g < g4; omega⟩), hg.2.at (e39 g hg.1)⟩
  · exact kx ((hk4 _ h4.lt (hns _ (by omega) (by omega))).trans h4)
  · refine ⟨(((hs.1.agree hFW).cells).mono fun g hg => ⟨⟨?_, ?_, ?_⟩, hg.2⟩), ?_⟩
    · have := (hF g hg.1).1; have := h10.size; omega
    · intro h0
      rcases hS2' g h0.1 with h | h
      · exact (hF g hg.1).2 h
      · have := (hF g hg.1).1; omega
    · have := (hF g hg.1).1; omega
    · have hv4 : ∀ g, (Value.slice A4 (overK s.n.ks s.at_ 0 0 (laid st.1.length l)).length c4).ownBlock = some g → w3.heap.size ≤ g ∧ g < w4.heap.size := fun g hg => ho4.lt g hg
      have hof : ∀ x ∈ overK s.n.ks s.at_ 0 0 (laid st.1.length l), x.fits := fun x hx => by
        unfold overK at hx
        rcases List.mem_append.1 hx with h | h
        · rcases List.mem_append.1 h with h | h
          · exact hs.2.2.2.2.2 x (List.mem_of_mem_take h)
          · exact hk x h
        · exact hs.2.2.2.2.2 x (List.mem_of_mem_drop h)
      have hol : (overK s.n.ks s.at_ 0 0 (laid st.1.length l)).length * 48 ≤ 140737488355328 := by
        have : (overK s.n.ks s.at_ 0 0 (laid st.1.length l)).length ≤ 2 * s.n.ks.length + 2 := by
          unfold overK
          simp only [List.length_append, List.length_take, List.length_drop, laid_len]
          omega
        omega
      have ho9 := ownsRow_agree (w' := W9) ho4 (fun g hg => hx g (by have := hv4 g hg; omega))
      obtain ⟨A5, c5, e5, hK5⟩ := own_ks (F := fun g => w3.heap.size ≤ g ∧ g < w4.heap.size) ho9 rfl hol hv4 hof
      injection e5 with e5 _ e6
      subst e5 e6
      exact (hK5.cells).mono fun g hg => ⟨⟨by omega, fun h0 => by have := hS3 g h0.1; omega, by omega⟩, hg.2⟩
  · refine ⟨by omega, fun k o hB' hk ho => ?_⟩
    have hlt : k < W.heap.size := (Array.getElem?_eq_some_iff.1 hk).1
    refine (hk9 k hlt (fun hs => ?_) (by omega)).trans hk
    obtain ⟨cs, t, fr, h0⟩ := (h3 k hs).2
    rw [h0] at hk
    cases hk
    cases ho
  · exact fun G hG g hg => hk9 g (hG g hg).1 (hG g hg).2.1 (hG g hg).2.2

/-- what up leaves: the heap behind it, the node that came of it -/
def UpPost (w : World) (h : Nat) (S : Nat → Prop) (st : List P3 × P3) (e : Ending) (w' : World) : Prop :=
  ∃ (S' : Nat → Prop) (y : N), e = .returned (.tuple #[y.val, .int .i64 0]) ∧ y.p = st.2 ∧ Hp w' h S' st.1 ∧ (∀ g, S' g → S g ∨ w.heap.size ≤ g) ∧ NsF w' (fun g => g < w'.heap.size ∧ ¬ S' g) y ∧ Keep S w w'
theorem up_done {w W : World} {h : Nat} {S : Nat → Prop} {fv : Value} {st : List P3 × P3} (hSl : ∀ g, S g → g < w.heap.size) (hI : UpI w h S fv st W) :
    ∃ y : N, Blk W (w.heap.size + 1) 60 #[.bool y.lf, .slice y.A y.es.length y.c, .slice y.Q y.ks.length y.m] ∧ Blk W (w.heap.size + 1 + 1 + 1) 60 #[.bool false, .slice none 0 0, .slice none 0 0] ∧ Blk W (w.heap.size + 1 + 1 + 1 + 1) 28 #[.int .i64 0] ∧ ∀ (W9 : World) (D : Nat) (o : Obj), w.heap.size + 6 ≤ D → W.heap[D]? = some o → o.isCells = false →
      (∀ g, g ≠ w.heap.size + 1 + 1 + 1 → g ≠ w.heap.size + 1 + 1 + 1 + 1 → g ≠ D → W9.heap[g]? = W.heap[g]?) → W9.heap.size = W.heap.size → W9.os = W.os → W9.tape = W.tape → W9.output = W.output → UpPost w h S st (.returned (.tuple #[y.val, .int .i64 0])) W9 := by
  obtain ⟨S', y, h1, h2, h3, h4, h5, h6, h7, h8, h9', h10, h11, h12⟩ := hI
  refine ⟨y, h4, h8, h9', fun W9 D o hD hK ho h9 hz hos ht hu => ?_⟩
  have hDn : ∀ g, isC W g → g ≠ D := fun g hc e => by
    subst e
    obtain ⟨cs, t, fr, hc⟩ := hc
    rw [hc] at hK
    cases hK
    cases ho
  have hSn : ∀ g, S' g → g ≠ w.heap.size + 1 + 1 + 1 ∧ g ≠ w.heap.size + 1 + 1 + 1 + 1 := fun g hg => by
    rcases (h3 g hg).1 with h | ⟨h, _⟩
    · have := hSl g h; omega
    · omega
  refine ⟨S', y, rfl, h2, h1.agree (fun g hg => h9 g (hSn g hg).1 (hSn g hg).2 (hDn g (h3 g hg).2)) (by omega), fun g hg => ?_, ?_, ⟨hos.trans h10.os, ht.trans h10.tape, hu.trans h10.output, by rw [hz]; exact h10.size, fun k hk hn => ?_⟩⟩
  · rcases (h3 g hg).1 with h | ⟨h, _⟩
    · exact .inl h
    · exact .inr (by omega)
  · exact (h5.agree fun g hg => h9 g (by omega) (by omega) (hDn g hg.2)).mono fun g hg => ⟨by rw [hz]; exact hg.1.1, hg.1.2.1⟩
  · exact (h9 k (by omega) (by omega) (by omega)).trans (h10.block k hk hn)
end Go.Proofs.Ytnndohdiiglgmaa.trees
