/- Memory by blocks: what is read within a set of blocks; rows of a call's own; what is kept but for a set of blocks; nodes in a list; a heap of pages. -/
import Derived.Test.YtoenkkbcpafanaaNdE
import Derived.Laws.OwnMore


namespace Go.Proofs.Ytoenkkbcpafanaa.trees
set_option linter.unusedVariables false
set_option linter.unusedSimpArgs false
open Go.RowKit Go.Proofs.Ytoenkkbcpafanaa.base Go.Proofs.Ytoenkkbcpafanaa.vers Go.Proofs.Ytoenkkbcpafanaa.nodes

def Agree (w w' : World) (F : Nat → Prop) : Prop := ∀ g, F g → w'.heap[g]? = w.heap[g]?
section
variable {w w' w2 : World} {F G S : Nat → Prop} {A Q : Option Addr} {xs : List Value} {B : Nat}
theorem Agree.cell (h : Agree w w' F) {p : Addr} (hp : F p.block) : w'.cell? p = w.cell? p := World.cell?_of_block (h _ hp)
theorem Agree.trans (h : Agree w w' F) (k : Agree w' w2 F) : Agree w w2 F := fun g hg => (k g hg).trans (h g hg)
theorem Agree.mono (h : Agree w w' F) (hG : ∀ g, G g → F g) : Agree w w' G := fun g hg => h g (hG g hg)
theorem Agree.of_below (hb : Below B w w') (hF : ∀ g, F g → g < B) : Agree w w' F := fun g hg => hb.block g (hF g hg)
theorem Agree.refl (w : World) (F : Nat → Prop) : Agree w w F := fun _ _ => rfl

/-- a list's cells, within the blocks F -/
def RdF (w : World) (F : Nat → Prop) (A : Option Addr) (xs : List Value) : Prop :=
  ∀ j u, xs[j]? = some u → ∃ b off, A = some ⟨b, off, none⟩ ∧ F b ∧ w.cell? ⟨b, off + j, none⟩ = some u
theorem RdF.nil (w : World) (F : Nat → Prop) (A : Option Addr) : RdF w F A [] := fun j u h => by simp at h
theorem RdF.agree (h : RdF w F A xs) (hk : Agree w w' F) : RdF w' F A xs := fun j u hj => by
  obtain ⟨b, off, e, hb, hc⟩ := h j u hj
  exact ⟨b, off, e, hb, (hk.cell (p := ⟨b, off + j, none⟩) hb).trans hc⟩
theorem RdF.mono (h : RdF w F A xs) (hG : ∀ g, F g → G g) : RdF w G A xs := fun j u hj => by
  obtain ⟨b, off, e, hb, hc⟩ := h j u hj
  exact ⟨b, off, e, hG b hb, hc⟩
theorem RdF.rd (h : RdF w F A xs) : Rd w w.heap.size A xs := fun j u hj => by
  obtain ⟨b, off, e, hb, hc⟩ := h j u hj
  exact ⟨b, off, e, World.block_lt_of_cell? w _ hc, hc⟩
theorem RdF.of_rd (h : Rd w B A xs) : RdF w (fun g => g < B) A xs := h

def VsF (w : World) (F : Nat → Prop) (l : List V) (A : Option Addr) (c : Nat) : Prop := l.length ≤ c ∧ l.length * 40 ≤ 140737488355328 ∧ (A = none → c = 0) ∧ RdF w F A (cellsV l) ∧ ∀ x ∈ l, x.fits
def EsF (w : World) (F : Nat → Prop) (l : List E) (A : Option Addr) (c : Nat) : Prop := l.length ≤ c ∧ l.length * 40 ≤ 140737488355328 ∧ (A = none → c = 0) ∧ RdF w F A (cellsE l) ∧ ∀ x ∈ l, VsF w F x.l x.A x.c ∧ x.s.size ≤ maxLen
def KsF (w : World) (F : Nat → Prop) (l : List K) (A : Option Addr) (c : Nat) : Prop := l.length ≤ c ∧ l.length * 48 ≤ 140737488355328 ∧ (A = none → c = 0) ∧ RdF w F A (cellsK l) ∧ ∀ x ∈ l, x.fits
variable {lv : List V} {le : List E} {lk : List K} {c m : Nat}
theorem VsF.agree (h : VsF w F lv A c) (hk : Agree w w' F) : VsF w' F lv A c := ⟨h.1, h.2.1, h.2.2.1, h.2.2.2.1.agree hk, h.2.2.2.2⟩
theorem VsF.mono (h : VsF w F lv A c) (hG : ∀ g, F g → G g) : VsF w G lv A c := ⟨h.1, h.2.1, h.2.2.1, h.2.2.2.1.mono hG, h.2.2.2.2⟩
theorem VsF.vs (h : VsF w F lv A c) : Vs w w.heap.size lv A c := ⟨h.1, h.2.1, h.2.2.1, h.2.2.2.1.rd, h.2.2.2.2⟩
theorem EsF.agree (h : EsF w F le A c) (hk : Agree w w' F) : EsF w' F le A c := ⟨h.1, h.2.1, h.2.2.1, h.2.2.2.1.agree hk, fun x hx => ⟨(h.2.2.2.2 x hx).1.agree hk, (h.2.2.2.2 x hx).2⟩⟩
theorem EsF.mono (h : EsF w F le A c) (hG : ∀ g, F g → G g) : EsF w G le A c := ⟨h.1, h.2.1, h.2.2.1, h.2.2.2.1.mono hG, fun x hx => ⟨(h.2.2.2.2 x hx).1.mono hG, (h.2.2.2.2 x hx).2⟩⟩
theorem EsF.es (h : EsF w F le A c) : Es w w.heap.size le A c := ⟨h.1, h.2.1, h.2.2.1, h.2.2.2.1.rd, fun x hx => ⟨(h.2.2.2.2 x hx).1.vs, (h.2.2.2.2 x hx).2⟩⟩
theorem EsF.of (h : Es w B le A c) : EsF w (fun g => g < B) le A c := h
theorem KsF.agree (h : KsF w F lk A c) (hk : Agree w w' F) : KsF w' F lk A c := ⟨h.1, h.2.1, h.2.2.1, h.2.2.2.1.agree hk, h.2.2.2.2⟩
theorem KsF.mono (h : KsF w F lk A c) (hG : ∀ g, F g → G g) : KsF w G lk A c := ⟨h.1, h.2.1, h.2.2.1, h.2.2.2.1.mono hG, h.2.2.2.2⟩
theorem KsF.ks (h : KsF w F lk A c) : Ks w w.heap.size lk A c := ⟨h.1, h.2.1, h.2.2.1, h.2.2.2.1.rd, h.2.2.2.2⟩
theorem KsF.of (h : Ks w B lk A c) : KsF w (fun g => g < B) lk A c := h
theorem EsF.nil (w : World) (F : Nat → Prop) : EsF w F [] none 0 := ⟨Nat.le_refl _, by simp, fun _ => rfl, RdF.nil _ _ _, fun x h => by cases h⟩
theorem KsF.nil (w : World) (F : Nat → Prop) : KsF w F [] none 0 := ⟨Nat.le_refl _, by simp, fun _ => rfl, RdF.nil _ _ _, fun x h => by cases h⟩

/-- a row of the call's own, as cells within its block -/
theorem row_rdF {e : TypeId} {k n lo : Nat} {v : Value} (h : w.ownsRow lo e k v n xs) : ∃ A c, v = .slice A n c ∧ n ≤ c ∧ (A = none → c = 0) ∧ RdF w (fun g => v.ownBlock = some g) A xs := by
  obtain ⟨hx, h1⟩ := h
  rcases h1 with ⟨rfl, hn⟩ | ⟨g, cap, cur, rfl, hg, hb, hc, _, hs, ht⟩
  · subst hn
    obtain rfl := List.eq_nil_of_length_eq_zero (show xs.length = 0 by omega)
    exact ⟨none, 0, rfl, Nat.le_refl _, fun _ => rfl, RdF.nil _ _ _⟩
  · refine ⟨_, cap, rfl, hc, (fun e => by cases e), fun j u hj => ⟨g, 0, rfl, rfl, ?_⟩⟩
    rw [Nat.zero_add, Blk.cell (t := e) (cs := cur) hb]
    rw [← ht, List.getElem?_take] at hj
    split at hj
    · simpa using hj
    · cases hj
theorem ownsRow_agree {e : TypeId} {k n lo : Nat} {v : Value} (h : w.ownsRow lo e k v n xs) (hk : ∀ g, v.ownBlock = some g → w'.heap[g]? = w.heap[g]?) : w'.ownsRow lo e k v n xs := by
  obtain ⟨hx, h1⟩ := h
  refine ⟨hx, ?_⟩
  rcases h1 with h1 | ⟨g, cap, cur, rfl, hg, hb, hr⟩
  · exact .inl h1
  · exact .inr ⟨g, cap, cur, rfl, hg, (hk g rfl).trans hb, hr⟩
theorem ownsRow_base {e : TypeId} {k n lo lo' : Nat} {v : Value} (h : w.ownsRow lo e k v n xs) (hk : ∀ g, v.ownBlock = some g → lo' ≤ g) : w.ownsRow lo' e k v n xs := by
  obtain ⟨hx, h1⟩ := h
  refine ⟨hx, ?_⟩
  rcases h1 with h1 | ⟨g, cap, cur, rfl, hg, hb, hr⟩
  · exact .inl h1
  · exact .inr ⟨g, cap, cur, rfl, hk g rfl, hb, hr⟩

theorem row_below {e : TypeId} {k n lo : Nat} {v : Value} (h : w.ownsRow lo e k v n xs) (hb : Below w.heap.size w w') : w'.ownsRow lo e k v n xs := ownsRow_agree h fun g hg => hb.block g (h.lt g hg).2

/-- but for the blocks S all that was there is as it was -/
structure Keep (S : Nat → Prop) (w w' : World) : Prop where
  os : w'.os = w.os
  tape : w'.tape = w.tape
  output : w'.output = w.output
  size : w.heap.size ≤ w'.heap.size
  block : ∀ k, k < w.heap.size → ¬ S k → w'.heap[k]? = w.heap[k]?
theorem Keep.refl (S : Nat → Prop) (w : World) : Keep S w w := ⟨rfl, rfl, rfl, Nat.le_refl _, fun _ _ _ => rfl⟩
theorem Keep.of_below (hb : Below w.heap.size w w') : Keep S w w' := ⟨hb.os, hb.tape, hb.output, hb.size, fun k hk _ => hb.block k hk⟩
theorem Keep.trans {S1 : Nat → Prop} (h : Keep S w w') (k : Keep S1 w' w2) (hS : ∀ g, S1 g → g < w.heap.size → S g) : Keep S w w2 :=
  ⟨k.os.trans h.os, k.tape.trans h.tape, k.output.trans h.output, Nat.le_trans h.size k.size, fun g hg hn => (k.block g (Nat.lt_of_lt_of_le hg h.size) (fun h1 => hn (hS g h1 hg))).trans (h.block g hg hn)⟩
theorem Keep.seq (h : Keep S w w') (hb : Below w'.heap.size w' w2) : Keep S w w2 := h.trans (S1 := S) (Keep.of_below hb) (fun _ h _ => h)
theorem Keep.below (h : Keep S w w') (hS : ∀ g, S g → B ≤ g) (hB : B ≤ w.heap.size) : Below B w w' := ⟨h.os, h.tape, h.output, h.size, fun k hk => h.block k (by omega) (fun hs => by have := hS k hs; omega)⟩
theorem Keep.agree (h : Keep S w w') (hF : ∀ g, F g → g < w.heap.size ∧ ¬ S g) : Agree w w' F := fun g hg => h.block g (hF g hg).1 (hF g hg).2
theorem Keep.mono (h : Keep S w w') (hS : ∀ g, S g → g < w.heap.size → G g) : Keep G w w' := ⟨h.os, h.tape, h.output, h.size, fun k hk hn => h.block k hk (fun hs => hn (hS k hs hk))⟩
theorem Keep.cell (h : Keep S w w') {p : Addr} (hp : p.block < w.heap.size) (hn : ¬ S p.block) : w'.cell? p = w.cell? p := World.cell?_of_block (h.block _ hp hn)
theorem Keep.blk (h : Keep S w w') {g : Nat} {t : TypeId} {cs : Array Value} (hb : Blk w g t cs) (hn : ¬ S g) : Blk w' g t cs := (h.block g hb.lt hn).trans hb

/-! ### secrets and kids of a call's own -/
/-- versions in a row of their own, in a block of F -/
def OwnVF (w : World) (F : Nat → Prop) (x : E) : Prop := w.ownsRow 0 180 3 (.slice x.A x.l.length x.c) x.l.length (cellsV x.l) ∧ x.l.length * 40 ≤ 140737488355328 ∧ (∀ y ∈ x.l, y.fits) ∧ ∀ g, (Value.slice x.A x.l.length x.c).ownBlock = some g → F g
theorem OwnVF.agree {x : E} (h : OwnVF w F x) (hk : Agree w w' F) : OwnVF w' F x := ⟨ownsRow_agree h.1 (fun g hg => hk g (h.2.2.2 g hg)), h.2⟩
theorem OwnVF.mono {x : E} (h : OwnVF w F x) (hG : ∀ g, F g → G g) : OwnVF w G x := ⟨h.1, h.2.1, h.2.2.1, fun g hg => hG g (h.2.2.2 g hg)⟩
theorem OwnVF.vs {x : E} (h : OwnVF w F x) : VsF w F x.l x.A x.c := by
  obtain ⟨A, c, e, hc, hn, hr⟩ := row_rdF h.1
  injection e with e1 _ e2
  subst e1 e2
  exact ⟨hc, h.2.1, hn, hr.mono h.2.2.2, h.2.2.1⟩
/-- secrets in a row of their own, each one's versions in another -/
def OwnEF (w : World) (F : Nat → Prop) (l : List E) (v : Value) : Prop := w.ownsRow 0 47 2 v l.length (cellsE l) ∧ l.length * 40 ≤ 140737488355328 ∧ (∀ g, v.ownBlock = some g → F g) ∧ ∀ x ∈ l, OwnVF w (fun g => F g ∧ some g ≠ v.ownBlock) x ∧ x.s.size ≤ maxLen
theorem OwnEF.agree {v : Value} (h : OwnEF w F le v) (hk : Agree w w' F) : OwnEF w' F le v := ⟨ownsRow_agree h.1 (fun g hg => hk g (h.2.2.1 g hg)), h.2.1, h.2.2.1, fun x hx => ⟨(h.2.2.2 x hx).1.agree (hk.mono fun _ hg => hg.1), (h.2.2.2 x hx).2⟩⟩
theorem OwnEF.mono {v : Value} (h : OwnEF w F le v) (hG : ∀ g, F g → G g) : OwnEF w G le v := ⟨h.1, h.2.1, fun g hg => hG g (h.2.2.1 g hg), fun x hx => ⟨(h.2.2.2 x hx).1.mono fun g hg => ⟨hG g hg.1, hg.2⟩, (h.2.2.2 x hx).2⟩⟩
theorem OwnEF.es {v : Value} (h : OwnEF w F le v) : ∃ A c, v = .slice A le.length c ∧ EsF w F le A c := by
  obtain ⟨A, c, e, hc, hn, hr⟩ := row_rdF h.1
  exact ⟨A, c, e, hc, h.2.1, hn, hr.mono h.2.2.1, fun x hx => ⟨(h.2.2.2 x hx).1.vs.mono fun _ hg => hg.1, (h.2.2.2 x hx).2⟩⟩
def OwnKF (w : World) (F : Nat → Prop) (l : List K) (v : Value) : Prop := w.ownsRow 0 162 5 v l.length (cellsK l) ∧ l.length * 48 ≤ 140737488355328 ∧ (∀ g, v.ownBlock = some g → F g) ∧ ∀ x ∈ l, x.fits
theorem OwnKF.agree {v : Value} (h : OwnKF w F lk v) (hk : Agree w w' F) : OwnKF w' F lk v := ⟨ownsRow_agree h.1 (fun g hg => hk g (h.2.2.1 g hg)), h.2⟩
theorem OwnKF.mono {v : Value} (h : OwnKF w F lk v) (hG : ∀ g, F g → G g) : OwnKF w G lk v := ⟨h.1, h.2.1, fun g hg => hG g (h.2.2.1 g hg), h.2.2.2⟩
theorem OwnKF.ks {v : Value} (h : OwnKF w F lk v) : ∃ A c, v = .slice A lk.length c ∧ KsF w F lk A c := by
  obtain ⟨A, c, e, hc, hn, hr⟩ := row_rdF h.1
  exact ⟨A, c, e, hc, h.2.1, hn, hr.mono h.2.2.1, h.2.2.2⟩
end

theorem cellsE_one (l : List E) : ∀ u ∈ cellsE l, u.oneCell' = true := by
  induction l with
  | nil => intro u h; cases h
  | cons x l ih =>
    intro u h
    rcases List.mem_append.1 h with h | h
    · simp [E.cells] at h
      rcases h with rfl | rfl <;> rfl
    · exact ih u h
/-! ### nodes -/
/-- a node, but for where it lies -/
abbrev P3 := Bool × List (ByteArray × List V) × List K
structure N where
  lf : Bool
  es : List E
  ks : List K
  A : Option Addr
  c : Nat
  Q : Option Addr
  m : Nat
def N.cells (x : N) : List Value := [.bool x.lf, .slice x.A x.es.length x.c, .slice x.Q x.ks.length x.m]
abbrev N.val (x : N) : Value := .agg #[.bool x.lf, .slice x.A x.es.length x.c, .slice x.Q x.ks.length x.m]
def N.p (x : N) : P3 := (x.lf, x.es.map pe, x.ks)
def cellsN : List N → List Value
  | [] => []
  | x :: l => x.cells ++ cellsN l
theorem cellsN_len : ∀ l : List N, (cellsN l).length = 3 * l.length
  | [] => rfl
  | x :: l => by rw [cellsN, List.length_append, cellsN_len l]; simp [N.cells]; omega
theorem cellsN_app : ∀ l m : List N, cellsN (l ++ m) = cellsN l ++ cellsN m
  | [], m => rfl
  | x :: l, m => by rw [List.cons_append, cellsN, cellsN_app l m, cellsN, List.append_assoc]
theorem cellsN_at : ∀ (l : List N) {j : Nat} (hj : j < l.length), (cellsN l)[3 * j]? = some (.bool l[j].lf) ∧ (cellsN l)[3 * j + 1]? = some (.slice l[j].A l[j].es.length l[j].c) ∧ (cellsN l)[3 * j + 2]? = some (.slice l[j].Q l[j].ks.length l[j].m)
  | x :: l, 0, _ => ⟨rfl, rfl, rfl⟩
  | x :: l, j + 1, hj => by
    obtain ⟨e0, e1, e2⟩ := cellsN_at l (j := j) (by simpa using hj)
    have hl : x.cells.length = 3 := rfl
    refine ⟨?_, ?_, ?_⟩
    all_goals
      rw [cellsN, List.getElem?_append_right (by rw [hl]; omega), hl]
      first | rw [show 3 * (j + 1) - 3 = 3 * j by omega] | rw [show 3 * (j + 1) + 1 - 3 = 3 * j + 1 by omega] | rw [show 3 * (j + 1) + 2 - 3 = 3 * j + 2 by omega]
      assumption
theorem cellsN_one (l : List N) : ∀ u ∈ cellsN l, u.oneCell' = true := by
  induction l with
  | nil => intro u h; cases h
  | cons x l ih =>
    intro u h
    rcases List.mem_append.1 h with h | h
    · simp [N.cells] at h
      rcases h with rfl | rfl | rfl <;> rfl
    · exact ih u h
def NsF (w : World) (F : Nat → Prop) (x : N) : Prop := EsF w F x.es x.A x.c ∧ KsF w F x.ks x.Q x.m
theorem NsF.agree {w w' : World} {F : Nat → Prop} {x : N} (h : NsF w F x) (hk : Agree w w' F) : NsF w' F x := ⟨h.1.agree hk, h.2.agree hk⟩
theorem NsF.mono {w : World} {F G : Nat → Prop} {x : N} (h : NsF w F x) (hG : ∀ g, F g → G g) : NsF w G x := ⟨h.1.mono hG, h.2.mono hG⟩
/-- a node of the call's own -/
def OwnNF (w : World) (F : Nat → Prop) (x : N) : Prop := OwnEF w F x.es (.slice x.A x.es.length x.c) ∧ OwnKF w F x.ks (.slice x.Q x.ks.length x.m) ∧ ∀ g, (Value.slice x.A x.es.length x.c).ownBlock = some g → (Value.slice x.Q x.ks.length x.m).ownBlock ≠ some g
theorem OwnNF.agree {w w' : World} {F : Nat → Prop} {x : N} (h : OwnNF w F x) (hk : Agree w w' F) : OwnNF w' F x := ⟨h.1.agree hk, h.2.1.agree hk, h.2.2⟩
theorem OwnNF.mono {w : World} {F G : Nat → Prop} {x : N} (h : OwnNF w F x) (hG : ∀ g, F g → G g) : OwnNF w G x := ⟨h.1.mono hG, h.2.1.mono hG, h.2.2⟩
theorem OwnNF.ns {w : World} {F : Nat → Prop} {x : N} (h : OwnNF w F x) : NsF w F x := by
  obtain ⟨A, c, e, he⟩ := h.1.es
  obtain ⟨Q, m, e', hk⟩ := h.2.1.ks
  injection e with e1 _ e2
  injection e' with e3 _ e4
  subst e1 e2 e3 e4
  exact ⟨he, hk⟩

/-! ### a heap of pages -/
/-- block h is a heap of the pages ns; S: the blocks that it stands in -/
def Hp (w : World) (h : Nat) (S : Nat → Prop) (ns : List P3) : Prop :=
  ∃ v l, ns = l.map N.p ∧ S h ∧ (∀ g, S g → g < w.heap.size) ∧ Blk w h 146 #[v] ∧ w.ownsRow 0 87 3 v l.length (cellsN l) ∧ (∀ g, v.ownBlock = some g → S g ∧ g ≠ h) ∧ l.length ≤ 20000 ∧
    ∀ x ∈ l, NsF w (fun g => S g ∧ g ≠ h ∧ some g ≠ v.ownBlock) x
theorem Hp.agree {w w' : World} {h : Nat} {S : Nat → Prop} {ns : List P3} (hh : Hp w h S ns) (hk : Agree w w' S) (hs : w.heap.size ≤ w'.heap.size) : Hp w' h S ns := by
  obtain ⟨v, l, h1, h2, h3, h4, h5, h6, h7, h8⟩ := hh
  exact ⟨v, l, h1, h2, fun g hg => Nat.lt_of_lt_of_le (h3 g hg) hs, (hk h h2).trans h4, ownsRow_agree h5 (fun g hg => hk g (h6 g hg).1), h6, h7, fun x hx => (h8 x hx).agree (hk.mono fun g hg => hg.1)⟩
theorem Hp.lt {w : World} {h : Nat} {S : Nat → Prop} {ns : List P3} (hh : Hp w h S ns) : ∀ g, S g → g < w.heap.size := by
  obtain ⟨v, l, h1, h2, h3, _⟩ := hh
  exact h3
theorem Hp.below {w w' : World} {h : Nat} {S : Nat → Prop} {ns : List P3} (hh : Hp w h S ns) (hb : Below w.heap.size w w') : Hp w' h S ns := hh.agree (Agree.of_below hb hh.lt) hb.size
theorem Hp.len {w : World} {h : Nat} {S : Nat → Prop} {ns : List P3} (hh : Hp w h S ns) : ns.length ≤ 20000 := by
  obtain ⟨v, l, rfl, _, _, _, _, _, h7, _⟩ := hh
  simpa using h7
end Go.Proofs.Ytoenkkbcpafanaa.trees
