/- slices.Backward over kids; belongs. -/
import Derived.Test.YtnndohdiiglgmaaKTrP
import Derived.RangeFuncNested
import Derived.RangeFuncBound
import Derived.RangeFuncCalls
import Derived.RangeFuncLeaves
import Derived.Shelf.Abstract
import Derived.Shelf.RegionOpen
import Derived.WalkKit
import Derived.OwnWalkIn
import Derived.TacticsInMore
import Derived.LoopNIn
import Derived.LoopIn
import Derived.Test.YtnndohdiiglgmaaKEs


namespace Go.Proofs.Ytnndohdiiglgmaa.trees
set_option linter.unusedVariables false
set_option linter.unusedSimpArgs false
open Go.RowKit Go.Shelf Go.Proofs.Ytnndohdiiglgmaa.base Go.Proofs.Ytnndohdiiglgmaa.vers Go.Proofs.Ytnndohdiiglgmaa.nodes Go.Proofs.Ytnndohdiiglgmaa.quotas
attribute [local go_sem] Oper.semAt_some

abbrev _root_.Go.Proofs.Ytnndohdiiglgmaa.nodes.K.v (x : K) : Value := .agg #[.string x.s, .int .u64 (x.k : Int), .int .i64 x.g, .int .i64 x.o, .int .i64 x.n]
/-- what has come when k rounds from the end are over -/
def back {α : Type} (l : List α) (z : α) (k : Nat) : List (Nat × α) := (List.range k).map fun j => (l.length - 1 - j, l[l.length - 1 - j]?.getD z)
theorem back_succ {α : Type} (l : List α) (z : α) (k : Nat) : back l z (k + 1) = back l z k ++ [(l.length - 1 - k, l[l.length - 1 - k]?.getD z)] := by simp [back, List.range_succ]
theorem back_length {α : Type} (l : List α) (z : α) (k : Nat) : (back l z k).length = k := by simp [back]
/-- Go's order of texts -/
def leB (a b : ByteArray) : Bool := Op.bytesLess a.toList b.toList || a.toList == b.toList
theorem mem_back {α : Type} {l : List α} {z : α} {i k : Nat} (h : i < l.length) (hk : l.length - 1 - i < k) : (i, l[i]) ∈ back l z k := by
  simp only [back, List.mem_map, List.mem_range]
  refine ⟨l.length - 1 - i, hk, ?_⟩
  have : l.length - 1 - (l.length - 1 - i) = i := by omega
  rw [this, List.getElem?_eq_getElem h]; rfl
theorem agree_t {G : Nat → Prop} {A B C : World} (h : Agree A B G) (k : Agree B C G) : Agree A C G := h.trans k
theorem agree_b {G : Nat → Prop} {w : World} (hG : ∀ g, G g → g < w.heap.size) (W : World) (l : Nat) (o o' : Obj) (hl : w.heap.size ≤ l) (h : W.heap[l]? = some o) (h1 : o.isCells = false) (h2 : o.isWalk = false) : Agree W (W.putObj l o') G :=
  Agree.of_below (belowK_b (w := w) (Nat.le_refl _) W l o o' hl h h1 h2) hG
theorem blk_own {β : Type} (B : Nat) (t : TypeId) (f : β → Array Value) : Own (fun s W => Blk W B t (f s)) := fun s X Y row hs hg hrow => by
  refine (hg.block B (Blk.lt hs) (fun e => ?_)).trans hs
  obtain ⟨o, ho, hc⟩ := hrow B e.symm
  rw [show X.heap[B]? = _ from hs] at ho; cases ho; cases hc

set_option maxRecDepth 100000 in
set_option maxHeartbeats 2000000 in
theorem back1K_in (F : Fence) (n : Nat) (hF : F.fn 125) (hro : F.round = none) (hn : 1 ≤ n) (l Bs : Nat) (G : Nat → Prop) (ks : List K) (z : K) (A : Option Addr) (c : Nat) (J Jx : List (Nat × K) → World → Prop)
    (hY : ∀ pre x W, J pre W → pre.length < ks.length → YieldAt F (n - 1) Try.prog l #[.int .i64 (x.1 : Int), x.2.v] W fun e W' =>
      (e = .returned (.bool true) ∧ J (pre ++ [x]) W' ∧ Agree W W' G) ∨ (e = .returned (.bool false) ∧ Jx (pre ++ [x]) W'))
    (W : World) (hBs : W.cell? ⟨Bs, 0, none⟩ = some (.slice A ks.length c)) (hG : G Bs) (hK : KsF W G ks A c) (h0 : J [] W) :
    CallsIn F n Try.prog 125 #[.func (.yield l) #[] #[], .pointer (some ⟨Bs, 0, none⟩)] W fun e W' => (∃ v, e = .returned v) ∧
      ((∃ ys, ys = back ks z ks.length ∧ J ys W') ∨ (∃ pre, (∃ k, k ≤ ks.length ∧ pre = back ks z k) ∧ Jx pre W')) := by
  have hlen : ks.length ≤ 140737488355328 := by have := hK.2.1; omega
  have e0 : IntKind.i64.wrap ((ks.length : Int) - 1) = (ks.length : Int) - 1 := IntWalk.i64_in _ (by omega)
  refine callsIn_of_wp Try.func125 rfl hF ?_ hro
  simp only [Try.ntmps125, List.size_toArray, List.length_cons, List.length_nil, Nat.reduceAdd, Nat.reduceSub, Array.replicate_succ, Array.replicate_zero, List.push_toArray, List.append_toArray, List.nil_append, List.cons_append]
  gi_wp2
  gi_loopw [3] (fun i wr => ∃ k r : Nat, k + r = ks.length ∧ i = .int .i64 ((r : Int) - 1) ∧ J (back ks z k) wr ∧ Agree W wr G)
    (fun i _ => (intOf i + 1).toNat)
  case atStart => exact ⟨0, ks.length, by omega, rfl, h0, Agree.refl _ _⟩
  case round =>
    obtain ⟨k, r, hk, rfl, hJs, hag⟩ := hrel
    cases r with
    | zero =>
      gi_wp2
      go_end0
      have hk' : k = ks.length := by omega
      exact ⟨⟨_, rfl⟩, .inl ⟨_, rfl, hk' ▸ hJs⟩⟩
    | succ j =>
      have hj : (((j + 1 : Nat) : Int) - 1) = (j : Int) := by omega
      rw [hj]
      have hjl : j < ks.length := by omega
      have hf : (ks.length - 1 - k, ks[ks.length - 1 - k]?.getD z) = (j, ks[j]) := by
        have : ks.length - 1 - k = j := by omega
        rw [this, List.getElem?_eq_getElem hjl]; rfl
      have hKr := hK.agree hag
      have hb1 : wr.cell? ⟨Bs, 0, none⟩ = some (.slice A ks.length c) := (hag.cell (p := ⟨Bs, 0, none⟩) hG).trans hBs
      obtain ⟨bk, off, rfl, _, c0, c1, c2, c3, c4⟩ := hKr.ks.at_ hjl
      have k1 : (0 : Int) ≤ (j : Int) := by omega
      have k2 : (j : Int) < (ks.length : Int) := by omega
      have e1 : IntKind.i64.wrap ((j : Int) - 1) = (j : Int) - 1 := IntWalk.i64_in _ (by omega)
      obtain ⟨fn, tmps, assign, body, hy, hR⟩ := hY _ (j, ks[j]) wr hJs (by rw [back_length]; omega)
      dsimp only at hy
      have HK := vers.lay hk
      have HF := vers.lay hf
      clear hk hf hj
      gi_wp2
      refine hR.mono ?_
      rintro e W3 (⟨rfl, hJ3, hk3⟩ | ⟨rfl, hJx3⟩)
      · gi_wp2
        go_roundw
        case rel => exact ⟨k + 1, j, by have := HK.out; omega, rfl, by rw [back_succ, HF.out]; exact hJ3, hag.trans hk3⟩
        case measure => simp [intOf]
      · gi_wp2
        refine bodyPost_ret (results_none rfl _ _ _) rfl ?_
        exact ⟨⟨_, rfl⟩, .inr ⟨_, ⟨k + 1, by have := HK.out; omega, by rw [back_succ, HF.out]⟩, hJx3⟩⟩

set_option maxRecDepth 100000 in
set_option maxHeartbeats 2000000 in
theorem backK_in (F : Fence) (n : Nat) (hF : F.fn 105) (hro : F.round = none) (a : Option Addr) (len cap : Nat) (w : World) :
    CallsIn F n Try.prog 105 #[.slice a len cap] w fun e w' => e = .returned (.func (.func 125) #[] #[.pointer (some ⟨w.heap.size, 0, none⟩)]) ∧ w' = w.alloc (.cells #[.slice a len cap] 58) := by
  refine callsIn_of_wp Try.func105 rfl hF ?_ hro
  simp only [Try.ntmps105, List.size_toArray, List.length_cons, List.length_nil, Nat.reduceAdd, Nat.reduceSub, Array.replicate_succ, Array.replicate_zero, List.push_toArray, List.append_toArray, List.nil_append, List.cons_append]
  gi_wp2
  go_ret
  exact ⟨rfl, rfl⟩
theorem backK_stops (F : Fence) (n : Nat) (hF : F.fn 125) (hro : F.round = none) (hn : 1 ≤ n) (Bs : Nat) (G : Nat → Prop) (ks : List K) (z : K) (A : Option Addr) (c : Nat) (w : World) (hG : G Bs) (hGl : ∀ g, G g → g < w.heap.size)
    (hc : w.cell? ⟨Bs, 0, none⟩ = some (.slice A ks.length c)) (hK : KsF w G ks A c) :
    SeqStopsK F n Try.prog 125 #[.pointer (some ⟨Bs, 0, none⟩)] (fun x : Nat × K => #[Value.int .i64 (x.1 : Int), x.2.v]) (fun X Y => Agree X Y G) (fun ys => ys = back ks z ks.length)
      (fun pre => ∃ k, k ≤ ks.length ∧ pre = back ks z k) ks.length w := fun l J Jx W hW _ _ hY h0 => by
  have hag : Agree w W G := Agree.of_below hW hGl
  exact back1K_in F n hF hro hn l Bs G ks z A c J Jx hY W ((hag.cell (p := ⟨Bs, 0, none⟩) hG).trans hc) hG (hK.agree hag) h0

set_option maxRecDepth 100000 in
set_option maxHeartbeats 2000000 in
theorem belongs_in (F : Fence) (n : Nat) (h2 : F.fn 81) (h3 : F.fn 105) (h4 : F.fn 125) (hro : F.round = none) (hn : 3 ≤ n) (ks : List K) (A : Option Addr) (c : Nat) (s : ByteArray) (w : World) (hK : Ks w w.heap.size ks A c) :
    CallsIn F n Try.prog 81 #[.slice A ks.length c, .string s] w fun e W' =>
      ((e = .returned (.int .i64 0) ∧ ∀ x ∈ ks, leB x.s s = false) ∨ (∃ (j : Nat) (hj : j < ks.length), e = .returned (.int .i64 (j : Int)) ∧ leB ks[j].s s = true ∧ ∀ (i : Nat) (hi : i < ks.length), j < i → leB ks[i].s s = false)) ∧ Below w.heap.size w W' := by
  have h1 : 1 ≤ n := by omega
  refine callsIn_of_wp_marks Try.func81 rfl h2 ?_ hro
  simp only [Try.ntmps81, List.size_toArray, List.length_cons, List.length_nil, Nat.reduceAdd, Nat.reduceSub, Array.replicate_succ, Array.replicate_zero, List.push_toArray, List.append_toArray, List.nil_append, List.cons_append]
  gi_wp2_with (gi_at_call 105; refine (backK_in F (n - 1) h3 hro _ _ _ _).mono ?_; rintro e w' ⟨rfl, rfl⟩)
  have bR := (Boxed.new (w.alloc (.cells #[.string s] 9)) 3 (.int .i64 0)).alloc (.cells #[.slice A ks.length c] 58)
  have bS := ((Boxed.new w 9 (.string s)).alloc (.cells #[.int .i64 0] 3)).alloc (.cells #[.slice A ks.length c] 58)
  have bN := Boxed.new ((w.alloc (.cells #[.string s] 9)).alloc (.cells #[.int .i64 0] 3)) 58 (.slice A ks.length c)
  simp only [World.size_alloc] at bR bN
  have hB0 : Below w.heap.size w (((w.alloc (.cells #[.string s] 9)).alloc (.cells #[.int .i64 0] 3)).alloc (.cells #[.slice A ks.length c] 58)) := (((Below.refl _ w).alloc (Nat.le_refl _) _).alloc (by simp) _).alloc (by simp; omega) _
  have hsz : (((w.alloc (.cells #[.string s] 9)).alloc (.cells #[.int .i64 0] 3)).alloc (.cells #[.slice A ks.length c] 58)).heap.size = w.heap.size + 3 := by simp
  obtain ⟨W0, hW0⟩ : ∃ W0, ((w.alloc (.cells #[.string s] 9)).alloc (.cells #[.int .i64 0] 3)).alloc (.cells #[.slice A ks.length c] 58) = W0 := ⟨_, rfl⟩
  rw [hW0] at bR bS bN hB0 hsz ⊢
  clear hW0
  have hG : ∀ g, (g < w.heap.size ∨ g = w.heap.size + 1 + 1) → g < W0.heap.size := fun g hg => by omega
  have hK0 : KsF W0 (fun g => g < w.heap.size ∨ g = w.heap.size + 1 + 1) ks A c := (KsF.of (hK.below hB0)).mono fun g hg => .inl hg
  refine wpIn_rangeFunc_ownH hro h1 (gf := 125) (lb := #[.pointer (some ⟨w.heap.size + 1 + 1, 0, none⟩)]) rfl h4 (enters_of Try.func125 (by kernel_rfl) rfl)
    (backK_stops F (n - 1) h4 hro (by omega) (w.heap.size + 1 + 1) (fun g => g < w.heap.size ∨ g = w.heap.size + 1 + 1) ks ⟨⟨#[]⟩, 0, 0, 0, 0⟩ A c W0 (.inr rfl) hG bN.cell hK0) agree_t (agree_b hG) (Below.refl _ _) (fun _ => rfl)
    (fun pre W => ((∀ p ∈ pre, leB p.2.s s = false) ∧ Boxed W (w.heap.size + 1) 3 (.int .i64 0) ∧ Boxed W w.heap.size 9 (.string s) ∧ Boxed W (w.heap.size + 1 + 1) 58 (.slice A ks.length c)) ∧ Below w.heap.size w W)
    (fun cc pre W => (cc = .ret ∧ ∃ ini last, pre = ini ++ [last] ∧ (∀ p ∈ ini, leB p.2.s s = false) ∧ leB last.2.s s = true ∧ Boxed W (w.heap.size + 1) 3 (.int .i64 (last.1 : Int))) ∧ Below w.heap.size w W)
    (OwnFrom.and (Own.from (fun s' X Y row hs hg hr => ⟨hs.1, boxed_own _ _ (fun _ : Unit => _) () X Y row hs.2.1 hg hr, boxed_own _ _ (fun _ : Unit => _) () X Y row hs.2.2.1 hg hr, boxed_own _ _ (fun _ : Unit => _) () X Y row hs.2.2.2 hg hr⟩) _) (ownFrom_below (Nat.le_refl _) (by omega)))
    (fun cc => OwnFrom.and (Own.from (fun s' X Y row hs hg hr => by obtain ⟨hc, ini, last, e1, e2, e3, e4⟩ := hs; exact ⟨hc, ini, last, e1, e2, e3, boxed_own _ _ (fun _ : Unit => _) () X Y row e4 hg hr⟩) _) (ownFrom_below (Nat.le_refl _) (by omega)))
    ⟨⟨by simp, bR, bS, bN⟩, hB0⟩
    (fun x a' W => ∃ Bx, w.heap.size + 1 + 1 < Bx ∧ Blk W Bx 66 #[.string x.2.s, .int .u64 (x.2.k : Int), .int .i64 x.2.g, .int .i64 x.2.o, .int .i64 x.2.n] ∧ a' = { tmps := #[.slice A ks.length c, .string s, undef, .pointer (some ⟨w.heap.size, 0, none⟩), .pointer (some ⟨w.heap.size + 1, 0, none⟩), .int .i64 (x.1 : Int), .pointer (some ⟨Bx, 0, none⟩), .slice A ks.length c, .func (.func 125) #[] #[.pointer (some ⟨w.heap.size + 1 + 1, 0, none⟩)], .int .i64 (x.1 : Int), x.2.v, undef, undef, undef, undef, undef], defers := [] })
    (fun x a' _ X Y row hs hg hr => by obtain ⟨Bx, q1, q2, q3⟩ := hs; exact ⟨Bx, q1, blk_own Bx 66 (fun (_ : Unit) => _) () X Y row q2 hg (fun r e => (hr r e).2), q3⟩)
    ?assign ?body ?done ?stop
  case assign =>
    rintro l pre x W K ⟨⟨hp, bR1, bS1, bN1⟩, hB1⟩ hK
    have h9 := bN1.lt
    have := hB1.size
    gi_wp2
    exact hK _ _ ((KeepsOthers.alloc _ _).from _) (Agree.of_below ((Below.refl _ W).alloc (Nat.le_refl _) _) (fun g hg => by omega)) ⟨⟨hp, bR1.alloc _, bS1.alloc _, bN1.alloc _⟩, hB1.alloc hB1.size _⟩ ⟨W.heap.size, h9, Blk.new _ _ _, rfl⟩
  case body =>
    rintro l pre x a' W hl ⟨r, hr⟩ ⟨⟨hp, bR1, bS1, bN1⟩, hB1⟩ ⟨Bx, hBx, bX, rfl⟩ hlt
    have c0 := bX.cell 0
    simp at c0
    have c1 := bS1.cell
    have c2 := bR1.cell
    have f2 := bR1.frozen
    gi_wp2
    · have hx : leB x.2.s s = true := by
        rename_i hh
        simp only [leB, Bool.or_eq_true]; exact hh
      exact ⟨(KeepsOthers.setCell _ _ _).from _, ⟨rfl, pre, x, rfl, hp, hx, bR1.set _⟩, hB1.setCell (p := ⟨w.heap.size + 1, 0, none⟩) (by simp) _⟩
    · have hx : leB x.2.s s = false := by
        rename_i hh
        simp only [leB, Bool.or_eq_false_iff]; exact hh
      exact ⟨KeepsFrom.refl _ _, Agree.refl _ _, ⟨fun p hp' => (List.mem_append.1 hp').elim (hp p) (fun e => by simp at e; subst e; exact hx), bR1, bS1, bN1⟩, hB1⟩
  case done =>
    rintro D ys W hD rfl ⟨⟨hp, bR1, bS1, bN1⟩, hB1⟩ hK
    have c2 := bR1.cell
    have f2 := bR1.frozen
    gi_wp2
    have hK' := (KeepsOthers.setCell W ⟨w.heap.size + 1, 0, none⟩ (.int .i64 0)).same D _ hK rfl
    refine ⟨by simp, .inl ⟨_, _, rfl, run_takeDeferred hK', ?_⟩⟩
    have hc5 := cell_kept (World.cell?_setCell_same' W ⟨w.heap.size + 1, 0, none⟩ (.int .i64 0) (by rw [c2]; rfl)) (grownBy_putObj' _ D (.deferred none)) (fun r e => by cases e; exact ⟨_, hK', rfl⟩)
    refine ⟨.int .i64 0, ?_, .inl ⟨rfl, fun x hx => ?_⟩, (hB1.setCell (p := ⟨w.heap.size + 1, 0, none⟩) (by simp) _).trans (belowK_b (w := w) (Nat.le_refl _) _ D _ _ (by omega) hK' rfl rfl)⟩
    · simp [results, Try.results81, go_sem, hc5]
    · obtain ⟨i, hi, rfl⟩ := List.getElem_of_mem hx
      exact hp _ (mem_back hi (by omega))
  case stop =>
    rintro D cc pre W hD ⟨k, hk, rfl⟩ ⟨⟨rfl, ini, last, e1, e2, e3, bR1⟩, hB1⟩ hK
    gi_wp2
    refine ⟨by simp, .inl ⟨_, _, rfl, run_takeDeferred hK, ?_⟩⟩
    have hc5 := cell_kept bR1.cell (grownBy_putObj' _ D (.deferred none)) (fun r e => by cases e; exact ⟨_, hK, rfl⟩)
    obtain ⟨k', rfl⟩ : ∃ k', k = k' + 1 := by
      cases k with
      | zero => simp [back] at e1
      | succ k' => exact ⟨k', rfl⟩
    rw [back_succ] at e1
    obtain ⟨rfl, e5⟩ := List.append_inj' e1 rfl
    have hj : ks.length - 1 - k' < ks.length := by omega
    obtain rfl : (ks.length - 1 - k', ks[ks.length - 1 - k']) = last := by
      rw [List.getElem?_eq_getElem hj] at e5
      simpa using e5
    refine ⟨.int .i64 ((ks.length - 1 - k' : Nat) : Int), ?_, .inr ⟨ks.length - 1 - k', hj, rfl, e3, fun i hi hji => e2 _ (mem_back hi (by omega))⟩, hB1.trans (belowK_b (w := w) (Nat.le_refl _) W D _ _ (by omega) hK rfl rfl)⟩
    simp [results, Try.results81, go_sem, hc5]
/-- where a name belongs -/
theorem belongs_any (ks : List K) (A : Option Addr) (c : Nat) (s : ByteArray) (w : World) (hK : Ks w w.heap.size ks A c) :
    Calls Try.prog 81 #[.slice A ks.length c, .string s] w fun e W' =>
      ((e = .returned (.int .i64 0) ∧ ∀ x ∈ ks, leB x.s s = false) ∨ (∃ (j : Nat) (hj : j < ks.length), e = .returned (.int .i64 (j : Int)) ∧ leB ks[j].s s = true ∧ ∀ (i : Nat) (hi : i < ks.length), j < i → leB ks[i].s s = false)) ∧ Below w.heap.size w W' :=
  (callsIn_wide (n := 3)).1 (belongs_in Fence.wide 3 trivial trivial trivial rfl (by omega) ks A c s w hK)

end Go.Proofs.Ytnndohdiiglgmaa.trees

/- Package node's own Low. -/

namespace Go.Proofs.Ytnndohdiiglgmaa.nodes
set_option linter.unusedVariables false
set_option linter.unusedSimpArgs false
open Go.RowKit Go.Proofs.Ytnndohdiiglgmaa.base Go.Proofs.Ytnndohdiiglgmaa.quotas Go.Proofs.Ytnndohdiiglgmaa.vers

def LowIs : Prop := ∀ (lf : Bool) (es : List E) (ks : List K) (A : Option Addr) (cap : Nat) (A' : Option Addr) (cap' : Nat) (w : World), Es w w.heap.size es A cap → Ks w w.heap.size ks A' cap' →
  Calls Try.prog 118 #[.agg #[.bool lf, .slice A es.length cap, .slice A' ks.length cap']] w fun x w' => x = .returned (.string (lowOf lf es ks)) ∧ Below w.heap.size w w'

set_option maxRecDepth 100000 in
set_option maxHeartbeats 1000000 in
theorem ownLow_none1 (A : Option Addr) (cap : Nat) (A' : Option Addr) (cap' : Nat) (nk : Nat) (w : World) :
    Calls Try.prog 118 #[.agg #[.bool true, .slice A 0 cap, .slice A' nk cap']] w fun x w' => x = .returned (.string ⟨#[]⟩) ∧ Below w.heap.size w w' := by
  go_enter Try.func118, Try.ntmps118
  go_wp2_with fail
  go_ret
  exact ⟨rfl, (Below.refl _ _).alloc (Nat.le_refl _) _⟩

set_option maxRecDepth 100000 in
set_option maxHeartbeats 1000000 in
theorem ownLow_none2 (A : Option Addr) (cap : Nat) (A' : Option Addr) (cap' : Nat) (ne : Nat) (w : World) :
    Calls Try.prog 118 #[.agg #[.bool false, .slice A ne cap, .slice A' 0 cap']] w fun x w' => x = .returned (.string ⟨#[]⟩) ∧ Below w.heap.size w w' := by
  go_enter Try.func118, Try.ntmps118
  go_wp2_with fail
  go_ret
  exact ⟨rfl, (Below.refl _ _).alloc (Nat.le_refl _) _⟩

set_option maxRecDepth 100000 in
set_option maxHeartbeats 1000000 in
theorem ownLow_leaf (bk off cap : Nat) (A' : Option Addr) (cap' : Nat) (ne nk : Nat) (s : ByteArray) (w : World) (hp : 0 < ne) (hm : ne ≤ 140737488355328) (hb : bk < w.heap.size) (hs : w.cell? ⟨bk, off, none⟩ = some (.string s)) :
    Calls Try.prog 118 #[.agg #[.bool true, .slice (some ⟨bk, off, none⟩) ne cap, .slice A' nk cap']] w fun x w' => x = .returned (.string s) ∧ Below w.heap.size w w' := by
  have hp1 : (0 : Int) < (ne : Int) := by omega
  go_enter Try.func118, Try.ntmps118
  go_wp2_with fail
  go_ret
  exact ⟨rfl, (Below.refl _ _).alloc (Nat.le_refl _) _⟩

set_option maxRecDepth 100000 in
set_option maxHeartbeats 1000000 in
theorem ownLow_inner (A : Option Addr) (cap : Nat) (bk off cap' : Nat) (ne nk : Nat) (s : ByteArray) (w : World) (hp : 0 < nk) (hm : nk ≤ 140737488355328) (hb : bk < w.heap.size) (hs : w.cell? ⟨bk, off, none⟩ = some (.string s)) :
    Calls Try.prog 118 #[.agg #[.bool false, .slice A ne cap, .slice (some ⟨bk, off, none⟩) nk cap']] w fun x w' => x = .returned (.string s) ∧ Below w.heap.size w w' := by
  have hp1 : (0 : Int) < (nk : Int) := by omega
  go_enter Try.func118, Try.ntmps118
  go_wp2_with fail
  go_ret
  exact ⟨rfl, (Below.refl _ _).alloc (Nat.le_refl _) _⟩

theorem ownLow_any (lf : Bool) (es : List E) (ks : List K) (A : Option Addr) (cap : Nat) (A' : Option Addr) (cap' : Nat) (w : World) (hv : Es w w.heap.size es A cap) (hk : Ks w w.heap.size ks A' cap') :
    Calls Try.prog 118 #[.agg #[.bool lf, .slice A es.length cap, .slice A' ks.length cap']] w fun x w' => x = .returned (.string (lowOf lf es ks)) ∧ Below w.heap.size w w' := by
  have hlen : es.length ≤ 140737488355328 := by have := hv.2.1; omega
  have hlen' : ks.length ≤ 140737488355328 := by have := hk.2.1; omega
  cases lf with
  | true =>
    by_cases h0 : es = []
    · subst h0
      exact ownLow_none1 A cap A' cap' _ w
    · have hp : 0 < es.length := by cases es with | nil => exact absurd rfl h0 | cons _ _ => simp
      obtain ⟨bk, off, rfl, hb, e0, _, _⟩ := hv.at_ hp
      rw [show lowOf true es ks = es[0].s by cases es with | nil => exact absurd rfl h0 | cons _ _ => rfl]
      exact ownLow_leaf bk off cap A' cap' _ _ _ w hp hlen hb (by simpa using e0)
  | false =>
    by_cases h0 : ks = []
    · subst h0
      exact ownLow_none2 A cap A' cap' _ w
    · have hp : 0 < ks.length := by cases ks with | nil => exact absurd rfl h0 | cons _ _ => simp
      obtain ⟨bk, off, rfl, hb, e0, _, _⟩ := hk.at_ hp
      rw [show lowOf false es ks = ks[0].s by cases ks with | nil => exact absurd rfl h0 | cons _ _ => rfl]
      exact ownLow_inner A cap bk off cap' _ _ _ w hp hlen' hb (by simpa using e0)

theorem lowIs : LowIs := fun lf es ks A cap A2 cap2 w hv hk => ownLow_any lf es ks A cap A2 cap2 w hv hk
end Go.Proofs.Ytnndohdiiglgmaa.nodes
