/- A book in pure words; a map's datum out of its entries. -/
import Derived.Test.YtjlglfjikfpboaaTrA
import Derived.Test.YtjlglfjikfpboaaVerTZ
import Derived.Maps.OwnSet
import Derived.Maps.RangeWalk
import Derived.Maps.Ext


namespace Go.Proofs.Ytjlglfjikfpboaa.books
set_option linter.unusedVariables false
set_option linter.unusedSimpArgs false
open Go.RowKit Go.Proofs.Ytjlglfjikfpboaa.base Go.Proofs.Ytjlglfjikfpboaa.quotas Go.Proofs.Ytjlglfjikfpboaa.vers Go.Proofs.Ytjlglfjikfpboaa.nodes Go.Proofs.Ytjlglfjikfpboaa.trees

/-! ### the order of names -/
abbrev bn (s : ByteArray) : List UInt8 := s.data.toList
theorem bn_ext {a b : ByteArray} (h : bn a = bn b) : a = b := by
  cases a; cases b
  simp only [ByteArray.mk.injEq]
  exact Array.ext' h
theorem before_eq : ∀ a b : List UInt8, bytesBefore a b = decide (a < b)
  | [], [] => by simp [bytesBefore]
  | [], _ :: _ => by simp [bytesBefore]
  | _ :: _, [] => by simp [bytesBefore]
  | a :: r, b :: s => by
    rw [bytesBefore, before_eq r s]
    simp only [List.cons_lt_cons_iff, Bool.decide_or, Bool.decide_and]
    congr 2
theorem bn_total {a b : ByteArray} (h1 : ¬ bn a < bn b) (h2 : a ≠ b) : bn b < bn a := by
  rcases Decidable.em (bn b < bn a) with h | h
  · exact h
  · exact absurd (bn_ext (List.le_antisymm (List.not_lt.1 h) (List.not_lt.1 h1))) h2
theorem bn_irrefl (a : List UInt8) : ¬ a < a := List.lt_irrefl a

/-! ### secrets by names -/
abbrev PB := ByteArray × List V
structure Qt where
  a : Int
  b : Int
  c : Int
  d : Int
  e : Int
  f : Int
  h : Int
structure O where
  k : Int
  s : ByteArray
  v : ByteArray
  t : ByteArray
def lk : List PB → ByteArray → Option (List V)
  | [], _ => none
  | x :: r, s => if x.1 = s then some x.2 else lk r s
def ins (x : PB) : List PB → List PB
  | [] => [x]
  | y :: r => if bn x.1 < bn y.1 then x :: y :: r else y :: ins x r
def del (L : List PB) (s : ByteArray) : List PB := L.filter fun y => decide (y.1 ≠ s)
def put (L : List PB) (x : PB) : List PB := ins x (del L x.1)
/-- names that rise -/
def Up (L : List PB) : Prop := L.Pairwise fun x y => bn x.1 < bn y.1
theorem ins_mem (x y : PB) : ∀ L : List PB, y ∈ ins x L ↔ y = x ∨ y ∈ L
  | [] => by simp [ins]
  | z :: r => by
    rw [ins]
    split
    · simp
    · rw [List.mem_cons, ins_mem x y r, List.mem_cons]
      constructor <;> (rintro (h | h | h) <;> simp [h])
theorem ins_len (x : PB) : ∀ L : List PB, (ins x L).length = L.length + 1
  | [] => rfl
  | z :: r => by
    rw [ins]
    split
    · rfl
    · rw [List.length_cons, ins_len x r, List.length_cons]
theorem ins_up (x : PB) : ∀ L : List PB, Up L → (∀ y ∈ L, y.1 ≠ x.1) → Up (ins x L)
  | [], _, _ => by simp [ins, Up]
  | z :: r, h, hn => by
    obtain ⟨h1, h2⟩ := List.pairwise_cons.1 h
    rw [ins]
    split
    · rename_i hl
      refine List.pairwise_cons.2 ⟨fun y hy => ?_, h⟩
      rcases List.mem_cons.1 hy with rfl | hy
      · exact hl
      · exact List.lt_trans hl (h1 y hy)
    · rename_i hl
      refine List.pairwise_cons.2 ⟨fun y hy => ?_, ins_up x r h2 fun y hy => hn y (List.mem_cons_of_mem _ hy)⟩
      rcases (ins_mem x y r).1 hy with rfl | hy
      · exact bn_total hl (hn z List.mem_cons_self).symm
      · exact h1 y hy
theorem del_up {L : List PB} (h : Up L) (s : ByteArray) : Up (del L s) := List.Pairwise.filter _ h
theorem del_ne (L : List PB) (s : ByteArray) : ∀ y ∈ del L s, y.1 ≠ s := fun y hy => by simpa using (List.mem_filter.1 hy).2
theorem put_up {L : List PB} (h : Up L) (x : PB) : Up (put L x) := ins_up x _ (del_up h _) (del_ne L x.1)
theorem lk_none {L : List PB} {s : ByteArray} (h : ∀ y ∈ L, y.1 ≠ s) : lk L s = none := by
  induction L with
  | nil => rfl
  | cons x r ih => rw [lk, if_neg (h x List.mem_cons_self), ih fun y hy => h y (List.mem_cons_of_mem _ hy)]
theorem lk_some {L : List PB} {s : ByteArray} {l : List V} (h : lk L s = some l) : (s, l) ∈ L := by
  induction L with
  | nil => cases h
  | cons x r ih =>
    rw [lk] at h
    split at h
    · rename_i e; cases h; subst e; exact List.mem_cons_self
    · exact List.mem_cons_of_mem _ (ih h)
theorem lk_mem {L : List PB} (h : Up L) {x : PB} (hx : x ∈ L) : lk L x.1 = some x.2 := by
  induction L with
  | nil => cases hx
  | cons y r ih =>
    obtain ⟨h1, h2⟩ := List.pairwise_cons.1 h
    rw [lk]
    rcases List.mem_cons.1 hx with rfl | hx
    · rw [if_pos rfl]
    · rw [if_neg (fun e => ?_), ih h2 hx]
      have := h1 x hx
      rw [e] at this
      exact bn_irrefl _ this
theorem lk_del_same (L : List PB) (s : ByteArray) : lk (del L s) s = none := lk_none (del_ne L s)
theorem lk_del_other {s u : ByteArray} (h : u ≠ s) (L : List PB) : lk (del L s) u = lk L u := by
  induction L with
  | nil => rfl
  | cons x r ih =>
    unfold del at ih ⊢
    rw [List.filter_cons]
    by_cases e : x.1 = s
    · rw [if_neg (by simp [e]), lk, if_neg (fun e2 => h (e2.symm.trans e)), ih]
    · rw [if_pos (by simpa using e), lk, lk, ih]
theorem lk_ins_same (x : PB) : ∀ (L : List PB), (∀ y ∈ L, y.1 ≠ x.1) → lk (ins x L) x.1 = some x.2
  | [], _ => by simp [ins, lk]
  | z :: r, h => by
    rw [ins]
    split
    · simp [lk]
    · rw [lk, if_neg (h z List.mem_cons_self), lk_ins_same x r fun y hy => h y (List.mem_cons_of_mem _ hy)]
theorem lk_ins_other (x : PB) {u : ByteArray} (hu : u ≠ x.1) : ∀ (L : List PB), lk (ins x L) u = lk L u
  | [] => by simp [ins, lk, hu.symm]
  | z :: r => by
    rw [ins]
    split
    · rw [lk, if_neg hu.symm]
    · rw [lk, lk_ins_other x hu r, lk]
theorem lk_put_same (L : List PB) (x : PB) : lk (put L x) x.1 = some x.2 := lk_ins_same x _ (del_ne L x.1)
theorem lk_put_other {L : List PB} {x : PB} {u : ByteArray} (h : u ≠ x.1) : lk (put L x) u = lk L u := (lk_ins_other x h _).trans (lk_del_other h L)
/-- what is the same by names is the same -/
theorem up_ext : ∀ {L M : List PB}, Up L → Up M → (∀ s, lk L s = lk M s) → L = M
  | [], [], _, _, _ => rfl
  | [], y :: M, _, _, h => by have := h y.1; simp [lk] at this
  | x :: L, [], _, _, h => by have := h x.1; simp [lk] at this
  | x :: L, y :: M, hx, hy, h => by
    obtain ⟨a1, a2⟩ := List.pairwise_cons.1 hx
    obtain ⟨b1, b2⟩ := List.pairwise_cons.1 hy
    have mx : ∀ z ∈ L, z.1 ≠ x.1 := fun z hz e => by have := a1 z hz; rw [e] at this; exact bn_irrefl _ this
    have my : ∀ z ∈ M, z.1 ≠ y.1 := fun z hz e => by have := b1 z hz; rw [e] at this; exact bn_irrefl _ this
    have e1 : x.1 = y.1 := by
      rcases Decidable.em (x.1 = y.1) with e | e
      · exact e
      · have i1 := h x.1
        have i2 := h y.1
        rw [lk, if_pos rfl, lk, if_neg (fun e2 => e e2.symm)] at i1
        rw [lk, if_neg e, lk, if_pos rfl] at i2
        have j1 := b1 _ (lk_some i1.symm)
        have j2 := a1 _ (lk_some i2)
        exact absurd (List.lt_trans j1 j2) (bn_irrefl _)
    have e2 : x.2 = y.2 := by
      have i1 := h x.1
      rw [lk, if_pos rfl, lk, if_pos e1.symm] at i1
      injection i1
    have e3 : L = M := up_ext a2 b2 fun s => by
      have i1 := h s
      rw [lk, lk] at i1
      rcases Decidable.em (x.1 = s) with e | e
      · rw [lk_none (by rw [← e]; exact mx), lk_none (by rw [← e, e1]; exact my)]
      · rw [if_neg e, if_neg (by rw [← e1]; exact e)] at i1
        exact i1
    rw [e3, Prod.ext e1 e2]
theorem del_len {L : List PB} (h : Up L) {s : ByteArray} {l : List V} (hl : lk L s = some l) : (del L s).length + 1 = L.length := by
  induction L with
  | nil => cases hl
  | cons x r ih =>
    obtain ⟨h1, h2⟩ := List.pairwise_cons.1 h
    unfold del at ih ⊢
    rw [List.filter_cons]
    rw [lk] at hl
    by_cases e : x.1 = s
    · rw [if_neg (by simp [e])]
      have : r.filter (fun y => decide (y.1 ≠ s)) = r := List.filter_eq_self.2 fun y hy => by
        have := h1 y hy
        rw [e] at this
        simp only [decide_eq_true_eq]
        intro e2; rw [e2] at this; exact bn_irrefl _ this
      rw [this, List.length_cons]
    · rw [if_pos (by simpa using e), List.length_cons, List.length_cons]
      rw [if_neg e] at hl
      have := ih h2 hl
      omega
theorem del_id {L : List PB} {s : ByteArray} (hl : lk L s = none) : del L s = L := by
  induction L with
  | nil => rfl
  | cons x r ih =>
    rw [lk] at hl
    split at hl
    · cases hl
    · rename_i e
      unfold del at ih ⊢
      rw [List.filter_cons, if_pos (by simpa using e), ih hl]
theorem put_len {L : List PB} (h : Up L) (x : PB) : (put L x).length = if (lk L x.1).isSome then L.length else L.length + 1 := by
  unfold put
  rw [ins_len]
  cases hl : lk L x.1 with
  | none => rw [del_id hl]; rfl
  | some l => have := del_len h hl; simp only [Option.isSome_some, if_true]; omega
theorem del_le (L : List PB) (s : ByteArray) : (del L s).length ≤ L.length := List.length_filter_le _ _

/-! ### calls -/
/-- what a call tells by itself -/
def rightO (q : Qt) (o : O) : Int :=
  if o.k ≠ 1 ∧ o.k ≠ 2 ∧ o.k ≠ 3 then 8 else if o.s.size = 0 then 4 else if q.b < (o.s.size : Int) then 5 else if o.k ≠ 3 ∧ (q.c < (o.v.size : Int) ∨ q.d < (o.t.size : Int)) then 5 else 0
/-- what comes of a secret -/
def newP (q : Qt) (L : List PB) (o : O) : Ad := addP q.a q.b q.c q.d q.e q.f q.h o.s ((lk L o.s).getD []) o.v o.t (if o.k = 2 then 1 else q.e)
def oneP (q : Qt) (L : List PB) (o : O) : List PB × Int :=
  if rightO q o ≠ 0 then (L, rightO q o)
  else if o.k = 3 then (match lk L o.s with | none => (L, 3) | some _ => (del L o.s, 0))
  else if lk L o.s = none ∧ (L.length : Int) = q.a then (L, 6)
  else if (newP q L o).bad ≠ 0 then (L, (newP q L o).bad) else (put L (o.s, (newP q L o).k), 0)
/-- calls one behind the other, from a place on -/
def rowP (q : Qt) : List PB → List O → Nat → List PB × Int × Int
  | L, [], _ => (L, 0, 0)
  | L, o :: r, i => if (oneP q L o).2 ≠ 0 then (L, (oneP q L o).2, (i : Int)) else rowP q (oneP q L o).1 r (i + 1)
def behindP (q : Qt) (L : List PB) (ops : List O) : List PB × Int × Int :=
  if ops.length = 0 ∨ q.f < (ops.length : Int) then (L, 7, -1) else rowP q L ops 0
/-! ### the same in memory's words -/
abbrev eval (e : E) : Value := .agg #[.string e.s, .slice e.A e.l.length e.c]
def insE (x : E) : List E → List E
  | [] => [x]
  | y :: r => if bn x.s < bn y.s then x :: y :: r else y :: insE x r
def delE (es : List E) (s : ByteArray) : List E := es.filter fun y => decide (y.s ≠ s)
def putE (es : List E) (x : E) : List E := insE x (delE es x.s)
theorem insE_pe (x : E) : ∀ es : List E, (insE x es).map pe = ins (pe x) (es.map pe)
  | [] => rfl
  | y :: r => by
    rw [insE, List.map_cons, ins]
    by_cases h : bn x.s < bn y.s
    · rw [if_pos h, if_pos (show bn (pe x).1 < bn (pe y).1 from h)]; rfl
    · rw [if_neg h, if_neg (show ¬ bn (pe x).1 < bn (pe y).1 from h), List.map_cons, insE_pe x r]
theorem delE_pe (es : List E) (s : ByteArray) : (delE es s).map pe = del (es.map pe) s := by
  unfold delE del
  rw [List.filter_map]
  rfl
theorem putE_pe (es : List E) (x : E) : (putE es x).map pe = put (es.map pe) (pe x) := by
  unfold putE put
  rw [insE_pe, delE_pe]
  rfl
theorem insE_mem (x y : E) : ∀ es : List E, y ∈ insE x es → y = x ∨ y ∈ es
  | [], h => by simpa [insE] using h
  | z :: r, h => by
    rw [insE] at h
    split at h
    · simpa using h
    · rcases List.mem_cons.1 h with h | h
      · exact .inr (by simp [h])
      · rcases insE_mem x y r h with h | h
        · exact .inl h
        · exact .inr (List.mem_cons_of_mem _ h)
theorem putE_mem {es : List E} {x y : E} (h : y ∈ putE es x) : y = x ∨ y ∈ es := (insE_mem x y _ h).imp id fun h => (List.mem_filter.1 h).1
theorem delE_mem {es : List E} {s : ByteArray} {y : E} (h : y ∈ delE es s) : y ∈ es := (List.mem_filter.1 h).1
def lkE : List E → ByteArray → Option E
  | [], _ => none
  | x :: r, s => if x.s = s then some x else lkE r s
theorem lkE_pe (es : List E) (s : ByteArray) : lk (es.map pe) s = (lkE es s).map (·.l) := by
  induction es with
  | nil => rfl
  | cons x r ih =>
    rw [List.map_cons, lk, lkE, ih]
    by_cases h : x.s = s
    · rw [if_pos (show (pe x).1 = s from h), if_pos h]; rfl
    · rw [if_neg (show ¬ (pe x).1 = s from h), if_neg h]
theorem lkE_some {es : List E} {s : ByteArray} {e : E} (h : lkE es s = some e) : e ∈ es ∧ e.s = s := by
  induction es with
  | nil => cases h
  | cons x r ih =>
    rw [lkE] at h
    split at h
    · rename_i e1; cases h; exact ⟨List.mem_cons_self, e1⟩
    · exact ⟨List.mem_cons_of_mem _ (ih h).1, (ih h).2⟩

/-! ### a map's datum -/
abbrev ks (s : ByteArray) : Lit := .string (bn s)
def DE (es : List E) : DataW Value := .map (es.map fun e => (ks e.s, .held (eval e)))
def REl : List Value → Option (DataW Value × List MemPlace)
  | [.string s, .slice A n c] => some (.held (.agg #[.string s, .slice A n c]), [])
  | _ => none
def RE : Value → Option (DataW Value × List MemPlace)
  | .agg cs => REl cs.toList
  | _ => none
theorem RE_inv {v : Value} {z : DataW Value × List MemPlace} (h : RE v = some z) : ∃ s A n c, v = .agg #[.string s, .slice A n c] ∧ z = (.held v, []) := by
  cases v with
  | agg cs =>
    obtain ⟨l⟩ := cs
    change REl l = some z at h
    unfold REl at h
    split at h
    · cases h; exact ⟨_, _, _, _, rfl, rfl⟩
    · cases h
  | _ => cases h
theorem ks_same (a b : ByteArray) : (ks a).sameKey (ks b) = decide (a = b) := by
  by_cases h : a = b
  · subst h; simp [Lit.sameKey]
  · rw [decide_eq_false h]
    simp only [Lit.sameKey, beq_eq_false_iff_ne]
    exact fun e => h (bn_ext e)
theorem ks_before (a b : ByteArray) : (ks a).before (ks b) = decide (bn a < bn b) := by
  simp only [Lit.before]; exact before_eq _ _
theorem DE_ins (x : E) : ∀ es : List E, DataW.insert (ks x.s, .held (eval x)) (es.map fun e => (ks e.s, .held (eval e))) = (insE x es).map fun e => (ks e.s, DataW.held (eval e))
  | [] => rfl
  | y :: r => by
    rw [List.map_cons, DataW.insert, insE]
    simp only [ks_before]
    by_cases h : bn x.s < bn y.s
    · rw [if_pos (decide_eq_true h), if_pos h]; rfl
    · rw [if_neg (by simpa using h), if_neg h, List.map_cons, DE_ins x r]
theorem DE_filter (es : List E) (s : ByteArray) : ((es.map fun e => (ks e.s, DataW.held (eval e))).filter fun p => !p.1.sameKey (ks s)) = (delE es s).map fun e => (ks e.s, DataW.held (eval e)) := by
  unfold delE
  rw [List.filter_map]
  congr 1
  refine List.filter_congr fun e _ => ?_
  simp only [Function.comp, ks_same]
  by_cases h : e.s = s <;> simp [h]
theorem DE_put (es : List E) (x : E) : (DE es).put (ks x.s) (.held (eval x)) = DE (putE es x) := by
  unfold DE DataW.put putE
  simp only []
  rw [DE_filter, DE_ins]
theorem DE_del (es : List E) (s : ByteArray) : (DE es).del (ks s) = DE (delE es s) := by
  unfold DE DataW.del
  simp only []
  rw [DE_filter]
theorem DE_has (es : List E) (s : ByteArray) : Maps.has (DE es) (ks s) = (lkE es s).isSome := by
  unfold DE
  rw [Maps.has_eq]
  induction es with
  | nil => rfl
  | cons x r ih =>
    rw [List.map_cons, List.any_cons, ih, lkE, ks_same]
    by_cases h : x.s = s <;> simp [h]
theorem DE_at (es : List E) (s : ByteArray) (z : DataW Value) : (DE es).atKey (ks s) z = match lkE es s with | some e => .held (eval e) | none => z := by
  unfold DE DataW.atKey
  simp only []
  induction es with
  | nil => rfl
  | cons x r ih =>
    rw [List.map_cons, List.find?_cons, lkE]
    simp only [ks_same]
    by_cases h : x.s = s
    · simp [h]
    · simp only [decide_eq_false h, if_neg h]; exact ih
theorem DE_size (es : List E) : Maps.size (DE es) = es.length := by unfold DE; rw [Maps.size_eq, List.length_map]

end Go.Proofs.Ytjlglfjikfpboaa.books

/- Maps of secrets in memory; book's right, take, renew, play. -/

namespace Go.Proofs.Ytjlglfjikfpboaa.books
set_option linter.unusedVariables false
set_option linter.unusedSimpArgs false
open Go.RowKit Go.Proofs.Ytjlglfjikfpboaa.base Go.Proofs.Ytjlglfjikfpboaa.quotas Go.Proofs.Ytjlglfjikfpboaa.vers Go.Proofs.Ytjlglfjikfpboaa.nodes Go.Proofs.Ytjlglfjikfpboaa.trees

theorem kK : Maps.Keyed Try.prog 9 := Maps.string_keyed Try.underlying9
theorem kS {s : ByteArray} (h : s.size ≤ maxLen) : keyOf Try.prog 9 (.string s) = some (ks s) := Go.WideMaps.keyOf_string_mk Try.underlying9 h
theorem zE (w : World) : (zeroValue 79).run Try.prog w = .ok (.agg #[.string ⟨#[]⟩, .slice none 0 0]) w := by kernel_rfl
abbrev Own (w : World) (ms : Nat) (es : List E) : Prop := w.ownsMap Try.prog 9 RE ms es.length (DE es)
theorem tight {H : Type} {P : Program} {k : TypeId} {R : Value → Option (DataW H × List MemPlace)} {w : World} {b n : Nat} {D : DataW H} (h : w.ownsMap P k R b n D) : w.ownsMap P k R b (Maps.size D) D := by
  obtain ⟨es, clock, hb, F, hs, rfl⟩ := h
  exact ⟨es, clock, hb, F, by simp [Maps.size, length_sorted], rfl⟩
theorem own_tight {w : World} {ms n : Nat} {es : List E} (h : w.ownsMap Try.prog 9 RE ms n (DE es)) : Own w ms es := by
  have := tight h
  rwa [DE_size] at this
theorem own_keep {S : Nat → Prop} {w w' : World} {ms : Nat} {es : List E} (h : Own w ms es) (hk : Keep S w w') (hn : ¬ S ms) : Own w' ms es := by
  have hlt := h.lt
  obtain ⟨xs, clock, hb, F, hs, hD⟩ := h
  exact ⟨xs, clock, (hk.block ms hlt hn).trans hb, F, hs, hD⟩
theorem own_below {w w' : World} {ms : Nat} {es : List E} (h : Own w ms es) (hb : Below w.heap.size w w') : Own w' ms es := own_keep h (Keep.of_below (S := fun _ => False) hb) id

section
variable {ops : Array Oper} {rest : List Oper} {o : Oper} {a : Act} {Q : Exit → Act → World → Prop}
theorem wp_look_some (w : World) (hg : o.guard = none) (m x : Operand) (hop : o.op = Op.lookup 130 m x true) {ms : Nat} {es : List E} (hm : a.eval m = .map (some ms)) (hown : Own w ms es) {s : ByteArray} (hx : a.eval x = .string s) (hs : s.size ≤ maxLen) {e : E} (he : lkE es s = some e)
    (hK : wpList Try.prog ops Q rest (a.put o.dst (.tuple #[.agg #[.string e.s, .slice e.A e.l.length e.c], .bool true])) w) : wpList Try.prog ops Q (o :: rest) a w :=
  wpList_lookup_own_ok w hg m x _ hop 9 79 kK Try.underlying130 RE (zE w) (.held (.agg #[.string ⟨#[]⟩, .slice none 0 0])) [] rfl ms _ (DE es) hm hown _ _ hx (kS hs) (fun v ps hv => by
    rw [DE_at, he] at hv
    obtain ⟨_, _, _, _, rfl, hz⟩ := RE_inv hv
    injection hz with hz _
    injection hz with hz
    rw [← hz, DE_has, he]
    exact hK)
theorem wp_look_none (w : World) (hg : o.guard = none) (m x : Operand) (hop : o.op = Op.lookup 130 m x true) {ms : Nat} {es : List E} (hm : a.eval m = .map (some ms)) (hown : Own w ms es) {s : ByteArray} (hx : a.eval x = .string s) (hs : s.size ≤ maxLen) (he : lkE es s = none)
    (hK : wpList Try.prog ops Q rest (a.put o.dst (.tuple #[.agg #[.string ⟨#[]⟩, .slice none 0 0], .bool false])) w) : wpList Try.prog ops Q (o :: rest) a w :=
  wpList_lookup_own_ok w hg m x _ hop 9 79 kK Try.underlying130 RE (zE w) (.held (.agg #[.string ⟨#[]⟩, .slice none 0 0])) [] rfl ms _ (DE es) hm hown _ _ hx (kS hs) (fun v ps hv => by
    rw [DE_at, he] at hv
    obtain ⟨_, _, _, _, rfl, hz⟩ := RE_inv hv
    injection hz with hz _
    injection hz with hz
    rw [← hz, DE_has, he]
    exact hK)
theorem wp_store (w : World) (hg : o.guard = none) (m x v : Operand) (hop : o.op = Op.mapUpdate 130 m x v) {ms : Nat} {es : List E} (hm : a.eval m = .map (some ms)) (hown : Own w ms es) (hn : es.length < maxLen) {s : ByteArray} (hx : a.eval x = .string s) (hs : s.size ≤ maxLen) {A : Option Addr} {l : List V} {c : Nat} (hv : a.eval v = .agg #[.string s, .slice A l.length c])
    (hK : ∀ w', Own w' ms (putE es ⟨s, l, A, c⟩) → w.grownBy w' (some ms) → wpList Try.prog ops Q rest (a.put o.dst undef) w') : wpList Try.prog ops Q (o :: rest) a w :=
  wpList_mapUpdate_own w hg m x v _ hop 9 79 kK Try.underlying130 RE ms _ (DE es) hm hown hn _ _ _ hx hv (kS hs) _ [] rfl (fun w' h1 h2 => hK w' (own_tight (by
    have h3 := DE_put es ⟨s, l, A, c⟩
    simp only [] at h3
    rw [h3] at h1
    exact h1)) h2)
theorem wp_drop (w : World) (hg : o.guard = none) (m x : Operand) (hop : o.op = Op.call { callee := Callee.builtin Builtin.delete, args := #[m, x], argTypes := #[130, 9] }) {ms : Nat} {es : List E} (hm : a.eval m = .map (some ms)) (hown : Own w ms es) {s : ByteArray} (hx : a.eval x = .string s) (hs : s.size ≤ maxLen)
    (hK : ∀ w', Own w' ms (delE es s) → w.grownBy w' (some ms) → wpList Try.prog ops Q rest (a.put o.dst (.tuple #[])) w') : wpList Try.prog ops Q (o :: rest) a w :=
  wpList_delete_own w hg m x _ _ hop 79 kK Try.underlying130 RE ms _ (DE es) hm hown _ _ hx (kS hs) (fun w' h1 h2 => hK w' (own_tight (by rw [← DE_del]; exact h1)) h2.grown)
theorem wp_size (w : World) (hg : o.guard = none) (m : Operand) (hop : o.op = Op.call { callee := Callee.builtin Builtin.len, args := #[m], argTypes := #[130] }) {ms : Nat} {es : List E} (hm : a.eval m = .map (some ms)) (hown : Own w ms es)
    (hK : wpList Try.prog ops Q rest (a.put o.dst (.int .i64 (es.length : Int))) w) : wpList Try.prog ops Q (o :: rest) a w :=
  wpList_len_own w hg m _ hop 9 79 Try.underlying130 RE ms _ (DE es) hm hown (by rw [DE_size]; exact hK)
end

/-- a map of secrets, their versions in blocks Y -/
def SAt (w : World) (ms : Nat) (Y : Nat → Prop) (L : List PB) : Prop := ∃ es : List E, es.map pe = L ∧ Own w ms es ∧ (∀ e ∈ es, VsF w Y e.l e.A e.c ∧ e.s.size ≤ maxLen) ∧ ∀ g, Y g → g < w.heap.size ∧ g ≠ ms
theorem SAt.keep {S : Nat → Prop} {w w' : World} {ms : Nat} {Y : Nat → Prop} {L : List PB} (h : SAt w ms Y L) (hk : Keep S w w') (hn : ¬ S ms) (hY : ∀ g, Y g → ¬ S g) : SAt w' ms Y L := by
  obtain ⟨es, h1, h2, h3, h4⟩ := h
  exact ⟨es, h1, own_keep h2 hk hn, fun e he => ⟨(h3 e he).1.agree (hk.agree fun g hg => ⟨(h4 g hg).1, hY g hg⟩), (h3 e he).2⟩, fun g hg => ⟨Nat.lt_of_lt_of_le (h4 g hg).1 hk.size, (h4 g hg).2⟩⟩
theorem SAt.below {w w' : World} {ms : Nat} {Y : Nat → Prop} {L : List PB} (h : SAt w ms Y L) (hb : Below w.heap.size w w') : SAt w' ms Y L := h.keep (S := fun _ => False) (Keep.of_below hb) id (fun _ _ => id)
theorem SAt.lt {w : World} {ms : Nat} {Y : Nat → Prop} {L : List PB} (h : SAt w ms Y L) : ms < w.heap.size := let ⟨_, _, h2, _⟩ := h; h2.lt
theorem keep_grown {w w' : World} {ms : Nat} (h : w.grownBy w' (some ms)) : Keep (fun g => g = ms) w w' := ⟨h.os, h.tape, h.output, h.size, fun k hk hn => h.block k hk (fun e => hn (by injection e))⟩
/-- what a call on a map of secrets leaves -/
def SPost (w : World) (ms : Nat) (Y : Nat → Prop) (r : List PB × Int) (e : Ending) (w' : World) : Prop :=
  e = .returned (.int .i64 r.2) ∧ (∃ Y' : Nat → Prop, SAt w' ms Y' r.1 ∧ ∀ g, Y' g → Y g ∨ w.heap.size ≤ g) ∧ Keep (fun g => g = ms) w w'
def O.fits (o : O) : Prop := i64 o.k ∧ o.s.size ≤ maxLen ∧ o.v.size ≤ maxLen ∧ o.t.size ≤ maxLen
theorem eq_yes {a b : Int} (h : a = b) : (a == b) = true := by simp [h]
theorem eq_no {a b : Int} (h : a ≠ b) : (a == b) = false := by simp [h]
theorem ne_yes {a b : Int} (h : a ≠ b) : (a != b) = true := by simp [bne, h]
theorem ne_no {a b : Int} (h : a = b) : (a != b) = false := by simp [bne, h]

theorem boxes2 (q : Qt) (o : O) (w : World) : Blk ((w.alloc (.cells #[.int .i64 q.a, .int .i64 q.b, .int .i64 q.c, .int .i64 q.d, .int .i64 q.e, .int .i64 q.f, .int .i64 q.h] 59)).alloc (.cells #[.int .i64 o.k, .string o.s, .string o.v, .string o.t] 92)) w.heap.size 59 #[.int .i64 q.a, .int .i64 q.b, .int .i64 q.c, .int .i64 q.d, .int .i64 q.e, .int .i64 q.f, .int .i64 q.h] ∧ Blk ((w.alloc (.cells #[.int .i64 q.a, .int .i64 q.b, .int .i64 q.c, .int .i64 q.d, .int .i64 q.e, .int .i64 q.f, .int .i64 q.h] 59)).alloc (.cells #[.int .i64 o.k, .string o.s, .string o.v, .string o.t] 92)) (w.heap.size + 1) 92 #[.int .i64 o.k, .string o.s, .string o.v, .string o.t] ∧ Below w.heap.size w ((w.alloc (.cells #[.int .i64 q.a, .int .i64 q.b, .int .i64 q.c, .int .i64 q.d, .int .i64 q.e, .int .i64 q.f, .int .i64 q.h] 59)).alloc (.cells #[.int .i64 o.k, .string o.s, .string o.v, .string o.t] 92)) := by
  have k := Blk.new (w.alloc (.cells #[.int .i64 q.a, .int .i64 q.b, .int .i64 q.c, .int .i64 q.d, .int .i64 q.e, .int .i64 q.f, .int .i64 q.h] 59)) 92 #[.int .i64 o.k, .string o.s, .string o.v, .string o.t]
  rw [World.size_alloc] at k
  exact ⟨(Blk.new w _ _).alloc _, k, ((Below.refl _ _).alloc (Nat.le_refl _) _).alloc (by simp) _⟩

set_option maxRecDepth 100000 in
set_option maxHeartbeats 2000000 in
theorem right_any (q : Qt) (o : O) (w : World) :
    Calls Try.prog 140 #[.agg #[.int .i64 q.a, .int .i64 q.b, .int .i64 q.c, .int .i64 q.d, .int .i64 q.e, .int .i64 q.f, .int .i64 q.h], .agg #[.int .i64 o.k, .string o.s, .string o.v, .string o.t]] w fun e w' => e = .returned (.int .i64 (rightO q o)) ∧ Below w.heap.size w w' := by
  obtain ⟨x0, x1, b2⟩ := boxes2 q o w
  obtain ⟨qa, qb, qc, qd, qe, qf, qh⟩ := q
  obtain ⟨k, s, v, t⟩ := o
  unfold rightO
  simp only [] at x0 x1 b2 ⊢
  by_cases k1 : k = 1
  · subst k1
    rw [if_neg (fun h => h.1 rfl)]
    by_cases h2 : s.size = 0
    · rw [if_pos h2]
      have d2 := empty_yes h2
      clear h2
      go_enter Try.func140, Try.ntmps140
      go_wp2_with fail
      go_ret
      exact ⟨rfl, b2⟩
    · rw [if_neg h2]
      have d2 := empty_no h2
      clear h2
      by_cases h3 : qb < (s.size : Int)
      · rw [if_pos h3]
        have d3 : decide (qb < (s.size : Int)) = true := decide_eq_true h3
        clear h3
        go_enter Try.func140, Try.ntmps140
        go_wp2_with fail
        go_ret
        exact ⟨rfl, b2⟩
      · rw [if_neg h3]
        have d3 : decide (qb < (s.size : Int)) = false := decide_eq_false h3
        clear h3
        by_cases h4 : qc < (v.size : Int)
        · skip
          rw [if_pos ⟨by decide, .inl h4⟩]
          have d4 : decide (qc < (v.size : Int)) = true := decide_eq_true h4
          clear h4
          go_enter Try.func140, Try.ntmps140
          go_wp2_with fail
          go_ret
          exact ⟨rfl, b2⟩
        · skip
          have d4 : decide (qc < (v.size : Int)) = false := decide_eq_false h4
          by_cases h5 : qd < (t.size : Int)
          · rw [if_pos ⟨by decide, .inr h5⟩]
            have d5 : decide (qd < (t.size : Int)) = true := decide_eq_true h5
            clear h5
            go_enter Try.func140, Try.ntmps140
            go_wp2_with fail
            go_ret
            exact ⟨rfl, b2⟩
          · rw [if_neg (fun h => h.2.elim h4 h5)]
            have d5 : decide (qd < (t.size : Int)) = false := decide_eq_false h5
            clear h4 h5
            go_enter Try.func140, Try.ntmps140
            go_wp2_with fail
            go_ret
            exact ⟨rfl, b2⟩
  · by_cases k2 : k = 2
    · subst k2
      rw [if_neg (fun h => h.2.1 rfl)]
      by_cases h3 : s.size = 0
      · rw [if_pos h3]
        have d2 := empty_yes h3
        clear h3
        go_enter Try.func140, Try.ntmps140
        go_wp2_with fail
        go_ret
        exact ⟨rfl, b2⟩
      · rw [if_neg h3]
        have d2 := empty_no h3
        clear h3
        by_cases h4 : qb < (s.size : Int)
        · rw [if_pos h4]
          have d3 : decide (qb < (s.size : Int)) = true := decide_eq_true h4
          clear h4
          go_enter Try.func140, Try.ntmps140
          go_wp2_with fail
          go_ret
          exact ⟨rfl, b2⟩
        · rw [if_neg h4]
          have d3 : decide (qb < (s.size : Int)) = false := decide_eq_false h4
          clear h4
          by_cases h5 : qc < (v.size : Int)
          · skip
            rw [if_pos ⟨by decide, .inl h5⟩]
            have d4 : decide (qc < (v.size : Int)) = true := decide_eq_true h5
            clear h5
            go_enter Try.func140, Try.ntmps140
            go_wp2_with fail
            go_ret
            exact ⟨rfl, b2⟩
          · skip
            have d4 : decide (qc < (v.size : Int)) = false := decide_eq_false h5
            by_cases h6 : qd < (t.size : Int)
            · rw [if_pos ⟨by decide, .inr h6⟩]
              have d5 : decide (qd < (t.size : Int)) = true := decide_eq_true h6
              clear h6
              go_enter Try.func140, Try.ntmps140
              go_wp2_with fail
              go_ret
              exact ⟨rfl, b2⟩
            · rw [if_neg (fun h => h.2.elim h5 h6)]
              have d5 : decide (qd < (t.size : Int)) = false := decide_eq_false h6
              clear h5 h6
              go_enter Try.func140, Try.ntmps140
              go_wp2_with fail
              go_ret
              exact ⟨rfl, b2⟩
    · by_cases k3 : k = 3
      · subst k3
        rw [if_neg (fun h => h.2.2 rfl)]
        by_cases h4 : s.size = 0
        · rw [if_pos h4]
          have d2 := empty_yes h4
          clear h4
          go_enter Try.func140, Try.ntmps140
          go_wp2_with fail
          go_ret
          exact ⟨rfl, b2⟩
        · rw [if_neg h4]
          have d2 := empty_no h4
          clear h4
          by_cases h5 : qb < (s.size : Int)
          · rw [if_pos h5]
            have d3 : decide (qb < (s.size : Int)) = true := decide_eq_true h5
            clear h5
            go_enter Try.func140, Try.ntmps140
            go_wp2_with fail
            go_ret
            exact ⟨rfl, b2⟩
          · rw [if_neg h5]
            have d3 : decide (qb < (s.size : Int)) = false := decide_eq_false h5
            clear h5
            rw [if_neg (fun h => h.1 rfl)]
            go_enter Try.func140, Try.ntmps140
            go_wp2_with fail
            go_ret
            exact ⟨rfl, b2⟩
      · rw [if_pos ⟨k1, k2, k3⟩]
        have e1 := ne_yes k1
        have e2 := ne_yes k2
        have e3 := ne_yes k3
        have g1 := eq_no k1
        have g2 := eq_no k2
        have g3 := eq_no k3
        clear k1 k2 k3
        go_enter Try.func140, Try.ntmps140
        go_wp2_with fail
        go_ret
        exact ⟨rfl, b2⟩

set_option maxRecDepth 100000 in
set_option maxHeartbeats 2000000 in
theorem take_ok (s : ByteArray) (ms : Nat) (Y : Nat → Prop) (L : List PB) (w : World) (hS : SAt w ms Y L) (hs : s.size ≤ maxLen) :
    Calls Try.prog 141 #[.map (some ms), .string s] w (SPost w ms Y (match lk L s with | none => (L, 3) | some _ => (del L s, 0))) := by
  have hlt := hS.lt
  have hS0 := hS
  obtain ⟨es, rfl, hown, hV, hY⟩ := hS
  rw [lkE_pe]
  cases hl : lkE es s with
  | none =>
    simp only [Option.map_none]
    go_enter Try.func141, Try.ntmps141
    go_wp2_with (first | (at_lookup; refine wp_look_none _ rfl _ _ rfl rfl hown rfl hs hl ?_) | go_in)
    go_ret
    have bw : Below w.heap.size w (w.alloc (.cells #[.string ⟨#[]⟩, .slice none 0 0] 79)) := (Below.refl _ _).alloc (Nat.le_refl _) _
    exact ⟨rfl, ⟨Y, hS0.below bw, fun g hg => .inl hg⟩, Keep.of_below bw⟩
  | some e =>
    simp only [Option.map_some]
    have bw : Below w.heap.size w (w.alloc (.cells #[.string e.s, .slice e.A e.l.length e.c] 79)) := (Below.refl _ _).alloc (Nat.le_refl _) _
    go_enter Try.func141, Try.ntmps141
    go_wp2_with (first | (at_lookup; refine wp_look_some _ rfl _ _ rfl rfl hown rfl hs hl ?_) | (at_delete; refine wp_drop _ rfl _ _ rfl rfl (own_below hown bw) rfl hs ?_; intro w1 hown1 hg1) | go_in)
    go_ret
    have hk := (Keep.of_below (S := fun g => g = ms) bw).trans (keep_grown hg1) (fun g hg _ => hg)
    refine ⟨rfl, ⟨Y, ⟨delE es s, delE_pe es s, hown1, fun x hx => ?_, fun g hg => ⟨Nat.lt_of_lt_of_le (hY g hg).1 hk.size, (hY g hg).2⟩⟩, fun g hg => .inl hg⟩, hk⟩
    have h1 := hV x (delE_mem hx)
    exact ⟨h1.1.agree (hk.agree fun g hg => hY g hg), h1.2⟩

end Go.Proofs.Ytjlglfjikfpboaa.books

/- book's renew and play. -/

namespace Go.Proofs.Ytjlglfjikfpboaa.books
set_option linter.unusedVariables false
set_option linter.unusedSimpArgs false
open Go.RowKit Go.Proofs.Ytjlglfjikfpboaa.base Go.Proofs.Ytjlglfjikfpboaa.quotas Go.Proofs.Ytjlglfjikfpboaa.vers Go.Proofs.Ytjlglfjikfpboaa.nodes Go.Proofs.Ytjlglfjikfpboaa.trees

/-- a secret renewed, whatever the call's form -/
def renewP (q : Qt) (L : List PB) (o : O) : List PB × Int :=
  if lk L o.s = none ∧ (L.length : Int) = q.a then (L, 6) else if (newP q L o).bad ≠ 0 then (L, (newP q L o).bad) else (put L (o.s, (newP q L o).k), 0)
theorem own_vs {lo : Nat} {w : World} {l : List V} {v : Value} (h : OwnV lo w l v) : ∃ A c, v = .slice A l.length c ∧ VsF w (fun g => lo ≤ g ∧ g < w.heap.size) l A c := by
  obtain ⟨A, c, e, hc, hn, hr⟩ := row_rdF h.1
  refine ⟨A, c, e, hc, h.2.1, hn, fun j u hj => ?_, h.2.2⟩
  obtain ⟨b, off, e1, hb, hcell⟩ := hr j u hj
  exact ⟨b, off, e1, ⟨(h.1.lt b hb).1, World.block_lt_of_cell? w _ hcell⟩, hcell⟩

theorem addP_name {a b c d e f h : Int} {s : ByteArray} {l : List V} {v t : ByteArray} {kp : Int} (h0 : (addP a b c d e f h s l v t kp).bad = 0) : (addP a b c d e f h s l v t kp).s = s := by
  unfold addP at h0 ⊢
  by_cases h1 : nbad a b c d e f h s l ≠ 0
  · rw [if_pos h1] at h0; exact absurd h0 h1
  · rw [if_neg h1] at h0 ⊢
    by_cases h2 : c < (v.size : Int) ∨ d < (t.size : Int)
    · rw [if_pos h2] at h0; cases h0
    · rw [if_neg h2] at h0 ⊢
      by_cases h3 : 1073741824 < noOf l
      · rw [if_pos h3] at h0; cases h0
      · rw [if_neg h3]

theorem len_eq {w : World} {ms : Nat} {es : List E} (h : Own w ms es) (ty : TypeId) : (Builtin.len_ #[130] ty #[.map (some ms)]).run Try.prog w = .ok (.int .i64 (es.length : Int)) w := by
  have := World.ownsMap.len h Try.underlying130 ty
  rwa [DE_size] at this

theorem boxes3 (q : Qt) (o : O) (s : ByteArray) (u : Value) (w : World) : Blk (((w.alloc (.cells #[.int .i64 q.a, .int .i64 q.b, .int .i64 q.c, .int .i64 q.d, .int .i64 q.e, .int .i64 q.f, .int .i64 q.h] 59)).alloc (.cells #[.int .i64 o.k, .string o.s, .string o.v, .string o.t] 92)).alloc (.cells #[.string s, u] 79)) w.heap.size 59 #[.int .i64 q.a, .int .i64 q.b, .int .i64 q.c, .int .i64 q.d, .int .i64 q.e, .int .i64 q.f, .int .i64 q.h] ∧ Blk (((w.alloc (.cells #[.int .i64 q.a, .int .i64 q.b, .int .i64 q.c, .int .i64 q.d, .int .i64 q.e, .int .i64 q.f, .int .i64 q.h] 59)).alloc (.cells #[.int .i64 o.k, .string o.s, .string o.v, .string o.t] 92)).alloc (.cells #[.string s, u] 79)) (w.heap.size + 1) 92 #[.int .i64 o.k, .string o.s, .string o.v, .string o.t] ∧ Blk (((w.alloc (.cells #[.int .i64 q.a, .int .i64 q.b, .int .i64 q.c, .int .i64 q.d, .int .i64 q.e, .int .i64 q.f, .int .i64 q.h] 59)).alloc (.cells #[.int .i64 o.k, .string o.s, .string o.v, .string o.t] 92)).alloc (.cells #[.string s, u] 79)) (w.heap.size + 2) 79 #[.string s, u] ∧ Below w.heap.size w (((w.alloc (.cells #[.int .i64 q.a, .int .i64 q.b, .int .i64 q.c, .int .i64 q.d, .int .i64 q.e, .int .i64 q.f, .int .i64 q.h] 59)).alloc (.cells #[.int .i64 o.k, .string o.s, .string o.v, .string o.t] 92)).alloc (.cells #[.string s, u] 79)) ∧ (((w.alloc (.cells #[.int .i64 q.a, .int .i64 q.b, .int .i64 q.c, .int .i64 q.d, .int .i64 q.e, .int .i64 q.f, .int .i64 q.h] 59)).alloc (.cells #[.int .i64 o.k, .string o.s, .string o.v, .string o.t] 92)).alloc (.cells #[.string s, u] 79)).heap.size = w.heap.size + 3 := by
  have k := Blk.new (w.alloc (.cells #[.int .i64 q.a, .int .i64 q.b, .int .i64 q.c, .int .i64 q.d, .int .i64 q.e, .int .i64 q.f, .int .i64 q.h] 59)) 92 #[.int .i64 o.k, .string o.s, .string o.v, .string o.t]
  have k2 := Blk.new ((w.alloc (.cells #[.int .i64 q.a, .int .i64 q.b, .int .i64 q.c, .int .i64 q.d, .int .i64 q.e, .int .i64 q.f, .int .i64 q.h] 59)).alloc (.cells #[.int .i64 o.k, .string o.s, .string o.v, .string o.t] 92)) 79 #[.string s, u]
  simp only [World.size_alloc] at k k2
  exact ⟨((Blk.new w _ _).alloc _).alloc _, k.alloc _, k2, (((Below.refl _ _).alloc (Nat.le_refl _) _).alloc (by simp) _).alloc (by simp; omega) _, by simp⟩

set_option maxRecDepth 100000 in
set_option maxHeartbeats 2000000 in
theorem renew_full (q : Qt) (o : O) (ms : Nat) (Y : Nat → Prop) (es : List E) (w : World) (hS : SAt w ms Y (es.map pe)) (hown : Own w ms es) (hf : o.fits) (hl : lkE es o.s = none) (hq : (es.length : Int) = q.a) :
    Calls Try.prog 142 #[.map (some ms), .agg #[.int .i64 q.a, .int .i64 q.b, .int .i64 q.c, .int .i64 q.d, .int .i64 q.e, .int .i64 q.f, .int .i64 q.h], .agg #[.int .i64 o.k, .string o.s, .string o.v, .string o.t]] w (SPost w ms Y (es.map pe, 6)) := by
  obtain ⟨x0, x1, x2, b3, z3⟩ := boxes3 q o ⟨#[]⟩ (.slice none 0 0) w
  have hlt := hown.lt
  obtain ⟨x1, _, _⟩ := boxes2 q o w
  obtain ⟨qa, qb, qc, qd, qe, qf, qh⟩ := q
  obtain ⟨k, s, v, t⟩ := o
  simp only [] at x0 x1 x2 b3 z3 hq hl ⊢
  subst hq
  have hs : s.size ≤ maxLen := hf.2.1
  have hL := len_eq (own_below hown b3)
  go_enter Try.func142, Try.ntmps142
  go_wp2_with (first | (at_lookup; refine wp_look_none _ rfl _ _ rfl rfl ((hown.alloc _).alloc _) rfl hs hl ?_))
  go_ret
  exact ⟨rfl, ⟨Y, hS.below b3, fun g hg => .inl hg⟩, Keep.of_below b3⟩

set_option maxRecDepth 100000 in
set_option maxHeartbeats 2000000 in
theorem renew_some1 (q : Qt) (o : O) (ms : Nat) (Y : Nat → Prop) (es : List E) (e : E) (w : World) (hS : SAt w ms Y (es.map pe)) (hown : Own w ms es) (hV : ∀ e ∈ es, VsF w Y e.l e.A e.c ∧ e.s.size ≤ maxLen) (hY : ∀ g, Y g → g < w.heap.size ∧ g ≠ ms) (hf : o.fits) (hl : lkE es o.s = some e) (hk : o.k = 1) (hlen : es.length ≤ 1000000) :
    Calls Try.prog 142 #[.map (some ms), .agg #[.int .i64 q.a, .int .i64 q.b, .int .i64 q.c, .int .i64 q.d, .int .i64 q.e, .int .i64 q.f, .int .i64 q.h], .agg #[.int .i64 o.k, .string o.s, .string o.v, .string o.t]] w (SPost w ms Y (if (addP q.a q.b q.c q.d q.e q.f q.h o.s e.l o.v o.t q.e).bad ≠ 0 then (es.map pe, (addP q.a q.b q.c q.d q.e q.f q.h o.s e.l o.v o.t q.e).bad) else (put (es.map pe) (o.s, (addP q.a q.b q.c q.d q.e q.f q.h o.s e.l o.v o.t q.e).k), 0))) := by
  have hlt := hown.lt
  have vnil : Vs w w.heap.size [] none 0 := ⟨Nat.le_refl _, by simp, fun _ => rfl, Rd.nil _ _ _, fun x h => by cases h⟩
  have hvs := ((hV e (lkE_some hl).1).1.vs)
  obtain ⟨y0, y1, b2⟩ := boxes2 q o w
  obtain ⟨x0, x1, x2, b3, z3⟩ := boxes3 q o e.s (.slice e.A e.l.length e.c) w
  obtain ⟨qa, qb, qc, qd, qe, qf, qh⟩ := q
  obtain ⟨k, s, v, t⟩ := o
  simp only [] at x0 x1 x2 y0 y1 b2 b3 z3 hl hk ⊢
  subst hk
  have hs : s.size ≤ maxLen := hf.2.1
  have hL := len_eq (own_below hown b3)
  have hc := fun w' (hb : Below w.heap.size w w') => put_own qa qb qc qd qe qf qh s e.l e.A e.c v t w' (hvs.at_world hb) ⟨hf.2.2.1, hf.2.2.2⟩
  generalize hr : addP qa qb qc qd qe qf qh s e.l v t qe = r at hc ⊢
  obtain ⟨rb, rs, rk, rd⟩ := r
  delta PutOwn at hc
  dsimp only [List.length_nil] at hc
  generalize hR : (if rb ≠ 0 then (es.map pe, rb) else (put (es.map pe) (s, rk), 0)) = R
  have HR := vers.lay hR
  clear hR
  have hrs : rb = 0 → rs = s := fun h0 => by
    have := addP_name (a := qa) (b := qb) (c := qc) (d := qd) (e := qe) (f := qf) (h := qh) (s := s) (l := e.l) (v := v) (t := t) (kp := qe) (by rw [hr]; exact h0)
    rw [hr] at this
    exact this
  clear hr
  obtain ⟨n0, n1, n2, n3, nz⟩ := boxes3 ⟨qa, qb, qc, qd, qe, qf, qh⟩ ⟨1, s, v, t⟩ s (.slice e.A e.l.length e.c) w
  simp only [] at n0 n1 n2 n3 nz
  go_enter Try.func142, Try.ntmps142
  go_wp2_with (first | (at_lookup; refine wp_look_some _ rfl _ _ rfl rfl ((hown.alloc _).alloc _) rfl hs hl ?_))
  refine (hc _ n3).mono ?_
  rintro e1 w4 ⟨u, u', rfl, hb4, ho1, ho2, _⟩
  rw [nz] at ho1 ho2
  have m0 := n0.below hb4 n0.lt
  have m1 := n1.below hb4 n1.lt
  have m2 := n2.below hb4 n2.lt
  have hb5 := n3.trans (hb4.mono n3.size)
  have z4 := hb4.size
  rw [nz] at z4
  have own4 := own_below hown hb5
  have g0 := m2.frozen 0
  have g1 := m2.frozen 1
  have e0 := m2.cell 0
  have e1 := m2.cell 1
  have c1 := m1.cell 1
  simp only [List.getElem?_toArray, List.getElem?_cons_zero, List.getElem?_cons_succ] at e0 e1 c1
  have lw := m2.lt
  have hne : ms ≠ w.heap.size + 2 := by omega
  obtain ⟨A', c', rfl, hV'⟩ := own_vs ho1
  by_cases hb : rb = 0
  · obtain rfl := hrs hb
    subst hb
    go_wp2_with (first | (at_mapUpdate; refine wp_store _ rfl _ _ _ rfl rfl ((own4.setCell hne _).setCell hne _) (by unfold maxLen; omega) rfl hs rfl ?_; intro w5 hown5 hg5))
    go_ret
    obtain rfl := HR.out
    rw [if_neg (by simp)]
    have hk5 : Keep (fun g => g = ms) w w5 := (Keep.of_below (S := fun g => g = ms) ((hb5.setCell (p := ⟨w.heap.size + 2, 0, none⟩) (by simp) _).setCell (p := ⟨w.heap.size + 2, 1, none⟩) (by simp) _)).trans (keep_grown hg5) (fun g hg _ => hg)
    refine ⟨rfl, ⟨fun g => Y g ∨ (w.heap.size ≤ g ∧ g < w5.heap.size), ⟨_, putE_pe es ⟨rs, rk, A', c'⟩, hown5, fun x hx => ?_, fun g hg => ?_⟩, fun g hg => hg.imp id (fun h => h.1)⟩, hk5⟩
    · rcases putE_mem hx with rfl | hx
      · refine ⟨(hV'.agree (w' := w5) fun g hg => ?_).mono fun g hg => .inr ⟨by omega, ?_⟩, hs⟩
        · rw [hg5.block g (by simpa using hg.2) (by simp; omega), Below.heap_setCell _ _ _ _ (by simp; omega), Below.heap_setCell _ _ _ _ (by simp; omega)]
        · have := hg5.size
          simp at this
          omega
      · have h1 := hV x hx
        exact ⟨(h1.1.agree (hk5.agree fun g hg => hY g hg)).mono fun g hg => .inl hg, h1.2⟩
    · rcases hg with hg | hg
      · exact ⟨Nat.lt_of_lt_of_le (hY g hg).1 hk5.size, (hY g hg).2⟩
      · exact ⟨hg.2, by omega⟩
  · have d2 := eq_no hb
    have d3 := ne_yes hb
    go_wp2_with fail
    go_ret
    obtain rfl := HR.out
    rw [if_pos hb]
    have hb6 := (hb5.setCell (p := ⟨w.heap.size + 2, 0, none⟩) (by simp) (.string rs)).setCell (p := ⟨w.heap.size + 2, 1, none⟩) (by simp) (.slice A' rk.length c')
    exact ⟨rfl, ⟨Y, hS.below hb6, fun g hg => .inl hg⟩, Keep.of_below hb6⟩

set_option maxRecDepth 100000 in
set_option maxHeartbeats 2000000 in
theorem renew_some2 (q : Qt) (o : O) (ms : Nat) (Y : Nat → Prop) (es : List E) (e : E) (w : World) (hS : SAt w ms Y (es.map pe)) (hown : Own w ms es) (hV : ∀ e ∈ es, VsF w Y e.l e.A e.c ∧ e.s.size ≤ maxLen) (hY : ∀ g, Y g → g < w.heap.size ∧ g ≠ ms) (hf : o.fits) (hl : lkE es o.s = some e) (hk : o.k = 2) (hlen : es.length ≤ 1000000) :
    Calls Try.prog 142 #[.map (some ms), .agg #[.int .i64 q.a, .int .i64 q.b, .int .i64 q.c, .int .i64 q.d, .int .i64 q.e, .int .i64 q.f, .int .i64 q.h], .agg #[.int .i64 o.k, .string o.s, .string o.v, .string o.t]] w (SPost w ms Y (if (addP q.a q.b q.c q.d q.e q.f q.h o.s e.l o.v o.t 1).bad ≠ 0 then (es.map pe, (addP q.a q.b q.c q.d q.e q.f q.h o.s e.l o.v o.t 1).bad) else (put (es.map pe) (o.s, (addP q.a q.b q.c q.d q.e q.f q.h o.s e.l o.v o.t 1).k), 0))) := by
  have hlt := hown.lt
  have vnil : Vs w w.heap.size [] none 0 := ⟨Nat.le_refl _, by simp, fun _ => rfl, Rd.nil _ _ _, fun x h => by cases h⟩
  have hvs := ((hV e (lkE_some hl).1).1.vs)
  obtain ⟨y0, y1, b2⟩ := boxes2 q o w
  obtain ⟨x0, x1, x2, b3, z3⟩ := boxes3 q o e.s (.slice e.A e.l.length e.c) w
  obtain ⟨qa, qb, qc, qd, qe, qf, qh⟩ := q
  obtain ⟨k, s, v, t⟩ := o
  simp only [] at x0 x1 x2 y0 y1 b2 b3 z3 hl hk ⊢
  subst hk
  have hs : s.size ≤ maxLen := hf.2.1
  have hL := len_eq (own_below hown b3)
  have hc := fun w' (hb : Below w.heap.size w w') => over_own qa qb qc qd qe qf qh s e.l e.A e.c v t w' (hvs.at_world hb) ⟨hf.2.2.1, hf.2.2.2⟩
  generalize hr : addP qa qb qc qd qe qf qh s e.l v t 1 = r at hc ⊢
  obtain ⟨rb, rs, rk, rd⟩ := r
  delta PutOwn at hc
  dsimp only [List.length_nil] at hc
  generalize hR : (if rb ≠ 0 then (es.map pe, rb) else (put (es.map pe) (s, rk), 0)) = R
  have HR := vers.lay hR
  clear hR
  have hrs : rb = 0 → rs = s := fun h0 => by
    have := addP_name (a := qa) (b := qb) (c := qc) (d := qd) (e := qe) (f := qf) (h := qh) (s := s) (l := e.l) (v := v) (t := t) (kp := 1) (by rw [hr]; exact h0)
    rw [hr] at this
    exact this
  clear hr
  obtain ⟨n0, n1, n2, n3, nz⟩ := boxes3 ⟨qa, qb, qc, qd, qe, qf, qh⟩ ⟨2, s, v, t⟩ s (.slice e.A e.l.length e.c) w
  simp only [] at n0 n1 n2 n3 nz
  go_enter Try.func142, Try.ntmps142
  go_wp2_with (first | (at_lookup; refine wp_look_some _ rfl _ _ rfl rfl ((hown.alloc _).alloc _) rfl hs hl ?_))
  refine (hc _ n3).mono ?_
  rintro e1 w4 ⟨u, u', rfl, hb4, ho1, ho2, _⟩
  rw [nz] at ho1 ho2
  have m0 := n0.below hb4 n0.lt
  have m1 := n1.below hb4 n1.lt
  have m2 := n2.below hb4 n2.lt
  have hb5 := n3.trans (hb4.mono n3.size)
  have z4 := hb4.size
  rw [nz] at z4
  have own4 := own_below hown hb5
  have g0 := m2.frozen 0
  have g1 := m2.frozen 1
  have e0 := m2.cell 0
  have e1 := m2.cell 1
  have c1 := m1.cell 1
  simp only [List.getElem?_toArray, List.getElem?_cons_zero, List.getElem?_cons_succ] at e0 e1 c1
  have lw := m2.lt
  have hne : ms ≠ w.heap.size + 2 := by omega
  obtain ⟨A', c', rfl, hV'⟩ := own_vs ho1
  by_cases hb : rb = 0
  · obtain rfl := hrs hb
    subst hb
    go_wp2_with (first | (at_mapUpdate; refine wp_store _ rfl _ _ _ rfl rfl ((own4.setCell hne _).setCell hne _) (by unfold maxLen; omega) rfl hs rfl ?_; intro w5 hown5 hg5))
    go_ret
    obtain rfl := HR.out
    rw [if_neg (by simp)]
    have hk5 : Keep (fun g => g = ms) w w5 := (Keep.of_below (S := fun g => g = ms) ((hb5.setCell (p := ⟨w.heap.size + 2, 0, none⟩) (by simp) _).setCell (p := ⟨w.heap.size + 2, 1, none⟩) (by simp) _)).trans (keep_grown hg5) (fun g hg _ => hg)
    refine ⟨rfl, ⟨fun g => Y g ∨ (w.heap.size ≤ g ∧ g < w5.heap.size), ⟨_, putE_pe es ⟨rs, rk, A', c'⟩, hown5, fun x hx => ?_, fun g hg => ?_⟩, fun g hg => hg.imp id (fun h => h.1)⟩, hk5⟩
    · rcases putE_mem hx with rfl | hx
      · refine ⟨(hV'.agree (w' := w5) fun g hg => ?_).mono fun g hg => .inr ⟨by omega, ?_⟩, hs⟩
        · rw [hg5.block g (by simpa using hg.2) (by simp; omega), Below.heap_setCell _ _ _ _ (by simp; omega), Below.heap_setCell _ _ _ _ (by simp; omega)]
        · have := hg5.size
          simp at this
          omega
      · have h1 := hV x hx
        exact ⟨(h1.1.agree (hk5.agree fun g hg => hY g hg)).mono fun g hg => .inl hg, h1.2⟩
    · rcases hg with hg | hg
      · exact ⟨Nat.lt_of_lt_of_le (hY g hg).1 hk5.size, (hY g hg).2⟩
      · exact ⟨hg.2, by omega⟩
  · have d2 := eq_no hb
    have d3 := ne_yes hb
    go_wp2_with fail
    go_ret
    obtain rfl := HR.out
    rw [if_pos hb]
    have hb6 := (hb5.setCell (p := ⟨w.heap.size + 2, 0, none⟩) (by simp) (.string rs)).setCell (p := ⟨w.heap.size + 2, 1, none⟩) (by simp) (.slice A' rk.length c')
    exact ⟨rfl, ⟨Y, hS.below hb6, fun g hg => .inl hg⟩, Keep.of_below hb6⟩

set_option maxRecDepth 100000 in
set_option maxHeartbeats 2000000 in
theorem renew_none1 (q : Qt) (o : O) (ms : Nat) (Y : Nat → Prop) (es : List E) (w : World) (hS : SAt w ms Y (es.map pe)) (hown : Own w ms es) (hV : ∀ e ∈ es, VsF w Y e.l e.A e.c ∧ e.s.size ≤ maxLen) (hY : ∀ g, Y g → g < w.heap.size ∧ g ≠ ms) (hf : o.fits) (hl : lkE es o.s = none) (hq : (es.length : Int) ≠ q.a) (hk : o.k = 1) (hlen : es.length ≤ 1000000) :
    Calls Try.prog 142 #[.map (some ms), .agg #[.int .i64 q.a, .int .i64 q.b, .int .i64 q.c, .int .i64 q.d, .int .i64 q.e, .int .i64 q.f, .int .i64 q.h], .agg #[.int .i64 o.k, .string o.s, .string o.v, .string o.t]] w (SPost w ms Y (if (addP q.a q.b q.c q.d q.e q.f q.h o.s [] o.v o.t q.e).bad ≠ 0 then (es.map pe, (addP q.a q.b q.c q.d q.e q.f q.h o.s [] o.v o.t q.e).bad) else (put (es.map pe) (o.s, (addP q.a q.b q.c q.d q.e q.f q.h o.s [] o.v o.t q.e).k), 0))) := by
  have hlt := hown.lt
  have vnil : Vs w w.heap.size [] none 0 := ⟨Nat.le_refl _, by simp, fun _ => rfl, Rd.nil _ _ _, fun x h => by cases h⟩
  have hvs := vnil
  obtain ⟨y0, y1, b2⟩ := boxes2 q o w
  obtain ⟨x0, x1, x2, b3, z3⟩ := boxes3 q o ⟨#[]⟩ (.slice none 0 0) w
  obtain ⟨qa, qb, qc, qd, qe, qf, qh⟩ := q
  obtain ⟨k, s, v, t⟩ := o
  simp only [] at x0 x1 x2 y0 y1 b2 b3 z3 hl hk ⊢
  subst hk
  have hs : s.size ≤ maxLen := hf.2.1
  have hL := len_eq (own_below hown b3)
  simp only [] at hq
  have d1 := eq_no hq
  have hc := fun w' (hb : Below w.heap.size w w') => put_own qa qb qc qd qe qf qh s [] none 0 v t w' (hvs.at_world hb) ⟨hf.2.2.1, hf.2.2.2⟩
  generalize hr : addP qa qb qc qd qe qf qh s [] v t qe = r at hc ⊢
  obtain ⟨rb, rs, rk, rd⟩ := r
  delta PutOwn at hc
  dsimp only [List.length_nil] at hc
  generalize hR : (if rb ≠ 0 then (es.map pe, rb) else (put (es.map pe) (s, rk), 0)) = R
  have HR := vers.lay hR
  clear hR
  have hrs : rb = 0 → rs = s := fun h0 => by
    have := addP_name (a := qa) (b := qb) (c := qc) (d := qd) (e := qe) (f := qf) (h := qh) (s := s) (l := []) (v := v) (t := t) (kp := qe) (by rw [hr]; exact h0)
    rw [hr] at this
    exact this
  clear hr
  obtain ⟨n0, n1, n2, n3, nz⟩ := boxes3 ⟨qa, qb, qc, qd, qe, qf, qh⟩ ⟨1, s, v, t⟩ s (.slice none 0 0) w
  simp only [] at n0 n1 n2 n3 nz
  go_enter Try.func142, Try.ntmps142
  go_wp2_with (first | (at_lookup; refine wp_look_none _ rfl _ _ rfl rfl ((hown.alloc _).alloc _) rfl hs hl ?_))
  refine (hc _ n3).mono ?_
  rintro e1 w4 ⟨u, u', rfl, hb4, ho1, ho2, _⟩
  rw [nz] at ho1 ho2
  have m0 := n0.below hb4 n0.lt
  have m1 := n1.below hb4 n1.lt
  have m2 := n2.below hb4 n2.lt
  have hb5 := n3.trans (hb4.mono n3.size)
  have z4 := hb4.size
  rw [nz] at z4
  have own4 := own_below hown hb5
  have g0 := m2.frozen 0
  have g1 := m2.frozen 1
  have e0 := m2.cell 0
  have e1 := m2.cell 1
  have c1 := m1.cell 1
  simp only [List.getElem?_toArray, List.getElem?_cons_zero, List.getElem?_cons_succ] at e0 e1 c1
  have lw := m2.lt
  have hne : ms ≠ w.heap.size + 2 := by omega
  obtain ⟨A', c', rfl, hV'⟩ := own_vs ho1
  by_cases hb : rb = 0
  · obtain rfl := hrs hb
    subst hb
    go_wp2_with (first | (at_mapUpdate; refine wp_store _ rfl _ _ _ rfl rfl ((own4.setCell hne _).setCell hne _) (by unfold maxLen; omega) rfl hs rfl ?_; intro w5 hown5 hg5))
    go_ret
    obtain rfl := HR.out
    rw [if_neg (by simp)]
    have hk5 : Keep (fun g => g = ms) w w5 := (Keep.of_below (S := fun g => g = ms) ((hb5.setCell (p := ⟨w.heap.size + 2, 0, none⟩) (by simp) _).setCell (p := ⟨w.heap.size + 2, 1, none⟩) (by simp) _)).trans (keep_grown hg5) (fun g hg _ => hg)
    refine ⟨rfl, ⟨fun g => Y g ∨ (w.heap.size ≤ g ∧ g < w5.heap.size), ⟨_, putE_pe es ⟨rs, rk, A', c'⟩, hown5, fun x hx => ?_, fun g hg => ?_⟩, fun g hg => hg.imp id (fun h => h.1)⟩, hk5⟩
    · rcases putE_mem hx with rfl | hx
      · refine ⟨(hV'.agree (w' := w5) fun g hg => ?_).mono fun g hg => .inr ⟨by omega, ?_⟩, hs⟩
        · rw [hg5.block g (by simpa using hg.2) (by simp; omega), Below.heap_setCell _ _ _ _ (by simp; omega), Below.heap_setCell _ _ _ _ (by simp; omega)]
        · have := hg5.size
          simp at this
          omega
      · have h1 := hV x hx
        exact ⟨(h1.1.agree (hk5.agree fun g hg => hY g hg)).mono fun g hg => .inl hg, h1.2⟩
    · rcases hg with hg | hg
      · exact ⟨Nat.lt_of_lt_of_le (hY g hg).1 hk5.size, (hY g hg).2⟩
      · exact ⟨hg.2, by omega⟩
  · have d2 := eq_no hb
    have d3 := ne_yes hb
    go_wp2_with fail
    go_ret
    obtain rfl := HR.out
    rw [if_pos hb]
    have hb6 := (hb5.setCell (p := ⟨w.heap.size + 2, 0, none⟩) (by simp) (.string rs)).setCell (p := ⟨w.heap.size + 2, 1, none⟩) (by simp) (.slice A' rk.length c')
    exact ⟨rfl, ⟨Y, hS.below hb6, fun g hg => .inl hg⟩, Keep.of_below hb6⟩

set_option maxRecDepth 100000 in
set_option maxHeartbeats 2000000 in
theorem renew_none2 (q : Qt) (o : O) (ms : Nat) (Y : Nat → Prop) (es : List E) (w : World) (hS : SAt w ms Y (es.map pe)) (hown : Own w ms es) (hV : ∀ e ∈ es, VsF w Y e.l e.A e.c ∧ e.s.size ≤ maxLen) (hY : ∀ g, Y g → g < w.heap.size ∧ g ≠ ms) (hf : o.fits) (hl : lkE es o.s = none) (hq : (es.length : Int) ≠ q.a) (hk : o.k = 2) (hlen : es.length ≤ 1000000) :
    Calls Try.prog 142 #[.map (some ms), .agg #[.int .i64 q.a, .int .i64 q.b, .int .i64 q.c, .int .i64 q.d, .int .i64 q.e, .int .i64 q.f, .int .i64 q.h], .agg #[.int .i64 o.k, .string o.s, .string o.v, .string o.t]] w (SPost w ms Y (if (addP q.a q.b q.c q.d q.e q.f q.h o.s [] o.v o.t 1).bad ≠ 0 then (es.map pe, (addP q.a q.b q.c q.d q.e q.f q.h o.s [] o.v o.t 1).bad) else (put (es.map pe) (o.s, (addP q.a q.b q.c q.d q.e q.f q.h o.s [] o.v o.t 1).k), 0))) := by
  have hlt := hown.lt
  have vnil : Vs w w.heap.size [] none 0 := ⟨Nat.le_refl _, by simp, fun _ => rfl, Rd.nil _ _ _, fun x h => by cases h⟩
  have hvs := vnil
  obtain ⟨y0, y1, b2⟩ := boxes2 q o w
  obtain ⟨x0, x1, x2, b3, z3⟩ := boxes3 q o ⟨#[]⟩ (.slice none 0 0) w
  obtain ⟨qa, qb, qc, qd, qe, qf, qh⟩ := q
  obtain ⟨k, s, v, t⟩ := o
  simp only [] at x0 x1 x2 y0 y1 b2 b3 z3 hl hk ⊢
  subst hk
  have hs : s.size ≤ maxLen := hf.2.1
  have hL := len_eq (own_below hown b3)
  simp only [] at hq
  have d1 := eq_no hq
  have hc := fun w' (hb : Below w.heap.size w w') => over_own qa qb qc qd qe qf qh s [] none 0 v t w' (hvs.at_world hb) ⟨hf.2.2.1, hf.2.2.2⟩
  generalize hr : addP qa qb qc qd qe qf qh s [] v t 1 = r at hc ⊢
  obtain ⟨rb, rs, rk, rd⟩ := r
  delta PutOwn at hc
  dsimp only [List.length_nil] at hc
  generalize hR : (if rb ≠ 0 then (es.map pe, rb) else (put (es.map pe) (s, rk), 0)) = R
  have HR := vers.lay hR
  clear hR
  have hrs : rb = 0 → rs = s := fun h0 => by
    have := addP_name (a := qa) (b := qb) (c := qc) (d := qd) (e := qe) (f := qf) (h := qh) (s := s) (l := []) (v := v) (t := t) (kp := 1) (by rw [hr]; exact h0)
    rw [hr] at this
    exact this
  clear hr
  obtain ⟨n0, n1, n2, n3, nz⟩ := boxes3 ⟨qa, qb, qc, qd, qe, qf, qh⟩ ⟨2, s, v, t⟩ s (.slice none 0 0) w
  simp only [] at n0 n1 n2 n3 nz
  go_enter Try.func142, Try.ntmps142
  go_wp2_with (first | (at_lookup; refine wp_look_none _ rfl _ _ rfl rfl ((hown.alloc _).alloc _) rfl hs hl ?_))
  refine (hc _ n3).mono ?_
  rintro e1 w4 ⟨u, u', rfl, hb4, ho1, ho2, _⟩
  rw [nz] at ho1 ho2
  have m0 := n0.below hb4 n0.lt
  have m1 := n1.below hb4 n1.lt
  have m2 := n2.below hb4 n2.lt
  have hb5 := n3.trans (hb4.mono n3.size)
  have z4 := hb4.size
  rw [nz] at z4
  have own4 := own_below hown hb5
  have g0 := m2.frozen 0
  have g1 := m2.frozen 1
  have e0 := m2.cell 0
  have e1 := m2.cell 1
  have c1 := m1.cell 1
  simp only [List.getElem?_toArray, List.getElem?_cons_zero, List.getElem?_cons_succ] at e0 e1 c1
  have lw := m2.lt
  have hne : ms ≠ w.heap.size + 2 := by omega
  obtain ⟨A', c', rfl, hV'⟩ := own_vs ho1
  by_cases hb : rb = 0
  · obtain rfl := hrs hb
    subst hb
    go_wp2_with (first | (at_mapUpdate; refine wp_store _ rfl _ _ _ rfl rfl ((own4.setCell hne _).setCell hne _) (by unfold maxLen; omega) rfl hs rfl ?_; intro w5 hown5 hg5))
    go_ret
    obtain rfl := HR.out
    rw [if_neg (by simp)]
    have hk5 : Keep (fun g => g = ms) w w5 := (Keep.of_below (S := fun g => g = ms) ((hb5.setCell (p := ⟨w.heap.size + 2, 0, none⟩) (by simp) _).setCell (p := ⟨w.heap.size + 2, 1, none⟩) (by simp) _)).trans (keep_grown hg5) (fun g hg _ => hg)
    refine ⟨rfl, ⟨fun g => Y g ∨ (w.heap.size ≤ g ∧ g < w5.heap.size), ⟨_, putE_pe es ⟨rs, rk, A', c'⟩, hown5, fun x hx => ?_, fun g hg => ?_⟩, fun g hg => hg.imp id (fun h => h.1)⟩, hk5⟩
    · rcases putE_mem hx with rfl | hx
      · refine ⟨(hV'.agree (w' := w5) fun g hg => ?_).mono fun g hg => .inr ⟨by omega, ?_⟩, hs⟩
        · rw [hg5.block g (by simpa using hg.2) (by simp; omega), Below.heap_setCell _ _ _ _ (by simp; omega), Below.heap_setCell _ _ _ _ (by simp; omega)]
        · have := hg5.size
          simp at this
          omega
      · have h1 := hV x hx
        exact ⟨(h1.1.agree (hk5.agree fun g hg => hY g hg)).mono fun g hg => .inl hg, h1.2⟩
    · rcases hg with hg | hg
      · exact ⟨Nat.lt_of_lt_of_le (hY g hg).1 hk5.size, (hY g hg).2⟩
      · exact ⟨hg.2, by omega⟩
  · have d2 := eq_no hb
    have d3 := ne_yes hb
    go_wp2_with fail
    go_ret
    obtain rfl := HR.out
    rw [if_pos hb]
    have hb6 := (hb5.setCell (p := ⟨w.heap.size + 2, 0, none⟩) (by simp) (.string rs)).setCell (p := ⟨w.heap.size + 2, 1, none⟩) (by simp) (.slice A' rk.length c')
    exact ⟨rfl, ⟨Y, hS.below hb6, fun g hg => .inl hg⟩, Keep.of_below hb6⟩

end Go.Proofs.Ytjlglfjikfpboaa.books

/- book's renew as a whole; play. -/

namespace Go.Proofs.Ytjlglfjikfpboaa.books
set_option linter.unusedVariables false
set_option linter.unusedSimpArgs false
open Go.RowKit Go.Proofs.Ytjlglfjikfpboaa.base Go.Proofs.Ytjlglfjikfpboaa.quotas Go.Proofs.Ytjlglfjikfpboaa.vers Go.Proofs.Ytjlglfjikfpboaa.nodes Go.Proofs.Ytjlglfjikfpboaa.trees

def takeP (L : List PB) (s : ByteArray) : List PB × Int := match lk L s with | none => (L, 3) | some _ => (del L s, 0)
theorem take_any (s : ByteArray) (ms : Nat) (Y : Nat → Prop) (L : List PB) (w : World) (hS : SAt w ms Y L) (hs : s.size ≤ maxLen) :
    Calls Try.prog 141 #[.map (some ms), .string s] w (SPost w ms Y (takeP L s)) := take_ok s ms Y L w hS hs
theorem oneP_eq (q : Qt) (L : List PB) (o : O) : oneP q L o = if rightO q o ≠ 0 then (L, rightO q o) else if o.k = 3 then takeP L o.s else renewP q L o := rfl

theorem renew_ok (q : Qt) (o : O) (ms : Nat) (Y : Nat → Prop) (L : List PB) (w : World) (hS : SAt w ms Y L) (hf : o.fits) (hk : o.k = 1 ∨ o.k = 2) (hlen : L.length ≤ 1000000) :
    Calls Try.prog 142 #[.map (some ms), .agg #[.int .i64 q.a, .int .i64 q.b, .int .i64 q.c, .int .i64 q.d, .int .i64 q.e, .int .i64 q.f, .int .i64 q.h], .agg #[.int .i64 o.k, .string o.s, .string o.v, .string o.t]] w (SPost w ms Y (renewP q L o)) := by
  have hS0 := hS
  obtain ⟨es, rfl, hown, hV, hY⟩ := hS0
  rw [List.length_map] at hlen
  cases hl : lkE es o.s with
  | none =>
    have e0 : lk (es.map pe) o.s = none := by rw [lkE_pe, hl]; rfl
    by_cases hq : (es.length : Int) = q.a
    · unfold renewP
      rw [if_pos ⟨e0, by rw [List.length_map]; exact hq⟩]
      exact renew_full q o ms Y es w hS hown hf hl hq
    · unfold renewP newP
      rw [if_neg (fun h => hq (by have := h.2; rwa [List.length_map] at this)), e0]
      simp only [Option.getD_none]
      rcases hk with hk | hk
      · rw [if_neg (show ¬ o.k = 2 by omega)]
        exact renew_none1 q o ms Y es w hS hown hV hY hf hl hq hk hlen
      · rw [if_pos (show o.k = 2 from hk)]
        exact renew_none2 q o ms Y es w hS hown hV hY hf hl hq hk hlen
  | some e =>
    have e0 : lk (es.map pe) o.s = some e.l := by rw [lkE_pe, hl]; rfl
    unfold renewP newP
    rw [if_neg (fun h => by rw [e0] at h; cases h.1), e0]
    simp only [Option.getD_some]
    rcases hk with hk | hk
    · rw [if_neg (show ¬ o.k = 2 by omega)]
      exact renew_some1 q o ms Y es e w hS hown hV hY hf hl hk hlen
    · rw [if_pos (show o.k = 2 from hk)]
      exact renew_some2 q o ms Y es e w hS hown hV hY hf hl hk hlen
theorem SPost.from {w w1 w' : World} {ms : Nat} {Y : Nat → Prop} {r : List PB × Int} {e : Ending} (hb : Below w.heap.size w w1) (h : SPost w1 ms Y r e w') : SPost w ms Y r e w' := by
  obtain ⟨h1, ⟨Y', h2, h3⟩, h4⟩ := h
  exact ⟨h1, ⟨Y', h2, fun g hg => (h3 g hg).imp id (fun h => Nat.le_trans hb.size h)⟩, (Keep.of_below (S := fun g => g = ms) hb).trans h4 (fun g hg _ => hg)⟩
theorem rightO_kind {q : Qt} {o : O} (h : rightO q o = 0) : o.k = 1 ∨ o.k = 2 ∨ o.k = 3 := by
  unfold rightO at h
  by_cases h1 : o.k ≠ 1 ∧ o.k ≠ 2 ∧ o.k ≠ 3
  · rw [if_pos h1] at h; cases h
  · omega

set_option maxRecDepth 100000 in
set_option maxHeartbeats 2000000 in
theorem play_ok (q : Qt) (o : O) (ms : Nat) (Y : Nat → Prop) (L : List PB) (w : World) (hS : SAt w ms Y L) (hf : o.fits) (hlen : L.length ≤ 1000000) :
    Calls Try.prog 106 #[.map (some ms), .agg #[.int .i64 q.a, .int .i64 q.b, .int .i64 q.c, .int .i64 q.d, .int .i64 q.e, .int .i64 q.f, .int .i64 q.h], .agg #[.int .i64 o.k, .string o.s, .string o.v, .string o.t]] w (SPost w ms Y (oneP q L o)) := by
  have hr := fun w' => right_any q o w'
  have hn := fun w' (h : SAt w' ms Y L) (hk : o.k = 1 ∨ o.k = 2) => renew_ok q o ms Y L w' h hf hk hlen
  have ht := fun w' (h : SAt w' ms Y L) => take_any o.s ms Y L w' h hf.2.1
  have hkd := rightO_kind (q := q) (o := o)
  obtain ⟨y0, y1, b2⟩ := boxes2 q o w
  rw [oneP_eq]
  generalize rightO q o = rr at hr hkd ⊢
  generalize renewP q L o = rn at hn ⊢
  generalize takeP L o.s = rt at ht ⊢
  generalize hR : (if rr ≠ 0 then (L, rr) else if o.k = 3 then rt else rn) = R
  have HR := vers.lay hR
  clear hR
  obtain ⟨qa, qb, qc, qd, qe, qf, qh⟩ := q
  obtain ⟨k, s, v, t⟩ := o
  simp only [] at y0 y1 b2 hr hn ht hkd HR ⊢
  go_enter Try.func106, Try.ntmps106
  go_wp2_with fail
  refine (hr _).mono ?_
  rintro e1 w1 ⟨rfl, hb1⟩
  have b3 := b2.trans (hb1.mono b2.size)
  have m0 := y0.below hb1 y0.lt
  have m1 := y1.below hb1 y1.lt
  have c0 := m1.cell 0
  have c1 := m1.cell 1
  have c2 := m1.cell 2
  have c3 := m1.cell 3
  have q0 := m0.cell 0
  have q1 := m0.cell 1
  have q2 := m0.cell 2
  have q3 := m0.cell 3
  have q4 := m0.cell 4
  have q5 := m0.cell 5
  have q6 := m0.cell 6
  simp only [List.getElem?_toArray, List.getElem?_cons_zero, List.getElem?_cons_succ] at c0 c1 c2 c3 q0 q1 q2 q3 q4 q5 q6
  have hS1 := hS.below b3
  by_cases h0 : rr = 0
  · have d0 := ne_no h0
    have hkd := hkd h0
    by_cases h3 : k = 3
    · have d3 := eq_yes h3
      obtain rfl : R = rt := by rw [← HR.out, if_neg (fun h => h h0), if_pos h3]
      clear hkd HR hn hr
      go_wp2_with fail
      refine (ht _ hS1).mono ?_
      rintro e2 w2 hp
      have hp' := hp.from b3
      obtain ⟨rfl, _, _⟩ := hp
      go_wp2_with fail
      go_ret
      exact hp'
    · have d3 := eq_no h3
      obtain rfl : R = rn := by rw [← HR.out, if_neg (fun h => h h0), if_neg h3]
      have hk' : k = 1 ∨ k = 2 := by omega
      have HK := vers.lay hk'
      clear hkd HR ht hr hk' h3
      go_wp2_with fail
      refine (hn _ hS1 HK.out).mono ?_
      rintro e2 w2 hp
      have hp' := hp.from b3
      obtain ⟨rfl, _, _⟩ := hp
      go_wp2_with fail
      go_ret
      exact hp'
  · have d0 := ne_yes h0
    obtain rfl : R = (L, rr) := by rw [← HR.out, if_pos h0]
    clear hkd HR hn hr ht
    go_wp2_with fail
    go_ret
    exact ⟨rfl, ⟨Y, hS1, fun g hg => .inl hg⟩, Keep.of_below b3⟩

end Go.Proofs.Ytjlglfjikfpboaa.books
