/- What is told of secrets, in memory: a row of it, and an append of one. -/
import Derived.Test.YtjlglfjikfpboaaBkHa


namespace Go.Proofs.Ytjlglfjikfpboaa.books
set_option linter.unusedVariables false
set_option linter.unusedSimpArgs false
open Go.RowKit Go.Shelf Go.Proofs.Ytjlglfjikfpboaa.base Go.Proofs.Ytjlglfjikfpboaa.quotas Go.Proofs.Ytjlglfjikfpboaa.vers Go.Proofs.Ytjlglfjikfpboaa.nodes Go.Proofs.Ytjlglfjikfpboaa.trees Go.Proofs.Ytjlglfjikfpboaa.texts

structure TM where
  s : ByteArray
  l : List V
  A : Option Addr
  c : Nat
  n : Int
def TM.cells (x : TM) : List Value := [.string x.s, .slice x.A x.l.length x.c, .int .i64 x.n]
def cellsT : List TM → List Value
  | [] => []
  | x :: l => x.cells ++ cellsT l
theorem cellsT_app : ∀ (l m : List TM), cellsT (l ++ m) = cellsT l ++ cellsT m
  | [], m => rfl
  | x :: l, m => by rw [List.cons_append, cellsT, cellsT_app l m, cellsT, List.append_assoc]
theorem cellsT_len : ∀ l : List TM, (cellsT l).length = l.length * 3
  | [] => rfl
  | x :: l => by rw [cellsT, List.length_append, cellsT_len l, List.length_cons]; simp [TM.cells]; omega
theorem cellsT_at : ∀ (l : List TM) {j : Nat} (hj : j < l.length), (cellsT l)[j * 3]? = some (.string l[j].s) ∧ (cellsT l)[j * 3 + 1]? = some (.slice l[j].A l[j].l.length l[j].c) ∧ (cellsT l)[j * 3 + 2]? = some (.int .i64 l[j].n)
  | x :: l, 0, _ => ⟨rfl, rfl, rfl⟩
  | x :: l, j + 1, hj => by
    have ih := cellsT_at l (j := j) (by simpa using hj)
    have h3 : x.cells.length = 3 := rfl
    simp only [cellsT, List.getElem_cons_succ]
    refine ⟨?_, ?_, ?_⟩
    · rw [List.getElem?_append_right (by omega), h3, show (j + 1) * 3 - 3 = j * 3 by omega]; exact ih.1
    · rw [List.getElem?_append_right (by omega), h3, show (j + 1) * 3 + 1 - 3 = j * 3 + 1 by omega]; exact ih.2.1
    · rw [List.getElem?_append_right (by omega), h3, show (j + 1) * 3 + 2 - 3 = j * 3 + 2 by omega]; exact ih.2.2
def pT (x : TM) : TD := ⟨x.s, x.l, x.n⟩
/-- a row of what is told, as it is read -/
def TDs (w : World) (B : Nat) (l : List TM) (A : Option Addr) (c : Nat) : Prop := l.length ≤ c ∧ l.length * 48 ≤ 140737488355328 ∧ (A = none → c = 0) ∧ Rd w B A (cellsT l) ∧ ∀ x ∈ l, Vs w B x.l x.A x.c ∧ x.s.size ≤ maxLen
section
variable {w w' : World} {B B' : Nat} {l : List TM} {A : Option Addr} {c : Nat}
theorem TDs.nil (w : World) (B : Nat) : TDs w B [] none 0 := ⟨Nat.le_refl _, by simp, fun _ => rfl, (fun j u h => by simp [cellsT] at h), (fun x h => by cases h)⟩
theorem TDs.below (h : TDs w B l A c) (hb : Below B w w') : TDs w' B l A c := ⟨h.1, h.2.1, h.2.2.1, h.2.2.2.1.keep fun _ hp => hb.cell hp, fun x hx => ⟨(h.2.2.2.2 x hx).1.below hb, (h.2.2.2.2 x hx).2⟩⟩
theorem TDs.more (h : TDs w B l A c) (hB : B ≤ B') : TDs w B' l A c := ⟨h.1, h.2.1, h.2.2.1, h.2.2.2.1.more hB, fun x hx => ⟨(h.2.2.2.2 x hx).1.more hB, (h.2.2.2.2 x hx).2⟩⟩
theorem TDs.at_world {wr : World} (h : TDs w w.heap.size l A c) (hb : Below w.heap.size w wr) : TDs wr wr.heap.size l A c := (h.below hb).more hb.size
theorem TDs.at_ (h : TDs w B l A c) {j : Nat} (hj : j < l.length) : ∃ b off, A = some ⟨b, off, none⟩ ∧ b < B ∧ w.cell? ⟨b, off + j * 3, none⟩ = some (.string l[j].s) ∧ w.cell? ⟨b, off + j * 3 + 1, none⟩ = some (.slice l[j].A l[j].l.length l[j].c) ∧ w.cell? ⟨b, off + j * 3 + 2, none⟩ = some (.int .i64 l[j].n) ∧ Vs w B l[j].l l[j].A l[j].c ∧ l[j].s.size ≤ maxLen := by
  obtain ⟨c0, c1, c2⟩ := cellsT_at l hj
  obtain ⟨b, off, e, hb, h0⟩ := h.2.2.2.1 _ _ c0
  obtain ⟨b1, off1, e1, hb1, h1⟩ := h.2.2.2.1 _ _ c1
  obtain ⟨b2, off2, e2, hb2, h2⟩ := h.2.2.2.1 _ _ c2
  rw [e] at e1 e2
  cases e1
  cases e2
  exact ⟨b, off, e, hb, h0, by rw [Nat.add_assoc]; exact h1, by rw [Nat.add_assoc]; exact h2, h.2.2.2.2 _ (List.getElem_mem hj)⟩
end
/-- the row and its lists lie in blocks from lo on -/
def LoT (lo : Nat) (l : List TM) (A : Option Addr) : Prop := (∀ b off, A = some ⟨b, off, none⟩ → lo ≤ b) ∧ ∀ x ∈ l, ∀ b off, x.A = some ⟨b, off, none⟩ → lo ≤ b
theorem LoT.nil (lo : Nat) : LoT lo [] none := ⟨(fun b off e => by cases e), (fun x h => by cases h)⟩
theorem rd_keep {w w' : World} {B lo : Nat} {A : Option Addr} {xs : List Value} {S : Nat → Prop} (h : Rd w B A xs) (hA : ∀ b off, A = some ⟨b, off, none⟩ → lo ≤ b) (hK : Keep S w w') (hS : ∀ g, S g → g < lo) (hB : B ≤ w.heap.size) : Rd w' B A xs := fun j u hj => by
  obtain ⟨b, off, e, hb, hc⟩ := h j u hj
  exact ⟨b, off, e, hb, (hK.cell (p := ⟨b, off + j, none⟩) (by show b < _; omega) (fun hs => by have := hS b hs; have := hA b off e; omega)).trans hc⟩
theorem TDs.keep {w w' : World} {B lo : Nat} {l : List TM} {A : Option Addr} {c : Nat} {S : Nat → Prop} (h : TDs w B l A c) (hL : LoT lo l A) (hK : Keep S w w') (hS : ∀ g, S g → g < lo) (hB : B ≤ w.heap.size) : TDs w' B l A c :=
  ⟨h.1, h.2.1, h.2.2.1, rd_keep h.2.2.2.1 hL.1 hK hS hB, fun x hx => by
    obtain ⟨⟨h1, h2, h3, h4, h5⟩, h6⟩ := h.2.2.2.2 x hx
    exact ⟨⟨h1, h2, h3, rd_keep h4 (hL.2 x hx) hK hS hB, h5⟩, h6⟩⟩
theorem infoTd : (Try.prog.info? 95).map (fun i => (i.zero, i.size, i.bytes)) = some (some (.agg #[.string ⟨#[]⟩, .slice none 0 0, .int .i64 0]), 3, 48) := by kernel_rfl
/-- append of one -/
theorem wp_told {ops : Array Oper} {rest : List Oper} {o : Oper} {a : Act} {Q : Exit → Act → World → Prop} (hgd : o.guard = none) (s x : Operand) (ho : o.op = .call { callee := .builtin .append, args := #[s, x], argTypes := #[90, 90] })
    {w : World} {v : Value} {l : List TM} {e : TM} (hown : w.ownsRow 0 95 3 v l.length (cellsT l)) (hs : a.eval s = v) {q : Nat} (hx : a.eval x = .slice (some ⟨q, 0, none⟩) 1 1) (hqz : q = w.heap.size) (hlen : l.length ≤ 1000000)
    (h : ∀ v' w', w'.ownsRow 0 95 3 v' (l ++ [e]).length (cellsT (l ++ [e])) → Keep (fun g => v.ownBlock = some g) w w' → (∀ g, v'.ownBlock = some g → v.ownBlock = some g ∨ (w.heap.size ≤ g ∧ g < w'.heap.size)) → w.heap.size + 1 ≤ w'.heap.size → wpList Try.prog ops Q rest (a.put o.dst v') w') :
    wpList Try.prog ops Q (o :: rest) a (w.alloc (.cells #[.string e.s, .slice e.A e.l.length e.c, .int .i64 e.n] 95)) := by
  obtain ⟨i0, hi0, hz0, hz1, hz2⟩ := info_parts infoTd
  refine wpList_put1 Try.underlying90 hi0 hz0 hz1 hz2 rfl (by decide) hgd s x ho hown hs rfl (by intro u hu; simp at hu; rcases hu with rfl | rfl | rfl <;> rfl) hx hqz (by omega) (by unfold maxLen; omega) ?_
  intro v' w' h1 h2 h3 h4
  refine h v' w' ?_ h2 h3 h4
  rw [List.length_append, cellsT_app]
  exact h1
theorem td_rows {w : World} {v : Value} {l : List TM} (h : w.ownsRow 0 95 3 v l.length (cellsT l)) (hl : l.length * 48 ≤ 140737488355328) (hx : ∀ x ∈ l, Vs w w.heap.size x.l x.A x.c ∧ x.s.size ≤ maxLen) : ∃ A c, v = .slice A l.length c ∧ TDs w w.heap.size l A c := by
  obtain ⟨A, c, e, hc, hn, hr⟩ := row_rdF h
  exact ⟨A, c, e, hc, hl, hn, hr.rd, hx⟩
end Go.Proofs.Ytjlglfjikfpboaa.books
