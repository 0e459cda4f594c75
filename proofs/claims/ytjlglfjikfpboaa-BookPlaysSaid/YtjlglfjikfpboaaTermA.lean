/- Words for memory that the proofs of this seat share: the cells of a slice, a block that is known whole. -/
import Derived.WalkKit
import Derived.ProofKit
import Derived.OpenShut
import Derived.Laws.CopyOwn
import Derived.Laws.AppendOwnNone
import Derived.BigQuiet
import Derived.Deep.QuietTactic
import Init
import Derived.Laws.Strings
import Derived.Test.YtjlglfjikfpboaaRows
import Derived.Outline
import Derived.Lib.Hide
import Derived.Laws.BitsAllLaws
import Derived.Lib.AppendStr
import Derived.Laws.IdiomStrings
import Derived.Lib.BufferRead
import Derived.Deep.RegionHeld3


namespace Go.Proofs.Ytjlglfjikfpboaa.base
set_option linter.unusedVariables false
set_option linter.unusedSimpArgs false
open Go.RowKit

/-- the cells of a slice: where there is an element there is an address below block B, and the cell behind it holds the element -/
def Rd (w : World) (B : Nat) (A : Option Addr) (xs : List Value) : Prop :=
  ∀ j u, xs[j]? = some u → ∃ b off, A = some ⟨b, off, none⟩ ∧ b < B ∧ w.cell? ⟨b, off + j, none⟩ = some u

/-- block g holds just these cells, none of them frozen -/
def Blk (w : World) (g : Nat) (t : TypeId) (cs : Array Value) : Prop := w.heap[g]? = some (.cells cs t (0, 0))

section
variable {w w' : World} {B B' g : Nat} {A : Option Addr} {xs : List Value} {t : TypeId} {cs : Array Value}

theorem Rd.nil (w : World) (B : Nat) (A : Option Addr) : Rd w B A [] := fun j u h => by simp at h
theorem Rd.keep (h : Rd w B A xs) (hk : ∀ p : Addr, p.block < B → w'.cell? p = w.cell? p) : Rd w' B A xs := fun j u hj => by
  obtain ⟨b, off, e, hb, hc⟩ := h j u hj
  exact ⟨b, off, e, hb, (hk ⟨b, off + j, none⟩ hb).trans hc⟩
theorem Rd.more (h : Rd w B A xs) (hB : B ≤ B') : Rd w B' A xs := fun j u hj => by
  obtain ⟨b, off, e, hb, hc⟩ := h j u hj
  exact ⟨b, off, e, by omega, hc⟩
theorem Rd.below (h : Rd w B A xs) (hb : Below B w w') : Rd w' B A xs := h.keep fun _ hp => hb.cell hp
theorem Rd.alloc (h : Rd w B A xs) (hB : B ≤ w.heap.size) (o : Obj) : Rd (w.alloc o) B A xs := h.keep fun p hp => World.cell?_alloc_lt w o p (by omega)
theorem Rd.take (h : Rd w B A xs) (n : Nat) : Rd w B A (xs.take n) := fun j u hj => by
  refine h j u ?_
  rw [List.getElem?_take] at hj
  split at hj
  · exact hj
  · cases hj
theorem Rd.at_ (h : Rd w B A xs) {k : Nat} (hk : k < xs.length) : ∃ b off, A = some ⟨b, off, none⟩ ∧ b < B ∧ w.cell? ⟨b, off + k, none⟩ = some xs[k] :=
  h k _ (List.getElem?_eq_getElem hk)

theorem Blk.lt (h : Blk w g t cs) : g < w.heap.size := by
  rcases Nat.lt_or_ge g w.heap.size with hlt | hge
  · exact hlt
  · unfold Blk at h; rw [Array.getElem?_eq_none hge] at h; cases h
theorem Blk.cell (h : Blk w g t cs) (i : Nat) : w.cell? ⟨g, i, none⟩ = cs[i]? := cell_of_row w g i cs t (0, 0) h
theorem Blk.frozen (h : Blk w g t cs) (i : Nat) : w.frozen? ⟨g, i, none⟩ = false := by
  unfold Blk at h
  simp [World.frozen?, h]
theorem Blk.new (w : World) (t : TypeId) (cs : Array Value) : Blk (w.alloc (.cells cs t)) w.heap.size t cs := heap_alloc_new w _
theorem Blk.drew (h : Blk w g t cs) : Blk w.drew g t cs := h
theorem Blk.alloc (h : Blk w g t cs) (o : Obj) : Blk (w.alloc o) g t cs := (Below.heap_alloc w o g h.lt).trans h
theorem Blk.put (h : Blk w g t cs) (i : Nat) (u : Value) : Blk (w.setCell ⟨g, i, none⟩ u) g t (cs.setIfInBounds i u) := by
  unfold Blk at h ⊢
  simp [World.setCell, Array.getElem?_modify, h]
theorem Blk.far (h : Blk w g t cs) {p : Addr} (hp : g ≠ p.block) (u : Value) : Blk (w.setCell p u) g t cs := (Below.heap_setCell w p u g hp).trans h
theorem Blk.below {B : Nat} (h : Blk w g t cs) (hb : Below B w w') (hg : g < B) : Blk w' g t cs := (hb.block g hg).trans h
theorem Blk.rd (h : Blk w g t xs.toArray) (hg : g < B) : Rd w B (some ⟨g, 0, none⟩) xs := fun j u hj => ⟨g, 0, rfl, hg, by rw [h.cell]; simpa using hj⟩
end

/-- a cell that is there lies at an address without a spot -/
theorem plain_of_cell {w : World} {x : Addr} {u : Value} (h : w.cell? x = some u) : ∃ b off, x = ⟨b, off, none⟩ := by
  obtain ⟨b, off, sp⟩ := x
  cases sp with
  | none => exact ⟨b, off, rfl⟩
  | some q =>
    exfalso
    unfold World.cell? at h
    split at h <;> simp at h
theorem add_plain (b off j : Nat) : (⟨b, off, none⟩ : Addr).add j = ⟨b, off + j, none⟩ := by
  unfold Addr.add
  split <;> simp_all

/-- a slice of integers that came in: its elements -/
theorem of_row {k : IntKind} {w : World} {a : Option Addr} {len cap : Nat} {zs : List Int}
    (h : (a = none ∧ len = 0 ∧ cap = 0 ∧ zs = []) ∨
      ∃ x, a = some x ∧ len ≤ cap ∧ cap ≤ maxLen ∧ zs.length = cap ∧ (∀ i, i < zs.length → w.cell? (x.add i) = some (.int k (zs.getD i 0))) ∧ ∀ n ∈ zs, (Lit.int k n).wf = true) :
    Rd w w.heap.size a ((zs.take len).map (Value.int k)) ∧ (zs.take len).length = len ∧ len ≤ cap ∧ (a = none → cap = 0) ∧ len ≤ maxLen ∧ ∀ n ∈ zs.take len, (Lit.int k n).wf = true := by
  rcases h with ⟨rfl, rfl, rfl, rfl⟩ | ⟨x, rfl, h1, h2, h3, h4, h5⟩
  · exact ⟨by simpa using Rd.nil w _ _, rfl, Nat.le_refl _, fun _ => rfl, Nat.zero_le _, fun n hn => by simp at hn⟩
  · refine ⟨fun j u hj => ?_, by simp; omega, h1, fun h => by simp at h, by omega, fun n hn => h5 n (List.mem_of_mem_take hn)⟩
    rw [List.getElem?_map, List.getElem?_take] at hj
    split at hj
    · rename_i hlt
      have hc := h4 j (by omega)
      have hc0 := h4 0 (by omega)
      rw [show x.add 0 = x by simp [Addr.add]] at hc0
      obtain ⟨b, off, rfl⟩ := plain_of_cell hc0
      refine ⟨b, off, rfl, World.block_lt_of_cell? w _ hc0, ?_⟩
      rw [add_plain] at hc
      rw [hc]
      rw [List.getElem?_eq_getElem (by omega)] at hj
      simp only [Option.map_some, Option.some.injEq] at hj
      rw [← hj, List.getD_eq_getElem?_getD, List.getElem?_eq_getElem (by omega)]
      rfl
    · simp at hj

/-- append onto a row of the call's own, from any slice whose cells are known, nil too -/
theorem wpList_append_rd {P : Program} {w : World} {ops : Array Oper} {rest : List Oper} {o : Oper} {a : Act} {Q : Exit → Act → World → Prop} (hgd : o.guard = none) (s x : Operand) (t : TypeId)
    (ho : o.op = .call { callee := .builtin .append, args := #[s, x], argTypes := #[t, t] })
    (base : Nat) (e : TypeId) (i : TypeInfo) (z : Value) (bytes : Nat) (ht : P.underlying t = some (.slice e)) (hi : P.info? e = some i) (hz : i.zero = some z)
    (hsize : i.size = 1) (hby : i.bytes = bytes) (hzs : z.cells.size = 1)
    (v : Value) (n : Nat) (xs : List Value) (hs : a.eval s = v) (hown : w.ownsRow base e 1 v n xs)
    (B : Nat) (A : Option Addr) (m c : Nat) (news : List Value) (hx : a.eval x = .slice A m c) (hA : A = none → c = 0) (hl : news.length = m) (hr : Rd w B A news) (h1 : ∀ u ∈ news, u.oneCell' = true)
    (h63 : n + m ≤ maxLen) (hbytes : (n + m) * bytes ≤ 140737488355328) (hbase : base ≤ w.heap.size)
    (h : ∀ v' w', w'.ownsRow base e 1 v' (n + m) (xs ++ news) → w.grownBy w' v.ownBlock → (v' = .slice none 0 0 → v = .slice none 0 0 ∧ m = 0) → wpList P ops Q rest (a.put o.dst v') w') : wpList P ops Q (o :: rest) a w := by
  cases A with
  | none =>
    obtain rfl := hA rfl
    have hm : m = 0 := by
      rcases Nat.eq_zero_or_pos m with h0 | h0
      · exact h0
      · obtain ⟨b, off, e, _⟩ := hr.at_ (k := 0) (by omega)
        cases e
    subst hm
    obtain rfl := List.eq_nil_of_length_eq_zero hl
    refine wpList_append_own_none hgd s x t ho base e i 1 ht hi v n xs hs hown hx ?_
    exact h v w (by simpa using hown) ⟨rfl, rfl, rfl, Nat.le_refl _, fun _ _ _ => rfl⟩ (fun hv => ⟨hv, rfl⟩)
  | some ad =>
    refine wpList_append_own _ hgd s x t ho base e i z 1 bytes ht hi hz hsize hby hzs (by omega) v n xs hs hown ad m c news hx (by simpa using hl) (fun j u hj => ?_) h1 h63 hbytes hbase (fun v' w' k1 k2 k3 => h v' w' k1 k2 (fun hv => k3.1 hv))
    obtain ⟨b, off, e, hb, hc⟩ := hr j u hj
    cases e
    rw [add_plain]
    exact hc

/-- what an owned row is: nil, or the head of a block from base on -/
theorem own_form {w : World} {base : Nat} {e : TypeId} {v : Value} {n : Nat} {xs : List Value} (h : w.ownsRow base e 1 v n xs) (hv : v ≠ .slice none 0 0) :
    ∃ g cap cur, v = .slice (some ⟨g, 0, none⟩) n cap ∧ base ≤ g ∧ Blk w g e cur ∧ n ≤ cap ∧ cur.size = cap ∧ cur.toList.take n = xs := by
  rcases h.2 with ⟨rfl, _⟩ | ⟨g, cap, cur, rfl, hb, hg, hn, _, hs, ht⟩
  · exact absurd rfl hv
  · exact ⟨g, cap, cur, rfl, hb, hg, hn, by simpa using hs, by simpa using ht⟩
theorem Blk.rdTake {w : World} {g B n : Nat} {t : TypeId} {cur : Array Value} {xs : List Value} (h : Blk w g t cur) (hx : cur.toList.take n = xs) (hg : g < B) : Rd w B (some ⟨g, 0, none⟩) xs := fun j u hj =>
  ⟨g, 0, rfl, hg, by
    rw [Nat.zero_add, h.cell]
    rw [← hx, List.getElem?_take] at hj
    split at hj
    · simpa using hj
    · cases hj⟩
/-- an owned row as a slice whose cells are known -/
theorem own_slice {w : World} {base : Nat} {e : TypeId} {v : Value} {n : Nat} {xs : List Value} (h : w.ownsRow base e 1 v n xs) : ∃ A c, v = .slice A n c ∧ Rd w w.heap.size A xs ∧ n ≤ maxLen := by
  have hx := h.1
  rcases h.2 with ⟨rfl, rfl⟩ | ⟨g, cap, cur, rfl, _, hg, hn, hm, hs, ht⟩
  · obtain rfl := List.eq_nil_of_length_eq_zero (by simpa using hx)
    exact ⟨none, 0, rfl, Rd.nil _ _ _, Nat.zero_le _⟩
  · exact ⟨_, cap, rfl, Blk.rdTake (t := e) (cur := cur) (n := n) hg (by simpa using ht) (Blk.lt (t := e) (cs := cur) hg), by omega⟩
theorem grown_trans {a b c : World} {row : Option Nat} (h : a.grownBy b row) (k : b.grownBy c row) : a.grownBy c row :=
  ⟨k.os.trans h.os, k.tape.trans h.tape, k.output.trans h.output, Nat.le_trans h.size k.size, fun i hi hr => (k.block i (Nat.lt_of_lt_of_le hi h.size) hr).trans (h.block i hi hr)⟩
theorem grown_drew {a b : World} {row : Option Nat} (h : a.grownBy b row) (n : Nat) : a.grownBy (b.drewN n) row := ⟨h.os, h.tape, h.output, h.size, h.block⟩
theorem grown_new {a b c : World} {row : Option Nat} {s : Nat} (h : a.grownBy b row) (k : b.grownBy c (some s)) (hs : a.heap.size ≤ s) : a.grownBy c row :=
  ⟨k.os.trans h.os, k.tape.trans h.tape, k.output.trans h.output, Nat.le_trans h.size k.size, fun i hi hr => (k.block i (Nat.lt_of_lt_of_le hi h.size) (by simp; omega)).trans (h.block i hi hr)⟩
theorem grown_below {a b c : World} {row : Option Nat} (h : a.grownBy b row) (k : Below b.heap.size b c) : a.grownBy c row :=
  ⟨k.os.trans h.os, k.tape.trans h.tape, k.output.trans h.output, Nat.le_trans h.size k.size, fun i hi hr => (k.block i (Nat.lt_of_lt_of_le hi h.size)).trans (h.block i hi hr)⟩
theorem grown_set (w : World) (g i : Nat) (u : Value) : w.grownBy (w.setCell ⟨g, i, none⟩ u) (some g) :=
  ⟨rfl, rfl, rfl, by simp, fun k _ hr => Below.heap_setCell _ _ _ _ (fun e => hr (by rw [e]))⟩
end Go.Proofs.Ytjlglfjikfpboaa.base

/- Terms as plain data: how many, how deep, which are right, their bytes, what is read of bytes. Nothing of the program. -/

namespace Go.Proofs.Ytjlglfjikfpboaa.tm
set_option linter.unusedVariables false
set_option linter.unusedSimpArgs false

/-- a term: kind, number, bytes, list -/
inductive T where
  | mk (k n : Int) (s : ByteArray) (l : List T)

instance : Inhabited T := ⟨.mk 0 0 ⟨#[]⟩ []⟩
def T.k : T → Int | .mk k _ _ _ => k
def T.n : T → Int | .mk _ n _ _ => n
def T.s : T → ByteArray | .mk _ _ s _ => s
def T.l : T → List T | .mk _ _ _ l => l
theorem T.eta (t : T) : t = .mk t.k t.n t.s t.l := by cases t; rfl

mutual
def T.size : T → Nat
  | .mk _ _ _ l => sizeL l + 1
def sizeL : List T → Nat
  | [] => 0
  | t :: l => t.size + sizeL l
end
mutual
def T.deep : T → Nat
  | .mk _ _ _ l => deepL l + 1
def deepL : List T → Nat
  | [] => 0
  | t :: l => max t.deep (deepL l)
end
def T.one : T → Bool
  | .mk k n s l => if k = 1 ∨ k = 3 then s.data.toList.isEmpty && decide (l.length = 0)
    else if k = 2 then decide (n = 0) && decide (l.length = 0) && decide (s.size ≤ 4000)
    else if k = 4 then s.data.toList.isEmpty && decide (l.length = 1)
    else if k = 5 then decide (n = 0) && s.data.toList.isEmpty
    else false
mutual
def T.shaped : T → Bool
  | .mk k n s l => T.one (.mk k n s l) && shapedL l
def shapedL : List T → Bool
  | [] => true
  | t :: l => t.shaped && shapedL l
end
/-- the error's number of a term, 0 if it is right -/
def T.right (t : T) : Int := if 4000 < t.size then 23 else if 12 < t.deep then 22 else if t.shaped then 0 else 25

/- all numbers in it are of 64 bits, no sign -/
mutual
def T.word : T → Prop
  | .mk _ n _ l => ((0 ≤ n ∧ n < 18446744073709551616) ∧ l.length < 18446744073709551616) ∧ wordL l
def wordL : List T → Prop
  | [] => True
  | t :: l => t.word ∧ wordL l
end

/-- a number in sevens -/
def putL (n : Nat) : List UInt8 := if h : n < 128 then [UInt8.ofNat n] else UInt8.ofNat (n % 128 + 128) :: putL (n / 128)
termination_by n
decreasing_by omega

inductive Num where
  | bad (e : Int)
  | ok (n k : Nat)
/-- a number in sevens read from the i-th byte on -/
def getFrom : Nat → Nat → List UInt8 → Num
  | _, _, [] => .bad 20
  | i, acc, b :: r =>
    if i = 9 ∧ 1 < b.toNat then .bad 21
    else if 128 ≤ b.toNat then getFrom (i + 1) (acc + b.toNat % 128 * 128 ^ i) r
    else if b.toNat = 0 ∧ 0 < i then .bad 21
    else .ok (acc + b.toNat * 128 ^ i) (i + 1)
def getL (s : List UInt8) : Num := getFrom 0 0 s

/-- the number that stands in a term's head -/
def T.head : T → Nat
  | .mk k n s l => if k = 2 then s.data.toList.length else if k = 5 then l.length else n.toNat
mutual
def T.enc : T → List UInt8
  | .mk k n s l => UInt8.ofNat k.toNat :: (putL (T.head (.mk k n s l)) ++ (s.data.toList ++ encL l))
def encL : List T → List UInt8
  | [] => []
  | t :: l => t.enc ++ encL l
end

inductive Res (α : Type) where
  | bad (e : Int)
  | ok (a : α) (rest : List UInt8) (begun : Nat)
def many (f : List UInt8 → Nat → Res T) : Nat → List UInt8 → Nat → Res (List T)
  | 0, s, b => .ok [] s b
  | n + 1, s, b => match f s b with
    | .bad e => .bad e
    | .ok t s' b' => match many f n s' b' with
      | .bad e => .bad e
      | .ok l s'' b'' => .ok (t :: l) s'' b''
/-- what stands behind a term's head -/
def body (f : List UInt8 → Nat → Res T) (k n : Nat) (r : List UInt8) (b : Nat) : Res T :=
  if k = 2 then (if 4000 < n then .bad 25 else if r.length < n then .bad 20 else .ok (.mk 2 0 ⟨(r.take n).toArray⟩ []) (r.drop n) b)
  else if k = 5 then (match many f n r b with | .bad e => .bad e | .ok l r' b' => .ok (.mk 5 0 ⟨#[]⟩ l) r' b')
  else if k = 4 then (match many f 1 r b with | .bad e => .bad e | .ok l r' b' => .ok (.mk 4 n ⟨#[]⟩ l) r' b')
  else .ok (.mk k n ⟨#[]⟩ []) r b
inductive Hd where
  | bad (e : Int)
  | ok (k n : Nat) (rest : List UInt8)
/-- a term's kind and the number behind it -/
def hd : List UInt8 → Hd
  | [] => .bad 20
  | k :: r => if k.toNat < 1 ∨ 5 < k.toNat then .bad 21 else match getL r with
    | .bad e => .bad e
    | .ok n m => .ok k.toNat n (r.drop m)
/-- a term read, d more may stand within one another, b have begun -/
def readT : Nat → List UInt8 → Nat → Res T
  | 0 => fun _ b => if 4000 ≤ b then .bad 23 else .bad 22
  | d + 1 => fun s b => if 4000 ≤ b then .bad 23 else match hd s with
    | .bad e => .bad e
    | .ok k n r => body (readT d) k n r (b + 1)
inductive Dec where
  | bad (e : Int)
  | ok (t : T)
def decode (s : List UInt8) : Dec := match readT 12 s 0 with
  | .bad e => .bad e
  | .ok t r _ => if r = [] then .ok t else .bad 24
end Go.Proofs.Ytjlglfjikfpboaa.tm

/- Plain laws of terms' bytes: a number in sevens is read back; a right term is read back; what is read is right and is written just so; a beginning is too short. -/

namespace Go.Proofs.Ytjlglfjikfpboaa.tm
set_option linter.unusedVariables false
set_option linter.unusedSimpArgs false

theorem toList_eq (s : ByteArray) : s.toList = s.data.toList := Go.ByteArray.toList_eq s
theorem one_eq (t : T) : t.one = if t.k = 1 ∨ t.k = 3 then t.s.toList.isEmpty && decide (t.l.length = 0)
    else if t.k = 2 then decide (t.n = 0) && decide (t.l.length = 0) && decide (t.s.size ≤ 4000)
    else if t.k = 4 then t.s.toList.isEmpty && decide (t.l.length = 1)
    else if t.k = 5 then decide (t.n = 0) && t.s.toList.isEmpty
    else false := by
  cases t
  simp only [T.one, T.k, T.s, T.l, T.n, toList_eq]
  rfl

theorem putL_lo {n : Nat} (h : n < 128) : putL n = [UInt8.ofNat n] := by rw [putL]; simp [h]
theorem putL_hi {n : Nat} (h : ¬ n < 128) : putL n = UInt8.ofNat (n % 128 + 128) :: putL (n / 128) := by rw [putL]; simp [h]
theorem putL_len (j : Nat) : ∀ n, n < 128 ^ j → 0 < j → 1 ≤ (putL n).length ∧ (putL n).length ≤ j := by
  induction j with
  | zero => intro n _ h; omega
  | succ j ih =>
    intro n hn _
    by_cases h : n < 128
    · rw [putL_lo h]; simp
    · rw [putL_hi h]
      rcases Nat.eq_zero_or_pos j with rfl | hj
      · simp at hn; omega
      · have := ih (n / 128) (by rw [Nat.pow_succ] at hn; exact Nat.div_lt_of_lt_mul (by omega)) hj
        simp only [List.length_cons]; omega
theorem putL_ten {n : Nat} (h : n < 18446744073709551616) : 1 ≤ (putL n).length ∧ (putL n).length ≤ 10 :=
  putL_len 10 n (by omega) (by omega)

theorem byte_lt (b : UInt8) : b.toNat < 256 := b.toNat_lt
theorem ofNat_to {n : Nat} (h : n < 256) : (UInt8.ofNat n).toNat = n := by simp; omega

theorem pow9 : 128 ^ 9 = 9223372036854775808 := by decide
theorem pow_le9 {i : Nat} (h : i ≤ 9) : 128 ^ i ≤ 9223372036854775808 := by rw [← pow9]; exact Nat.pow_le_pow_right (by omega) h

/-- what is written is read, whatever stands behind -/
theorem getFrom_put (j : Nat) : ∀ (i n acc : Nat) (more : List UInt8), i + j = 10 → 0 < j → n * 128 ^ i < 18446744073709551616 → (0 < i → 0 < n) →
    getFrom i acc (putL n ++ more) = .ok (acc + n * 128 ^ i) (i + (putL n).length) := by
  induction j with
  | zero => intro i n acc more _ h; omega
  | succ j ih =>
    intro i n acc more hij _ hn hpos
    have hp : 0 < 128 ^ i := Nat.pow_pos (by omega)
    have h9 : i = 9 → n ≤ 1 := by
      rintro rfl
      rw [pow9] at hn
      omega
    by_cases h : n < 128
    · rw [putL_lo h]
      simp only [List.singleton_append, getFrom]
      rw [ofNat_to (by omega), if_neg (by intro ⟨a, b⟩; have := h9 a; omega), if_neg (by omega), if_neg (by intro ⟨a, b⟩; have := hpos b; omega)]
      simp
    · rw [putL_hi h]
      have hi9 : i ≠ 9 := fun e => by have := h9 e; omega
      simp only [List.cons_append, getFrom]
      rw [ofNat_to (by omega), if_neg (by omega), if_pos (by omega)]
      have hm : (n % 128 + 128) % 128 = n % 128 := by omega
      rw [hm]
      have e1 : n / 128 * 128 ^ (i + 1) = n / 128 * 128 * 128 ^ i := by rw [Nat.pow_succ, Nat.mul_assoc, Nat.mul_comm 128]
      have e2 : n % 128 * 128 ^ i + n / 128 * 128 * 128 ^ i = n * 128 ^ i := by
        rw [← Nat.add_mul]; congr 1; omega
      rw [ih (i + 1) (n / 128) _ more (by omega) (by omega) (by rw [e1]; omega) (fun _ => by omega)]
      rw [List.length_cons, Nat.add_assoc, e1, e2]
      congr 1
      omega
theorem getL_put {n : Nat} (h : n < 18446744073709551616) (more : List UInt8) : getL (putL n ++ more) = .ok n (putL n).length := by
  have := getFrom_put 10 0 n 0 more rfl (by omega) (by simpa using h) (by omega)
  simpa [getL] using this

/-- a beginning of what is written is too short -/
theorem getFrom_short (j : Nat) : ∀ (i n acc k : Nat), i + j = 10 → n * 128 ^ i < 18446744073709551616 → k < (putL n).length →
    getFrom i acc ((putL n).take k) = .bad 20 := by
  induction j with
  | zero =>
    intro i n acc k hij hn hk
    have : n < 128 := by
      have e : i = 9 + 1 := by omega
      rw [e, Nat.pow_succ, pow9] at hn
      omega
    rw [putL_lo this] at hk ⊢
    obtain rfl : k = 0 := by simp at hk; omega
    simp [getFrom]
  | succ j ih =>
    intro i n acc k hij hn hk
    have hp : 0 < 128 ^ i := Nat.pow_pos (by omega)
    rcases Nat.eq_zero_or_pos k with rfl | hk0
    · simp [getFrom]
    · obtain ⟨k, rfl⟩ : ∃ m, k = m + 1 := ⟨k - 1, by omega⟩
      by_cases h : n < 128
      · rw [putL_lo h] at hk; simp at hk
      · have hi9 : i ≠ 9 := by
          rintro rfl
          rw [pow9] at hn
          omega
        rw [putL_hi h] at hk ⊢
        simp only [List.take_succ_cons, getFrom]
        rw [ofNat_to (by omega), if_neg (by omega), if_pos (by omega)]
        have e1 : n / 128 * 128 ^ (i + 1) = n / 128 * 128 * 128 ^ i := by rw [Nat.pow_succ, Nat.mul_assoc, Nat.mul_comm 128]
        have e2 : n / 128 * 128 * 128 ^ i ≤ n * 128 ^ i := Nat.mul_le_mul_right _ (by omega)
        exact ih (i + 1) (n / 128) _ k (by omega) (by rw [e1]; omega) (by simpa using hk)
theorem getL_short {n : Nat} (h : n < 18446744073709551616) {k : Nat} (hk : k < (putL n).length) : getL ((putL n).take k) = .bad 20 :=
  getFrom_short 10 0 n 0 k rfl (by simpa using h) hk

/-- what is read is written just so -/
theorem getFrom_back (s : List UInt8) : ∀ (i acc n k : Nat), getFrom i acc s = .ok n k → i ≤ 9 → acc < 128 ^ i →
    ∃ m, n = acc + m * 128 ^ i ∧ (0 < i → 0 < m) ∧ n < 18446744073709551616 ∧ k = i + (putL m).length ∧ s.take (putL m).length = putL m := by
  induction s with
  | nil => intro i acc n k h; simp [getFrom] at h
  | cons b r ih =>
    intro i acc n k h hi hacc
    have hp : 0 < 128 ^ i := Nat.pow_pos (by omega)
    have hp9 := pow_le9 hi
    have hb := byte_lt b
    rw [getFrom] at h
    by_cases h1 : i = 9 ∧ 1 < b.toNat
    · rw [if_pos h1] at h; cases h
    · rw [if_neg h1] at h
      by_cases h2 : 128 ≤ b.toNat
      · rw [if_pos h2] at h
        have hi8 : i ≤ 8 := by omega
        have hlt : acc + b.toNat % 128 * 128 ^ i < 128 ^ (i + 1) := by
          have : b.toNat % 128 * 128 ^ i ≤ 127 * 128 ^ i := Nat.mul_le_mul_right _ (by omega)
          rw [Nat.pow_succ]; omega
        obtain ⟨m, e1, e2, e3, e4, e5⟩ := ih (i + 1) _ n k h (by omega) hlt
        have hm := e2 (by omega)
        have em : putL (m * 128 + b.toNat % 128) = b :: putL m := by
          rw [putL_hi (by omega)]
          congr 1
          · have : (m * 128 + b.toNat % 128) % 128 + 128 = b.toNat := by omega
            rw [this]; exact UInt8.ofNat_toNat
          · congr 1; omega
        refine ⟨m * 128 + b.toNat % 128, ?_, fun _ => by omega, e3, ?_, ?_⟩
        · rw [e1, Nat.pow_succ, Nat.add_mul, Nat.mul_assoc, Nat.mul_comm 128 (128 ^ i)]; omega
        · rw [em, e4]; simp; omega
        · rw [em]; simpa using e5
      · rw [if_neg h2] at h
        by_cases h3 : b.toNat = 0 ∧ 0 < i
        · rw [if_pos h3] at h; cases h
        · rw [if_neg h3] at h
          injection h with e1 e2
          subst e1 e2
          have e : putL b.toNat = [b] := by rw [putL_lo (by omega)]; congr 1; exact UInt8.ofNat_toNat
          refine ⟨b.toNat, rfl, fun h0 => by omega, ?_, by rw [e]; rfl, by rw [e]; rfl⟩
          by_cases h9 : i = 9
          · subst h9
            have hb1 : b.toNat ≤ 1 := by omega
            rw [pow9] at hacc ⊢
            omega
          · have h8 : 128 ^ i ≤ 128 ^ 8 := Nat.pow_le_pow_right (by omega) (by omega)
            have : b.toNat * 128 ^ i ≤ 127 * 128 ^ i := Nat.mul_le_mul_right _ (by omega)
            have h88 : 128 ^ 8 = 72057594037927936 := by decide
            omega
theorem getL_back {s : List UInt8} {n k : Nat} (h : getL s = .ok n k) : n < 18446744073709551616 ∧ k = (putL n).length ∧ s.take k = putL n := by
  obtain ⟨m, e1, _, e3, e4, e5⟩ := getFrom_back s 0 0 n k h (by omega) (by simp)
  obtain rfl : n = m := by simpa using e1
  rw [Nat.zero_add] at e4
  exact ⟨e3, e4, by rw [e4]; exact e5⟩
theorem getFrom_bad_ne (s : List UInt8) : ∀ (i acc : Nat) (e : Int), getFrom i acc s = .bad e → e = 20 ∨ e = 21 := by
  induction s with
  | nil => intro i acc e h; simp [getFrom] at h; omega
  | cons b r ih =>
    intro i acc e h
    rw [getFrom] at h
    split at h
    · injection h with h; omega
    · split at h
      · exact ih _ _ _ h
      · split at h
        · injection h with h; omega
        · cases h
theorem getL_bad_ne {s : List UInt8} {e : Int} (h : getL s = .bad e) : e ≠ 0 := by
  rcases getFrom_bad_ne s 0 0 e h with h | h <;> omega
theorem getL_len {s : List UInt8} {n k : Nat} (h : getL s = .ok n k) : 1 ≤ k ∧ k ≤ s.length := by
  obtain ⟨h1, h2, h3⟩ := getL_back h
  have := congrArg List.length h3
  rw [List.length_take, ← h2] at this
  have := (putL_ten h1).1
  omega
end Go.Proofs.Ytjlglfjikfpboaa.tm

/- Numbers in sevens: what PutNum and GetNum do, the program's and the document's own. -/

namespace Go.Proofs.Ytjlglfjikfpboaa.sevens
set_option linter.unusedVariables false
set_option linter.unusedSimpArgs false
open Go.RowKit Go.Proofs.Ytjlglfjikfpboaa.base Go.Proofs.Ytjlglfjikfpboaa.tm

def numVal : Num → Value
  | .bad e => .tuple #[.int .u64 0, .int .i64 0, .int .i64 e]
  | .ok n k => .tuple #[.int .u64 n, .int .i64 k, .int .i64 0]

theorem drop_cons (s : ByteArray) (k : Nat) (h : k < s.size) : s.data.toList.drop k = s[k] :: s.data.toList.drop (k + 1) := by
  rw [List.drop_eq_getElem_cons (by simpa using h)]; rfl

theorem pow7 (k : Nat) : (2 : Int) ^ (7 * k) = ((128 ^ k : Nat) : Int) := by
  rw [Int.pow_mul]; simp
theorem join_val (acc b k : Nat) (hacc : acc < 128 ^ k) (hk : k ≤ 9) (hb : b < 256) (h9 : k = 9 → b ≤ 1) :
    bits BinOp.or IntKind.u64 (acc : Int) (IntKind.u64.wrap (IntKind.u64.wrap (bits BinOp.andNot IntKind.u8 (b : Int) 128) * 2 ^ (7 * k))) = ((acc + b % 128 * 128 ^ k : Nat) : Int) := by
  have h1 : bits BinOp.andNot IntKind.u8 (b : Int) 128 = ((b % 128 : Nat) : Int) := by
    have := u8_andNot_nat b 128 hb (by omega)
    rw [show ((128 : Int)) = ((128 : Nat) : Int) from rfl, this, nat_mask7]
  have hp : 0 < 128 ^ k := Nat.pow_pos (by omega)
  have hlt : acc + b % 128 * 128 ^ k < 18446744073709551616 := by
    by_cases h : k = 9
    · have := h9 h
      subst h
      rw [pow9] at hacc ⊢
      omega
    · have h8 : 128 ^ k ≤ 128 ^ 8 := Nat.pow_le_pow_right (by omega) (by omega)
      have : b % 128 * 128 ^ k ≤ 127 * 128 ^ k := Nat.mul_le_mul_right _ (by omega)
      have h88 : 128 ^ 8 = 72057594037927936 := by decide
      omega
  rw [h1, pow7, IntKind.wrap_u64, IntKind.wrap_u64]
  have e1 : ((b % 128 : Nat) : Int) % 18446744073709551616 = ((b % 128 : Nat) : Int) := by omega
  rw [e1, ← Int.natCast_mul]
  have e2 : ((b % 128 * 128 ^ k : Nat) : Int) % 18446744073709551616 = ((b % 128 * 128 ^ k : Nat) : Int) := by omega
  rw [e2, u64_or_nat _ _ (by omega) (by omega), Nat.or_comm, nat_join (7 * k) _ _ ?_ ?_, Nat.add_comm]
  · rw [Nat.pow_mul]; exact Nat.mul_mod_left _ _
  · rw [Nat.pow_mul]; exact hacc

theorem three (a b c a' b' c' : Value) (h : a = a') (h' : b = b') (h'' : c = c') : Ending.returned (.tuple #[a, b, c]) = .returned (.tuple #[a', b', c']) := by rw [h, h', h'']

theorem num {k : IntKind} {a b : Int} (h : a = b) : Value.int k a = .int k b := by rw [h]
theorem p63 : (9223372036854775808 : Int) = 2 ^ (7 * 9) := by decide

/-- what the loop's head knows -/
def Head (s : ByteArray) (n i : Value) : Prop :=
  ∃ k acc : Nat, k ≤ s.size ∧ k ≤ 9 ∧ acc < 128 ^ k ∧ n = .int .u64 acc ∧ i = .int .i64 k ∧ getL s.data.toList = getFrom k acc (s.data.toList.drop k)

theorem head_next {s : ByteArray} {k acc : Nat} (h : k < s.size) (hk : k ≤ 9) (hacc : acc < 128 ^ k) (hg : getL s.data.toList = getFrom k acc (s.data.toList.drop k)) (h9 : ¬ k = 9) (h128 : 128 ≤ s[k].toNat) :
    Head s (.int .u64 ((acc + s[k].toNat % 128 * 128 ^ k : Nat) : Int)) (.int .i64 ((k : Int) + 1)) := by
  refine ⟨k + 1, _, h, by omega, ?_, rfl, by simp, ?_⟩
  · have : s[k].toNat % 128 * 128 ^ k ≤ 127 * 128 ^ k := Nat.mul_le_mul_right _ (by omega)
    rw [Nat.pow_succ]; omega
  · rw [hg, drop_cons s k h, getFrom, if_neg (by omega), if_pos h128]
theorem head_bad9 {s : ByteArray} {k acc : Nat} (h : k < s.size) (hg : getL s.data.toList = getFrom k acc (s.data.toList.drop k)) (h9 : k = 9) (h1 : 1 < s[k].toNat) : getL s.data.toList = .bad 21 := by
  rw [hg, drop_cons s k h, getFrom, if_pos ⟨h9, h1⟩]
theorem head_bad0 {s : ByteArray} {k acc : Nat} (h : k < s.size) (hg : getL s.data.toList = getFrom k acc (s.data.toList.drop k)) (h0 : s[k].toNat = 0) (hk : 0 < k) : getL s.data.toList = .bad 21 := by
  rw [hg, drop_cons s k h, getFrom, if_neg (by omega), if_neg (by omega), if_pos ⟨h0, hk⟩]
theorem head_ok {s : ByteArray} {k acc : Nat} (h : k < s.size) (hg : getL s.data.toList = getFrom k acc (s.data.toList.drop k)) (h9 : k = 9 → s[k].toNat ≤ 1) (h0 : ¬ (s[k].toNat = 0 ∧ 0 < k)) (hlt : s[k].toNat < 128) :
    getL s.data.toList = .ok (acc + s[k].toNat % 128 * 128 ^ k) (k + 1) := by
  rw [hg, drop_cons s k h, getFrom, if_neg (by intro ⟨a, b⟩; have := h9 a; omega), if_neg (by omega), if_neg h0, Nat.mod_eq_of_lt hlt]
theorem head_short {s : ByteArray} {k acc : Nat} (h : ¬ k < s.size) (hg : getL s.data.toList = getFrom k acc (s.data.toList.drop k)) : getL s.data.toList = .bad 20 := by
  rw [hg, List.drop_of_length_le (by simp; omega), getFrom]

set_option maxRecDepth 100000 in
set_option maxHeartbeats 400000 in
theorem getNum_any (s : ByteArray) (w : World) (hs : s.size ≤ maxLen) :
    Calls Try.prog 180 #[.string s] w fun e w' => e = .returned (numVal (getL s.data.toList)) ∧ w = w' := by
  unfold maxLen at hs
  go_enter Try.func180, Try.ntmps180
  go_wp2
  go_loop [5, 10] (fun n i => Head s n i) (fun _ i => s.size - (intOf i).toNat)
  case atStart => exact ⟨0, 0, Nat.zero_le _, by omega, by simp, rfl, rfl, rfl⟩
  case round =>
    obtain ⟨k, acc, hk, hk9, hacc, rfl, rfl, hg⟩ := hrel
    have HG := Lib.hid hg
    clear hg
    by_cases hlt : k < s.size
    · have hb := byte_lt s[k]
      go_wp2_with fail
      · go_ret3
        exact ⟨by rw [head_bad9 hlt HG.out (by omega) (by omega)]; rfl, rfl⟩
      · go_ret3
        exact ⟨by rw [head_bad0 hlt HG.out (by omega) (by omega)]; rfl, rfl⟩
      · go_ret3
        obtain rfl : k = 9 := by omega
        exact ⟨by rw [head_ok hlt HG.out (by omega) (by omega) (by omega)]; exact three _ _ _ _ _ _ (num (by rw [p63]; exact join_val acc _ 9 hacc hk9 hb (by omega))) rfl rfl, rfl⟩
      · rw [join_val acc _ k hacc hk9 hb (by omega)]
        exact ⟨head_next hlt hk9 hacc HG.out (by omega) (by omega), by simp [intOf]; omega⟩
      · go_ret3
        exact ⟨by rw [head_bad0 hlt HG.out (by omega) (by omega)]; rfl, rfl⟩
      · go_ret3
        have h0 : s[k].toNat = 0 := by assumption
        exact ⟨by rw [head_ok hlt HG.out (by omega) (by omega) (by omega)]; rw [h0]; exact three _ _ _ _ _ _ (num (join_val acc 0 k hacc hk9 (by omega) (by omega))) rfl rfl, rfl⟩
      · go_ret3
        exact ⟨by rw [head_ok hlt HG.out (by omega) (by omega) (by omega)]; exact three _ _ _ _ _ _ (num (join_val acc _ k hacc hk9 hb (by omega))) rfl rfl, rfl⟩
    · go_wp2
      go_ret3
      exact ⟨by rw [head_short hlt HG.out]; rfl, rfl⟩
end Go.Proofs.Ytjlglfjikfpboaa.sevens

/- Numbers in sevens: what the document's own GetNum does. -/

namespace Go.Proofs.Ytjlglfjikfpboaa.sevens
set_option linter.unusedVariables false
set_option linter.unusedSimpArgs false
open Go.RowKit Go.Proofs.Ytjlglfjikfpboaa.base Go.Proofs.Ytjlglfjikfpboaa.tm

theorem mul_val (acc b k u : Nat) (hacc : acc < 128 ^ k) (hk : k ≤ 9) (hb : b < 256) (h9 : k = 9 → b ≤ 1) (hu : u = 128 ^ k) :
    IntKind.u64.wrap ((acc : Int) + IntKind.u64.wrap ((b : Int) % 128 * (u : Int))) = ((acc + b % 128 * 128 ^ k : Nat) : Int) := by
  subst hu
  have hp : 0 < 128 ^ k := Nat.pow_pos (by omega)
  have hlt : acc + b % 128 * 128 ^ k < 18446744073709551616 := by
    by_cases h : k = 9
    · have := h9 h
      subst h
      rw [pow9] at hacc ⊢
      omega
    · have h8 : 128 ^ k ≤ 128 ^ 8 := Nat.pow_le_pow_right (by omega) (by omega)
      have : b % 128 * 128 ^ k ≤ 127 * 128 ^ k := Nat.mul_le_mul_right _ (by omega)
      have h88 : 128 ^ 8 = 72057594037927936 := by decide
      omega
  rw [show (b : Int) % 128 = ((b % 128 : Nat) : Int) from rfl, ← Int.natCast_mul, IntKind.wrap_u64, IntKind.wrap_u64]
  omega

/-- what the loop's head knows -/
def HeadR (s : ByteArray) (n x i : Value) : Prop :=
  ∃ k acc u : Nat, k ≤ s.size ∧ k ≤ 9 ∧ acc < 128 ^ k ∧ Hid (u = 128 ^ k) ∧ u ≤ 9223372036854775808 ∧ n = .int .u64 acc ∧ x = .int .u64 u ∧ i = .int .i64 k ∧ Hid (getL s.data.toList = getFrom k acc (s.data.toList.drop k))

theorem headR_next {s : ByteArray} {k acc u : Nat} (h : k < s.size) (hk : k ≤ 9) (hacc : acc < 128 ^ k) (hu : u = 128 ^ k) (hg : getL s.data.toList = getFrom k acc (s.data.toList.drop k)) (h9 : ¬ k = 9) (h128 : 128 ≤ s[k].toNat) :
    HeadR s (.int .u64 ((acc + s[k].toNat % 128 * 128 ^ k : Nat) : Int)) (.int .u64 (IntKind.u64.wrap ((u : Int) * 128))) (.int .i64 ((k : Int) + 1)) := by
  obtain ⟨k', acc', h1, h2, h3, h4, h5, h6⟩ := head_next h hk hacc hg h9 h128
  injection h4 with _ h4
  injection h5 with _ h5
  have e1 : k' = k + 1 := by omega
  have e2 : acc' = acc + s[k].toNat % 128 * 128 ^ k := by omega
  have h8 : 128 ^ k ≤ 128 ^ 8 := Nat.pow_le_pow_right (by omega) (by omega)
  have h88 : 128 ^ 8 = 72057594037927936 := by decide
  subst e1 e2
  refine ⟨k + 1, _, 128 ^ (k + 1), h1, h2, h3, rfl, pow_le9 h2, rfl, ?_, rfl, h6⟩
  rw [hu, IntKind.wrap_u64, Nat.pow_succ]
  congr 1
  omega

set_option maxRecDepth 100000 in
set_option maxHeartbeats 400000 in
theorem refGetNum_any (s : ByteArray) (w : World) (hs : s.size ≤ maxLen) :
    Calls Try.prog 102 #[.string s] w fun e w' => e = .returned (numVal (getL s.data.toList)) ∧ w = w' := by
  unfold maxLen at hs
  go_enter Try.func102, Try.ntmps102
  go_wp2
  go_loop [5, 6, 7] (fun n x i => HeadR s n x i) (fun _ _ i => s.size - (intOf i).toNat)
  case atStart => exact ⟨0, 0, 1, Nat.zero_le _, by omega, by simp, rfl, by omega, rfl, rfl, rfl, rfl⟩
  case round =>
    obtain ⟨k, acc, u, hk, hk9, hacc, hu, hub, rfl, rfl, rfl, HG⟩ := hrel
    by_cases hlt : k < s.size
    · have hb := byte_lt s[k]
      go_wp2_with fail
      · go_ret3
        obtain rfl : k = 9 := by omega
        exact ⟨by rw [head_bad9 hlt HG.out (by omega) (by omega)]; rfl, rfl⟩
      · go_ret3
        obtain rfl : k = 9 := by omega
        exact ⟨by rw [head_bad0 hlt HG.out (by omega) (by omega)]; rfl, rfl⟩
      · go_ret3
        obtain rfl : k = 9 := by omega
        exact ⟨by rw [head_ok hlt HG.out (by omega) (by omega) (by omega)]; exact three _ _ _ _ _ _ (num (mul_val acc _ 9 u hacc hk9 hb (by omega) hu.out)) rfl rfl, rfl⟩
      · go_ret3
        exact ⟨by rw [head_bad0 hlt HG.out (by omega) (by omega)]; rfl, rfl⟩
      · go_ret3
        have h0 : s[k].toNat = 0 := by assumption
        exact ⟨by rw [head_ok hlt HG.out (by omega) (by omega) (by omega)]; rw [h0]; exact three _ _ _ _ _ _ (num (by have := mul_val acc 0 k u hacc hk9 (by omega) (by omega) hu.out; simpa using this)) rfl rfl, rfl⟩
      · go_ret3
        exact ⟨by rw [head_ok hlt HG.out (by omega) (by omega) (by omega)]; exact three _ _ _ _ _ _ (num (mul_val acc _ k u hacc hk9 hb (by omega) hu.out)) rfl rfl, rfl⟩
      · rw [mul_val acc _ k u hacc hk9 hb (by omega) hu.out]
        exact ⟨headR_next hlt hk9 hacc hu.out HG.out (by omega) (by omega), by simp [intOf]; omega⟩
    · go_wp2
      go_ret3
      exact ⟨by rw [head_short hlt HG.out]; rfl, rfl⟩
end Go.Proofs.Ytjlglfjikfpboaa.sevens

/- A row of bytes that the calls build by append: what it holds, what an append leaves; appendNum and PutNum, the program's and the document's own. -/

namespace Go.Proofs.Ytjlglfjikfpboaa.bytes
set_option linter.unusedVariables false
set_option linter.unusedSimpArgs false
open Go.RowKit Go.Proofs.Ytjlglfjikfpboaa.base Go.Proofs.Ytjlglfjikfpboaa.tm Go.Proofs.Ytjlglfjikfpboaa.sevens

/-- bytes as cells -/
def bys (l : List UInt8) : List Value := l.map fun b => .int .u8 (b.toNat : Int)
theorem bys_append (l m : List UInt8) : bys (l ++ m) = bys l ++ bys m := by simp [bys]
theorem bys_one (l : List UInt8) : ∀ u ∈ bys l, u.oneCell' = true := by
  intro u hu
  obtain ⟨z, _, rfl⟩ := List.mem_map.1 hu
  rfl
theorem info5 : (Try.prog.info? 5).map (fun i => (i.zero, i.size, i.bytes)) = some (some (.int .u8 0), 1, 1) := by kernel_rfl

/-- from w to w' only rows of bytes from block B on, and what is new, have turned; v' is such a row, of the bytes l' -/
structure Ext (B : Nat) (w w' : World) (v' : Value) (l' : List UInt8) : Prop where
  own : w'.ownsRow B 5 1 v' l'.length (bys l')
  below : Below B w w'
  kept : ∀ g T cs, T ≠ 5 → Blk w g T cs → Blk w' g T cs

section
variable {B : Nat} {w w' w'' : World} {v v' v'' : Value} {l l' l'' : List UInt8}
theorem Ext.nil (w : World) (B : Nat) : Ext B w w (.slice none 0 0) [] := ⟨⟨by simp [bys], .inl ⟨rfl, rfl⟩⟩, Below.refl _ _, fun _ _ _ _ h => h⟩
theorem Ext.refl (h : Ext B w w' v' l') : Ext B w' w' v' l' := ⟨h.own, Below.refl _ _, fun _ _ _ _ h => h⟩
theorem Ext.trans (h : Ext B w w' v' l') (k : Ext B w' w'' v'' l'') : Ext B w w'' v'' l'' := ⟨k.own, h.below.trans k.below, fun g T cs ht hb => k.kept g T cs ht (h.kept g T cs ht hb)⟩
theorem Ext.alloc (h : Ext B w w' v' l') (hB : B ≤ w'.heap.size) (o : Obj) : Ext B w (w'.alloc o) v' l' := ⟨h.own.alloc o, h.below.alloc hB o, fun g T cs ht hb => (h.kept g T cs ht hb).alloc o⟩
theorem Ext.drewN (h : Ext B w w' v' l') (n : Nat) : Ext B w (w'.drewN n) v' l' := ⟨h.own, ⟨h.below.os, h.below.tape, h.below.output, h.below.size, h.below.block⟩, h.kept⟩
theorem Ext.size (h : Ext B w w' v' l') : w.heap.size ≤ w'.heap.size := h.below.size
theorem Ext.step (h : Ext B w w' v l) (hB : B ≤ w'.heap.size) (ho : w''.ownsRow B 5 1 v' l'.length (bys l')) (hg : w'.grownBy w'' v.ownBlock) : Ext B w w'' v' l' := by
  refine ⟨ho, h.below.grown hg hB ?_, fun g T cs ht hb => ?_⟩
  · intro k hk
    rcases h.own.2 with ⟨rfl, _⟩ | ⟨g, cap, cur, rfl, hb, _⟩
    · simp [Value.ownBlock] at hk
    · simp [Value.ownBlock] at hk; omega
  · have h1 := h.kept g T cs ht hb
    refine (hg.block g h1.lt fun e => ?_).trans h1
    rcases h.own.2 with ⟨rfl, _⟩ | ⟨g', cap, cur, rfl, _, hh, _⟩
    · simp [Value.ownBlock] at e
    · simp [Value.ownBlock] at e
      subst e
      unfold Blk at h1
      rw [hh] at h1
      injection h1 with h1
      injection h1 with _ h1
      exact ht h1.symm
theorem Ext.string (h : Ext B w w' v l) : (Go.convert 55 9 v).run Try.prog w' = .ok (.string ⟨l.toArray⟩) w' := by
  rcases h.own.2 with ⟨rfl, hn⟩ | ⟨g, cap, cur, rfl, _, hg, _, _, _, ht⟩
  · obtain rfl := List.eq_nil_of_length_eq_zero hn
    exact Lib.run_convert_nil_bytes w' _ _ _ 0 Try.underlying55 Try.underlying5 Try.underlying9
  · exact run_convert_bytes_back w' _ _ _ _ cap l Try.underlying55 Try.underlying5 Try.underlying9 (Lib.bytes_of_row hg (by simp only [Nat.mul_one] at ht; exact ht))
end

section
variable {P : Program}
/-- append of one byte -/
theorem wpList_append_u8 {ops : Array Oper} {rest : List Oper} {o : Oper} {a : Act} {Q : Exit → Act → World → Prop} (hgd : o.guard = none) (s x : Operand)
    (ho : o.op = .call { callee := .builtin .append, args := #[s, x], argTypes := #[55, 55] })
    {B : Nat} {w0 w : World} {v : Value} {l : List UInt8} (hs : a.eval s = v) (hE : Ext B w0 w v l) (hB : B ≤ w.heap.size) (z : Int) (b : UInt8) (hz : z = (b.toNat : Int))
    {n : Nat} (hx : a.eval x = .slice (some ⟨n, 0, none⟩) 1 1) (hnz : n = w.heap.size) (hlen : l.length + 1 ≤ 140737488355328)
    (h : ∀ v' w', Ext B w0 w' v' (l ++ [b]) → w.heap.size ≤ w'.heap.size → wpList Try.prog ops Q rest (a.put o.dst v') w') : wpList Try.prog ops Q (o :: rest) a (w.alloc (.cells #[.int .u8 z] 5)) := by
  subst hz hnz
  obtain ⟨i0, hi, hz0, hz1, hz2⟩ := info_parts info5
  have hE1 := hE.alloc hB (.cells #[.int .u8 (b.toNat : Int)] 5)
  refine wpList_append_own _ hgd s x 55 ho B 5 i0 (.int .u8 0) 1 1 Try.underlying55 hi hz0 hz1 hz2 rfl (by decide) v l.length (bys l) hs hE1.own ⟨w.heap.size, 0, none⟩ 1 1 [.int .u8 (b.toNat : Int)] hx rfl ?_ ?_ (by unfold maxLen; omega) (by omega) (by simp; omega) ?_
  · intro j u hj
    match j, hj with
    | 0, hj => simp at hj; subst hj; simp [Addr.add]
    | (j + 1), hj => simp at hj
  · intro u hu; simp at hu; subst hu; rfl
  · intro v' w' ho' hg _
    refine h v' w' (hE1.step (by simp; omega) ?_ hg) (by have := hg.size; simp at this; omega)
    rw [bys_append, List.length_append]
    exact ho'
/-- append of a string's bytes -/
theorem wpList_append_str {ops : Array Oper} {rest : List Oper} {o : Oper} {a : Act} {Q : Exit → Act → World → Prop} (hgd : o.guard = none) (s x : Operand)
    (ho : o.op = .call { callee := .builtin .append, args := #[s, x], argTypes := #[55, 9] })
    {B : Nat} {w0 w : World} {v : Value} {l : List UInt8} (hs : a.eval s = v) (hE : Ext B w0 w v l) (hB : B ≤ w.heap.size) (t : ByteArray)
    (hx : a.eval x = .string t) (hlen : l.length + t.size ≤ 140737488355328)
    (h : ∀ v' w', Ext B w0 w' v' (l ++ t.data.toList) → w.heap.size ≤ w'.heap.size → wpList Try.prog ops Q rest (a.put o.dst v') w') : wpList Try.prog ops Q (o :: rest) a w := by
  obtain ⟨i0, hi, hz0, hz1, hz2⟩ := info_parts info5
  refine Lib.wpList_append_own_string _ hgd s x 55 9 ho B 5 i0 Try.underlying55 Try.underlying9 hi hz0 hz1 hz2 v l.length (bys l) hs hE.own t hx (by unfold maxLen; omega) hlen hB ?_
  intro v' w' ho' hg _
  refine h v' w' (hE.step hB ?_ hg) hg.size
  rw [bys_append, List.length_append]
  have : (t.data.toList).length = t.size := by simp
  rw [this]
  exact ho'
end
end Go.Proofs.Ytjlglfjikfpboaa.bytes

/- appendNum and PutNum, the program's and the document's own. -/

namespace Go.Proofs.Ytjlglfjikfpboaa.put
set_option linter.unusedVariables false
set_option linter.unusedSimpArgs false
open Go.RowKit Go.Proofs.Ytjlglfjikfpboaa.base Go.Proofs.Ytjlglfjikfpboaa.tm Go.Proofs.Ytjlglfjikfpboaa.sevens Go.Proofs.Ytjlglfjikfpboaa.bytes

def hib (m : Nat) : UInt8 := UInt8.ofNat (m % 128 + 128)
theorem or_val (m : Nat) : bits BinOp.or IntKind.u8 ((m : Int) % 256) 128 = ((hib m).toNat : Int) := by
  rw [hib, ofNat_to (by omega), show (m : Int) % 256 = ((m % 256 : Nat) : Int) from rfl, show ((128 : Int)) = ((128 : Nat) : Int) from rfl, u8_or_nat _ _ (by omega) (by omega)]
  congr 1
  have h : m % 256 = m % 128 + m % 256 / 128 * 128 := by omega
  by_cases h1 : 128 ≤ m % 256
  · have e : m % 256 = 2 ^ 7 ||| m % 128 := by
      rw [nat_join 7 _ _ (by decide) (by omega)]; omega
    rw [e, Nat.or_comm (2 ^ 7), Nat.or_assoc, show (2 : Nat) ^ 7 ||| 128 = 128 from by decide, Nat.or_comm, nat_join 7 _ _ (by decide) (by omega), Nat.add_comm]
  · rw [show m % 256 = m % 128 from by omega, Nat.or_comm, nat_join 7 _ _ (by decide) (by omega), Nat.add_comm]
theorem add_val (m : Nat) : ((m : Int) % 128 + 128) = ((hib m).toNat : Int) := by
  rw [hib, ofNat_to (by omega)]; omega
theorem low_val {m : Nat} (h : ¬ 128 ≤ m) : (m : Int) = ((UInt8.ofNat m).toNat : Int) := by rw [ofNat_to (by omega)]

theorem lay {p : Prop} (h : p) : Hid p := h

def Head (B : Nat) (w0 : World) (S : Nat) (l : List UInt8) (n : Nat) (v x : Value) (wr : World) : Prop :=
  ∃ (m : Nat) (l' : List UInt8), Ext B w0 wr v l' ∧ B ≤ wr.heap.size ∧ S ≤ wr.heap.size ∧ m < 18446744073709551616 ∧ x = .int .u64 m ∧ Hid (l ++ putL n = l' ++ putL m) ∧ l'.length + (putL m).length ≤ l.length + 10

theorem head_next {B : Nat} {w0 : World} {S n m : Nat} {l l' : List UInt8} {v : Value} {wr w1 : World} (hE : Ext B w0 w1 v (l' ++ [hib m])) (hB : B ≤ wr.heap.size) (hS : S ≤ wr.heap.size) (hz : wr.heap.size ≤ w1.heap.size)
    (hm : m < 18446744073709551616) (h : 128 ≤ m) (HL : l ++ putL n = l' ++ putL m) (hlen : l'.length + (putL m).length ≤ l.length + 10) :
    Head B w0 S l n v (.int .u64 ((m : Int) / 128)) w1 := by
  rw [putL_hi (n := m) (by omega)] at HL hlen
  refine ⟨m / 128, _, hE, by omega, by omega, by omega, rfl, lay (by rw [HL, List.append_assoc]; rfl), ?_⟩
  simp only [List.length_append, List.length_cons, List.length_nil] at hlen ⊢
  omega

set_option maxRecDepth 100000 in
set_option maxHeartbeats 400000 in
theorem appendNum_any (B : Nat) (v : Value) (l : List UInt8) (n : Nat) (w0 w : World) (hE : Ext B w0 w v l) (hB : B ≤ w.heap.size) (hn : n < 18446744073709551616) (hl : l.length + 20 ≤ 140737488355328) :
    Calls Try.prog 97 #[v, .int .u64 n] w fun e w' => ∃ v', e = .returned v' ∧ Ext B w0 w' v' (l ++ putL n) ∧ w.heap.size ≤ w'.heap.size := by
  have hp := putL_ten hn
  go_enter Try.func97, Try.ntmps97
  go_wp2_with fail
  go_loopw [0, 1] (fun v x wr => Head B w0 w.heap.size l n v x wr) (fun _ x _ => (intOf x).toNat)
  case atStart => exact ⟨n, l, hE, hB, Nat.le_refl _, hn, rfl, rfl, by omega⟩
  case round =>
    obtain ⟨m, l', hE', hB', hS, hm, rfl, HL, hlen⟩ := hrel
    have hm1 := (putL_ten hm).1
    by_cases hlt : 128 ≤ m
    · go_wp2_with (at_builtin; refine wpList_append_u8 rfl _ _ rfl rfl hE' hB' _ (hib m) ?c1 rfl rfl ?c2 ?next)
      case c1 => exact or_val m
      case c2 => omega
      case next =>
        intro v1 w1 hE1 hsz
        go_wp2_with fail
        exact ⟨head_next hE1 hB' hS hsz hm hlt HL.out hlen, by simp [intOf]; omega⟩
    · go_wp2_with (at_builtin; refine wpList_append_u8 rfl _ _ rfl rfl hE' hB' _ (UInt8.ofNat m) ?d1 rfl rfl ?d2 ?next)
      case d1 => exact low_val hlt
      case d2 => omega
      case next =>
        intro v1 w1 hE1 hsz
        go_wp2_with fail
        go_ret
        refine ⟨v1, rfl, ?_, by omega⟩
        rw [HL.out, putL_lo (by omega)]
        exact hE1

theorem empty_row (w : World) : Ext w.heap.size w (w.alloc (.cells #[] 5)) (.slice (some ⟨w.heap.size, 0, none⟩) 0 0) [] :=
  ⟨⟨rfl, .inr ⟨w.heap.size, 0, #[], rfl, Nat.le_refl _, heap_alloc_new w _, Nat.le_refl _, Nat.zero_le _, rfl, rfl⟩⟩, (Below.refl _ _).alloc (Nat.le_refl _) _, fun _ _ _ _ h => h.alloc _⟩

set_option maxRecDepth 100000 in
set_option maxHeartbeats 400000 in
theorem refPutNum_any (n : Nat) (w : World) (hn : n < 18446744073709551616) :
    Calls Try.prog 98 #[.int .u64 n] w fun e w' => e = .returned (.string ⟨(putL n).toArray⟩) ∧ Below w.heap.size w w' := by
  have hp := putL_ten hn
  go_enter Try.func98, Try.ntmps98
  go_wp2_with fail
  go_loopw [3, 0] (fun v x wr => Head w.heap.size w 0 [] n v x wr) (fun _ x _ => (intOf x).toNat)
  case atStart => exact ⟨n, [], empty_row w, by simp, Nat.zero_le _, hn, rfl, rfl, by simp; omega⟩
  case round =>
    obtain ⟨m, l', hE', hB', hS, hm, rfl, HL, hlen⟩ := hrel
    have hm1 := (putL_ten hm).1
    simp only [List.length_nil] at hlen
    by_cases hlt : 128 ≤ m
    · have hgt : 127 < m := by omega
      go_wp2_with (at_builtin; refine wpList_append_u8 rfl _ _ rfl rfl hE' hB' _ (hib m) ?c1 rfl rfl ?c2 ?next)
      case c1 => exact add_val m
      case c2 => omega
      case next =>
        intro v1 w1 hE1 hsz
        go_wp2_with fail
        exact ⟨head_next hE1 hB' (by omega) hsz hm hlt HL.out (by simpa using hlen), by simp [intOf]; omega⟩
    · have hgt : m ≤ 127 := by omega
      go_wp2_with (at_builtin; refine wpList_append_u8 rfl _ _ rfl rfl hE' hB' _ (UInt8.ofNat m) ?d1 rfl rfl ?d2 ?next)
      case d1 => exact low_val hlt
      case d2 => omega
      case next =>
        intro v1 w1 hE1 hsz
        have hc := hE1.string
        go_wp2_with fail
        go_ret
        have hL := HL.out
        rw [List.nil_append, putL_lo (n := m) (by omega)] at hL
        rw [hL]
        exact ⟨rfl, hE1.below⟩
end Go.Proofs.Ytjlglfjikfpboaa.put

/- The walks of the laws TermNumbers and TermNumbersBack: each answers true and writes nothing that was there. -/

namespace Go.Proofs.Ytjlglfjikfpboaa.numLaws
set_option linter.unusedVariables false
set_option linter.unusedSimpArgs false
open Go.RowKit Go.Proofs.Ytjlglfjikfpboaa.base Go.Proofs.Ytjlglfjikfpboaa.tm Go.Proofs.Ytjlglfjikfpboaa.sevens Go.Proofs.Ytjlglfjikfpboaa.bytes Go.Proofs.Ytjlglfjikfpboaa.put

theorem getNum_ok {s : ByteArray} {n k : Nat} (h : getL s.data.toList = .ok n k) (hs : s.size ≤ maxLen) (w : World) :
    Calls Try.prog 180 #[.string s] w fun e w' => e = .returned (.tuple #[.int .u64 n, .int .i64 k, .int .i64 0]) ∧ w = w' := by
  have := getNum_any s w hs
  rwa [h] at this
theorem getNum_bad {s : ByteArray} {n : Int} (h : getL s.data.toList = .bad n) (hs : s.size ≤ maxLen) (w : World) :
    Calls Try.prog 180 #[.string s] w fun e w' => e = .returned (.tuple #[.int .u64 0, .int .i64 0, .int .i64 n]) ∧ w = w' := by
  have := getNum_any s w hs
  rwa [h] at this
theorem refGetNum_ok {s : ByteArray} {n k : Nat} (h : getL s.data.toList = .ok n k) (hs : s.size ≤ maxLen) (w : World) :
    Calls Try.prog 102 #[.string s] w fun e w' => e = .returned (.tuple #[.int .u64 n, .int .i64 k, .int .i64 0]) ∧ w = w' := by
  have := refGetNum_any s w hs
  rwa [h] at this
theorem refGetNum_bad {s : ByteArray} {n : Int} (h : getL s.data.toList = .bad n) (hs : s.size ≤ maxLen) (w : World) :
    Calls Try.prog 102 #[.string s] w fun e w' => e = .returned (.tuple #[.int .u64 0, .int .i64 0, .int .i64 n]) ∧ w = w' := by
  have := refGetNum_any s w hs
  rwa [h] at this

theorem list_str (l : List UInt8) : (⟨l.toArray⟩ : ByteArray).toList = l := by rw [ByteArray.toList_eq]
theorem cat_list (l : List UInt8) (m : ByteArray) : ((⟨l.toArray⟩ : ByteArray) ++ m).data.toList = l ++ m.data.toList := by simp
theorem cat_size (l : List UInt8) (m : ByteArray) : ((⟨l.toArray⟩ : ByteArray) ++ m).size = l.length + m.size := by rw [ByteArray.size_append]; rfl
theorem cut_list (s : ByteArray) (k : Nat) : (s.extract 0 k).data.toList = s.data.toList.take k := by simp
theorem cut_size (s : ByteArray) (k : Nat) (h : k ≤ s.size) : (s.extract 0 k).size = k := by simp; omega
theorem cut_put {s : ByteArray} {n k : Nat} (h : getL s.data.toList = .ok n k) : s.extract 0 k = ⟨(putL n).toArray⟩ := by
  apply ByteArray.ext
  apply Array.toList_inj.1
  rw [cut_list, (getL_back h).2.2]

end Go.Proofs.Ytjlglfjikfpboaa.numLaws
