/- Named and Right of the document, of anything; Last and At. -/
import Derived.Test.YtoenkkbcpafanaaA03
import Derived.Laws.Cover1
import Derived.BigQuiet
import Derived.Deep.QuietTactic


namespace Go.Proofs.Ytoenkkbcpafanaa.vers
set_option linter.unusedVariables false
set_option linter.unusedSimpArgs false
open Go.RowKit Go.Proofs.Ytoenkkbcpafanaa.base Go.Proofs.Ytoenkkbcpafanaa.quotas

theorem nbad_no {a b c d e f h : Int} (hk : ¬ ok a b c d e f h) (s : ByteArray) (l : List V) : nbad a b c d e f h s l = 40 := by unfold nbad; rw [if_neg hk]
theorem nbad_yes {a b c d e f h : Int} (hk : ok a b c d e f h) (s : ByteArray) (l : List V) : nbad a b c d e f h s l = if s.size = 0 then 4 else if b < s.size then 5 else if e < l.length then 50 else vbad c d 0 l := by unfold nbad; rw [if_pos hk]

set_option maxRecDepth 100000 in
set_option maxHeartbeats 400000 in
theorem named_any (a b c d e f h : Int) (s : ByteArray) (l : List V) (A : Option Addr) (cap : Nat) (w : World) (hv : Vs w w.heap.size l A cap) :
    Calls Try.prog 219 #[.agg #[.int .i64 a, .int .i64 b, .int .i64 c, .int .i64 d, .int .i64 e, .int .i64 f, .int .i64 h], .agg #[.string s, .slice A l.length cap]] w fun x w' => x = .returned (.int .i64 (nbad a b c d e f h s l)) ∧ Below w.heap.size w w' := by
  have hlen := len_in hv
  by_cases hk : ok a b c d e f h
  · rw [nbad_yes hk]
    by_cases h1 : s.size = 0
    · rw [if_pos h1]
      have hs0 := empty_yes h1
      clear h1
      go_enter Try.func219, Try.ntmps219
      go_wp2_with (go_at_call 58; refine (refRight_ok _ _ _ _ _ _ _ _ hk).mono ?_; rintro x w1 ⟨rfl, hb1⟩; have I1 := (Bx.new w a b c d e f h s (.slice A l.length cap)).next hb1; clear hb1; obtain ⟨⟨⟨c0, c1, c2, c3, c4, c5, c6⟩, l1, l2, b1⟩, ⟨e0, e1⟩, l3⟩ := id I1)
      go_ret
      exact ⟨rfl, b1⟩
    · rw [if_neg h1]
      have hs0 := empty_no h1
      by_cases h2 : b < (s.size : Int)
      · rw [if_pos h2]
        clear h1
        go_enter Try.func219, Try.ntmps219
        go_wp2_with (go_at_call 58; refine (refRight_ok _ _ _ _ _ _ _ _ hk).mono ?_; rintro x w1 ⟨rfl, hb1⟩; have I1 := (Bx.new w a b c d e f h s (.slice A l.length cap)).next hb1; clear hb1; obtain ⟨⟨⟨c0, c1, c2, c3, c4, c5, c6⟩, l1, l2, b1⟩, ⟨e0, e1⟩, l3⟩ := id I1)
        go_ret
        exact ⟨rfl, b1⟩
      · rw [if_neg h2]
        by_cases h3 : e < (l.length : Int)
        · rw [if_pos h3]
          clear h1
          go_enter Try.func219, Try.ntmps219
          go_wp2_with (go_at_call 58; refine (refRight_ok _ _ _ _ _ _ _ _ hk).mono ?_; rintro x w1 ⟨rfl, hb1⟩; have I1 := (Bx.new w a b c d e f h s (.slice A l.length cap)).next hb1; clear hb1; obtain ⟨⟨⟨c0, c1, c2, c3, c4, c5, c6⟩, l1, l2, b1⟩, ⟨e0, e1⟩, l3⟩ := id I1)
          go_ret
          exact ⟨rfl, b1⟩
        · rw [if_neg h3]
          exact named_loop a b c d e f h s l A cap w hk hv h1 (by omega) (by omega)
  · rw [nbad_no hk]
    go_enter Try.func219, Try.ntmps219
    go_wp2_with (go_at_call 58; refine (refRight_no _ _ _ _ _ _ _ _ hk).mono ?_; rintro x w1 ⟨rfl, hb1⟩; have I1 := (Bx.new w a b c d e f h s (.slice A l.length cap)).next hb1)
    go_ret
    exact ⟨rfl, I1.below⟩

/-- what is wrong with a secret -/
def rb (n : Int) (l : List V) : Int := if n = 0 ∧ l.length = 0 then 50 else n

set_option maxRecDepth 100000 in
set_option maxHeartbeats 400000 in
theorem refSecret_any (a b c d e f h : Int) (s : ByteArray) (l : List V) (A : Option Addr) (cap : Nat) (w : World) (hv : Vs w w.heap.size l A cap) :
    Calls Try.prog 179 #[.agg #[.int .i64 a, .int .i64 b, .int .i64 c, .int .i64 d, .int .i64 e, .int .i64 f, .int .i64 h], .agg #[.string s, .slice A l.length cap]] w fun x w' => x = .returned (.int .i64 (rb (nbad a b c d e f h s l) l)) ∧ Below w.heap.size w w' := by
  have hlen := len_in hv
  have hc := named_any a b c d e f h s l A cap _ ((hv.below (Bx.new w a b c d e f h s (.slice A l.length cap)).below).more (Bx.new w a b c d e f h s (.slice A l.length cap)).below.size)
  generalize nbad a b c d e f h s l = n at hc ⊢
  by_cases hn : n = 0
  · have d1 : (n == 0) = true := by simp [hn]
    by_cases hl : l.length = 0
    · have d2 : ((l.length : Int) == 0) = true := by simp [hl]
      have hr : rb n l = 50 := by unfold rb; rw [if_pos ⟨hn, hl⟩]
      rw [hr]
      clear hr hn hl
      go_enter Try.func179, Try.ntmps179
      go_wp2_with fail
      refine hc.mono ?_
      rintro x w1 ⟨rfl, hb1⟩
      have I1 := (Bx.new w a b c d e f h s (.slice A l.length cap)).next hb1
      clear hb1
      obtain ⟨⟨⟨c0, c1, c2, c3, c4, c5, c6⟩, l1, l2, b1⟩, ⟨e0, e1⟩, l3⟩ := id I1
      go_wp2_with fail
      go_ret
      exact ⟨rfl, b1⟩
    · have d2 : ((l.length : Int) == 0) = false := beq_eq_false_iff_ne.2 (by omega)
      have hr : rb n l = n := by unfold rb; rw [if_neg (fun h => hl h.2)]
      rw [hr]
      clear hr hn
      go_enter Try.func179, Try.ntmps179
      go_wp2_with fail
      refine hc.mono ?_
      rintro x w1 ⟨rfl, hb1⟩
      have I1 := (Bx.new w a b c d e f h s (.slice A l.length cap)).next hb1
      clear hb1
      obtain ⟨⟨⟨c0, c1, c2, c3, c4, c5, c6⟩, l1, l2, b1⟩, ⟨e0, e1⟩, l3⟩ := id I1
      go_wp2_with fail
      go_ret
      exact ⟨rfl, b1⟩
  · have d1 : (n == 0) = false := by simp [hn]
    have hr : rb n l = n := by unfold rb; rw [if_neg (fun h => hn h.1)]
    rw [hr]
    clear hr hn
    go_enter Try.func179, Try.ntmps179
    go_wp2_with fail
    refine hc.mono ?_
    rintro x w1 ⟨rfl, hb1⟩
    have I1 := (Bx.new w a b c d e f h s (.slice A l.length cap)).next hb1
    clear hb1
    obtain ⟨⟨⟨c0, c1, c2, c3, c4, c5, c6⟩, l1, l2, b1⟩, ⟨e0, e1⟩, l3⟩ := id I1
    go_wp2_with fail
    go_ret
    exact ⟨rfl, b1⟩

def V.val (x : V) : Value := .agg #[.int .i64 x.n, .string x.v, .string x.t]
def zV : V := ⟨0, ⟨#[]⟩, ⟨#[]⟩⟩
/-- the last version, or none -/
def lastV (l : List V) : V × Bool := match l.getLast? with | some x => (x, true) | none => (zV, false)
/-- the first version of that number, or none -/
def atV (l : List V) (n : Int) : V × Bool := match l.find? (fun x => x.n == n) with | some x => (x, true) | none => (zV, false)

/-- behind a call's beginning: its own box holds the secret -/
theorem ebox (w : World) (s : ByteArray) (u : Value) : (w.alloc (.cells #[.string s, u] 47)).cell? ⟨w.heap.size, 0, none⟩ = some (.string s) ∧ (w.alloc (.cells #[.string s, u] 47)).cell? ⟨w.heap.size, 1, none⟩ = some u := by
  have k := Blk.new w 47 #[.string s, u]
  exact ⟨k.cell 0, k.cell 1⟩

theorem three_below {B g : Nat} {a w : World} (h : Below B a w) (hg : B ≤ g) (u v x : Value) : Below B a (((w.setCell ⟨g, 0, none⟩ u).setCell ⟨g, 1, none⟩ v).setCell ⟨g, 2, none⟩ x) :=
  ((h.setCell hg u).setCell hg v).setCell hg x
theorem atV_drop (l : List V) (n : Int) {j : Nat} (hj : j < l.length) : atV (l.drop j) n = if l[j].n == n then (l[j], true) else atV (l.drop (j + 1)) n := by
  rw [List.drop_eq_getElem_cons hj]
  unfold atV
  rw [List.find?_cons]
  cases l[j].n == n <;> rfl
theorem atV_end (l : List V) (n : Int) {j : Nat} (hj : l.length ≤ j) : atV (l.drop j) n = (zV, false) := by
  rw [List.drop_eq_nil_of_le hj]; rfl
/-- At, at a round's head -/
def AHead (w : World) (l : List V) (n : Int) (s : ByteArray) (u : Value) (x : Value) (wr : World) : Prop :=
  ∃ j : Nat, j ≤ l.length ∧ x = .int .i64 j ∧ Hid (atV l n = atV (l.drop j) n) ∧ (wr.cell? ⟨w.heap.size, 0, none⟩ = some (.string s) ∧ wr.cell? ⟨w.heap.size, 1, none⟩ = some u) ∧ Blk wr (w.heap.size + 1) 180 #[.int .i64 0, .string ⟨#[]⟩, .string ⟨#[]⟩] ∧ w.heap.size + 1 < wr.heap.size ∧ Below w.heap.size w wr

end Go.Proofs.Ytoenkkbcpafanaa.vers

/- Secrets in a list, in memory. -/

namespace Go.Proofs.Ytoenkkbcpafanaa.vers
set_option linter.unusedVariables false
set_option linter.unusedSimpArgs false
open Go.RowKit Go.Proofs.Ytoenkkbcpafanaa.base

structure E where
  s : ByteArray
  l : List V
  A : Option Addr
  c : Nat
def E.cells (x : E) : List Value := [.string x.s, .slice x.A x.l.length x.c]
def cellsE : List E → List Value
  | [] => []
  | x :: l => x.cells ++ cellsE l
theorem cellsE_len : ∀ l : List E, (cellsE l).length = 2 * l.length
  | [] => rfl
  | x :: l => by rw [cellsE, List.length_append, cellsE_len l]; simp [E.cells]; omega
theorem cellsE_app : ∀ l m : List E, cellsE (l ++ m) = cellsE l ++ cellsE m
  | [], m => rfl
  | x :: l, m => by rw [List.cons_append, cellsE, cellsE_app l m, cellsE, List.append_assoc]
theorem cellsE_at : ∀ (l : List E) {j : Nat} (hj : j < l.length), (cellsE l)[2 * j]? = some (.string l[j].s) ∧ (cellsE l)[2 * j + 1]? = some (.slice l[j].A l[j].l.length l[j].c)
  | x :: l, 0, _ => ⟨rfl, rfl⟩
  | x :: l, j + 1, hj => by
    obtain ⟨e0, e1⟩ := cellsE_at l (j := j) (by simpa using hj)
    have hl : x.cells.length = 2 := rfl
    refine ⟨?_, ?_⟩
    all_goals
      rw [cellsE, List.getElem?_append_right (by rw [hl]; omega), hl]
      first | rw [show 2 * (j + 1) - 2 = 2 * j by omega] | rw [show 2 * (j + 1) + 1 - 2 = 2 * j + 1 by omega]
      assumption
/-- the slice (A, l.length, c) holds the secrets l, below block B -/
def Es (w : World) (B : Nat) (l : List E) (A : Option Addr) (c : Nat) : Prop := l.length ≤ c ∧ l.length * 40 ≤ 140737488355328 ∧ (A = none → c = 0) ∧ Rd w B A (cellsE l) ∧ ∀ x ∈ l, Vs w B x.l x.A x.c ∧ x.s.size ≤ maxLen
section
variable {w w' : World} {B B' : Nat} {l : List E} {A : Option Addr} {c : Nat}
theorem Es.below (h : Es w B l A c) (hb : Below B w w') : Es w' B l A c := ⟨h.1, h.2.1, h.2.2.1, h.2.2.2.1.keep fun _ hp => hb.cell hp, fun x hx => ⟨(h.2.2.2.2 x hx).1.below hb, (h.2.2.2.2 x hx).2⟩⟩
theorem Es.more (h : Es w B l A c) (hB : B ≤ B') : Es w B' l A c := ⟨h.1, h.2.1, h.2.2.1, h.2.2.2.1.more hB, fun x hx => ⟨(h.2.2.2.2 x hx).1.more hB, (h.2.2.2.2 x hx).2⟩⟩
theorem Es.at_world {wr : World} (h : Es w w.heap.size l A c) (hb : Below w.heap.size w wr) : Es wr wr.heap.size l A c := (h.below hb).more hb.size
theorem Es.at_ (h : Es w B l A c) {j : Nat} (hj : j < l.length) : ∃ b off, A = some ⟨b, off, none⟩ ∧ b < B ∧ w.cell? ⟨b, off + j * 2, none⟩ = some (.string l[j].s) ∧ w.cell? ⟨b, off + j * 2 + 1, none⟩ = some (.slice l[j].A l[j].l.length l[j].c) ∧ Vs w B l[j].l l[j].A l[j].c := by
  obtain ⟨e0, e1⟩ := cellsE_at l hj
  have hr := h.2.2.2.1
  obtain ⟨b, off, e, hb, c0⟩ := hr _ _ e0
  refine ⟨b, off, e, hb, ?_, ?_, (h.2.2.2.2 _ (List.getElem_mem hj)).1⟩
  · rw [show off + j * 2 = off + 2 * j by omega]; exact c0
  · obtain ⟨b', off', e', _, c1⟩ := hr _ _ e1
    rw [e] at e'; cases e'
    rw [show off + j * 2 + 1 = off + (2 * j + 1) by omega]; exact c1
theorem Es.take (h : Es w B l A c) {k : Nat} (hk : k ≤ l.length) : Es w B (l.take k) A c := by
  obtain ⟨h1, h2, h3, h4, h5⟩ := h
  have hl : (l.take k).length = k := by rw [List.length_take]; omega
  refine ⟨by omega, by omega, h3, fun j u hj => h4 j u ?_, fun x hx => h5 x (List.mem_of_mem_take hx)⟩
  have e : cellsE l = cellsE (l.take k) ++ cellsE (l.drop k) := by rw [← cellsE_app, List.take_append_drop]
  rw [e, List.getElem?_append_left (by rcases Nat.lt_or_ge j (cellsE (l.take k)).length with h | h; exact h; rw [List.getElem?_eq_none h] at hj; cases hj)]
  exact hj
end

end Go.Proofs.Ytoenkkbcpafanaa.vers

/- Nodes: secrets and kids in memory; what is wrong with a node, in pure words. -/

namespace Go.Proofs.Ytoenkkbcpafanaa.nodes
set_option linter.unusedVariables false
set_option linter.unusedSimpArgs false
open Go.RowKit Go.Proofs.Ytoenkkbcpafanaa.base Go.Proofs.Ytoenkkbcpafanaa.quotas Go.Proofs.Ytoenkkbcpafanaa.vers

/-- a kid: its least name, its page's reference -/
structure K where
  s : ByteArray
  k : Nat
  g : Int
  o : Int
  n : Int
deriving DecidableEq
def K.cells (x : K) : List Value := [.string x.s, .int .u64 (x.k : Int), .int .i64 x.g, .int .i64 x.o, .int .i64 x.n]
def i64 (n : Int) : Prop := -9223372036854775808 ≤ n ∧ n ≤ 9223372036854775807
def K.fits (x : K) : Prop := x.s.size ≤ maxLen ∧ x.k < 18446744073709551616 ∧ i64 x.g ∧ i64 x.o ∧ i64 x.n
def cellsK : List K → List Value
  | [] => []
  | x :: l => x.cells ++ cellsK l
theorem cellsK_len : ∀ l : List K, (cellsK l).length = 5 * l.length
  | [] => rfl
  | x :: l => by rw [cellsK, List.length_append, cellsK_len l]; simp [K.cells]; omega
theorem cellsK_app : ∀ l m : List K, cellsK (l ++ m) = cellsK l ++ cellsK m
  | [], m => rfl
  | x :: l, m => by rw [List.cons_append, cellsK, cellsK_app l m, cellsK, List.append_assoc]
theorem cellsK_at : ∀ (l : List K) {j : Nat} (hj : j < l.length), (cellsK l)[5 * j]? = some (.string l[j].s) ∧ (cellsK l)[5 * j + 1]? = some (.int .u64 (l[j].k : Int)) ∧ (cellsK l)[5 * j + 2]? = some (.int .i64 l[j].g) ∧ (cellsK l)[5 * j + 3]? = some (.int .i64 l[j].o) ∧ (cellsK l)[5 * j + 4]? = some (.int .i64 l[j].n)
  | x :: l, 0, _ => ⟨rfl, rfl, rfl, rfl, rfl⟩
  | x :: l, j + 1, hj => by
    obtain ⟨e0, e1, e2, e3, e4⟩ := cellsK_at l (j := j) (by simpa using hj)
    have hl : x.cells.length = 5 := rfl
    refine ⟨?_, ?_, ?_, ?_, ?_⟩
    all_goals
      rw [cellsK, List.getElem?_append_right (by rw [hl]; omega), hl]
      first | rw [show 5 * (j + 1) - 5 = 5 * j by omega] | rw [show 5 * (j + 1) + 1 - 5 = 5 * j + 1 by omega] | rw [show 5 * (j + 1) + 2 - 5 = 5 * j + 2 by omega] | rw [show 5 * (j + 1) + 3 - 5 = 5 * j + 3 by omega] | rw [show 5 * (j + 1) + 4 - 5 = 5 * j + 4 by omega]
      assumption
theorem cellsK_one (l : List K) : ∀ u ∈ cellsK l, u.oneCell' = true := by
  induction l with
  | nil => intro u h; cases h
  | cons x l ih =>
    intro u h
    rcases List.mem_append.1 h with h | h
    · simp [K.cells] at h
      rcases h with rfl | rfl | rfl | rfl | rfl <;> rfl
    · exact ih u h
/-- the slice (A, l.length, c) holds the kids l, below block B -/
def Ks (w : World) (B : Nat) (l : List K) (A : Option Addr) (c : Nat) : Prop := l.length ≤ c ∧ l.length * 48 ≤ 140737488355328 ∧ (A = none → c = 0) ∧ Rd w B A (cellsK l) ∧ ∀ x ∈ l, x.fits
section
variable {w w' : World} {B B' : Nat} {l : List K} {A : Option Addr} {c : Nat}
theorem Ks.keep (h : Ks w B l A c) (hk : ∀ p : Addr, p.block < B → w'.cell? p = w.cell? p) : Ks w' B l A c := ⟨h.1, h.2.1, h.2.2.1, h.2.2.2.1.keep hk, h.2.2.2.2⟩
theorem Ks.below (h : Ks w B l A c) (hb : Below B w w') : Ks w' B l A c := h.keep fun _ hp => hb.cell hp
theorem Ks.more (h : Ks w B l A c) (hB : B ≤ B') : Ks w B' l A c := ⟨h.1, h.2.1, h.2.2.1, h.2.2.2.1.more hB, h.2.2.2.2⟩
theorem Ks.at_world {wr : World} (h : Ks w w.heap.size l A c) (hb : Below w.heap.size w wr) : Ks wr wr.heap.size l A c := (h.below hb).more hb.size
theorem Ks.at_ (h : Ks w B l A c) {j : Nat} (hj : j < l.length) : ∃ b off, A = some ⟨b, off, none⟩ ∧ b < B ∧ w.cell? ⟨b, off + j * 5, none⟩ = some (.string l[j].s) ∧ w.cell? ⟨b, off + j * 5 + 1, none⟩ = some (.int .u64 (l[j].k : Int)) ∧
    w.cell? ⟨b, off + j * 5 + 2, none⟩ = some (.int .i64 l[j].g) ∧ w.cell? ⟨b, off + j * 5 + 3, none⟩ = some (.int .i64 l[j].o) ∧ w.cell? ⟨b, off + j * 5 + 4, none⟩ = some (.int .i64 l[j].n) := by
  obtain ⟨e0, e1, e2, e3, e4⟩ := cellsK_at l hj
  have hr := h.2.2.2.1
  obtain ⟨b, off, e, hb, c0⟩ := hr _ _ e0
  refine ⟨b, off, e, hb, ?_, ?_, ?_, ?_, ?_⟩
  · rw [show off + j * 5 = off + 5 * j by omega]; exact c0
  · obtain ⟨b', off', e', _, c1⟩ := hr _ _ e1
    rw [e] at e'; cases e'
    rw [show off + j * 5 + 1 = off + (5 * j + 1) by omega]; exact c1
  · obtain ⟨b', off', e', _, c1⟩ := hr _ _ e2
    rw [e] at e'; cases e'
    rw [show off + j * 5 + 2 = off + (5 * j + 2) by omega]; exact c1
  · obtain ⟨b', off', e', _, c1⟩ := hr _ _ e3
    rw [e] at e'; cases e'
    rw [show off + j * 5 + 3 = off + (5 * j + 3) by omega]; exact c1
  · obtain ⟨b', off', e', _, c1⟩ := hr _ _ e4
    rw [e] at e'; cases e'
    rw [show off + j * 5 + 4 = off + (5 * j + 4) by omega]; exact c1
end

/-- is a text no greater than another? -/
def sle (x y : ByteArray) : Bool := Op.bytesLess x.toList y.toList || x.toList == y.toList
theorem sle_less {x y : ByteArray} (h : Op.bytesLess x.toList y.toList = true) : sle x y = true := by unfold sle; rw [h]; rfl
theorem sle_same {x y : ByteArray} (h : (x.toList == y.toList) = true) : sle x y = true := by unfold sle; rw [h, Bool.or_true]
theorem sle_no {x y : ByteArray} (h : Op.bytesLess x.toList y.toList = false) (k : (x.toList == y.toList) = false) : sle x y = false := by unfold sle; rw [h, k]; rfl

/-- may a reference be? -/
def refOk (g o n : Int) : Prop := (0 ≤ g ∧ g ≤ 1048576) ∧ (0 ≤ o ∧ o ≤ 134217728) ∧ (1 ≤ n ∧ n ≤ 1048576)
instance (g o n : Int) : Decidable (refOk g o n) := by unfold refOk; infer_instance
/-- does a name not stand behind the one ahead? -/
def behind (x : ByteArray) : Option ByteArray → Bool
  | none => false
  | some y => sle x y
/-- what is wrong with secrets behind one of name p -/
def ebad (a b c d e f h : Int) : Option ByteArray → List E → Int
  | _, [] => 0
  | p, x :: r => if rb (nbad a b c d e f h x.s x.l) x.l ≠ 0 then rb (nbad a b c d e f h x.s x.l) x.l else if behind x.s p = true then 60 else ebad a b c d e f h (some x.s) r
/-- what is wrong with kids behind one of least name p -/
def kbad (b : Int) : Option ByteArray → List K → Int
  | _, [] => 0
  | p, x :: r => if x.s.size = 0 then 4 else if b < x.s.size then 5 else if ¬ refOk x.g x.o x.n then 61 else if behind x.s p = true then 60 else kbad b (some x.s) r
/-- what is wrong with a node -/
def ndbad (a b c d e f h : Int) (leaf : Bool) (es : List E) (ks : List K) : Int :=
  if ok a b c d e f h then
    (if leaf = true then (if 0 < ks.length ∨ 4 < es.length then 60 else ebad a b c d e f h none es)
    else if 0 < es.length ∨ ks.length < 2 ∨ 4 < ks.length then 60 else kbad b none ks)
  else 40
/-- the name ahead of the j-th -/
def aheadE (l : List E) (j : Nat) : Option ByteArray := if h : 0 < j ∧ j ≤ l.length then some (l[j - 1]'(by omega)).s else none
def aheadK (l : List K) (j : Nat) : Option ByteArray := if h : 0 < j ∧ j ≤ l.length then some (l[j - 1]'(by omega)).s else none
theorem aheadE_zero (l : List E) : aheadE l 0 = none := by unfold aheadE; simp
theorem aheadE_succ (l : List E) {j : Nat} (hj : j < l.length) : aheadE l (j + 1) = some l[j].s := by unfold aheadE; rw [dif_pos ⟨by omega, by omega⟩]; rfl
theorem aheadK_zero (l : List K) : aheadK l 0 = none := by unfold aheadK; simp
theorem aheadK_succ (l : List K) {j : Nat} (hj : j < l.length) : aheadK l (j + 1) = some l[j].s := by unfold aheadK; rw [dif_pos ⟨by omega, by omega⟩]; rfl
theorem ebad_at (a b c d e f h : Int) (p : Option ByteArray) (l : List E) {j : Nat} (hj : j < l.length) : ebad a b c d e f h p (l.drop j) = if rb (nbad a b c d e f h l[j].s l[j].l) l[j].l ≠ 0 then rb (nbad a b c d e f h l[j].s l[j].l) l[j].l else if behind l[j].s p = true then 60 else ebad a b c d e f h (some l[j].s) (l.drop (j + 1)) := by
  rw [List.drop_eq_getElem_cons hj]; rfl
theorem ebad_end (a b c d e f h : Int) (p : Option ByteArray) (l : List E) {j : Nat} (hj : l.length ≤ j) : ebad a b c d e f h p (l.drop j) = 0 := by
  rw [List.drop_eq_nil_of_le hj]; cases p <;> rfl
theorem kbad_at (b : Int) (p : Option ByteArray) (l : List K) {j : Nat} (hj : j < l.length) : kbad b p (l.drop j) = if l[j].s.size = 0 then 4 else if b < l[j].s.size then 5 else if ¬ refOk l[j].g l[j].o l[j].n then 61 else if behind l[j].s p = true then 60 else kbad b (some l[j].s) (l.drop (j + 1)) := by
  rw [List.drop_eq_getElem_cons hj]; rfl
theorem kbad_end (b : Int) (p : Option ByteArray) (l : List K) {j : Nat} (hj : l.length ≤ j) : kbad b p (l.drop j) = 0 := by
  rw [List.drop_eq_nil_of_le hj]; cases p <;> rfl
/-- a node's least name -/
def lowOf (leaf : Bool) (es : List E) (ks : List K) : ByteArray := if leaf = true then (match es with | x :: _ => x.s | [] => ⟨#[]⟩) else (match ks with | x :: _ => x.s | [] => ⟨#[]⟩)
end Go.Proofs.Ytoenkkbcpafanaa.nodes

/- What letheref06's RefRight, leaf, inner, Right and Low answer. -/

namespace Go.Proofs.Ytoenkkbcpafanaa.nodes
set_option linter.unusedVariables false
set_option linter.unusedSimpArgs false
open Go.RowKit Go.Proofs.Ytoenkkbcpafanaa.base Go.Proofs.Ytoenkkbcpafanaa.quotas Go.Proofs.Ytoenkkbcpafanaa.vers

/-- behind a call's beginning: its own boxes hold the quota and the node -/
def Bn (w : World) (a b c d e f h : Int) (lf : Bool) (u u' : Value) (wr : World) : Prop :=
  In7 w w.heap.size a b c d e f h wr ∧ (wr.cell? ⟨w.heap.size + 1, 0, none⟩ = some (.bool lf) ∧ wr.cell? ⟨w.heap.size + 1, 1, none⟩ = some u ∧ wr.cell? ⟨w.heap.size + 1, 2, none⟩ = some u') ∧ w.heap.size + 1 < wr.heap.size
theorem Bn.new (w : World) (a b c d e f h : Int) (lf : Bool) (u u' : Value) : Bn w a b c d e f h lf u u' ((w.alloc (.cells #[.int .i64 a, .int .i64 b, .int .i64 c, .int .i64 d, .int .i64 e, .int .i64 f, .int .i64 h] 113)).alloc (.cells #[.bool lf, u, u'] 87)) := by
  have k := Blk.new (w.alloc (.cells #[.int .i64 a, .int .i64 b, .int .i64 c, .int .i64 d, .int .i64 e, .int .i64 f, .int .i64 h] 113)) 87 #[.bool lf, u, u']
  rw [World.size_alloc] at k
  exact ⟨(In7.new w a b c d e f h).alloc _, ⟨k.cell 0, k.cell 1, k.cell 2⟩, by simp⟩
theorem Bn.next {w wr w' : World} {a b c d e f h : Int} {lf : Bool} {u u' : Value} (h1 : Bn w a b c d e f h lf u u' wr) (hb : Below wr.heap.size wr w') : Bn w a b c d e f h lf u u' w' := by
  obtain ⟨h1, ⟨h2, h3, h5⟩, h4⟩ := h1
  have hs := hb.size
  exact ⟨h1.next hb, ⟨by rw [hb.cell (by simpa using h4)]; exact h2, by rw [hb.cell (by simpa using h4)]; exact h3, by rw [hb.cell (by simpa using h4)]; exact h5⟩, by omega⟩
theorem Bn.alloc {w wr : World} {a b c d e f h : Int} {lf : Bool} {u u' : Value} (h1 : Bn w a b c d e f h lf u u' wr) (ob : Obj) : Bn w a b c d e f h lf u u' (wr.alloc ob) := h1.next ((Below.refl _ _).alloc (Nat.le_refl _) _)
theorem Bn.drewN {w wr : World} {a b c d e f h : Int} {lf : Bool} {u u' : Value} (h1 : Bn w a b c d e f h lf u u' wr) (n : Nat) : Bn w a b c d e f h lf u u' (wr.drewN n) := h1.next ⟨rfl, rfl, rfl, Nat.le_refl _, fun _ _ => rfl⟩
theorem Bn.drew {w wr : World} {a b c d e f h : Int} {lf : Bool} {u u' : Value} (h1 : Bn w a b c d e f h lf u u' wr) : Bn w a b c d e f h lf u u' wr.drew := h1.next ((Below.refl _ _).drew)
theorem Bn.below {w wr : World} {a b c d e f h : Int} {lf : Bool} {u u' : Value} (h1 : Bn w a b c d e f h lf u u' wr) : Below w.heap.size w wr := h1.1.2.2.2
theorem _root_.Go.Proofs.Ytoenkkbcpafanaa.vers.Vs.now {w wr : World} {B : Nat} {l : List V} {A : Option Addr} {c : Nat} (h : Vs w B l A c) (hb : Below B w wr) (hB : B ≤ wr.heap.size) : Vs wr wr.heap.size l A c := (h.below hb).more hB

set_option maxRecDepth 100000 in
set_option maxHeartbeats 1000000 in
theorem refRef_ok (k : Nat) (g o n : Int) (w : World) (hr : refOk g o n) :
    Calls Try.prog 180 #[.agg #[.int .u64 (k : Int), .int .i64 g, .int .i64 o, .int .i64 n]] w fun x w' => x = .returned (.bool true) ∧ Below w.heap.size w w' := by
  obtain ⟨⟨h1, h2⟩, ⟨h3, h4⟩, h5, h6⟩ := hr
  go_enter Try.func180, Try.ntmps180
  go_wp2_with fail
  go_ret
  exact ⟨rfl, (Below.refl _ _).alloc (Nat.le_refl _) _⟩

set_option maxRecDepth 100000 in
set_option maxHeartbeats 1000000 in
theorem refRef_no (k : Nat) (g o n : Int) (w : World) (hr : ¬ refOk g o n) :
    Calls Try.prog 180 #[.agg #[.int .u64 (k : Int), .int .i64 g, .int .i64 o, .int .i64 n]] w fun x w' => x = .returned (.bool false) ∧ Below w.heap.size w w' := by
  by_cases t0 : 0 ≤ g
  rotate_left
  · clear hr
    go_enter Try.func180, Try.ntmps180
    go_wp2_with fail
    go_ret
    exact ⟨rfl, (Below.refl _ _).alloc (Nat.le_refl _) _⟩
  by_cases t1 : g ≤ 1048576
  rotate_left
  · clear hr
    go_enter Try.func180, Try.ntmps180
    go_wp2_with fail
    go_ret
    exact ⟨rfl, (Below.refl _ _).alloc (Nat.le_refl _) _⟩
  by_cases t2 : 0 ≤ o
  rotate_left
  · clear hr
    go_enter Try.func180, Try.ntmps180
    go_wp2_with fail
    go_ret
    exact ⟨rfl, (Below.refl _ _).alloc (Nat.le_refl _) _⟩
  by_cases t3 : o ≤ 134217728
  rotate_left
  · clear hr
    go_enter Try.func180, Try.ntmps180
    go_wp2_with fail
    go_ret
    exact ⟨rfl, (Below.refl _ _).alloc (Nat.le_refl _) _⟩
  by_cases t4 : 1 ≤ n
  rotate_left
  · clear hr
    go_enter Try.func180, Try.ntmps180
    go_wp2_with fail
    go_ret
    exact ⟨rfl, (Below.refl _ _).alloc (Nat.le_refl _) _⟩
  by_cases t5 : n ≤ 1048576
  rotate_left
  · clear hr
    go_enter Try.func180, Try.ntmps180
    go_wp2_with fail
    go_ret
    exact ⟨rfl, (Below.refl _ _).alloc (Nat.le_refl _) _⟩
  exact absurd ⟨⟨t0, t1⟩, ⟨t2, t3⟩, t4, t5⟩ hr

theorem refRef_any (k : Nat) (g o n : Int) (w : World) :
    Calls Try.prog 180 #[.agg #[.int .u64 (k : Int), .int .i64 g, .int .i64 o, .int .i64 n]] w fun x w' => x = .returned (.bool (decide (refOk g o n))) ∧ Below w.heap.size w w' := by
  by_cases h : refOk g o n
  · rw [decide_eq_true h]; exact refRef_ok k g o n w h
  · rw [decide_eq_false h]; exact refRef_no k g o n w h

/-- a round's head of leaf: so far nothing is wrong -/
def LHead (w : World) (a b c d e f h : Int) (lf : Bool) (es : List E) (u u' : Value) (x : Value) (wr : World) : Prop :=
  ∃ j : Nat, j ≤ es.length ∧ x = .int .i64 j ∧ Hid (ebad a b c d e f h none es = ebad a b c d e f h (aheadE es j) (es.drop j)) ∧ Bn w a b c d e f h lf u u' wr

set_option maxRecDepth 100000 in
set_option maxHeartbeats 1000000 in
theorem leaf_bad1 (a b c d e f h : Int) (lf : Bool) (ne nk : Nat) (A : Option Addr) (cap : Nat) (A' : Option Addr) (cap' : Nat) (w : World) (hp : 0 < nk) (hm : nk ≤ 140737488355328) :
    Calls Try.prog 128 #[.agg #[.int .i64 a, .int .i64 b, .int .i64 c, .int .i64 d, .int .i64 e, .int .i64 f, .int .i64 h], .agg #[.bool lf, .slice A ne cap, .slice A' nk cap']] w fun x w' => x = .returned (.int .i64 60) ∧ Below w.heap.size w w' := by
  have I0 := Bn.new w a b c d e f h lf (.slice A ne cap) (.slice A' nk cap')
  have hp1 : (0 : Int) < (nk : Int) := by omega
  go_enter Try.func128, Try.ntmps128
  go_wp2_with fail
  go_ret
  exact ⟨rfl, I0.below⟩

set_option maxRecDepth 100000 in
set_option maxHeartbeats 1000000 in
theorem leaf_bad2 (a b c d e f h : Int) (lf : Bool) (ne : Nat) (A : Option Addr) (cap : Nat) (A' : Option Addr) (cap' : Nat) (w : World) (hp : (4 : Int) < (ne : Int)) (hm : ne ≤ 140737488355328) :
    Calls Try.prog 128 #[.agg #[.int .i64 a, .int .i64 b, .int .i64 c, .int .i64 d, .int .i64 e, .int .i64 f, .int .i64 h], .agg #[.bool lf, .slice A ne cap, .slice A' 0 cap']] w fun x w' => x = .returned (.int .i64 60) ∧ Below w.heap.size w w' := by
  have I0 := Bn.new w a b c d e f h lf (.slice A ne cap) (.slice A' 0 cap')
  go_enter Try.func128, Try.ntmps128
  go_wp2_with fail
  go_ret
  exact ⟨rfl, I0.below⟩

set_option maxRecDepth 100000 in
set_option maxHeartbeats 1000000 in
theorem leaf_loop (a b c d e f h : Int) (lf : Bool) (es : List E) (A : Option Addr) (cap : Nat) (A' : Option Addr) (cap' : Nat) (w : World) (hv : Es w w.heap.size es A cap) (h4 : ¬ (4 : Int) < (es.length : Int)) :
    Calls Try.prog 128 #[.agg #[.int .i64 a, .int .i64 b, .int .i64 c, .int .i64 d, .int .i64 e, .int .i64 f, .int .i64 h], .agg #[.bool lf, .slice A es.length cap, .slice A' 0 cap']] w fun x w' => x = .returned (.int .i64 (ebad a b c d e f h none es)) ∧ Below w.heap.size w w' := by
      have hlen : es.length ≤ 140737488355328 := by have := hv.2.1; omega
      have I0 := Bn.new w a b c d e f h lf (.slice A es.length cap) (.slice A' 0 cap')
      go_enter Try.func128, Try.ntmps128
      go_wp2_with fail
      go_loopw [21] (fun x wr => LHead w a b c d e f h lf es (.slice A es.length cap) (.slice A' 0 cap') x wr) (fun x _ => es.length - (intOf x).toNat)
      case atStart => exact ⟨0, Nat.zero_le _, rfl, lay (by rw [aheadE_zero]; rfl), I0⟩
      case round =>
        obtain ⟨j, hj, rfl, hV, I2⟩ := hrel
        clear I0
        obtain ⟨⟨⟨c0, c1, c2, c3, c4, c5, c6⟩, l1, l2, b1⟩, ⟨n0, n1, n2⟩, l3⟩ := id I2
        by_cases hlt : j < es.length
        · obtain ⟨bk, off, rfl, hbk, e0, e1, hVs⟩ := (hv.below b1).at_ hlt
          have hat := lay (ebad_at a b c d e f h (aheadE es j) es hlt)
          have hsu := lay (aheadE_succ es hlt)
          have hvl : es[j].l.length ≤ 140737488355328 := by have h2 := hVs.2.1; omega
          have I3 := I2.alloc (.cells #[.string es[j].s, .slice es[j].A es[j].l.length es[j].c] 47)
          have hbox := Blk.new wr 47 #[.string es[j].s, .slice es[j].A es[j].l.length es[j].c]
          have hc := refSecret_any a b c d e f h es[j].s es[j].l es[j].A es[j].c _ (hVs.now ((Below.refl w.heap.size wr).alloc b1.size (.cells #[.string es[j].s, .slice es[j].A es[j].l.length es[j].c] 47)) (by have := b1.size; simp; omega))
          clear hVs
          generalize hn : rb (nbad a b c d e f h es[j].s es[j].l) es[j].l = n at hc hat
          clear hn
          by_cases hn0 : n = 0
          · have z1 : (n != 0) = false := by simp [hn0]
            have hat2 := lay (hat.out.trans (if_neg (by simpa using hn0)))
            clear hn0 hat
            go_wp2_with fail
            refine hc.mono ?_
            rintro x w1 ⟨rfl, hb1⟩
            have I4 := I3.next hb1
            have hbx := hbox.below hb1 hbox.lt
            have x0 := hbx.cell 0
            simp at x0
            have x9 := hbx.lt
            clear c0 c1 c2 c3 c4 c5 c6 l1 l2 n0 n1 n2 l3 e0 e1 hbox hbx I2 I3 hb1 hc b1
            obtain ⟨⟨⟨c0, c1, c2, c3, c4, c5, c6⟩, l1, l2, b1⟩, ⟨n0, n1, n2⟩, l3⟩ := id I4
            go_wp2_with fail
            by_cases hj0 : j = 0
            · subst hj0
              have hat3 := lay (hat2.out.trans (if_neg (by rw [aheadE_zero]; simp [behind])))
              have hV2 : Hid (ebad a b c d e f h none es = ebad a b c d e f h (aheadE es (0 + 1)) (es.drop (0 + 1))) := lay (hV.out.trans (hat3.out.trans (by rw [hsu.out])))
              clear hat2 hat3
              go_quiet (fail)
              go_wp2_with fail
              exact ⟨⟨0 + 1, by omega, by go_num, hV2, I4.drewN _⟩, by simp [intOf]; omega⟩
            · obtain ⟨k, rfl⟩ : ∃ k, j = k + 1 := ⟨j - 1, by omega⟩
              have hk1 : k < es.length := by omega
              obtain ⟨bk', off', e', _, y0, _, _⟩ := (hv.below b1).at_ hk1
              cases e'
              have hah := lay (aheadE_succ es hk1)
              have hk2 : (0 : Int) ≤ (k : Int) := by omega
              have hwk : IntKind.i64.wrap (k : Int) = (k : Int) := IntWalk.i64_in _ (by omega)
              have hk3 : (k : Int) < (es.length : Int) := by omega
              cases hs1 : Op.bytesLess es[k + 1].s.toList es[k].s.toList
              · cases hs2 : (es[k + 1].s.toList == es[k].s.toList)
                · have hb0 := sle_no hs1 hs2
                  have hV2 : Hid (ebad a b c d e f h none es = ebad a b c d e f h (aheadE es (k + 1 + 1)) (es.drop (k + 1 + 1))) := lay (hV.out.trans (hat2.out.trans ((if_neg (by rw [hah.out]; show ¬ sle _ _ = true; rw [hb0]; simp)).trans (by rw [hsu.out]))))
                  clear hat2 hb0
                  go_quiet (fail)
                  go_wp2_with fail
                  exact ⟨⟨k + 1 + 1, by omega, by go_num, hV2, I4.drewN _⟩, by simp [intOf]; omega⟩
                · have hb0 := sle_same hs2
                  have hr := lay (hV.out.trans (hat2.out.trans (if_pos (by rw [hah.out]; exact hb0))))
                  clear hat2 hb0
                  go_quiet (fail)
                  go_wp2_with fail
                  go_ret
                  exact ⟨ret_int hr.out.symm, (I4.drewN _).below⟩
              · have hb0 := sle_less hs1
                have hr := lay (hV.out.trans (hat2.out.trans (if_pos (by rw [hah.out]; exact hb0))))
                clear hat2 hb0
                go_quiet (fail)
                go_wp2_with fail
                go_ret
                exact ⟨ret_int hr.out.symm, (I4.drewN _).below⟩
          · have z1 : (n != 0) = true := by simpa using hn0
            have hr := lay (hV.out.trans (hat.out.trans (if_pos (by simpa using hn0))))
            clear hn0 hat
            go_wp2_with fail
            refine hc.mono ?_
            rintro x w1 ⟨rfl, hb1⟩
            have I4 := I3.next hb1
            go_wp2_with fail
            go_ret
            exact ⟨ret_int hr.out.symm, I4.below⟩
        · have hr := lay (hV.out.trans (ebad_end a b c d e f h _ es (by omega)))
          go_wp2_with fail
          go_ret
          exact ⟨ret_int hr.out.symm, b1⟩

theorem refLeaf_any (a b c d e f h : Int) (lf : Bool) (es : List E) (ks : List K) (A : Option Addr) (cap : Nat) (A' : Option Addr) (cap' : Nat) (w : World) (hv : Es w w.heap.size es A cap) (hk : Ks w w.heap.size ks A' cap') :
    Calls Try.prog 128 #[.agg #[.int .i64 a, .int .i64 b, .int .i64 c, .int .i64 d, .int .i64 e, .int .i64 f, .int .i64 h], .agg #[.bool lf, .slice A es.length cap, .slice A' ks.length cap']] w fun x w' => x = .returned (.int .i64 (if 0 < ks.length ∨ 4 < es.length then 60 else ebad a b c d e f h none es)) ∧ Below w.heap.size w w' := by
  by_cases g1 : 0 < ks.length
  · rw [if_pos (Or.inl g1)]
    exact leaf_bad1 a b c d e f h lf _ _ A cap A' cap' w g1 (by have := hk.2.1; omega)
  · rw [show ks.length = 0 by omega]
    by_cases g2 : 4 < es.length
    · rw [if_pos (Or.inr g2)]
      exact leaf_bad2 a b c d e f h lf _ A cap A' cap' w (by omega) (by have := hv.2.1; omega)
    · rw [if_neg (by omega)]
      exact leaf_loop a b c d e f h lf es A cap A' cap' w hv (by omega)

end Go.Proofs.Ytoenkkbcpafanaa.nodes
