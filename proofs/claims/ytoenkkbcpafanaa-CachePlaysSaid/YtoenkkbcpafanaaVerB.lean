/- Named and Right of the document, of anything; Last and At. -/
import Derived.Test.YtoenkkbcpafanaaVerA


namespace Go.Proofs.Ytoenkkbcpafanaa.vers
set_option linter.unusedVariables false
set_option linter.unusedSimpArgs false
open Go.RowKit Go.Proofs.Ytoenkkbcpafanaa.base Go.Proofs.Ytoenkkbcpafanaa.quotas

theorem nbad_no {a b c d e f h : Int} (hk : ¬ ok a b c d e f h) (s : ByteArray) (l : List V) : nbad a b c d e f h s l = 40 := by unfold nbad; rw [if_neg hk]
theorem nbad_yes {a b c d e f h : Int} (hk : ok a b c d e f h) (s : ByteArray) (l : List V) : nbad a b c d e f h s l = if s.size = 0 then 4 else if b < s.size then 5 else if e < l.length then 50 else vbad c d 0 l := by unfold nbad; rw [if_pos hk]

set_option maxRecDepth 100000 in
set_option maxHeartbeats 400000 in
theorem named_any (a b c d e f h : Int) (s : ByteArray) (l : List V) (A : Option Addr) (cap : Nat) (w : World) (hv : Vs w w.heap.size l A cap) :
    Calls Try.prog 219 #[.agg #[.int .i64 a, .int .i64 b, .int .i64 c, .int .i64 d, .int .i64 e, .int .i64 f, .int .i64 h], .agg #[.string s, .slice A l.length cap]] w fun x w' => x = .returned (.int .i64 (nbad a b c d e f h s l)) ∧ Below w.heap.size w w' := by
  have hlen := len_in hv
  by_cases hk : ok a b c d e f h
  · rw [nbad_yes hk]
    by_cases h1 : s.size = 0
    · rw [if_pos h1]
      have hs0 := empty_yes h1
      clear h1
      go_enter Try.func219, Try.ntmps219
      go_wp2_with (go_at_call 58; refine (refRight_ok _ _ _ _ _ _ _ _ hk).mono ?_; rintro x w1 ⟨rfl, hb1⟩; have I1 := (Bx.new w a b c d e f h s (.slice A l.length cap)).next hb1; clear hb1; obtain ⟨⟨⟨c0, c1, c2, c3, c4, c5, c6⟩, l1, l2, b1⟩, ⟨e0, e1⟩, l3⟩ := id I1)
      go_ret
      exact ⟨rfl, b1⟩
    · rw [if_neg h1]
      have hs0 := empty_no h1
      by_cases h2 : b < (s.size : Int)
      · rw [if_pos h2]
        clear h1
        go_enter Try.func219, Try.ntmps219
        go_wp2_with (go_at_call 58; refine (refRight_ok _ _ _ _ _ _ _ _ hk).mono ?_; rintro x w1 ⟨rfl, hb1⟩; have I1 := (Bx.new w a b c d e f h s (.slice A l.length cap)).next hb1; clear hb1; obtain ⟨⟨⟨c0, c1, c2, c3, c4, c5, c6⟩, l1, l2, b1⟩, ⟨e0, e1⟩, l3⟩ := id I1)
        go_ret
        exact ⟨rfl, b1⟩
      · rw [if_neg h2]
        by_cases h3 : e < (l.length : Int)
        · rw [if_pos h3]
          clear h1
          go_enter Try.func219, Try.ntmps219
          go_wp2_with (go_at_call 58; refine (refRight_ok _ _ _ _ _ _ _ _ hk).mono ?_; rintro x w1 ⟨rfl, hb1⟩; have I1 := (Bx.new w a b c d e f h s (.slice A l.length cap)).next hb1; clear hb1; obtain ⟨⟨⟨c0, c1, c2, c3, c4, c5, c6⟩, l1, l2, b1⟩, ⟨e0, e1⟩, l3⟩ := id I1)
          go_ret
          exact ⟨rfl, b1⟩
        · rw [if_neg h3]
          exact named_loop a b c d e f h s l A cap w hk hv h1 (by omega) (by omega)
  · rw [nbad_no hk]
    go_enter Try.func219, Try.ntmps219
    go_wp2_with (go_at_call 58; refine (refRight_no _ _ _ _ _ _ _ _ hk).mono ?_; rintro x w1 ⟨rfl, hb1⟩; have I1 := (Bx.new w a b c d e f h s (.slice A l.length cap)).next hb1)
    go_ret
    exact ⟨rfl, I1.below⟩

/-- what is wrong with a secret -/
def rb (n : Int) (l : List V) : Int := if n = 0 ∧ l.length = 0 then 50 else n

set_option maxRecDepth 100000 in
set_option maxHeartbeats 400000 in
theorem refSecret_any (a b c d e f h : Int) (s : ByteArray) (l : List V) (A : Option Addr) (cap : Nat) (w : World) (hv : Vs w w.heap.size l A cap) :
    Calls Try.prog 179 #[.agg #[.int .i64 a, .int .i64 b, .int .i64 c, .int .i64 d, .int .i64 e, .int .i64 f, .int .i64 h], .agg #[.string s, .slice A l.length cap]] w fun x w' => x = .returned (.int .i64 (rb (nbad a b c d e f h s l) l)) ∧ Below w.heap.size w w' := by
  have hlen := len_in hv
  have hc := named_any a b c d e f h s l A cap _ ((hv.below (Bx.new w a b c d e f h s (.slice A l.length cap)).below).more (Bx.new w a b c d e f h s (.slice A l.length cap)).below.size)
  generalize nbad a b c d e f h s l = n at hc ⊢
  by_cases hn : n = 0
  · have d1 : (n == 0) = true := by simp [hn]
    by_cases hl : l.length = 0
    · have d2 : ((l.length : Int) == 0) = true := by simp [hl]
      have hr : rb n l = 50 := by unfold rb; rw [if_pos ⟨hn, hl⟩]
      rw [hr]
      clear hr hn hl
      go_enter Try.func179, Try.ntmps179
      go_wp2_with fail
      refine hc.mono ?_
      rintro x w1 ⟨rfl, hb1⟩
      have I1 := (Bx.new w a b c d e f h s (.slice A l.length cap)).next hb1
      clear hb1
      obtain ⟨⟨⟨c0, c1, c2, c3, c4, c5, c6⟩, l1, l2, b1⟩, ⟨e0, e1⟩, l3⟩ := id I1
      go_wp2_with fail
      go_ret
      exact ⟨rfl, b1⟩
    · have d2 : ((l.length : Int) == 0) = false := beq_eq_false_iff_ne.2 (by omega)
      have hr : rb n l = n := by unfold rb; rw [if_neg (fun h => hl h.2)]
      rw [hr]
      clear hr hn
      go_enter Try.func179, Try.ntmps179
      go_wp2_with fail
      refine hc.mono ?_
      rintro x w1 ⟨rfl, hb1⟩
      have I1 := (Bx.new w a b c d e f h s (.slice A l.length cap)).next hb1
      clear hb1
      obtain ⟨⟨⟨c0, c1, c2, c3, c4, c5, c6⟩, l1, l2, b1⟩, ⟨e0, e1⟩, l3⟩ := id I1
      go_wp2_with fail
      go_ret
      exact ⟨rfl, b1⟩
  · have d1 : (n == 0) = false := by simp [hn]
    have hr : rb n l = n := by unfold rb; rw [if_neg (fun h => hn h.1)]
    rw [hr]
    clear hr hn
    go_enter Try.func179, Try.ntmps179
    go_wp2_with fail
    refine hc.mono ?_
    rintro x w1 ⟨rfl, hb1⟩
    have I1 := (Bx.new w a b c d e f h s (.slice A l.length cap)).next hb1
    clear hb1
    obtain ⟨⟨⟨c0, c1, c2, c3, c4, c5, c6⟩, l1, l2, b1⟩, ⟨e0, e1⟩, l3⟩ := id I1
    go_wp2_with fail
    go_ret
    exact ⟨rfl, b1⟩

def V.val (x : V) : Value := .agg #[.int .i64 x.n, .string x.v, .string x.t]
def zV : V := ⟨0, ⟨#[]⟩, ⟨#[]⟩⟩
/-- the last version, or none -/
def lastV (l : List V) : V × Bool := match l.getLast? with | some x => (x, true) | none => (zV, false)
/-- the first version of that number, or none -/
def atV (l : List V) (n : Int) : V × Bool := match l.find? (fun x => x.n == n) with | some x => (x, true) | none => (zV, false)

/-- behind a call's beginning: its own box holds the secret -/
theorem ebox (w : World) (s : ByteArray) (u : Value) : (w.alloc (.cells #[.string s, u] 47)).cell? ⟨w.heap.size, 0, none⟩ = some (.string s) ∧ (w.alloc (.cells #[.string s, u] 47)).cell? ⟨w.heap.size, 1, none⟩ = some u := by
  have k := Blk.new w 47 #[.string s, u]
  exact ⟨k.cell 0, k.cell 1⟩

theorem three_below {B g : Nat} {a w : World} (h : Below B a w) (hg : B ≤ g) (u v x : Value) : Below B a (((w.setCell ⟨g, 0, none⟩ u).setCell ⟨g, 1, none⟩ v).setCell ⟨g, 2, none⟩ x) :=
  ((h.setCell hg u).setCell hg v).setCell hg x
theorem atV_drop (l : List V) (n : Int) {j : Nat} (hj : j < l.length) : atV (l.drop j) n = if l[j].n == n then (l[j], true) else atV (l.drop (j + 1)) n := by
  rw [List.drop_eq_getElem_cons hj]
  unfold atV
  rw [List.find?_cons]
  cases l[j].n == n <;> rfl
theorem atV_end (l : List V) (n : Int) {j : Nat} (hj : l.length ≤ j) : atV (l.drop j) n = (zV, false) := by
  rw [List.drop_eq_nil_of_le hj]; rfl
/-- At, at a round's head -/
def AHead (w : World) (l : List V) (n : Int) (s : ByteArray) (u : Value) (x : Value) (wr : World) : Prop :=
  ∃ j : Nat, j ≤ l.length ∧ x = .int .i64 j ∧ Hid (atV l n = atV (l.drop j) n) ∧ (wr.cell? ⟨w.heap.size, 0, none⟩ = some (.string s) ∧ wr.cell? ⟨w.heap.size, 1, none⟩ = some u) ∧ Blk wr (w.heap.size + 1) 180 #[.int .i64 0, .string ⟨#[]⟩, .string ⟨#[]⟩] ∧ w.heap.size + 1 < wr.heap.size ∧ Below w.heap.size w wr

end Go.Proofs.Ytoenkkbcpafanaa.vers
