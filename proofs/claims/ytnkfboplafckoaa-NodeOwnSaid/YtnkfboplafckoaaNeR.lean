/- The walk of NodeOwn. -/
import Derived.Test.YtnkfboplafckoaaNeQ
import Derived.Test.YtnkfboplafckoaaNeK
import Derived.Test.YtnkfboplafckoaaNeCG


namespace Go.Proofs.Ytnkfboplafckoaa.nodes
set_option linter.unusedVariables false
set_option linter.unusedSimpArgs false
open Go.RowKit Go.Proofs.Ytnkfboplafckoaa.base Go.Proofs.Ytnkfboplafckoaa.quotas Go.Proofs.Ytnkfboplafckoaa.vers Go.Proofs.Ytnkfboplafckoaa.tm Go.Proofs.Ytnkfboplafckoaa.lies Go.Proofs.Ytnkfboplafckoaa.copies Go.Proofs.Ytnkfboplafckoaa.makes Go.Proofs.Ytnkfboplafckoaa.trees

theorem ownTerm2_any (a b c d e f h : Int) (lf : Bool) (es : List E) (ks : List K) (A : Option Addr) (cap : Nat) (A' : Option Addr) (cap' : Nat) (w : World) (hv : Es w w.heap.size es A cap) (hk : Ks w w.heap.size ks A' cap') :
    Calls Try.prog 5 #[.agg #[.int .i64 a, .int .i64 b, .int .i64 c, .int .i64 d, .int .i64 e, .int .i64 f, .int .i64 h], .agg #[.bool lf, .slice A es.length cap, .slice A' ks.length cap']] w (Ans2 w (termP a b c d e f h lf es ks)) := by
  cases lf with
  | true => exact ownTerm2_leaf a b c d e f h es ks A cap A' cap' w hv hk
  | false => exact ownTerm2_inner a b c d e f h es ks A cap A' cap' w hv hk

theorem Bn.low {w wr w' : World} {a b c d e f h : Int} {lf : Bool} {u u' : Value} {B : Nat} (h1 : Bn w a b c d e f h lf u u' wr) (hb : Below B wr w') (hB : w.heap.size + 1 < B) : Bn w a b c d e f h lf u u' w' := by
  obtain ⟨⟨⟨q0, q1, q2, q3, q4, q5, q6⟩, l1, l2, b1⟩, ⟨y0, y1, y2⟩, l3⟩ := h1
  have s := hb.size
  exact ⟨⟨⟨(hb.cell (by simp only; omega)).trans q0, (hb.cell (by simp only; omega)).trans q1, (hb.cell (by simp only; omega)).trans q2, (hb.cell (by simp only; omega)).trans q3, (hb.cell (by simp only; omega)).trans q4, (hb.cell (by simp only; omega)).trans q5, (hb.cell (by simp only; omega)).trans q6⟩, l1, by omega, b1.trans (hb.mono (by omega))⟩,
    ⟨(hb.cell (by simp only; omega)).trans y0, (hb.cell (by simp only; omega)).trans y1, (hb.cell (by simp only; omega)).trans y2⟩, by omega⟩
/-- no list within is longer than may be -/
theorem held_len {w : World} {lo hi : Nat} {l : List T} {A : Option Addr} {c : Nat} (h : Held w lo hi l (.slice A l.length c)) (hB : hi ≤ w.heap.size) : l.length ≤ 140737488355328 ∧ ∀ j, j < l.length → ∀ g, A = some ⟨g, 0, none⟩ → g < w.heap.size ∧ ∀ A' m c', w.cell? ⟨g, j * 4 + 3, none⟩ = some (.slice A' m c') → m ≤ 140737488355328 := by
  obtain ⟨A0, c0, e, hl, h56, hh⟩ := h
  injection e with e1 _ e3
  subst e1 e3
  obtain ⟨xs, hr, hL⟩ := hh w w.heap.size hB (fun _ _ _ => rfl)
  refine ⟨by omega, fun j hj g hg => ?_⟩
  obtain ⟨b, off, A1, c1, e, hb, hl1, _, _, _, h3⟩ := S_at ⟨xs, hl, h56, hr, hL⟩ hj
  rw [hg] at e
  cases e
  refine ⟨hb, fun A' m c' hc => ?_⟩
  rw [Nat.zero_add] at h3
  rw [h3] at hc
  cases hc
  obtain ⟨_, _, h5, _⟩ := (S_of hl1).1
  omega

/-! ### rows that are written over stay rows -/
def RowN (w : World) (t : TypeId) (k : Nat) (A : Option Addr) (n : Nat) (P : Nat → Prop) : Prop := n = 0 ∨ ∃ g cs, A = some ⟨g, 0, none⟩ ∧ P g ∧ Blk w g t cs ∧ n * k ≤ cs.size
theorem blk_set {w : World} {g : Nat} {t : TypeId} {cs : Array Value} (h : Blk w g t cs) (b o : Nat) (u : Value) : ∃ cs', Blk (w.setCell ⟨b, o, none⟩ u) g t cs' ∧ cs'.size = cs.size := by
  by_cases e : g = b
  · subst e; exact ⟨_, h.put o u, by simp⟩
  · exact ⟨cs, h.far (p := ⟨b, o, none⟩) e u, rfl⟩
theorem RowN.set {w : World} {t : TypeId} {k : Nat} {A : Option Addr} {n : Nat} {P : Nat → Prop} (h : RowN w t k A n P) (b o : Nat) (u : Value) : RowN (w.setCell ⟨b, o, none⟩ u) t k A n P := by
  rcases h with h | ⟨g, cs, e, hp, hb, hs⟩
  · exact .inl h
  · obtain ⟨cs', h1, h2⟩ := blk_set hb b o u
    exact .inr ⟨g, cs', e, hp, h1, by omega⟩
theorem RowN.keep {w w' : World} {t : TypeId} {k : Nat} {A : Option Addr} {n : Nat} {P : Nat → Prop} (h : RowN w t k A n P) (hk : ∀ g, P g → w'.heap[g]? = w.heap[g]?) : RowN w' t k A n P := by
  rcases h with h | ⟨g, cs, e, hp, hb, hs⟩
  · exact .inl h
  · exact .inr ⟨g, cs, e, hp, (hk g hp).trans hb, hs⟩
theorem RowN.of {w : World} {t : TypeId} {k lo n : Nat} {A : Option Addr} {c : Nat} {xs : List Value} {P : Nat → Prop} (h : w.ownsRow lo t k (.slice A n c) n xs) (hp : ∀ g, (Value.slice A n c).ownBlock = some g → P g) : RowN w t k A n P := by
  obtain ⟨hx, h1⟩ := h
  rcases h1 with ⟨e, hn⟩ | ⟨g, cap, cur, e, hg, hb, hc, h2, hs, ht⟩
  · exact .inl hn
  · injection e with e1 e2 e3
    subst e1 e3
    exact .inr ⟨g, cur, rfl, hp g rfl, hb, by rw [hs]; exact Nat.mul_le_mul_right _ hc⟩
/-- a term's list, of rows -/
structure TW (w0 : World) (lo hi : Nat) (g0 : Nat) (cs0 : Array Value) (n : Nat) (wr : World) : Prop where
  keep : Keep (fun g => lo ≤ g ∧ g < hi) w0 wr
  row : Blk wr g0 31 cs0
  size : cs0.size = n * 4
  at0 : lo ≤ g0 ∧ g0 < hi
  subs : ∀ i, i < n → ∃ A m c, cs0[i * 4 + 3]? = some (.slice A m c) ∧ RowN wr 31 4 A m (fun g => g0 < g ∧ g < hi)
theorem TW.set {w0 wr : World} {lo hi g0 n : Nat} {cs0 : Array Value} (h : TW w0 lo hi g0 cs0 n wr) {b : Nat} (hb : g0 < b ∧ b < hi) (o : Nat) (u : Value) : TW w0 lo hi g0 cs0 n (wr.setCell ⟨b, o, none⟩ u) := by
  obtain ⟨h1, h2, h3, h4, h5⟩ := h
  refine ⟨⟨h1.os, h1.tape, h1.output, by simpa using h1.size, fun k hk hn => ?_⟩, h2.far (p := ⟨b, o, none⟩) (by simp; omega) u, h3, h4, fun i hi => ?_⟩
  · rw [Below.heap_setCell _ _ _ _ (by simp; omega)]
    exact h1.block k hk hn
  · obtain ⟨A, m, c, e, hr⟩ := h5 i hi
    exact ⟨A, m, c, e, hr.set b o u⟩
theorem TW.of {w : World} {lo hi : Nat} {A : Option Addr} {n : Nat} (h : Row2 w lo hi A n) (hn : 0 < n) : ∃ g0 cs0, A = some ⟨g0, 0, none⟩ ∧ TW w lo hi g0 cs0 n w := by
  rcases h with h | ⟨g, cs, e, h1, h2, hb, hs, hsub⟩
  · omega
  · refine ⟨g, cs, e, Keep.refl _ _, hb, hs, ⟨h1, h2⟩, fun i hi => ?_⟩
    obtain ⟨A', m, c, e', hr⟩ := hsub i hi
    refine ⟨A', m, c, e', ?_⟩
    rcases hr with hr | ⟨g', cs', e2, h3, h4, hb', hs'⟩
    · exact .inl hr
    · exact .inr ⟨g', cs', e2, ⟨by omega, h4⟩, hb', by omega⟩
/-- a node's secrets and kids, of rows -/
structure EW (w0 : World) (lo hi : Nat) (x : List E) (A : Option Addr) (nk : Nat) (Q : Option Addr) (wr : World) : Prop where
  keep : Keep (fun g => lo ≤ g ∧ g < hi) w0 wr
  row : x.length = 0 ∨ ∃ g cs, A = some ⟨g, 0, none⟩ ∧ (lo ≤ g ∧ g < hi) ∧ Blk wr g 53 cs ∧ x.length * 2 ≤ cs.size ∧ ∀ i (h : i < x.length), cs[i * 2 + 1]? = some (.slice x[i].A x[i].l.length x[i].c)
  vers : ∀ y ∈ x, RowN wr 55 3 y.A y.l.length (fun g => lo ≤ g ∧ g < hi)
  kids : RowN wr 43 5 Q nk (fun g => lo ≤ g ∧ g < hi)
theorem keep_set {w0 wr : World} {P : Nat → Prop} (h1 : Keep P w0 wr) {b : Nat} (hb : P b) (o : Nat) (u : Value) : Keep P w0 (wr.setCell ⟨b, o, none⟩ u) :=
  ⟨h1.os, h1.tape, h1.output, by simpa using h1.size, fun k hk hn => by
    rw [Below.heap_setCell _ _ _ _ (by simp; exact fun e => hn (e ▸ hb))]
    exact h1.block k hk hn⟩
theorem blk_ne {w : World} {g g' : Nat} {t t' : TypeId} {cs cs' : Array Value} (h : Blk w g t cs) (h' : Blk w g' t' cs') (ht : t ≠ t') : g ≠ g' := fun e => by
  subst e
  unfold Blk at h h'
  rw [h] at h'
  injection h' with h'
  injection h' with _ h'
  exact ht h'
/-- a store into a block that holds no secrets -/
theorem EW.far {w0 wr : World} {lo hi nk : Nat} {x : List E} {A Q : Option Addr} (h : EW w0 lo hi x A nk Q wr) {b : Nat} {t : TypeId} {cs : Array Value} (hb : Blk wr b t cs) (ht : t ≠ 53) (hp : lo ≤ b ∧ b < hi) (o : Nat) (u : Value) : EW w0 lo hi x A nk Q (wr.setCell ⟨b, o, none⟩ u) := by
  obtain ⟨h1, h2, h3, h4⟩ := h
  refine ⟨keep_set h1 hp o u, ?_, fun y hy => (h3 y hy).set b o u, h4.set b o u⟩
  rcases h2 with h2 | ⟨g, cs2, e, hpg, hbg, hs, hsl⟩
  · exact .inl h2
  · exact .inr ⟨g, cs2, e, hpg, hbg.far (p := ⟨b, o, none⟩) (blk_ne hbg hb (fun e => ht e.symm)) u, hs, hsl⟩
/-- a store into a name -/
theorem EW.name {w0 wr : World} {lo hi nk : Nat} {x : List E} {A Q : Option Addr} (h : EW w0 lo hi x A nk Q wr) {g : Nat} (hA : A = some ⟨g, 0, none⟩) (hp : lo ≤ g ∧ g < hi) (i : Nat) (u : Value) : EW w0 lo hi x A nk Q (wr.setCell ⟨g, i * 2, none⟩ u) := by
  obtain ⟨h1, h2, h3, h4⟩ := h
  refine ⟨keep_set h1 hp _ u, ?_, fun y hy => (h3 y hy).set g _ u, h4.set g _ u⟩
  rcases h2 with h2 | ⟨g', cs2, e, hpg, hbg, hs, hsl⟩
  · exact .inl h2
  · rw [hA] at e
    cases e
    refine .inr ⟨g, _, hA, hpg, hbg.put (i * 2) u, by simpa using hs, fun j hj => ?_⟩
    rw [Array.getElem?_setIfInBounds, if_neg (by omega)]
    exact hsl j hj
theorem EW.of {w : World} {lo hi nk : Nat} {x : List E} {A Q : Option Addr} {c m : Nat} {ks : List K} (h : HEo w lo hi x A c) (hk : HKo w lo hi ks Q m) (hn : nk = ks.length) : EW w lo hi x A nk Q w := by
  subst hn
  refine ⟨Keep.refl _ _, ?_, fun y hy => RowN.of (h.2.2.2 y hy).1.1 (fun g hg => ((h.2.2.2 y hy).1.2.2.2 g hg).1), RowN.of hk.1 (fun g hg => hk.2.2.1 g hg)⟩
  obtain ⟨hx, h1⟩ := h.1
  rcases h1 with ⟨_, hn⟩ | ⟨g, cap, cur, e, hg, hb, hc, h2, hs, ht⟩
  · exact .inl hn
  · injection e with e1 e2 e3
    subst e1 e3
    refine .inr ⟨g, cur, rfl, h.2.2.1 g rfl, hb, by rw [hs]; exact Nat.mul_le_mul_right _ hc, fun i hi => ?_⟩
    have h5 := (cellsE_at x hi).2
    rw [← ht, List.getElem?_take] at h5
    split at h5
    · rw [show i * 2 + 1 = 2 * i + 1 by omega]; simpa using h5
    · cases h5

set_option maxRecDepth 100000 in
set_option maxHeartbeats 4000000 in
theorem own_bad (a b c d e f h : Int) (lf : Bool) (es : List E) (ks : List K) (A : Option Addr) (cap : Nat) (A' : Option Addr) (cap' : Nat) (w : World) (hv : Es w w.heap.size es A cap) (hks : Ks w w.heap.size ks A' cap') (n : Int) (hn : ndbad a b c d e f h lf es ks = n) (hz : n ≠ 0) :
    Calls Try.prog 4 #[.agg #[.int .i64 a, .int .i64 b, .int .i64 c, .int .i64 d, .int .i64 e, .int .i64 f, .int .i64 h], .agg #[.bool lf, .slice A es.length cap, .slice A' ks.length cap']] w fun x w' => x = .returned (.bool true) ∧ Below w.heap.size w w' := by
  have B0 := Bn.new w a b c d e f h lf (.slice A es.length cap) (.slice A' ks.length cap')
  have h0 := fun wr (hb : Below w.heap.size w wr) => copy6_any lf es ks A cap A' cap' wr (hv.at_world hb) (hks.at_world hb)
  have h1 := fun wr (hb : Below w.heap.size w wr) => refSeal_any a b c d e f h 1 lf es ks A cap A' cap' wr (by decide) (hv.at_world hb) (hks.at_world hb)
  have h2 := fun wr (hb : Below w.heap.size w wr) => ownTerm2_any a b c d e f h lf es ks A cap A' cap' wr (hv.at_world hb) (hks.at_world hb)
  rw [sealP_no (by rw [hn]; exact hz) 1] at h1
  rw [show termP a b c d e f h lf es ks = (boxes.zT, n) by unfold termP; rw [if_pos (by rw [hn]; exact hz), hn]] at h2
  rw [hn] at h1
  simp only at h1
  have d1 : (n != n) = false := by simp
  have d2 : (n != 0) = true := by simpa using hz
  clear hv hks hn hz
  generalize es.length = ne at *
  generalize hnk : ks.length = nk at *
  have HNK := vers.lay hnk
  clear hnk
  go_enter Try.func4, Try.ntmps4
  go_wp2_with fail
  refine (h0 _ B0.below).mono ?_
  rintro x w1 ⟨hb1, esw, Aw, cw, Qw, mw, rfl, _, _, _⟩
  have B1 := (B0.next hb1).alloc (.cells #[.bool lf, .slice Aw esw.length cw, .slice Qw ks.length mw] 27)
  have B1' := B0.next hb1
  clear B0 hb1 h0
  obtain ⟨⟨⟨q0, q1, q2, q3, q4, q5, q6⟩, l1, l2, b1⟩, ⟨y0, y1, y2⟩, l3⟩ := id B1'
  go_wp2_with fail
  refine (h1 _ B1.below).mono ?_
  rintro x w2 ⟨rfl, hb2⟩
  have B2 := B1.next hb2
  clear q0 q1 q2 q3 q4 q5 q6 l1 l2 b1 y0 y1 y2 l3
  clear B1 B1' hb2 h1
  obtain ⟨⟨⟨q0, q1, q2, q3, q4, q5, q6⟩, l1, l2, b1⟩, ⟨y0, y1, y2⟩, l3⟩ := id B2
  go_wp2_with fail
  refine (h2 _ b1).mono ?_
  rintro x w3 ⟨hb3, AT, cT, rfl, _, _, _⟩
  rw [show T.val (boxes.zT, n).1 (.slice AT (boxes.zT, n).1.l.length cT) = .agg #[.int .i64 0, .int .u64 0, .string ⟨#[]⟩, .slice AT 0 cT] from rfl]
  have B3 := (B2.next hb3).alloc (.cells #[.int .i64 0, .int .u64 0, .string ⟨#[]⟩, .slice AT 0 cT] 31)
  clear q0 q1 q2 q3 q4 q5 q6 l1 l2 b1 y0 y1 y2 l3
  clear B2 hb3 h2
  go_wp2_with fail
  go_ret
  exact ⟨rfl, B3.below⟩

set_option maxRecDepth 100000 in
set_option maxHeartbeats 4000000 in
theorem own_good (a b c d e f h : Int) (lf : Bool) (es : List E) (ks : List K) (A : Option Addr) (cap : Nat) (A' : Option Addr) (cap' : Nat) (w : World) (hv : Es w w.heap.size es A cap) (hks : Ks w w.heap.size ks A' cap') (hz : ndbad a b c d e f h lf es ks = 0) :
    Calls Try.prog 4 #[.agg #[.int .i64 a, .int .i64 b, .int .i64 c, .int .i64 d, .int .i64 e, .int .i64 f, .int .i64 h], .agg #[.bool lf, .slice A es.length cap, .slice A' ks.length cap']] w fun x w' => x = .returned (.bool true) ∧ Below w.heap.size w w' := by
  have B0 := Bn.new w a b c d e f h lf (.slice A es.length cap) (.slice A' ks.length cap')
  have hfit := hks.2.2.2.2
  have h0 := fun wr (hb : Below w.heap.size w wr) => copy6_any lf es ks A cap A' cap' wr (hv.at_world hb) (hks.at_world hb)
  have h1 := fun wr (hb : Below w.heap.size w wr) => refSeal_any a b c d e f h 1 lf es ks A cap A' cap' wr (by decide) (hv.at_world hb) (hks.at_world hb)
  have h2 := fun wr (hb : Below w.heap.size w wr) => ownTerm2_any a b c d e f h lf es ks A cap A' cap' wr (hv.at_world hb) (hks.at_world hb)
  rw [sealP_ok hz 1] at h1
  rw [show termP a b c d e f h lf es ks = (nodeT lf es ks, 0) by unfold termP; rw [if_neg (by simpa using hz)]] at h2
  obtain ⟨_, _, s3⟩ := size_ok hz hfit (key := 1) (by decide)
  have h3 := fun wr => ownOpeno_any a b c d e f h 1 _ wr s3
  rw [openP_ok hz hfit (by decide) 1, if_pos rfl] at h3
  simp only at h1
  generalize (⟨(boxes.boxT 1 (nodeT lf es ks)).enc.toArray⟩ : ByteArray) = sb at *
  have hEn := fun wr (hb : Below w.heap.size w wr) => hv.at_world hb
  have hKn := fun wr (hb : Below w.heap.size w wr) => hks.at_world hb
  generalize nodeT lf es ks = t at h2
  have HPE := vers.lay (rfl : es.map pe = es.map pe)
  clear hv hks hz hfit s3
  go_enter Try.func4, Try.ntmps4
  go_wp2_with fail
  refine (h0 _ B0.below).mono ?_
  rintro x w1 ⟨hb1, esw, Aw, cw, Qw, mw, rfl, hpw, hEw, hKw⟩
  have B1' := B0.next hb1
  have D1 : Below w1.heap.size w1 (w1.alloc (.cells #[.bool lf, .slice Aw esw.length cw, .slice Qw ks.length mw] 27)) := (Below.refl _ _).alloc (Nat.le_refl _) _
  have B1 := B1'.next D1
  have X1 := Blk.new w1 27 #[.bool lf, .slice Aw esw.length cw, .slice Qw ks.length mw]
  have hEW1 := hEw.at_world D1
  have hKW1 := hKw.at_world D1
  have HPW := vers.lay hpw
  clear B0 hb1 h0 D1 hpw hEw hKw
  obtain ⟨⟨⟨q0, q1, q2, q3, q4, q5, q6⟩, l1, l2, b1⟩, ⟨y0, y1, y2⟩, l3⟩ := id B1'
  go_wp2_with fail
  generalize w1.alloc (.cells #[.bool lf, .slice Aw esw.length cw, .slice Qw ks.length mw] 27) = W1 at *
  generalize w1.heap.size = gW at *
  refine (h1 _ B1.below).mono ?_
  rintro x w2 ⟨rfl, hb2⟩
  have B2 := B1.next hb2
  have X2 := X1.below hb2 X1.lt
  clear q0 q1 q2 q3 q4 q5 q6 l1 l2 b1 y0 y1 y2 l3
  clear B1' h1
  obtain ⟨⟨⟨q0, q1, q2, q3, q4, q5, q6⟩, l1, l2, b1⟩, ⟨y0, y1, y2⟩, l3⟩ := id B2
  go_wp2_with fail
  refine (h2 _ b1).mono ?_
  rintro x w3 ⟨hb3, AT, cT, rfl, hHeld, _, hRow⟩
  simp only at hRow hHeld
  obtain ⟨hnT, hM⟩ := held_len hHeld (Nat.le_refl _)
  have hM : ∀ j, j < t.l.length → ∀ g, AT = some ⟨g, 0, none⟩ → ∀ A' m c', (w3.alloc (.cells #[.int .i64 t.k, .int .u64 t.n, .string t.s, .slice AT t.l.length cT] 31)).cell? ⟨g, j * 4 + 3, none⟩ = some (.slice A' m c') → m ≤ 140737488355328 := fun j hj g hg A' m c' hc => (hM j hj g hg).2 A' m c' (by rw [World.cell?_alloc_lt _ _ _ (hM j hj g hg).1] at hc; exact hc)
  rw [show T.val (t, (0 : Int)).1 (.slice AT (t, (0 : Int)).1.l.length cT) = .agg #[.int .i64 t.k, .int .u64 t.n, .string t.s, .slice AT t.l.length cT] from rfl]
  have D3 : Below w3.heap.size w3 (w3.alloc (.cells #[.int .i64 t.k, .int .u64 t.n, .string t.s, .slice AT t.l.length cT] 31)) := (Below.refl _ _).alloc (Nat.le_refl _) _
  have B3' := B2.next hb3
  have B3 := B3'.next D3
  have X3 := (X2.below hb3 X2.lt).below D3 (X2.below hb3 X2.lt).lt
  have T3 := Blk.new w3 31 #[.int .i64 t.k, .int .u64 t.n, .string t.s, .slice AT t.l.length cT]
  have hs3 := hb3.size
  have lX2 := X2.lt
  have hRow := hRow.move (w' := w3.alloc (.cells #[.int .i64 t.k, .int .u64 t.n, .string t.s, .slice AT t.l.length cT] 31)) (Nat.le_refl _) (Nat.le_refl _) (fun g _ hg => Below.heap_alloc _ _ _ hg)
  clear q0 q1 q2 q3 q4 q5 q6 l1 l2 b1 y0 y1 y2 l3
  have b13 := (hb2.trans (hb3.mono hb2.size)).trans (D3.mono (Nat.le_trans hb2.size hb3.size))
  have s12 := hb2.size
  clear h2 X2
  generalize t.l.length = nT at *
  go_wp2_with fail
  generalize w3.alloc (.cells #[.int .i64 t.k, .int .u64 t.n, .string t.s, .slice AT nT cT] 31) = W3 at *
  have hTW : ∃ g0 cs0, 0 < nT → AT = some ⟨g0, 0, none⟩ ∧ TW W3 w2.heap.size w3.heap.size g0 cs0 nT W3 := by
    by_cases hn : 0 < nT
    · obtain ⟨g0, cs0, e, ht⟩ := TW.of hRow hn
      exact ⟨g0, cs0, fun _ => ⟨e, ht⟩⟩
    · exact ⟨0, #[], fun h => absurd h hn⟩
  obtain ⟨g0, cs0, hTW⟩ := hTW
  have hTA := vers.lay (fun h => (hTW h).1)
  have hKT : Keep (fun g => w2.heap.size ≤ g ∧ g < w3.heap.size) W3 W3 := Keep.refl _ _
  have hTS : Hid (0 < nT → TW W3 w2.heap.size w3.heap.size g0 cs0 nT W3) := vers.lay (fun h => (hTW h).2)
  have lT := T3.lt
  have hR0 := vers.lay (fun h => (hTW h).2.row)
  have hM := vers.lay hM
  clear hTW hRow hHeld
  go_loopw [46] (fun i wr => ∃ j : Nat, j ≤ nT ∧ i = .int .i64 (j : Int) ∧ Keep (fun g => w2.heap.size ≤ g ∧ g < w3.heap.size) W3 wr ∧ Hid (0 < nT → TW W3 w2.heap.size w3.heap.size g0 cs0 nT wr)) (fun i _ => nT - (intOf i).toNat)
  case atStart => exact ⟨0, Nat.zero_le _, rfl, hKT, hTS⟩
  case round =>
    clear hKT hTS
    obtain ⟨j, hj, rfl, hKT, hTS⟩ := hrel
    by_cases hlt : j < nT
    · have hTW := hTS.out (by omega)
      have hA := hTA.out (by omega)
      subst hA
      have T4 := hKT.blk T3 (fun h => by omega)
      have t3 := T4.cell 3
      simp at t3
      obtain ⟨Ai, mi, ci, hci, hri⟩ := hTW.subs j hlt
      have u3 := (hTW.row.cell (j * 4 + 3)).trans hci
      have k1 : (0 : Int) ≤ (j : Int) := by omega
      have k2 : (j : Int) < (nT : Int) := by omega
      have lT4 := T4.lt
      have HCI := vers.lay hci
      have hmi : mi ≤ 140737488355328 := hM.out j hlt g0 rfl Ai mi ci (((hR0.out (by omega)).cell _).trans hci)
      clear hTS hri hci
      go_wp2_with fail
      go_loopw [56] (fun x wx => ∃ i : Nat, i ≤ mi ∧ x = .int .i64 (i : Int) ∧ TW W3 w2.heap.size w3.heap.size g0 cs0 nT wx) (fun x _ => mi - (intOf x).toNat)
      case atStart => exact ⟨0, Nat.zero_le _, rfl, hTW⟩
      case round =>
        clear hTW u3 t3 T4 lT4 hKT
        obtain ⟨i, hi, rfl, hTW⟩ := hrel
        have T4 := hTW.keep.blk T3 (fun h => by omega)
        have t3 := T4.cell 3
        simp at t3
        have u3 := (hTW.row.cell (j * 4 + 3)).trans HCI.out
        have lT4 := T4.lt
        by_cases hil : i < mi
        · obtain ⟨A9, m9, c9, h9, hri⟩ := hTW.subs j hlt
          rw [HCI.out] at h9
          cases h9
          rcases hri with h0 | ⟨gi, csi, rfl, hgi, hBi, hsi⟩
          · omega
          · have j1 : (0 : Int) ≤ (i : Int) := by omega
            have j2 : (i : Int) < (mi : Int) := by omega
            have ex : ∀ r, r < 4 → ∃ v, wr.cell? ⟨gi, i * 4 + r, none⟩ = some v := fun r hr => by
              rw [hBi.cell]
              exact ⟨_, Array.getElem?_eq_getElem (by omega)⟩
            obtain ⟨x0, p0⟩ := ex 0 (by omega)
            obtain ⟨x1, p1⟩ := ex 1 (by omega)
            obtain ⟨x2, p2⟩ := ex 2 (by omega)
            obtain ⟨x3, p3⟩ := ex 3 (by omega)
            have f0 := hBi.frozen (i * 4)
            have f1 := hBi.frozen (i * 4 + 1)
            have f2 := hBi.frozen (i * 4 + 2)
            have f3 := hBi.frozen (i * 4 + 3)
            rw [Nat.add_zero] at p0
            have li := hBi.lt
            clear ex
            have HT := vers.lay hTW
            clear hTW hBi hsi
            go_wp2_with fail
            exact ⟨⟨i + 1, hil, by go_num, (((HT.out.set hgi _ _).set hgi _ _).set hgi _ _).set hgi _ _⟩, by simp [intOf]; omega⟩
        · have hn9 : ¬ (i : Int) < (mi : Int) := by omega
          go_wp2_with fail
          exact ⟨⟨j + 1, hlt, by go_num, hTW.keep, vers.lay (fun _ => hTW)⟩, by simp [intOf]; omega⟩
    · have k2 : ¬ (j : Int) < (nT : Int) := by omega
      have bKT := hKT.below (B := w2.heap.size) (fun g hg => hg.1) (by have := B3.2.2; omega)
      have B4 := B3.low bKT (by have := B2.2.2; omega)
      have X4 := X3.below bKT lX2
      have b1r := b13.trans (bKT.mono s12)
      have lo1 := B4.2.2
      have lo2 := X4.lt
      have lo3 := b1r.size
      obtain ⟨⟨⟨q0, q1, q2, q3, q4, q5, q6⟩, l1, l2, b1⟩, ⟨y0, y1, y2⟩, l3⟩ := id B4
      go_wp2_with fail
      refine (h3 wr).mono ?_
      rintro x w5 ⟨hb5, es1, A1, c1, Q1, m1, rfl, hpe1, hE1, hK1⟩
      simp only at hpe1 hK1 ⊢
      have D5 : Below w5.heap.size w5 (w5.alloc (.cells #[.bool lf, .slice A1 es1.length c1, .slice Q1 ks.length m1] 27)) := (Below.refl _ _).alloc (Nat.le_refl _) _
      have B5' := B4.next hb5
      have B5 := B5'.next D5
      have X5 := (X4.below hb5 X4.lt).below D5 (X4.below hb5 X4.lt).lt
      have N1 := Blk.new w5 27 #[.bool lf, .slice A1 es1.length c1, .slice Q1 ks.length m1]
      have hE1 := hE1.move (Nat.le_refl _) (Nat.le_refl _) (FrameO.of_below D5)
      have hK1 := hK1.move (Nat.le_refl _) (Nat.le_refl _) (FrameO.of_below D5)
      have hs5 := hb5.size
      have hsW5 : w5.heap.size < (w5.alloc (.cells #[.bool lf, .slice A1 es1.length c1, .slice Q1 ks.length m1] 27)).heap.size := by simp
      clear q0 q1 q2 q3 q4 q5 q6 l1 l2 b1 y0 y1 y2 l3
      have b15 := (b1r.trans (hb5.mono b1r.size)).trans (D5.mono (Nat.le_trans b1r.size hb5.size))
      clear B4 X4 hKT hTS bKT T3 lT hTA hM hR0 X3 B3 B3' D3 b13 b1r
      obtain ⟨⟨⟨q0, q1, q2, q3, q4, q5, q6⟩, l1, l2, b1⟩, ⟨y0, y1, y2⟩, l3⟩ := id B5'
      go_wp2_with fail
      generalize w5.alloc (.cells #[.bool lf, .slice A1 es1.length c1, .slice Q1 ks.length m1] 27) = W5 at *
      refine (h3 W5).mono ?_
      rintro x w6 ⟨hb6, es2, A2, c2, Q2, m2, rfl, hpe2, hE2, hK2⟩
      simp only at hpe2 hK2 ⊢
      have D6 : Below w6.heap.size w6 (w6.alloc (.cells #[.bool lf, .slice A2 es2.length c2, .slice Q2 ks.length m2] 27)) := (Below.refl _ _).alloc (Nat.le_refl _) _
      have b56 : Below W5.heap.size W5 (w6.alloc (.cells #[.bool lf, .slice A2 es2.length c2, .slice Q2 ks.length m2] 27)) := hb6.trans (D6.mono hb6.size)
      have B6 := B5.next b56
      have b16 := b15.trans (b56.mono b15.size)
      have X6 := X5.below b56 X5.lt
      have N1 := N1.below b56 N1.lt
      have N2 := Blk.new w6 27 #[.bool lf, .slice A2 es2.length c2, .slice Q2 ks.length m2]
      have hE1 := hE1.move (Nat.le_refl _) (Nat.le_refl _) (FrameO.of_below (b56.mono (by omega)))
      have hK1 := hK1.move (Nat.le_refl _) (Nat.le_refl _) (FrameO.of_below (b56.mono (by omega)))
      have hE2 := hE2.move (Nat.le_refl _) (Nat.le_refl _) (FrameO.of_below D6)
      have hK2 := hK2.move (Nat.le_refl _) (Nat.le_refl _) (FrameO.of_below D6)
      have hs6 := hb6.size
      clear q0 q1 q2 q3 q4 q5 q6 l1 l2 b1 y0 y1 y2 l3
      clear B5' D5 D6 b56 B5 X5 h3 hb5 hb6
      have n1 := N1.cell 1
      have n2 := N1.cell 2
      simp at n1 n2
      have lN := N1.lt
      go_wp2_with fail
      generalize w6.alloc (.cells #[.bool lf, .slice A2 es2.length c2, .slice Q2 ks.length m2] 27) = W6 at *
      have hW : EW W6 wr.heap.size w5.heap.size es1 A1 ks.length Q1 W6 := EW.of hE1 hK1 rfl
      have hl1 : es1.length ≤ 140737488355328 := by have := hE1.2.1; omega
      have hlv : Hid (∀ y ∈ es1, y.l.length ≤ 140737488355328) := vers.lay (fun y hy => by have := (hE1.2.2.2 y hy).1.2.1; omega)
      have hlk : ks.length ≤ 140737488355328 := by have := hK1.2.1; omega
      have lw6 : w6.heap.size < W6.heap.size := N2.lt
      have HE2 := vers.lay hE2
      have HK2 := vers.lay hK2
      clear hE1 hK1 n1 n2 lN b15 hE2 hK2
      generalize wr.heap.size = low at *
      generalize w5.heap.size = hiw at *
      go_loopw [85] (fun y wx => ∃ j : Nat, j ≤ es1.length ∧ y = .int .i64 (j : Int) ∧ EW W6 low hiw es1 A1 ks.length Q1 wx) (fun y _ => es1.length - (intOf y).toNat)
      case atStart => exact ⟨0, Nat.zero_le _, rfl, hW⟩
      case round =>
        clear hW
        obtain ⟨i, hi, rfl, hW⟩ := hrel
        have N3 := hW.keep.blk N1 (fun h => by omega)
        have n1 := N3.cell 1
        have n2 := N3.cell 2
        simp at n1 n2
        have lN := N3.lt
        by_cases hil : i < es1.length
        · obtain ⟨gE, csE, rfl, hgE, hBE, hsE, hslE⟩ := (by
            rcases hW.row with h0 | h0
            · omega
            · exact h0 : ∃ g cs, A1 = some ⟨g, 0, none⟩ ∧ (low ≤ g ∧ g < hiw) ∧ Blk wr g 53 cs ∧ es1.length * 2 ≤ cs.size ∧ ∀ i (h : i < es1.length), cs[i * 2 + 1]? = some (.slice es1[i].A es1[i].l.length es1[i].c))
          have u1 := (hBE.cell (i * 2 + 1)).trans (hslE i hil)
          have k1 : (0 : Int) ≤ (i : Int) := by omega
          have k2 : (i : Int) < (es1.length : Int) := by omega
          have lE := hBE.lt
          have hmv : es1[i].l.length ≤ 140737488355328 := hlv.out _ (List.getElem_mem hil)
          have HV := vers.lay (hW.vers _ (List.getElem_mem hil))
          clear hslE hBE hsE
          generalize hx : es1[i] = y at *
          have HX := vers.lay hx
          clear hx
          obtain ⟨ys, yl, yA, yc⟩ := y
          simp only at u1 hmv
          go_wp2_with fail
          go_loopw [95] (fun z wx => ∃ k : Nat, k ≤ yl.length ∧ z = .int .i64 (k : Int) ∧ EW W6 low hiw es1 (some ⟨gE, 0, none⟩) ks.length Q1 wx) (fun z _ => yl.length - (intOf z).toNat)
          case atStart => exact ⟨0, Nat.zero_le _, rfl, hW⟩
          case round =>
            clear hW N3 n1 n2 lN u1 lE HV
            obtain ⟨k, hk, rfl, hW⟩ := hrel
            have N3 := hW.keep.blk N1 (fun h => by omega)
            have n1 := N3.cell 1
            have n2 := N3.cell 2
            simp at n1 n2
            have lN := N3.lt
            obtain ⟨csE, hBE, hsE, hslE⟩ : ∃ cs, Blk wr gE 53 cs ∧ es1.length * 2 ≤ cs.size ∧ cs[i * 2 + 1]? = some (.slice yA yl.length yc) := by
              rcases hW.row with h0 | ⟨g, cs, e, _, hB, hs, hsl⟩
              · omega
              · cases e
                refine ⟨cs, hB, hs, ?_⟩
                have := hsl i hil
                rw [HX.out] at this
                exact this
            have u1 := (hBE.cell (i * 2 + 1)).trans hslE
            have lE := hBE.lt
            by_cases hkl : k < yl.length
            · rcases hW.vers _ (HX.out ▸ List.getElem_mem hil) with h0 | ⟨gv, csv, hA, hgv, hBv, hsv⟩
              · simp only at h0; omega
              · simp only at hA hsv
                subst hA
                have j1 : (0 : Int) ≤ (k : Int) := by omega
                have j2 : (k : Int) < (yl.length : Int) := by omega
                obtain ⟨x0, p0⟩ : ∃ v, wr.cell? ⟨gv, k * 3, none⟩ = some v := by
                  rw [hBv.cell]
                  exact ⟨_, Array.getElem?_eq_getElem (by omega)⟩
                have f0 := hBv.frozen (k * 3)
                have lv := hBv.lt
                have HW := vers.lay (hW.far hBv (by decide) hgv (k * 3) (.int .i64 (-1)))
                clear hW hBE hsE hslE hBv hsv
                go_wp2_with fail
                exact ⟨⟨k + 1, hkl, by go_num, HW.out⟩, by simp [intOf]; omega⟩
            · have hn9 : ¬ (k : Int) < (yl.length : Int) := by omega
              obtain ⟨x0, p0⟩ : ∃ v, wr.cell? ⟨gE, i * 2, none⟩ = some v := by
                rw [hBE.cell]
                exact ⟨_, Array.getElem?_eq_getElem (by omega)⟩
              have f0 := hBE.frozen (i * 2)
              have HW := vers.lay (fun u => hW.name rfl hgE i u)
              clear hW hBE hsE hslE
              go_wp2_with fail
              exact ⟨⟨i + 1, hil, by go_num, HW.out _⟩, by simp [intOf]; omega⟩
        · have hn9 : ¬ (i : Int) < (es1.length : Int) := by omega
          go_wp2_with fail
          have hK0 := hW.keep
          have hKR := hW.kids
          go_loopw [117] (fun y wx => ∃ j : Nat, j ≤ ks.length ∧ y = .int .i64 (j : Int) ∧ Keep (fun g => low ≤ g ∧ g < hiw) W6 wx ∧ RowN wx 43 5 Q1 ks.length (fun g => low ≤ g ∧ g < hiw)) (fun y _ => ks.length - (intOf y).toNat)
          case atStart => exact ⟨0, Nat.zero_le _, rfl, hK0, hKR⟩
          case round =>
            clear hK0 hKR hW N3 n1 n2 lN
            obtain ⟨j, hj, rfl, hK0, hKR⟩ := hrel
            have N3 := hK0.blk N1 (fun h => by omega)
            have n1 := N3.cell 1
            have n2 := N3.cell 2
            simp at n1 n2
            have lN := N3.lt
            by_cases hjl : j < ks.length
            · rcases hKR with h0 | ⟨gv, csv, rfl, hgv, hBv, hsv⟩
              · omega
              · have j1 : (0 : Int) ≤ (j : Int) := by omega
                have j2 : (j : Int) < (ks.length : Int) := by omega
                obtain ⟨x0, p0⟩ : ∃ v, wr.cell? ⟨gv, j * 5, none⟩ = some v := by
                  rw [hBv.cell]
                  exact ⟨_, Array.getElem?_eq_getElem (by omega)⟩
                have f0 := hBv.frozen (j * 5)
                have lv := hBv.lt
                have HW := vers.lay (fun u => (⟨keep_set hK0 hgv (j * 5) u, RowN.set (.inr ⟨gv, csv, rfl, hgv, hBv, hsv⟩) gv (j * 5) u⟩ : Keep (fun g => low ≤ g ∧ g < hiw) W6 (wr.setCell ⟨gv, j * 5, none⟩ u) ∧ RowN (wr.setCell ⟨gv, j * 5, none⟩ u) 43 5 (some ⟨gv, 0, none⟩) ks.length (fun g => low ≤ g ∧ g < hiw)))
                clear hK0 hBv hsv
                go_wp2_with fail
                exact ⟨⟨j + 1, hjl, by go_num, HW.out _⟩, by simp [intOf]; omega⟩
            · have hn8 : ¬ (j : Int) < (ks.length : Int) := by omega
              have bF := hK0.below (B := low) (fun g hg => hg.1) (by have := N1.lt; omega)
              have b1F := b16.trans (bF.mono lo3)
              have BF := B6.low bF lo1
              have XF := X6.below bF lo2
              have NF := hK0.blk N2 (fun h => by omega)
              have hszF := hK0.size
              have hfr : FrameO W6 wr W5.heap.size w6.heap.size := fun k k1 k2 => hK0.block k (by omega) (fun h => by omega)
              have hl1 := likeN_any lf lf es2 esw ks ks A2 Aw c2 cw Q2 Qw m2 mw wr (HE2.out.es (by omega) hfr) (hEW1.at_world b1F) (HK2.out.ks (by omega) hfr) (hKW1.at_world b1F)
              rw [decide_eq_true (show lf = lf ∧ es2.map pe = esw.map pe ∧ ks = ks from ⟨rfl, hpe2.trans HPW.out.symm, rfl⟩)] at hl1
              have hl2 := fun w7 (hb : Below wr.heap.size wr w7) => likeN_any lf lf es esw ks ks A Aw cap cw A' Qw cap' mw w7 (hEn _ (BF.next hb).below) (hEW1.at_world (b1F.trans (hb.mono b1F.size))) (hKn _ (BF.next hb).below) (hKW1.at_world (b1F.trans (hb.mono b1F.size)))
              rw [decide_eq_true (show lf = lf ∧ es.map pe = esw.map pe ∧ ks = ks from ⟨rfl, HPW.out.symm, rfl⟩)] at hl2
              have p0 := NF.cell 0
              have p1 := NF.cell 1
              have p2 := NF.cell 2
              have o0 := XF.cell 0
              have o1 := XF.cell 1
              have o2 := XF.cell 2
              simp at p0 p1 p2 o0 o1 o2
              have lNF := NF.lt
              have lXF := XF.lt
              obtain ⟨⟨⟨q0, q1, q2, q3, q4, q5, q6⟩, l1, l2, b1⟩, ⟨y0, y1, y2⟩, l3⟩ := id BF
              clear hEn hKn hEW1 hKW1 hK0 hKR hpe1 hpe2 n1 n2
              go_wp2_with fail
              refine hl1.mono ?_
              rintro x w7 ⟨rfl, hb7⟩
              have B8 := BF.next hb7
              have X8 := XF.below hb7 lXF
              have hl3 := hl2 _ hb7
              clear q0 q1 q2 q3 q4 q5 q6 l1 l2 b1 y0 y1 y2 l3
              clear hl2 p0 p1 p2 o0 o1 o2 BF XF hl1
              have o0 := X8.cell 0
              have o1 := X8.cell 1
              have o2 := X8.cell 2
              simp at o0 o1 o2
              have lX8 := X8.lt
              obtain ⟨⟨⟨q0, q1, q2, q3, q4, q5, q6⟩, l1, l2, b1⟩, ⟨y0, y1, y2⟩, l3⟩ := id B8
              go_wp2_with fail
              refine hl3.mono ?_
              rintro x w8 ⟨rfl, hb8⟩
              have B9 := B8.next hb8
              go_wp2_with fail
              go_ret
              exact ⟨rfl, B9.below⟩

theorem law_own (a b c d e f h : Int) (lf : Bool) (es : List E) (ks : List K) (A : Option Addr) (cap : Nat) (A' : Option Addr) (cap' : Nat) (w : World) (hv : Es w w.heap.size es A cap) (hks : Ks w w.heap.size ks A' cap') :
    Calls Try.prog 4 #[.agg #[.int .i64 a, .int .i64 b, .int .i64 c, .int .i64 d, .int .i64 e, .int .i64 f, .int .i64 h], .agg #[.bool lf, .slice A es.length cap, .slice A' ks.length cap']] w fun x w' => x = .returned (.bool true) ∧ Below w.heap.size w w' := by
  by_cases hz : ndbad a b c d e f h lf es ks = 0
  · exact own_good a b c d e f h lf es ks A cap A' cap' w hv hks hz
  · exact own_bad a b c d e f h lf es ks A cap A' cap' w hv hks _ rfl hz

end Go.Proofs.Ytnkfboplafckoaa.nodes
