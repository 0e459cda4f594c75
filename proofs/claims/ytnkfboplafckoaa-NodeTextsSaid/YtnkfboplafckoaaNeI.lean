/- The walk of NodeTexts. -/
import Derived.Test.YtnkfboplafckoaaTextsG
import Derived.Test.YtnkfboplafckoaaNeCG
import Derived.Test.YtnkfboplafckoaaNdJK
import Derived.Test.YtnkfboplafckoaaQuN


namespace Go.Proofs.Ytnkfboplafckoaa.nodes
set_option linter.unusedVariables false
set_option linter.unusedSimpArgs false
open Go.RowKit Go.Proofs.Ytnkfboplafckoaa.base Go.Proofs.Ytnkfboplafckoaa.quotas Go.Proofs.Ytnkfboplafckoaa.vers Go.Proofs.Ytnkfboplafckoaa.tm Go.Proofs.Ytnkfboplafckoaa.lies Go.Proofs.Ytnkfboplafckoaa.copies Go.Proofs.Ytnkfboplafckoaa.makes Go.Proofs.Ytnkfboplafckoaa.texts

theorem one_S {w : World} {t : T} {v : Value} (h : Lies w w.heap.size t v) : LiesS (w.alloc (.cells #[.int .i64 t.k, .int .u64 t.n, .string t.s, v] 31)) (w.alloc (.cells #[.int .i64 t.k, .int .u64 t.n, .string t.s, v] 31)).heap.size [t] (some ⟨w.heap.size, 0, none⟩) 1 := by
  have hbk := Blk.new w 31 #[.int .i64 t.k, .int .u64 t.n, .string t.s, v]
  exact ⟨[.int .i64 t.k, .int .u64 t.n, .string t.s, v], Nat.le_refl _, by show 1 * 56 ≤ 140737488355328; omega, Blk.rd (xs := [.int .i64 t.k, .int .u64 t.n, .string t.s, v]) hbk (by simp), ⟨v, [], rfl, h.later (Nat.le_refl _) _, rfl⟩⟩
theorem atoms_n (l : List T) (n : Nat) (hn : l.length = n) (A : Option Addr) (c : Nat) (xs : List Value) (w : World) (hlc : l.length ≤ c) (hlen : l.length * 56 ≤ 140737488355328) (hr : Rd w w.heap.size A xs) (hl : LiesL w w.heap.size l xs) (hN : ((allOf l).length + 4000) * 16 ≤ 140737488355328) :
    Calls Try.prog 7 #[.slice A n c] w fun e w' => ∃ v, e = .returned v ∧ Below w.heap.size w w' ∧ Txt w' w.heap.size v (fin (allOf l)) := by
  subst hn
  exact atoms_any l A c xs w hlc hlen hr hl hN
set_option maxHeartbeats 1000000 in
theorem atoms_one (t : T) (v : Value) (w : World) (h : Lies w w.heap.size t v) (hr : t.right = 0) (ts : List (List UInt8)) (hts : fin (atoms t) = ts) :
    Calls Try.prog 7 #[.slice (some ⟨w.heap.size, 0, none⟩) 1 1] (w.alloc (.cells #[.int .i64 t.k, .int .u64 t.n, .string t.s, v] 31)) fun e w' => ∃ A' c', e = .returned (.slice A' ts.length c') ∧ Below w.heap.size w w' ∧ w.heap.size + 1 ≤ w'.heap.size ∧ Txt w' w.heap.size (.slice A' ts.length c') ts := by
  obtain ⟨xs, h1, h2, h3, h4⟩ := one_S h
  have hall : allOf [t] = atoms t := by simp [allOf, hr]
  have hfew : (atoms t).length ≤ 4000 := Nat.le_trans (atoms_len t) (encs.right_ok hr).1
  subst hts
  have hN : ((allOf [t]).length + 4000) * 16 ≤ 140737488355328 := by rw [hall]; clear h1 h2 h3 h4 hall; omega
  have hc := atoms_n [t] 1 rfl _ 1 xs _ h1 h2 h3 h4 hN
  rw [hall] at hc
  clear h1 h2 h3 h4
  refine hc.mono ?_
  rintro e w' ⟨v3, rfl, hb, hT⟩
  have D : Below w.heap.size w (w.alloc (.cells #[.int .i64 t.k, .int .u64 t.n, .string t.s, v] 31)) := (Below.refl _ _).alloc (Nat.le_refl _) _
  obtain ⟨A', c', rfl, hl, hT⟩ := hT
  have hz := hb.size
  simp only [World.size_alloc] at hz
  refine ⟨A', c', rfl, D.trans (hb.mono (by simp)), hz, A', c', rfl, hl, fun j hj => ?_⟩
  obtain ⟨g, e1, h5, h6⟩ := hT j hj
  exact ⟨g, e1, by simp at h5; omega, h6⟩

set_option maxRecDepth 100000 in
set_option maxHeartbeats 1000000 in
theorem texts_bad (hp : TermIs) (a b c d e f h : Int) (lf : Bool) (es : List E) (ks : List K) (A : Option Addr) (cap : Nat) (A' : Option Addr) (cap' : Nat) (w : World) (hv : Es w w.heap.size es A cap) (hk : Ks w w.heap.size ks A' cap') (hz : ndbad a b c d e f h lf es ks ≠ 0) :
    Calls Try.prog 3 #[.agg #[.int .i64 a, .int .i64 b, .int .i64 c, .int .i64 d, .int .i64 e, .int .i64 f, .int .i64 h], .agg #[.bool lf, .slice A es.length cap, .slice A' ks.length cap']] w fun x w' => x = .returned (.bool true) ∧ Below w.heap.size w w' := by
  have B0 := Bn.new w a b c d e f h lf (.slice A es.length cap) (.slice A' ks.length cap')
  have h1 := fun wr (hb : Below w.heap.size w wr) => hp a b c d e f h lf es ks A cap A' cap' wr (hv.at_world hb) (hk.at_world hb)
  have h2 := fun wr (hb : Below w.heap.size w wr) => refNode_any a b c d e f h lf es ks A cap A' cap' wr (hv.at_world hb) (hk.at_world hb)
  have ht : termP a b c d e f h lf es ks = (boxes.zT, ndbad a b c d e f h lf es ks) := by unfold termP; rw [if_pos hz]
  rw [ht] at h1
  generalize ndbad a b c d e f h lf es ks = n at h1 h2 hz
  have d1 : (n != n) = false := by simp
  have d2 : (n != 0) = true := by simpa using hz
  clear hv hk hp ht hz
  generalize es.length = ne at B0 h1 h2 ⊢
  generalize ks.length = nk at B0 h1 h2 ⊢
  generalize boxes.zT = r at h1
  obtain ⟨tk, tn, ts, tl⟩ := r
  go_enter Try.func3, Try.ntmps3
  go_wp2_with fail
  refine (h1 _ B0.below).mono ?_
  rintro x w1 ⟨hb1, A1, m1, rfl, hH1, hF1⟩
  simp only [T.val, T.k, T.n, T.s, T.l] at hH1 ⊢
  have G1 := B0.next hb1
  clear hb1 B0 h1
  have D1 : Below w1.heap.size w1 (w1.alloc (.cells #[.int .i64 tk, .int .u64 tn, .string ts, .slice A1 tl.length m1] 31)) := (Below.refl _ _).alloc (Nat.le_refl _) _
  have F1 := G1.next D1
  have X1 := Blk.new w1 31 #[.int .i64 tk, .int .u64 tn, .string ts, .slice A1 tl.length m1]
  obtain ⟨⟨⟨c0, c1, c2, c3, c4, c5, c6⟩, l1, l2, b1⟩, ⟨n0, n1, n2⟩, l3⟩ := id G1
  go_wp2_with fail
  clear c0 c1 c2 c3 c4 c5 c6 l1 l2 b1 n0 n1 n2 l3 G1
  refine (h2 _ F1.below).mono ?_
  rintro x w2 ⟨rfl, hb2⟩
  have G2 := F1.next hb2
  have D2 := D1.trans (hb2.mono D1.size)
  have X2 := X1.below hb2 X1.lt
  clear F1 X1 h2
  have b2 := G2.below
  go_wp2_with fail
  go_ret
  exact ⟨rfl, b2⟩

set_option maxRecDepth 100000 in
set_option maxHeartbeats 1000000 in
theorem texts_leaf (hp : TermIs) (a b c d e f h : Int) (es : List E) (ks : List K) (A : Option Addr) (cap : Nat) (A' : Option Addr) (cap' : Nat) (w : World) (hv : Es w w.heap.size es A cap) (hk : Ks w w.heap.size ks A' cap') (hz : ndbad a b c d e f h true es ks = 0) :
    Calls Try.prog 3 #[.agg #[.int .i64 a, .int .i64 b, .int .i64 c, .int .i64 d, .int .i64 e, .int .i64 f, .int .i64 h], .agg #[.bool true, .slice A es.length cap, .slice A' ks.length cap']] w fun x w' => x = .returned (.bool true) ∧ Below w.heap.size w w' := by
  have B0 := Bn.new w a b c d e f h true (.slice A es.length cap) (.slice A' ks.length cap')
  have h1 := fun wr (hb : Below w.heap.size w wr) => hp a b c d e f h true es ks A cap A' cap' wr (hv.at_world hb) (hk.at_world hb)
  have h2 := fun wr (hb : Below w.heap.size w wr) => refNode_any a b c d e f h true es ks A cap A' cap' wr (hv.at_world hb) (hk.at_world hb)
  have ht : termP a b c d e f h true es ks = (nodeT true es ks, 0) := by unfold termP; rw [if_neg (by simpa using hz)]
  rw [ht] at h1
  rw [hz] at h2
  have d1 : ((0 : Int) != 0) = false := by decide
  have HR := vers.lay (node_seals hz 0).1
  have HT := vers.lay (show fin (atoms (nodeT true es ks)) = fin (allE es) by rw [atoms_leafN])
  have HN := vers.lay (show (nodeT true es ks).l.length = es.length + 1 by show (numT 1 :: es.map entT).length = _; simp)
  have hE4 : (allE es).length ≤ 4000000 := by
    obtain ⟨h4, hx⟩ := (ndbad_in hz).2.1 rfl
    have := allE_four es h4 (fun x hx' => by have := (ndbad_leaf hz).2 x hx'; exact this.1)
    omega
  have h3 := fun wr (hb : Below w.heap.size w wr) => texts_any es A cap wr (hv.at_world hb) hE4
  have hes : es.length ≤ 4 := ((ndbad_in hz).2.1 rfl).1
  clear hE4 hv hk hp ht hz
  generalize allE es = ae at h3 HT
  generalize fin ae = fe at h3 HT
  generalize nodeT true es ks = r at h1 HT HN HR
  obtain ⟨tk, tn, ts, tl⟩ := r
  simp only [T.l] at HN
  have d2 : ((tl.length : Int) == (es.length : Int) + 1) = true := by have := HN.out; simp; omega
  generalize es.length = ne at B0 h1 h2 h3 d2 hes ⊢
  generalize ks.length = nk at B0 h1 h2 ⊢
  go_enter Try.func3, Try.ntmps3
  go_wp2_with fail
  refine (h1 _ B0.below).mono ?_
  rintro x w1 ⟨hb1, A1, m1, rfl, hH1, hF1⟩
  simp only [T.val, T.k, T.n, T.s, T.l] at hH1 ⊢
  have G1 := B0.next hb1
  clear hb1 B0 h1
  have D1 : Below w1.heap.size w1 (w1.alloc (.cells #[.int .i64 tk, .int .u64 tn, .string ts, .slice A1 tl.length m1] 31)) := (Below.refl _ _).alloc (Nat.le_refl _) _
  have F1 := G1.next D1
  have X1 := Blk.new w1 31 #[.int .i64 tk, .int .u64 tn, .string ts, .slice A1 tl.length m1]
  obtain ⟨⟨⟨c0, c1, c2, c3, c4, c5, c6⟩, l1, l2, b1⟩, ⟨n0, n1, n2⟩, l3⟩ := id G1
  go_wp2_with fail
  clear c0 c1 c2 c3 c4 c5 c6 l1 l2 b1 n0 n1 n2 l3 G1
  refine (h2 _ F1.below).mono ?_
  rintro x w2 ⟨rfl, hb2⟩
  have G2 := F1.next hb2
  have D2 := D1.trans (hb2.mono D1.size)
  have X2 := X1.below hb2 X1.lt
  clear F1 X1 h2
  have x0 := X2.cell 0
  have x1 := X2.cell 1
  have x2 := X2.cell 2
  have x3 := X2.cell 3
  simp at x0 x1 x2 x3
  have x4 := X2.lt
  have L2 := Held.lies (t := .mk tk tn ts tl) (w := w2) (hH1.move (Nat.le_refl _) (Nat.le_refl _) (fun p _ p2 => D2.cell p2)) hF1.1 hF1.2.1 hF1.2.2 D2.size
  have hat := atoms_one (.mk tk tn ts tl) (.slice A1 tl.length m1) w2 L2 HR.out _ HT.out
  simp only [T.k, T.n, T.s] at hat
  go_wp2_with fail
  refine hat.mono ?_
  rintro x w3 ⟨A3, c3, rfl, hb3, hz3, hT3⟩
  have G3 := G2.next hb3
  have X3 := X2.below hb3 x4
  have L3 := (L2.below hb3).more (B' := w3.heap.size) hb3.size
  clear hat X2 L2 x0 x1 x2 x3 x4 hb2 D1 D2 hH1 hF1 HR G2
  have x3 := X3.cell 3
  simp at x3
  have x4 := X3.lt
  obtain ⟨⟨⟨c0, c1, c2, c3', c4, c5, c6⟩, l1, l2, b1⟩, ⟨n0, n1, n2⟩, l3⟩ := id G3
  have hc := h3 _ b1
  go_wp2_with fail
  refine hc.mono ?_
  rintro x w4 ⟨v4, rfl, hb4, hT4⟩
  have hs := sameTexts_any _ _ _ _ _ _ (hT3.below hb4) hT4
  have G4 := G3.next hb4
  have X4 := X3.below hb4 x4
  clear c0 c1 c2 c3' c4 c5 c6 l1 l2 b1 n0 n1 n2 l3 hc x3 x4 hT3 hT4 G3 X3 h3
  go_wp2_with fail
  refine hs.mono ?_
  rintro x w5 ⟨rfl, hb5⟩
  have G5 := G4.next hb5
  have X5 := X4.below hb5 X4.lt
  clear G4 X4 hs
  have x3 := X5.cell 3
  simp at x3
  have x4 := X5.lt
  obtain ⟨⟨⟨c0, c1, c2, c3', c4, c5, c6⟩, l1, l2, b1⟩, ⟨n0, n1, n2⟩, l3⟩ := id G5
  go_wp2_with fail
  go_ret
  exact ⟨rfl, b1⟩

/-- at the loops' heads: the law's boxes, the term's box, the term, its texts -/
def PH (w : World) (a b c d e f h : Int) (u u' : Value) (g lo : Nat) (cs : Array Value) (t : T) (v v' : Value) (fe : List (List UInt8)) (wr : World) : Prop :=
  Bn w a b c d e f h false u u' wr ∧ (Blk wr g 31 cs ∧ w.heap.size ≤ g) ∧ Lies wr wr.heap.size t v ∧ Txt wr lo v' fe
theorem PH.next {w wr w' : World} {a b c d e f h : Int} {u u' : Value} {g lo : Nat} {cs : Array Value} {t : T} {v v' : Value} {fe : List (List UInt8)} (hP : PH w a b c d e f h u u' g lo cs t v v' fe wr) (hb : Below wr.heap.size wr w') : PH w a b c d e f h u u' g lo cs t v v' fe w' :=
  ⟨hP.1.next hb, ⟨hP.2.1.1.below hb hP.2.1.1.lt, hP.2.1.2⟩, (hP.2.2.1.below hb).more hb.size, hP.2.2.2.below hb⟩
def hasK (l : List T) (n : Int) : Bool := l.any fun t => decide (t.k = 3) && decide (t.n = n)
theorem hasK_take (l : List T) (n : Int) {k : Nat} (h : k < l.length) : hasK (l.take (k + 1)) n = (hasK (l.take k) n || (decide (l[k].k = 3) && decide (l[k].n = n))) := by
  unfold hasK
  rw [List.take_succ_eq_append_getElem h, List.any_append]
  simp
theorem hasK_kid (x : K) : hasK (kidT x).l x.k = true := by
  show hasK [atomT x.s, keyT x.k, numT x.g, numT x.o, numT x.n] x.k = true
  simp [hasK, keyT, T.k, T.n]
set_option maxRecDepth 100000 in
set_option maxHeartbeats 1000000 in
theorem texts_inner (hp : TermIs) (hlow : LowIs) (a b c d e f h : Int) (es : List E) (ks : List K) (A : Option Addr) (cap : Nat) (A' : Option Addr) (cap' : Nat) (w : World) (hv : Es w w.heap.size es A cap) (hk : Ks w w.heap.size ks A' cap') (hz : ndbad a b c d e f h false es ks = 0) :
    Calls Try.prog 3 #[.agg #[.int .i64 a, .int .i64 b, .int .i64 c, .int .i64 d, .int .i64 e, .int .i64 f, .int .i64 h], .agg #[.bool false, .slice A es.length cap, .slice A' ks.length cap']] w fun x w' => x = .returned (.bool true) ∧ Below w.heap.size w w' := by
  have B0 := Bn.new w a b c d e f h false (.slice A es.length cap) (.slice A' ks.length cap')
  have h1 := fun wr (hb : Below w.heap.size w wr) => hp a b c d e f h false es ks A cap A' cap' wr (hv.at_world hb) (hk.at_world hb)
  have h2 := fun wr (hb : Below w.heap.size w wr) => refNode_any a b c d e f h false es ks A cap A' cap' wr (hv.at_world hb) (hk.at_world hb)
  have ht : termP a b c d e f h false es ks = (nodeT false es ks, 0) := by unfold termP; rw [if_neg (by simpa using hz)]
  rw [ht] at h1
  rw [hz] at h2
  have d1 : ((0 : Int) != 0) = false := by decide
  have HR := vers.lay (node_seals hz 0).1
  have HT := vers.lay (fin_lows hz)
  have HN := vers.lay (show (nodeT false es ks).l = numT 2 :: ks.map kidT from rfl)
  have hks := (ndbad_kids hz).2
  have HF := vers.lay (show ∀ i x, (brs (ks.map (·.s)))[i]? = some x → ∀ hi : i < ks.length, encStr x = .string ks[i].s from fun i x hx hi => by
    simp only [brs, List.getElem?_map, List.getElem?_eq_getElem hi, Option.map_some, Option.some.injEq] at hx
    subst hx
    rfl)
  have hlb : (brs (ks.map (·.s))).length = ks.length := by simp [brs]
  have h5 := fun wr (hb : Below w.heap.size w wr) => hlow false es ks A cap A' cap' wr (hv.at_world hb) (hk.at_world hb)
  have HL := vers.lay (show ∀ h0 : 0 < ks.length, lowOf false es ks = ks[0].s from fun h0 => by cases ks with | nil => exact absurd h0 (by simp) | cons x r => rfl)
  have hkw := fun wr (hb : Below w.heap.size w wr) => hk.at_world hb
  clear hv hk hp ht hz hlow
  generalize nodeT false es ks = r at h1 HT HN HR
  obtain ⟨tk, tn, ts, tl⟩ := r
  simp only [T.l] at HN
  generalize hfe : brs (ks.map (·.s)) = fe at HT HF hlb
  clear hfe
  have hlt : tl.length = ks.length + 1 := by rw [HN.out]; simp
  have d2 : ((tl.length : Int) == (ks.length : Int) + 1) = true := by simp; omega
  have d3 : ((tl.length : Int) != (ks.length : Int) + 1) = false := by simp; omega
  have d4 : ((fe.length : Int) != (ks.length : Int)) = false := by simp; omega
  have HLT := vers.lay hlt
  have HLB := vers.lay hlb
  clear hlt hlb
  generalize es.length = ne at B0 h1 h2 h5 ⊢
  go_enter Try.func3, Try.ntmps3
  go_wp2_with fail
  refine (h1 _ B0.below).mono ?_
  rintro x w1 ⟨hb1, A1, m1, rfl, hH1, hF1⟩
  simp only [T.val, T.k, T.n, T.s, T.l] at hH1 ⊢
  have G1 := B0.next hb1
  clear hb1 B0 h1
  have D1 : Below w1.heap.size w1 (w1.alloc (.cells #[.int .i64 tk, .int .u64 tn, .string ts, .slice A1 tl.length m1] 31)) := (Below.refl _ _).alloc (Nat.le_refl _) _
  have F1 := G1.next D1
  have X1 := Blk.new w1 31 #[.int .i64 tk, .int .u64 tn, .string ts, .slice A1 tl.length m1]
  obtain ⟨⟨⟨c0, c1, c2, c3, c4, c5, c6⟩, l1, l2, b1⟩, ⟨n0, n1, n2⟩, l3⟩ := id G1
  go_wp2_with fail
  clear c0 c1 c2 c3 c4 c5 c6 l1 l2 n0 n1 n2 l3 G1
  have hs1 := b1.size
  clear b1
  refine (h2 _ F1.below).mono ?_
  rintro x w2 ⟨rfl, hb2⟩
  have G2 := F1.next hb2
  have D2 := D1.trans (hb2.mono D1.size)
  have X2 := X1.below hb2 X1.lt
  clear F1 X1 h2
  have x0 := X2.cell 0
  have x1 := X2.cell 1
  have x2 := X2.cell 2
  have x3 := X2.cell 3
  simp at x0 x1 x2 x3
  have x4 := X2.lt
  have L2 := Held.lies (t := .mk tk tn ts tl) (w := w2) (hH1.move (Nat.le_refl _) (Nat.le_refl _) (fun p _ p2 => D2.cell p2)) hF1.1 hF1.2.1 hF1.2.2 D2.size
  have hat := atoms_one (.mk tk tn ts tl) (.slice A1 tl.length m1) w2 L2 HR.out _ HT.out
  simp only [T.k, T.n, T.s] at hat
  go_wp2_with fail
  refine hat.mono ?_
  rintro x w3 ⟨A3, c3, rfl, hb3, hz3, hT3⟩
  have G3 := G2.next hb3
  have X3 := X2.below hb3 x4
  have L3 := (L2.below hb3).more (B' := w3.heap.size) hb3.size
  clear hat X2 L2 x0 x1 x2 x3 x4 hb2 D1 D2 hH1 hF1 HR G2
  have x3 := X3.cell 3
  simp at x3
  have x4 := X3.lt
  obtain ⟨⟨⟨c0, c1, c2, c3', c4, c5, c6⟩, l1, l2, b1⟩, ⟨n0, n1, n2⟩, l3⟩ := id G3
  have P3 : PH w a b c d e f h (.slice A ne cap) (.slice A' ks.length cap') w1.heap.size w2.heap.size #[.int .i64 tk, .int .u64 tn, .string ts, .slice A1 tl.length m1] (.mk tk tn ts tl) (.slice A1 tl.length m1) (.slice A3 fe.length c3) fe w3 := ⟨G3, ⟨X3, hs1⟩, L3, hT3⟩
  have ha3 := hT3
  go_wp2_with fail
  clear c0 c1 c2 c3' c4 c5 c6 l1 l2 b1 n0 n1 n2 l3 G3 X3 L3 hT3 hb3 hz3 x3 x4 hs1
  go_loopw [65] (fun i wr => ∃ j : Nat, j ≤ ks.length ∧ i = .int .i64 j ∧ PH w a b c d e f h (.slice A ne cap) (.slice A' ks.length cap') w1.heap.size w2.heap.size #[.int .i64 tk, .int .u64 tn, .string ts, .slice A1 tl.length m1] (.mk tk tn ts tl) (.slice A1 tl.length m1) (.slice A3 fe.length c3) fe wr) (fun i _ => ks.length - (intOf i).toNat)
  case atStart => exact ⟨0, Nat.zero_le _, rfl, P3⟩
  case round =>
    clear P3
    obtain ⟨j, hj, rfl, hP⟩ := hrel
    by_cases hlt : j < ks.length
    · obtain ⟨bk, off, rfl, hbk, v0, v1, v2, v3, v4⟩ := (hkw _ hP.1.below).at_ hlt
      have D1 : Below wr.heap.size wr (wr.alloc (.cells #[.string ks[j].s, .int .u64 (ks[j].k : Int), .int .i64 ks[j].g, .int .i64 ks[j].o, .int .i64 ks[j].n] 43)) := (Below.refl _ _).alloc (Nat.le_refl _) _
      have hP1 := hP.next D1
      have K1 := Blk.new wr 43 #[.string ks[j].s, .int .u64 (ks[j].k : Int), .int .i64 ks[j].g, .int .i64 ks[j].o, .int .i64 ks[j].n]
      obtain ⟨⟨⟨c0, c1, c2, c3', c4, c5, c6⟩, l1, l2, b1⟩, ⟨n0, n1, n2⟩, l3⟩ := id hP.1
      go_wp2_with fail
      clear c0 c1 c2 c3' c4 c5 c6 l1 l2 b1 n0 n1 n2 l3 v0 v1 v2 v3 v4
      have hjf : j < fe.length := by rw [HLB.out]; exact hlt
      obtain ⟨A30, c30, e30, hl30, hT30⟩ := id hP1.2.2.2
      injection e30 with e31 _ e32
      subst e31 e32
      obtain ⟨g3, rfl, q1, q2, q3⟩ := hT30 j hjf
      rw [HF.out j _ (List.getElem?_eq_getElem hjf) hlt] at q3
      have y0 := K1.cell 0
      simp at y0
      have i1 : (0 : Int) ≤ (j : Int) := by omega
      have i2 : (j : Int) < (fe.length : Int) := by omega
      have i3 : (fe.length : Int) ≤ 140737488355328 := by omega
      clear hl30 hT30 q1
      go_quiet (fail)
      have hP8 := fun n => hP1.next (texts.below_drewN _ (wr.alloc (.cells #[.string ks[j].s, .int .u64 (ks[j].k : Int), .int .i64 ks[j].g, .int .i64 ks[j].o, .int .i64 ks[j].n] 43)) n)
      have K8 := fun n => Blk.below K1 (texts.below_drewN _ (wr.alloc (.cells #[.string ks[j].s, .int .u64 (ks[j].k : Int), .int .i64 ks[j].g, .int .i64 ks[j].o, .int .i64 ks[j].n] 43)) n) K1.lt
      generalize hw8 : World.drewN (wr.alloc _) _ = w8
      replace hP8 := hw8 ▸ hP8 _
      replace K8 := hw8 ▸ K8 _
      have hz8 : wr.heap.size < w8.heap.size := K8.lt
      clear hw8 hP1 K1 D1 y0 q2 q3
      have x3 := hP8.2.1.1.cell 3
      have x4 := hP8.2.1.1.lt
      simp at x3
      obtain ⟨A60, c60, xs, e60, r1, r2, r3, r4, r5, hr, hL⟩ := hP8.2.2.1.open_
      injection e60 with e61 _ e62
      subst e61 e62
      replace hL : LiesL w8 w8.heap.size tl xs := hL
      have hjt : j + 1 < tl.length := by rw [HLT.out]; omega
      have htj := vers.lay (show tl[j + 1] = kidT ks[j] by simp only [HN.out, List.getElem_cons_succ, List.getElem_map])
      obtain ⟨b0, off0, A6, c6, rfl, hb0, hv6, z0, z1, z2, z3⟩ := at_cells hr hL hjt
      generalize tl[j + 1] = kt at htj hv6 z0 z1 z2 z3
      obtain ⟨kk, kn, ksb, kl⟩ := kt
      simp only [T.k, T.n, T.s, T.l] at hv6 z0 z1 z2 z3 htj
      have i4 : (0 : Int) ≤ (j : Int) + 1 := by omega
      have i5 : (j : Int) + 1 < (tl.length : Int) := by omega
      have i6 : ((j : Int) + 1).toNat = j + 1 := by omega
      have i7 : (tl.length : Int) ≤ 140737488355328 := by simp only [T.l] at r5; omega
      clear r1 r2 r3 r4 r5 hr hL
      go_wp2_with fail
      clear z0 z1 z2 z3 i4 i5 i6 i7 i1 i2 i3 x3 x4 hb0
      go_loopw [10, 85] (fun bv i wi => ∃ k : Nat, k ≤ kl.length ∧ i = .int .i64 k ∧ bv = .bool (hasK (kl.take k) ks[j].k) ∧ PH w a b c d e f h (.slice A ne cap) (.slice (some ⟨bk, off, none⟩) ks.length cap') w1.heap.size w2.heap.size #[.int .i64 tk, .int .u64 tn, .string ts, .slice (some ⟨b0, off0, none⟩) tl.length m1] (.mk tk tn ts tl) (.slice (some ⟨b0, off0, none⟩) tl.length m1) (.slice (some ⟨g3, 0, none⟩) fe.length c3) fe wi ∧ Blk wi wr.heap.size 43 #[.string ks[j].s, .int .u64 (ks[j].k : Int), .int .i64 ks[j].g, .int .i64 ks[j].o, .int .i64 ks[j].n] ∧ Lies wi wi.heap.size (.mk kk kn ksb kl) (.slice A6 kl.length c6)) (fun _ i _ => kl.length - (intOf i).toNat)
      case atStart => exact ⟨0, Nat.zero_le _, rfl, by simp [hasK], hP8, K8, hv6.more (Nat.le_refl _)⟩
      case round =>
        clear hP8 K8 hv6
        obtain ⟨k, hk, rfl, rfl, hP9, K9, hv9⟩ := hrel
        by_cases hlk : k < kl.length
        · obtain ⟨A61, c61, xs, e60, r1, r2, r3, r4, r5, hr, hL⟩ := hv9.open_
          injection e60 with e61 _ e62
          subst e61 e62
          replace hL : LiesL wr wr.heap.size kl xs := hL
          obtain ⟨b1', off1, A7, c7, rfl, hb1, hv7, z0, z1, z2, z3⟩ := at_cells hr hL hlk
          have hT9 := vers.lay (hasK_take kl ks[j].k hlk)
          have D9 : Below wr.heap.size wr (wr.alloc (.cells #[.int .i64 kl[k].k, .int .u64 kl[k].n, .string kl[k].s, .slice A7 kl[k].l.length c7] 31)) := (Below.refl _ _).alloc (Nat.le_refl _) _
          have hP10 := hP9.next D9
          have K10 := K9.below D9 K9.lt
          have hv10 := (hv9.below D9).more (B' := (wr.alloc (.cells #[.int .i64 kl[k].k, .int .u64 kl[k].n, .string kl[k].s, .slice A7 kl[k].l.length c7] 31)).heap.size) D9.size
          have y1 := K9.cell 1
          simp at y1
          have y2 := K9.lt
          have i7 : (kl.length : Int) ≤ 140737488355328 := by simp only [T.l] at r5; omega
          simp only [T.l] at r5 z0 z1 z2 z3
          generalize hb5 : hasK (List.take k kl) ks[j].k = b5 at hT9 ⊢
          clear hb5 hL hr hP9 K9 hv9 D9 r1 r2 r3 r4 hv7
          cases b5 with
          | true =>
            go_wp2_with fail
            exact ⟨⟨k + 1, hlk, by go_num, by rw [hT9.out]; simp, hP10, K10, hv10⟩, by simp [intOf]; omega⟩
          | false =>
            by_cases g1 : kl[k].k = 3
            · have d5 : (kl[k].k == 3) = true := by simpa using g1
              by_cases g2 : kl[k].n = (ks[j].k : Int)
              · have d6 : (kl[k].n == (ks[j].k : Int)) = true := by simpa using g2
                have HG := vers.lay (And.intro g1 g2)
                clear g1 g2
                go_wp2_with fail
                exact ⟨⟨k + 1, hlk, by go_num, by rw [hT9.out]; simp [HG.out.1, HG.out.2], hP10, K10, hv10⟩, by simp [intOf]; omega⟩
              · have d6 : (kl[k].n == (ks[j].k : Int)) = false := by simpa using g2
                have HG := vers.lay g2
                clear g1 g2
                go_wp2_with fail
                exact ⟨⟨k + 1, hlk, by go_num, by rw [hT9.out]; simp [HG.out], hP10, K10, hv10⟩, by simp [intOf]; omega⟩
            · have d5 : (kl[k].k == 3) = false := by simpa using g1
              have HG := vers.lay g1
              clear g1
              go_wp2_with fail
              exact ⟨⟨k + 1, hlk, by go_num, by rw [hT9.out]; simp [HG.out], hP10, K10, hv10⟩, by simp [intOf]; omega⟩
        · have hkt : hasK (kl.take k) ks[j].k = true := by
            rw [List.take_of_length_le (by omega)]
            have e := congrArg T.l htj.out
            simp only [T.l] at e
            rw [e]
            exact hasK_kid ks[j]
          rw [hkt]
          clear hkt
          go_wp2_with fail
          refine ⟨?_, by simp [intOf]; omega⟩
          (repeat apply Exists.intro)
          exact ⟨⟨j + 1, hlt, by go_num, hP9⟩, rfl⟩
    · have B9 := hP.1
      have h0 : 0 < ks.length := by omega
      have hnk : (ks.length : Int) ≤ 140737488355328 := by omega
      rw [HL.out h0] at h5
      obtain ⟨bk, off, rfl, hbk, v0, _⟩ := (hkw _ hP.1.below).at_ h0
      clear hbk v0
      have hp0 : (0 : Int) < (ks.length : Int) := by omega
      go_wp2_with fail
      obtain ⟨N, hN, hM⟩ := norms _ _ B9
      have hne : Nonempty World := ⟨w⟩
      have q7 := fun n => (hN n).2.1.1
      have q8 := fun n => (hN n).2.1.2.1
      have q9 := fun n => (hN n).2.1.2.2
      have q10 : ∀ n, (N n).cell? ⟨bk, off, none⟩ = some (.string ks[0].s) := fun n => by
        obtain ⟨b', o', e, _, c, _⟩ := (hkw _ (hN n).below).at_ h0
        cases e
        simpa using c
      refine region_class N (by kernel_rfl) (by kernel_rfl) (hM _ (B9.next ((Below.refl _ _).drew))) ?_
      repeat (go_big_quiet_step (first
        | (go_at_call 10; exact call_in (fun _ _ => Bn.next) hN hM (h5 _ (hN _).below))))
      refine wpQuiet_nil ?_
      rintro _ ⟨n, rfl⟩
      have I9 := hN n
      generalize N n = w9 at I9 ⊢
      clear q7 q8 q9 q10 hM hN N n hne h5
      go_wp2_with fail
      go_ret
      exact ⟨rfl, I9.below⟩

theorem law_texts (hp : TermIs) (hlow : LowIs) (a b c d e f h : Int) (lf : Bool) (es : List E) (ks : List K) (A : Option Addr) (cap : Nat) (A' : Option Addr) (cap' : Nat) (w : World) (hv : Es w w.heap.size es A cap) (hk : Ks w w.heap.size ks A' cap') :
    Calls Try.prog 3 #[.agg #[.int .i64 a, .int .i64 b, .int .i64 c, .int .i64 d, .int .i64 e, .int .i64 f, .int .i64 h], .agg #[.bool lf, .slice A es.length cap, .slice A' ks.length cap']] w fun x w' => x = .returned (.bool true) ∧ Below w.heap.size w w' := by
  by_cases hz : ndbad a b c d e f h lf es ks = 0
  · cases lf with
    | true => exact texts_leaf hp a b c d e f h es ks A cap A' cap' w hv hk hz
    | false => exact texts_inner hp hlow a b c d e f h es ks A cap A' cap' w hv hk hz
  · exact texts_bad hp a b c d e f h lf es ks A cap A' cap' w hv hk hz
end Go.Proofs.Ytnkfboplafckoaa.nodes
