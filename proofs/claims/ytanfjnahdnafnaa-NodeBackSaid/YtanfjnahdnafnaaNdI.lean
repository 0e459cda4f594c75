/- letheref06's Term: a node's term, or why it has none. -/
import Derived.Test.YtanfjnahdnafnaaNdH
import Derived.Test.YtanfjnahdnafnaaNdC
import Derived.Test.YtanfjnahdnafnaaBoxP


namespace Go.Proofs.Ytanfjnahdnafnaa.nodes
set_option linter.unusedVariables false
set_option linter.unusedSimpArgs false
open Go.RowKit Go.Proofs.Ytanfjnahdnafnaa.base Go.Proofs.Ytanfjnahdnafnaa.quotas Go.Proofs.Ytanfjnahdnafnaa.vers Go.Proofs.Ytanfjnahdnafnaa.tm Go.Proofs.Ytanfjnahdnafnaa.lies Go.Proofs.Ytanfjnahdnafnaa.copies Go.Proofs.Ytanfjnahdnafnaa.makes Go.Proofs.Ytanfjnahdnafnaa.built

theorem vbad_pos (c d : Int) : ∀ (l : List V) (p : Int), vbad c d p l = 0 → 0 ≤ p → ∀ y ∈ l, 0 ≤ y.n
  | [], _, _, _, y, hy => by cases hy
  | x :: l, p, h, hp, y, hy => by
    unfold vbad at h
    split at h
    · omega
    · rename_i h1
      split at h
      · omega
      · rcases List.mem_cons.1 hy with rfl | hy
        · omega
        · exact vbad_pos c d l x.n h (by omega) y hy
theorem rb_zero {n : Int} {l : List V} (h : rb n l = 0) : n = 0 := by
  unfold rb at h
  split at h
  · omega
  · exact h
theorem nbad_all {a b c d e f h : Int} {s : ByteArray} {l : List V} (hz : nbad a b c d e f h s l = 0) : l.length ≤ 4 ∧ ∀ y ∈ l, 0 ≤ y.n := by
  by_cases hk : ok a b c d e f h
  · have h5 := hk.2.2.2.2.1
    rw [nbad_yes hk] at hz
    split at hz
    · omega
    · split at hz
      · omega
      · split at hz
        · omega
        · exact ⟨by omega, vbad_pos c d l 0 hz (Int.le_refl _)⟩
  · rw [nbad_no hk] at hz; omega
theorem ebad_all (a b c d e f h : Int) : ∀ (l : List E) (p : Option ByteArray), ebad a b c d e f h p l = 0 → ∀ x ∈ l, x.l.length ≤ 4 ∧ ∀ y ∈ x.l, 0 ≤ y.n
  | [], _, _, x, hx => by cases hx
  | z :: l, p, hb, x, hx => by
    have hb' : (if rb (nbad a b c d e f h z.s z.l) z.l ≠ 0 then rb (nbad a b c d e f h z.s z.l) z.l else if behind z.s p = true then 60 else ebad a b c d e f h (some z.s) l) = 0 := by
      cases p <;> exact hb
    split at hb'
    · rename_i h1; exact absurd hb' h1
    · rename_i h1
      split at hb'
      · omega
      · rcases List.mem_cons.1 hx with rfl | hx
        · exact nbad_all (rb_zero (Classical.not_not.1 h1))
        · exact ebad_all a b c d e f h l _ hb' x hx
theorem kbad_all (b : Int) : ∀ (l : List K) (p : Option ByteArray), kbad b p l = 0 → ∀ x ∈ l, refOk x.g x.o x.n
  | [], _, _, x, hx => by cases hx
  | z :: l, p, hb, x, hx => by
    have hb' : (if z.s.size = 0 then 4 else if b < z.s.size then 5 else if ¬ refOk z.g z.o z.n then 61 else if behind z.s p = true then 60 else kbad b (some z.s) l) = 0 := by
      cases p <;> exact hb
    split at hb'
    · omega
    · split at hb'
      · omega
      · split at hb'
        · omega
        · rename_i h1
          split at hb'
          · omega
          · rcases List.mem_cons.1 hx with rfl | hx
            · exact Classical.not_not.1 h1
            · exact kbad_all b l _ hb' x hx
theorem ndbad_leaf {a b c d e f h : Int} {es : List E} {ks : List K} (hz : ndbad a b c d e f h true es ks = 0) : es.length ≤ 4 ∧ ∀ x ∈ es, x.l.length ≤ 4 ∧ ∀ y ∈ x.l, 0 ≤ y.n := by
  unfold ndbad at hz
  split at hz
  · rw [if_pos rfl] at hz
    split at hz
    · omega
    · exact ⟨by omega, ebad_all a b c d e f h es none hz⟩
  · omega
theorem ndbad_inner {a b c d e f h : Int} {es : List E} {ks : List K} (hz : ndbad a b c d e f h false es ks = 0) : ks.length ≤ 4 ∧ ∀ x ∈ ks, refOk x.g x.o x.n := by
  unfold ndbad at hz
  split at hz
  · rw [if_neg (by simp)] at hz
    split at hz
    · omega
    · exact ⟨by omega, kbad_all b ks none hz⟩
  · omega

/-- a node's term, or what is wrong -/
def termP (a b c d e f h : Int) (lf : Bool) (es : List E) (ks : List K) : T × Int := if ndbad a b c d e f h lf es ks ≠ 0 then (boxes.zT, ndbad a b c d e f h lf es ks) else (nodeT lf es ks, 0)
theorem of_any {a b c d e f h : Int} {lf : Bool} {es : List E} {ks : List K} (hz : ndbad a b c d e f h lf es ks = 0) (A : Option Addr) (cap : Nat) (Q : Option Addr) (m : Nat) (w : World) (hv : Es w w.heap.size es A cap) (hk : Ks w w.heap.size ks Q m) :
    Calls Try.prog 39 #[.agg #[.bool lf, .slice A es.length cap, .slice Q ks.length m]] w (TAns w (nodeT lf es ks)) := by
  cases lf with
  | true => exact of_leaf es A cap Q ks.length m w hv (ndbad_leaf hz).1 (ndbad_leaf hz).2
  | false => exact of_inner ks Q m A es.length cap w hk (ndbad_inner hz).1 (ndbad_inner hz).2
theorem nodeT_kns (lf : Bool) (es : List E) (ks : List K) : (nodeT lf es ks).k = 5 ∧ (nodeT lf es ks).n = 0 ∧ (nodeT lf es ks).s = ⟨#[]⟩ := by
  cases lf <;> exact ⟨rfl, rfl, rfl⟩

/-- behind Term's beginning: the quota's, the node's and the answer's boxes -/
def Tx (w : World) (a b c d e f h : Int) (lf : Bool) (u u' : Value) (wr : World) : Prop := Bn w a b c d e f h lf u u' wr ∧ Blk wr (w.heap.size + 2) 38 #[.int .i64 0, .int .u64 0, .string ⟨#[]⟩, .slice none 0 0]
theorem Tx.new (w : World) (a b c d e f h : Int) (lf : Bool) (u u' : Value) : Tx w a b c d e f h lf u u' (((w.alloc (.cells #[.int .i64 a, .int .i64 b, .int .i64 c, .int .i64 d, .int .i64 e, .int .i64 f, .int .i64 h] 23)).alloc (.cells #[.bool lf, u, u'] 27)).alloc (.cells #[.int .i64 0, .int .u64 0, .string ⟨#[]⟩, .slice none 0 0] 38)) := by
  have k := Blk.new ((w.alloc (.cells #[.int .i64 a, .int .i64 b, .int .i64 c, .int .i64 d, .int .i64 e, .int .i64 f, .int .i64 h] 23)).alloc (.cells #[.bool lf, u, u'] 27)) 38 #[.int .i64 0, .int .u64 0, .string ⟨#[]⟩, .slice none 0 0]
  simp only [World.size_alloc] at k
  exact ⟨(Bn.new w a b c d e f h lf u u').alloc _, k⟩
theorem Tx.next {w wr w' : World} {a b c d e f h : Int} {lf : Bool} {u u' : Value} (h1 : Tx w a b c d e f h lf u u' wr) (hb : Below wr.heap.size wr w') : Tx w a b c d e f h lf u u' w' := ⟨h1.1.next hb, h1.2.below hb h1.2.lt⟩
theorem four_same (w : World) (g : Nat) (x y z u : Value) : (((w.setCell ⟨g, 0, none⟩ x).setCell ⟨g, 1, none⟩ y).setCell ⟨g, 2, none⟩ z).setCell ⟨g, 3, none⟩ u = four w g 0 x y z u := rfl

set_option maxRecDepth 100000 in
set_option maxHeartbeats 1000000 in
theorem refTerm_any (a b c d e f h : Int) (lf : Bool) (es : List E) (ks : List K) (A : Option Addr) (cap : Nat) (A' : Option Addr) (cap' : Nat) (w : World) (hv : Es w w.heap.size es A cap) (hk : Ks w w.heap.size ks A' cap') :
    Calls Try.prog 17 #[.agg #[.int .i64 a, .int .i64 b, .int .i64 c, .int .i64 d, .int .i64 e, .int .i64 f, .int .i64 h], .agg #[.bool lf, .slice A es.length cap, .slice A' ks.length cap']] w (boxes.Ans w (termP a b c d e f h lf es ks)) := by
  have T0 := Tx.new w a b c d e f h lf (.slice A es.length cap) (.slice A' ks.length cap')
  have hsz := T0.2.lt
  have hc := refNode_any a b c d e f h lf es ks A cap A' cap' _ (hv.at_world T0.1.below) (hk.at_world T0.1.below)
  have ho := fun (hz : ndbad a b c d e f h lf es ks = 0) wr (hb : Below w.heap.size w wr) => of_any hz A cap A' cap' wr (hv.at_world hb) (hk.at_world hb)
  have hkns := nodeT_kns lf es ks
  unfold termP
  generalize ndbad a b c d e f h lf es ks = n at hc ho ⊢
  generalize nodeT lf es ks = t at ho hkns ⊢
  clear hv hk
  generalize es.length = ne at T0 hc ho hsz ⊢
  generalize ks.length = nk at T0 hc ho hsz ⊢
  by_cases hz : n = 0
  · have ho2 := ho hz
    clear ho
    rw [if_neg (by simpa using hz)]
    subst hz
    obtain ⟨tk, tn, ts, tl⟩ := t
    obtain ⟨q1, q2, q3⟩ := hkns
    cases (show tk = 5 from q1)
    cases (show tn = 0 from q2)
    cases (show ts = ⟨#[]⟩ from q3)
    clear q1 q2 q3
    go_enter Try.func17, Try.ntmps17
    go_wp2_with fail
    refine hc.mono ?_
    rintro x w1 ⟨rfl, hb1⟩
    have T1 := T0.next hb1
    clear hb1 T0 hc
    obtain ⟨⟨⟨⟨c0, c1, c2, c3, c4, c5, c6⟩, l1, l2, b1⟩, ⟨n0, n1, n2⟩, l3⟩, hR⟩ := id T1
    go_wp2_with fail
    refine (ho2 _ b1).mono ?_
    rintro x w2 ⟨A2, k2, rfl, hH, hb2⟩
    have T2 := T1.next hb2
    clear c0 c1 c2 c3 c4 c5 c6 l1 l2 n0 n1 n2 l3 hR ho2
    obtain ⟨B2, hR⟩ := T2
    have z0 := hR.cell 0
    have z1 := hR.cell 1
    have z2 := hR.cell 2
    have z3 := hR.cell 3
    simp at z0 z1 z2 z3
    have f0 := hR.frozen 0
    have f1 := hR.frozen 1
    have f2 := hR.frozen 2
    have f3 := hR.frozen 3
    have hs1 := T1.2.lt
    have hs2 := hb2.size
    simp only [T.val, T.k, T.n, T.s, T.l] at hH ⊢
    go_wp2_with fail
    refine bodyPost_ret (v := .tuple #[T.val (.mk 5 0 ⟨#[]⟩ tl) (.slice A2 tl.length k2), .int .i64 0]) (by simp [results, Try.results17, go_sem, z0, z1, z2, z3, T.k, T.n, T.s]) rfl ⟨four_below B2.below (by omega) _ _ _ _, A2, k2, rfl, ?_, ?_⟩
    · refine hH.move b1.size (by simp) fun p p1 p2 => ?_
      exact four_cell w2 (w.heap.size + 2) 0 _ _ _ _ p (by omega)
    · exact ⟨by show (-9223372036854775808 : Int) ≤ 5 ∧ (5 : Int) ≤ 9223372036854775807; decide, by show (0 : Int) ≤ 0 ∧ (0 : Int) < 18446744073709551616; decide, Nat.zero_le maxLen⟩
  · rw [if_pos hz]
    have d1 : (n != 0) = true := by simpa using hz
    clear hz ho hkns
    go_enter Try.func17, Try.ntmps17
    go_wp2_with fail
    refine hc.mono ?_
    rintro x w1 ⟨rfl, hb1⟩
    have T1 := T0.next hb1
    clear hb1 T0 hc
    obtain ⟨B1, hR⟩ := T1
    have z0 := hR.cell 0
    have z1 := hR.cell 1
    have z2 := hR.cell 2
    have z3 := hR.cell 3
    simp at z0 z1 z2 z3
    have f0 := hR.frozen 0
    have f1 := hR.frozen 1
    have f2 := hR.frozen 2
    have f3 := hR.frozen 3
    have hs1 := hR.lt
    go_wp2_with fail
    refine bodyPost_ret (v := .tuple #[T.val boxes.zT (.slice none 0 0), .int .i64 n]) (by simp [results, Try.results17, go_sem, z0, z1, z2, z3, boxes.zT, T.k, T.n, T.s]) rfl ⟨four_below B1.below (by omega) _ _ _ _, none, 0, rfl, Held.nil _ _ _, boxes.fits_z⟩
end Go.Proofs.Ytanfjnahdnafnaa.nodes
