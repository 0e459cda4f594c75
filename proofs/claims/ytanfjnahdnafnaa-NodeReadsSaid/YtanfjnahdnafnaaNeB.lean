/- What is read of a term has that term: pure words; the walk of NodeReads. -/
import Derived.Test.YtanfjnahdnafnaaNeA
import Derived.Test.YtanfjnahdnafnaaNdP


namespace Go.Proofs.Ytanfjnahdnafnaa.nodes
set_option linter.unusedVariables false
set_option linter.unusedSimpArgs false
open Go.RowKit Go.Proofs.Ytanfjnahdnafnaa.base Go.Proofs.Ytanfjnahdnafnaa.quotas Go.Proofs.Ytanfjnahdnafnaa.vers Go.Proofs.Ytanfjnahdnafnaa.tm Go.Proofs.Ytanfjnahdnafnaa.lies Go.Proofs.Ytanfjnahdnafnaa.copies Go.Proofs.Ytanfjnahdnafnaa.makes

theorem no_text {s : ByteArray} (h : s.data.toList = []) : s = ⟨#[]⟩ := by
  obtain ⟨d⟩ := s
  have : d = #[] := by simpa using h
  rw [this]
theorem num_eta {t : T} (h : t.k = 1) (hs : t.shaped = true) : t = numT t.n := by
  rw [shaped_eq, Bool.and_eq_true] at hs
  obtain ⟨_, _, _, h2, _, _, h5, _⟩ := one_kind hs.1
  have e1 := no_text (h2 (by omega))
  have e2 := h5 (by omega) (by omega)
  obtain ⟨k, n, s, l⟩ := t
  simp only [T.k, T.n, T.s, T.l] at h e1 e2 ⊢
  rw [h, e1, e2]; rfl
theorem key_eta {t : T} (h : t.k = 3) (hs : t.shaped = true) : t = keyT t.n := by
  rw [shaped_eq, Bool.and_eq_true] at hs
  obtain ⟨_, _, _, h2, _, _, h5, _⟩ := one_kind hs.1
  have e1 := no_text (h2 (by omega))
  have e2 := h5 (by omega) (by omega)
  obtain ⟨k, n, s, l⟩ := t
  simp only [T.k, T.n, T.s, T.l] at h e1 e2 ⊢
  rw [h, e1, e2]; rfl
theorem atom_eta {t : T} (h : t.k = 2) (hs : t.shaped = true) : t = atomT t.s := by
  rw [shaped_eq, Bool.and_eq_true] at hs
  obtain ⟨_, _, _, _, h3, _, h5, _⟩ := one_kind hs.1
  have e1 := h3 h
  have e2 := h5 (by omega) (by omega)
  obtain ⟨k, n, s, l⟩ := t
  simp only [T.k, T.n, T.s, T.l] at h e1 e2 ⊢
  rw [h, e1, e2]; rfl
theorem row_eta {t : T} (h : t.k = 5) (hs : t.shaped = true) : t = rowT t.l ∧ shapedL t.l = true := by
  rw [shaped_eq, Bool.and_eq_true] at hs
  obtain ⟨_, _, _, h2, _, h4, _⟩ := one_kind hs.1
  have e1 := no_text (h2 (by omega))
  have e2 := h4 h
  refine ⟨?_, hs.2⟩
  obtain ⟨k, n, s, l⟩ := t
  simp only [T.k, T.n, T.s, T.l] at h e1 e2 ⊢
  rw [h, e1, e2]; rfl
theorem shapedL_mem {l : List T} (h : shapedL l = true) {x : T} (hx : x ∈ l) : x.shaped = true := by
  obtain ⟨j, hj, rfl⟩ := List.getElem_of_mem hx
  exact shapedL_at l j hj h
theorem wordL_mem {l : List T} (h : wordL l) {x : T} (hx : x ∈ l) : x.word := by
  induction l with
  | nil => cases hx
  | cons y l ih =>
    rcases List.mem_cons.1 hx with rfl | hx
    · exact h.1
    · exact ih h.2 hx
theorem word_n {t : T} (h : t.word) : 0 ≤ t.n := by obtain ⟨k, n, s, l⟩ := t; exact h.1.1.1
theorem word_l {t : T} (h : t.word) : wordL t.l := by obtain ⟨k, n, s, l⟩ := t; exact h.2
theorem numB_k {x : T} (h : numB x = true) : x.k = 1 := by
  unfold numB at h
  rw [Bool.and_eq_true] at h
  exact of_decide_eq_true h.1
theorem ver_eta {t : T} (h : verB t = true) (hs : t.shaped = true) : verT (toV t) = t := by
  have hk : t.k = 5 := by unfold verB at h; rw [Bool.and_eq_true] at h; exact of_decide_eq_true h.1
  obtain ⟨e1, e2⟩ := row_eta hk hs
  rw [e1]
  unfold verB at h
  rw [Bool.and_eq_true] at h
  match hl : t.l, h.2, e2 with
  | [x0, x1, x2], h2, e2 =>
    simp only [Bool.and_eq_true, decide_eq_true_eq] at h2
    have s0 := num_eta (numB_k h2.1.1) (shapedL_mem e2 (x := x0) (by simp))
    have s1 := atom_eta h2.1.2 (shapedL_mem e2 (x := x1) (by simp))
    have s2 := atom_eta h2.2 (shapedL_mem e2 (x := x2) (by simp))
    show rowT [numT x0.n, atomT x1.s, atomT x2.s] = rowT [x0, x1, x2]
    rw [← s0, ← s1, ← s2]
theorem kid_eta {t : T} (h : kidB t = true) (hs : t.shaped = true) (hw : t.word) : kidT (toK t) = t := by
  have hk : t.k = 5 := by unfold kidB at h; rw [Bool.and_eq_true] at h; exact of_decide_eq_true h.1
  obtain ⟨e1, e2⟩ := row_eta hk hs
  have hwl := word_l hw
  rw [e1]
  unfold kidB at h
  rw [Bool.and_eq_true] at h
  match hl : t.l, h.2, e2, hwl with
  | [x0, x1, x2, x3, x4], h2, e2, hwl =>
    simp only [Bool.and_eq_true, decide_eq_true_eq] at h2
    have s0 := atom_eta h2.1.1.1.1 (shapedL_mem e2 (x := x0) (by simp))
    have s1 := key_eta h2.1.1.1.2 (shapedL_mem e2 (x := x1) (by simp))
    have s2 := num_eta (numB_k h2.1.1.2) (shapedL_mem e2 (x := x2) (by simp))
    have s3 := num_eta (numB_k h2.1.2) (shapedL_mem e2 (x := x3) (by simp))
    have s4 := num_eta (numB_k h2.2) (shapedL_mem e2 (x := x4) (by simp))
    have hn : ((x1.n.toNat : Nat) : Int) = x1.n := Int.toNat_of_nonneg (word_n (wordL_mem hwl (x := x1) (by simp)))
    show rowT [atomT x0.s, keyT ((x1.n.toNat : Nat) : Int), numT x2.n, numT x3.n, numT x4.n] = rowT [x0, x1, x2, x3, x4]
    rw [hn, ← s0, ← s1, ← s2, ← s3, ← s4]
def entP (p : ByteArray × List V) : T := rowT (atomT p.1 :: p.2.map verT)
theorem map_eta {α : Type} (f : T → α) (g : α → T) : ∀ (l : List T), (∀ x ∈ l, g (f x) = x) → (l.map f).map g = l
  | [], _ => rfl
  | x :: l, h => by
    rw [List.map_cons, List.map_cons, h x (List.mem_cons_self ..), map_eta f g l (fun y hy => h y (List.mem_cons_of_mem _ hy))]
theorem ent_eta {t : T} (h : entB t = true) (hs : t.shaped = true) : entP (toEP t) = t := by
  have hk : t.k = 5 := by unfold entB at h; rw [Bool.and_eq_true] at h; exact of_decide_eq_true h.1
  obtain ⟨e1, e2⟩ := row_eta hk hs
  rw [e1]
  unfold entB at h
  rw [Bool.and_eq_true] at h
  match hl : t.l, h.2, e2 with
  | x :: r, h2, e2 =>
    rw [Bool.and_eq_true] at h2
    have s0 := atom_eta (of_decide_eq_true h2.1) (shapedL_mem e2 (x := x) (by simp))
    have hr := map_eta toV verT r (fun y hy => ver_eta (List.all_eq_true.1 h2.2 y hy) (shapedL_mem e2 (List.mem_cons_of_mem _ hy)))
    show rowT (atomT x.s :: (r.map toV).map verT) = rowT (x :: r)
    rw [hr, ← s0]
theorem node_eta {t : T} (h : nodB t = true) (hs : t.shaped = true) (hw : t.word) (es : List E) (he : es.map pe = (nodeP t).2.1) : nodeT (nodeP t).1 es (nodeP t).2.2 = t := by
  have hk : t.k = 5 := by unfold nodB at h; rw [Bool.and_eq_true] at h; exact of_decide_eq_true h.1
  obtain ⟨e1, e2⟩ := row_eta hk hs
  have hwl := word_l hw
  have hee : es.map entT = (es.map pe).map entP := by rw [List.map_map]; rfl
  cases hh : headB t 1 with
  | false => rw [nodB_head hh] at h; cases h
  | true =>
    obtain ⟨m, s, x, r, rfl, hx⟩ := headB_shape hh
    rw [nodB_yes m s r hx] at h
    rw [nodeP_yes] at he ⊢
    simp only [T.l] at e2 hwl
    have hx0 := num_eta hx (shapedL_mem e2 (x := x) (by simp))
    rw [e1]
    by_cases h1 : x.n = 1
    · rw [if_pos h1] at h he ⊢
      have hr := map_eta toEP entP r (fun y hy => ent_eta (List.all_eq_true.1 h y hy) (shapedL_mem e2 (List.mem_cons_of_mem _ hy)))
      show (if true = true then rowT (numT 1 :: es.map entT) else _) = rowT (x :: r)
      rw [if_pos rfl, hee, he]
      show rowT (numT 1 :: (r.map toEP).map entP) = _
      rw [hr]
      rw [h1] at hx0
      rw [hx0]
    · rw [if_neg h1] at h he ⊢
      by_cases h2 : x.n = 2
      · rw [if_pos h2] at h
        have hr := map_eta toK kidT r (fun y hy => kid_eta (List.all_eq_true.1 h y hy) (shapedL_mem e2 (List.mem_cons_of_mem _ hy)) (wordL_mem hwl (List.mem_cons_of_mem _ hy)))
        show (if false = true then _ else rowT (numT 2 :: (r.map toK).map kidT)) = rowT (x :: r)
        rw [if_neg (by simp), hr]
        rw [h2] at hx0
        rw [hx0]
      · rw [if_neg h2] at h; cases h
theorem right_shaped {t : T} (h : t.right = 0) : t.shaped = true := by
  unfold T.right at h
  split at h
  · omega
  · split at h
    · omega
    · split at h
      · assumption
      · omega
theorem fromP_ok {a b c d e f h : Int} {t : T} {p : P3} (hp : fromP a b c d e f h t = (p, 0)) : t.right = 0 ∧ nodB t = true ∧ p = nodeP t ∧ ndP a b c d e f h p = 0 := by
  unfold fromP at hp
  split at hp
  · split at hp
    · rename_i h1
      injection hp with _ h2
      exact absurd h2 h1
    · rename_i h1
      split at hp
      · rename_i h2
        split at hp
        · rename_i h3
          injection hp with _ h4
          exact absurd h4 h3
        · rename_i h3
          injection hp with h4 _
          subst h4
          exact ⟨Classical.not_not.1 h1, h2, rfl, Classical.not_not.1 h3⟩
      · injection hp with _ h2; omega
  · injection hp with _ h2; omega
theorem termP_ok {a b c d e f h : Int} {t : T} {p : P3} (hp : fromP a b c d e f h t = (p, 0)) (hw : t.word) (es : List E) (he : es.map pe = p.2.1) : termP a b c d e f h p.1 es p.2.2 = (t, 0) := by
  obtain ⟨h1, h2, h3, h4⟩ := fromP_ok hp
  have hz : ndbad a b c d e f h p.1 es p.2.2 = 0 := by rw [ndP_of, he]; exact h4
  unfold termP
  rw [hz, if_neg (by simp)]
  subst h3
  rw [node_eta h2 (right_shaped h1) hw es he]

set_option maxRecDepth 100000 in
set_option maxHeartbeats 1000000 in
theorem law_reads (a b c d e f h : Int) (t : T) (u : Value) (w : World) (hL : Lies w w.heap.size t u) :
    Calls Try.prog 7 #[.agg #[.int .i64 a, .int .i64 b, .int .i64 c, .int .i64 d, .int .i64 e, .int .i64 f, .int .i64 h], T.val t u] w fun x w' => x = .returned (.bool true) ∧ Below w.heap.size w w' := by
  obtain ⟨A, cap, xs, rfl, _⟩ := hL.open_
  have hw := Lies.word _ _ hL
  have G0 := Gx.new w a b c d e f h t (.slice A t.l.length cap)
  have hLL := fun wr (hb : Below w.heap.size w wr) => (Lies.below hL hb).now hb.size
  have h1 := fun wr (hb : Below w.heap.size w wr) => from_any a b c d e f h t A cap wr ((Lies.below hL hb).now hb.size)
  have h2 := fun wr (hb : Below w.heap.size w wr) => refFrom_any a b c d e f h t A cap wr ((Lies.below hL hb).now hb.size)
  have hT := vers.lay (fun p (hp : fromP a b c d e f h t = (p, 0)) es (he : es.map pe = p.2.1) => termP_ok hp hw es he)
  have hB := vers.lay (fun p (hp : fromP a b c d e f h t = (p, 0)) => (fromP_ok hp).2.2.2)
  generalize fromP a b c d e f h t = r at h1 h2 hT hB
  obtain ⟨⟨lf, ps, ks⟩, er⟩ := r
  clear hL hw
  unfold T.val
  go_enter Try.func7, Try.ntmps7
  go_wp2_with fail
  refine (h2 _ G0.1.2.2.2).mono ?_
  rintro x w1 ⟨hb1, es1, A1, c1, Q1, m1, rfl, hpe1, hE1, hK1⟩
  simp only at hpe1 hK1 ⊢
  have G1 := G0.next hb1
  have D1 : Below w1.heap.size w1 (w1.alloc (.cells #[.bool lf, .slice A1 es1.length c1, .slice Q1 ks.length m1] 27)) := (Below.refl _ _).alloc (Nat.le_refl _) _
  have G2 := G1.next D1
  clear G0 hb1 h2 hE1 hK1 hpe1
  obtain ⟨⟨⟨q0, q1, q2, q3, q4, q5, q6⟩, l1, l2, b1⟩, ⟨y0, y1, y2, y3⟩, l3⟩ := id G1
  have l4 : w.heap.size < w1.heap.size := by omega
  go_wp2_with fail
  clear q0 q1 q2 q3 q4 q5 q6 l1 l2 b1 y0 y1 y2 y3 l3 l4 G1 D1
  refine (h1 _ G2.1.2.2.2).mono ?_
  rintro x w2 ⟨hb2, es2, A2, c2, Q2, m2, rfl, hpe2, hE2, hK2⟩
  simp only at hpe2 hK2 ⊢
  have D2 : Below w2.heap.size w2 (w2.alloc (.cells #[.bool lf, .slice A2 es2.length c2, .slice Q2 ks.length m2] 27)) := (Below.refl _ _).alloc (Nat.le_refl _) _
  have X2 := Nb.new w2 lf (.slice A2 es2.length c2) (.slice Q2 ks.length m2)
  have G2' := G2.next hb2
  have G3 := G2'.next D2
  have d0 : (er != er) = false := by simp
  have d1 : (er == er) = true := by simp
  clear G2 hb2 h1
  by_cases hz : er = 0
  · subst hz
    have hTe := hT.out _ rfl es2 hpe2
    have hBe := hB.out _ rfl
    simp only at hTe hBe
    have ht := termIs a b c d e f h lf es2 ks A2 c2 Q2 m2 (w2.alloc (.cells #[.bool lf, .slice A2 es2.length c2, .slice Q2 ks.length m2] 27)) (hE2 _ _ D2.size (Frame.of_below D2)) (hK2 _ _ D2.size (Frame.of_below D2))
    rw [hTe] at ht
    have hn := fun wr (hb : Below w2.heap.size w2 wr) => ownNode_any a b c d e f h lf es2 ks A2 c2 Q2 m2 wr (hE2 _ _ hb.size (Frame.of_below hb)) (hK2 _ _ hb.size (Frame.of_below hb))
    rw [ndP_of, hpe2, hBe] at hn
    clear hT hB hTe hBe hE2 hK2 hpe2
    generalize es2.length = n2 at *
    generalize ks.length = nk at *
    obtain ⟨⟨⟨q0, q1, q2, q3, q4, q5, q6⟩, l1, l2, b1⟩, ⟨y0, y1, y2, y3⟩, l3⟩ := id G2'
    have l4 : w.heap.size < w2.heap.size := by omega
    have b3 := G3.1.2.2.2
    go_wp2_with fail
    clear q0 q1 q2 q3 q4 q5 q6 l1 l2 b1 y0 y1 y2 y3 l3 l4 G2'
    refine ht.mono ?_
    rintro x w3 ⟨hb3, A3, m3, rfl, hH3, hF3⟩
    have G4 := G3.next hb3
    have X4 := X2.next hb3
    have D3 : Below w3.heap.size w3 (w3.alloc (.cells #[.int .i64 t.k, .int .u64 t.n, .string t.s, .slice A3 t.l.length m3] 38)) := (Below.refl _ _).alloc (Nat.le_refl _) _
    have G5 := G4.next D3
    have X5 := X4.next D3
    have bn := (D2.trans (hb3.mono D2.size)).trans (D3.mono (Nat.le_trans D2.size hb3.size))
    have L1 := hLL _ G5.1.2.2.2
    have L2 := Held.lies (t := t) (w := w3.alloc (.cells #[.int .i64 t.k, .int .u64 t.n, .string t.s, .slice A3 t.l.length m3] 38)) (hH3.move (Nat.le_refl _) (Nat.le_refl _) (fun p _ p2 => D3.cell p2)) hF3.1 hF3.2.1 hF3.2.2 (by simp)
    have hl := likes.like_any _ t _ _ _ (Nat.le_refl _) L1 L2
    unfold T.val at hl ⊢
    generalize t.l.length = nl at *
    clear L1 L2 hH3 hF3 hb3 D2 G3 X2 hLL ht
    obtain ⟨⟨⟨q0, q1, q2, q3, q4, q5, q6⟩, l1, l2, b1⟩, ⟨y0, y1, y2, y3⟩, l3⟩ := id G4
    have l4 : w.heap.size < w3.heap.size := by omega
    go_wp2_with fail
    clear q0 q1 q2 q3 q4 q5 q6 l1 l2 b1 y0 y1 y2 y3 l3 l4 G4
    refine hl.mono ?_
    rintro x w4 ⟨rfl, hb4⟩
    have G6 := G5.next hb4
    have X6 := X5.next hb4
    have bn4 := bn.trans (hb4.mono bn.size)
    obtain ⟨⟨⟨q0, q1, q2, q3, q4, q5, q6⟩, l1, l2, b1⟩, ⟨y0, y1, y2, y3⟩, l3⟩ := id G6
    obtain ⟨⟨z0, z1, z2⟩, z3⟩ := X6
    clear G5 X5 X4 hl
    go_wp2_with fail
    refine (hn _ bn4).mono ?_
    rintro x w5 ⟨rfl, hb5⟩
    go_wp2_with fail
    go_ret
    exact ⟨rfl, b1.trans (hb5.mono b1.size)⟩
  · have d2 : (er != 0) = true := by simpa using hz
    have b3 := G3.1.2.2.2
    clear hz hT hB
    go_wp2_with fail
    go_ret
    exact ⟨rfl, b3⟩
end Go.Proofs.Ytanfjnahdnafnaa.nodes
