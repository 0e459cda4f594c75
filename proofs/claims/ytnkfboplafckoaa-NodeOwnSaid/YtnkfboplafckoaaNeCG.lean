/- What package node's own Seal and Open answer, and letheref06's Open. -/
import Derived.Test.YtnkfboplafckoaaNdXZ
import Derived.Test.YtnkfboplafckoaaNdP
import Derived.Test.YtnkfboplafckoaaNdJK
import Derived.Test.YtnkfboplafckoaaTermE
import Derived.Test.YtnkfboplafckoaaNdQ
import Derived.Test.YtnkfboplafckoaaNdU
import Derived.Test.YtnkfboplafckoaaNdE
import Derived.Test.YtnkfboplafckoaaQuC


namespace Go.Proofs.Ytnkfboplafckoaa.nodes
set_option linter.unusedVariables false
set_option linter.unusedSimpArgs false
open Go.RowKit Go.Proofs.Ytnkfboplafckoaa.base Go.Proofs.Ytnkfboplafckoaa.quotas Go.Proofs.Ytnkfboplafckoaa.vers Go.Proofs.Ytnkfboplafckoaa.tm Go.Proofs.Ytnkfboplafckoaa.lies Go.Proofs.Ytnkfboplafckoaa.copies Go.Proofs.Ytnkfboplafckoaa.makes

/-- the node of some bytes, or why there is none -/
def openP (a b c d e f h : Int) (key : Int) (s : ByteArray) : P3 × Int := if ok a b c d e f h then (if (boxes.unpackT key s).2 ≠ 0 then (zN, (boxes.unpackT key s).2) else fromP a b c d e f h (boxes.unpackT key s).1) else (zN, 40)
/-- behind Open's beginning: the quota's box, the answer's -/
def Hx (w : World) (a b c d e f h : Int) (wr : World) : Prop := In7 w w.heap.size a b c d e f h wr ∧ Blk wr (w.heap.size + 1) 27 #[.bool false, .slice none 0 0, .slice none 0 0]
theorem Hx.new (w : World) (a b c d e f h : Int) : Hx w a b c d e f h ((w.alloc (.cells #[.int .i64 a, .int .i64 b, .int .i64 c, .int .i64 d, .int .i64 e, .int .i64 f, .int .i64 h] 23)).alloc (.cells #[.bool false, .slice none 0 0, .slice none 0 0] 27)) := by
  have k2 := Blk.new (w.alloc (.cells #[.int .i64 a, .int .i64 b, .int .i64 c, .int .i64 d, .int .i64 e, .int .i64 f, .int .i64 h] 23)) 27 #[.bool false, .slice none 0 0, .slice none 0 0]
  simp only [World.size_alloc] at k2
  exact ⟨(In7.new w a b c d e f h).alloc _, k2⟩
theorem Hx.next {w wr w' : World} {a b c d e f h : Int} (h1 : Hx w a b c d e f h wr) (hb : Below wr.heap.size wr w') : Hx w a b c d e f h w' := ⟨h1.1.next hb, h1.2.below hb h1.2.lt⟩

set_option maxRecDepth 100000 in
set_option maxHeartbeats 1000000 in
theorem ownOpen_bad1 (a b c d e f h : Int) (key : Int) (s : ByteArray) (w : World) (hk : ¬ ok a b c d e f h) :
    Calls Try.prog 13 #[.agg #[.int .i64 a, .int .i64 b, .int .i64 c, .int .i64 d, .int .i64 e, .int .i64 f, .int .i64 h], .int .u64 key, .string s] w (NAns w (zN, 40)) := by
  have F0 := Hx.new w a b c d e f h
  go_enter Try.func13, Try.ntmps13
  go_wp2_with fail
  refine (quotas.right_no _ _ _ _ _ _ _ _ hk).mono ?_
  rintro x w1 ⟨rfl, hb1⟩
  have F1 := F0.next hb1
  clear F0 hb1
  obtain ⟨⟨⟨c0, c1, c2, c3, c4, c5, c6⟩, l1, l2, b1⟩, k1⟩ := id F1
  have lk := k1.lt
  have z0 := k1.cell 0
  have z1 := k1.cell 1
  have z2 := k1.cell 2
  simp at z0 z1 z2
  have f0 := k1.frozen 0
  have f1 := k1.frozen 1
  have f2 := k1.frozen 2
  go_wp2_with fail
  refine bodyPost_ret (v := .tuple #[.agg #[.bool false, .slice none 0 0, .slice none 0 0], .int .i64 40]) (by simp [results, Try.results13, go_sem, z0, z1, z2]) rfl ?_
  exact NAns.bad _ (three_below b1 (by omega) _ _ _)

set_option maxRecDepth 100000 in
set_option maxHeartbeats 1000000 in
theorem ownOpen_bad2 (a b c d e f h : Int) (key : Int) (s : ByteArray) (w : World) (hs : s.size ≤ maxLen) (hk : ok a b c d e f h) (n : Int) (hn : (boxes.unpackT key s).2 = n) (hz : n ≠ 0) :
    Calls Try.prog 13 #[.agg #[.int .i64 a, .int .i64 b, .int .i64 c, .int .i64 d, .int .i64 e, .int .i64 f, .int .i64 h], .int .u64 key, .string s] w (NAns w (zN, n)) := by
  have F0 := Hx.new w a b c d e f h
  have hu := fun wr => boxes.unpack_any key s wr hs
  generalize boxes.unpackT key s = r at hu hn
  obtain ⟨⟨tk, tn, ts, tl⟩, te⟩ := r
  simp only at hn
  subst hn
  have d1 : (te != 0) = true := by simpa using hz
  clear hz
  go_enter Try.func13, Try.ntmps13
  go_wp2_with fail
  refine (quotas.right_ok _ _ _ _ _ _ _ _ hk).mono ?_
  rintro x w1 ⟨rfl, hb1⟩
  have F1 := F0.next hb1
  clear F0 hb1
  obtain ⟨⟨⟨c0, c1, c2, c3, c4, c5, c6⟩, l1, l2, b1⟩, k1⟩ := id F1
  have lk := k1.lt
  go_wp2_with fail
  refine (hu _).mono ?_
  rintro x w2 ⟨hb2, A2, m2, rfl, _, _⟩
  simp only [T.val, T.k, T.n, T.s, T.l]
  have F2 := (F1.next hb2).next ((Below.refl w2.heap.size w2).alloc (Nat.le_refl _) (.cells #[.int .i64 tk, .int .u64 tn, .string ts, .slice A2 tl.length m2] 31))
  clear F1 hb2 c0 c1 c2 c3 c4 c5 c6 l1 l2 b1 k1 lk hu
  obtain ⟨⟨⟨c0, c1, c2, c3, c4, c5, c6⟩, l1, l2, b1⟩, k1⟩ := id F2
  have lk := k1.lt
  generalize tl.length = nl at *
  have z0 := k1.cell 0
  have z1 := k1.cell 1
  have z2 := k1.cell 2
  simp at z0 z1 z2
  have f0 := k1.frozen 0
  have f1 := k1.frozen 1
  have f2 := k1.frozen 2
  go_wp2_with fail
  refine bodyPost_ret (v := .tuple #[.agg #[.bool false, .slice none 0 0, .slice none 0 0], .int .i64 te]) (by simp [results, Try.results13, go_sem, z0, z1, z2]) rfl ?_
  exact NAns.bad _ (three_below b1 (by omega) _ _ _)

set_option maxRecDepth 100000 in
set_option maxHeartbeats 1000000 in
theorem ownOpen_go (a b c d e f h : Int) (key : Int) (s : ByteArray) (w : World) (hs : s.size ≤ maxLen) (hk : ok a b c d e f h) (hn : (boxes.unpackT key s).2 = 0) (rr : P3 × Int) (hrr : fromP a b c d e f h (boxes.unpackT key s).1 = rr) :
    Calls Try.prog 13 #[.agg #[.int .i64 a, .int .i64 b, .int .i64 c, .int .i64 d, .int .i64 e, .int .i64 f, .int .i64 h], .int .u64 key, .string s] w (NAns w rr) := by
  have F0 := Hx.new w a b c d e f h
  have hu := fun wr => boxes.unpack_any key s wr hs
  generalize boxes.unpackT key s = r at hu hn hrr
  obtain ⟨⟨tk, tn, ts, tl⟩, te⟩ := r
  simp only at hn hrr
  subst hn
  have HRR := vers.lay hrr
  clear hrr
  have d1 : ((0 : Int) != 0) = false := by decide
  go_enter Try.func13, Try.ntmps13
  go_wp2_with fail
  refine (quotas.right_ok _ _ _ _ _ _ _ _ hk).mono ?_
  rintro x w1 ⟨rfl, hb1⟩
  have F1 := F0.next hb1
  clear F0 hb1
  obtain ⟨⟨⟨c0, c1, c2, c3, c4, c5, c6⟩, l1, l2, b1⟩, k1⟩ := id F1
  have lk := k1.lt
  go_wp2_with fail
  refine (hu _).mono ?_
  rintro x w2 ⟨hb2, A2, m2, rfl, hH2, hF2⟩
  simp only [T.val, T.k, T.n, T.s, T.l] at hH2 ⊢
  have F2 := F1.next hb2
  have D2 : Below w2.heap.size w2 (w2.alloc (.cells #[.int .i64 tk, .int .u64 tn, .string ts, .slice A2 tl.length m2] 31)) := (Below.refl _ _).alloc (Nat.le_refl _) _
  have F3 := F2.next D2
  have L1 := Held.lies (t := .mk tk tn ts tl) (w := w2.alloc (.cells #[.int .i64 tk, .int .u64 tn, .string ts, .slice A2 tl.length m2] 31)) (hH2.move (Nat.le_refl _) (Nat.le_refl _) (fun p _ p2 => D2.cell p2)) hF2.1 hF2.2.1 hF2.2.2 (by simp)
  have hf := from_any a b c d e f h (.mk tk tn ts tl) A2 m2 (w2.alloc (.cells #[.int .i64 tk, .int .u64 tn, .string ts, .slice A2 tl.length m2] 31)) L1
  rw [HRR.out] at hf
  simp only [T.k, T.n, T.s, T.l] at hf
  clear L1 hH2 hF2 F1 hb2 c0 c1 c2 c3 c4 c5 c6 l1 l2 b1 k1 lk hu HRR
  obtain ⟨⟨lf, ps, ks⟩, er⟩ := rr
  generalize tl.length = nl at *
  obtain ⟨⟨⟨c0, c1, c2, c3, c4, c5, c6⟩, l1, l2, b1⟩, k1⟩ := id F2
  have lk := k1.lt
  go_wp2_with fail
  clear c0 c1 c2 c3 c4 c5 c6 l1 l2 b1 k1 lk F2
  refine hf.mono ?_
  rintro x w3 ⟨hb3, es3, A3, m3, Q3, q3, rfl, hpe, hE, hK⟩
  simp only at hpe hK ⊢
  have F4 := F3.next hb3
  have hsz := F3.2.lt
  clear F3 hf D2
  obtain ⟨⟨⟨c0, c1, c2, c3, c4, c5, c6⟩, l1, l2, b1⟩, k1⟩ := id F4
  have lk := k1.lt
  generalize hne : es3.length = ne
  generalize hnk : ks.length = nk
  have HNE := vers.lay hne
  have HNK := vers.lay hnk
  clear hne hnk
  have z0 := k1.cell 0
  have z1 := k1.cell 1
  have z2 := k1.cell 2
  simp at z0 z1 z2
  have f0 := k1.frozen 0
  have f1 := k1.frozen 1
  have f2 := k1.frozen 2
  go_wp2_with fail
  refine bodyPost_ret (v := .tuple #[.agg #[.bool lf, .slice A3 ne m3, .slice Q3 nk q3], .int .i64 er]) (by simp [results, Try.results13, go_sem, z0, z1, z2]) rfl ?_
  have hfr : Frame w3 (((w3.setCell ⟨w.heap.size + 1, 0, none⟩ (.bool lf)).setCell ⟨w.heap.size + 1, 1, none⟩ (.slice A3 ne m3)).setCell ⟨w.heap.size + 1, 2, none⟩ (.slice Q3 nk q3)) (w2.alloc (.cells #[.int .i64 tk, .int .u64 tn, .string ts, .slice A2 nl m2] 31)).heap.size w3.heap.size := fun p p1 p2 => three_cell _ _ _ _ _ p (by omega)
  refine ⟨three_below b1 (by omega) _ _ _, es3, A3, m3, Q3, q3, by rw [HNE.out, HNK.out], hpe, hE.move (by omega) (by simp) hfr, hK.move (by omega) (by simp) hfr⟩

theorem ownOpen_any (a b c d e f h : Int) (key : Int) (s : ByteArray) (w : World) (hs : s.size ≤ maxLen) :
    Calls Try.prog 13 #[.agg #[.int .i64 a, .int .i64 b, .int .i64 c, .int .i64 d, .int .i64 e, .int .i64 f, .int .i64 h], .int .u64 key, .string s] w (NAns w (openP a b c d e f h key s)) := by
  unfold openP
  by_cases hk : ok a b c d e f h
  · rw [if_pos hk]
    by_cases hz : (boxes.unpackT key s).2 = 0
    · rw [if_neg (by simpa using hz)]
      exact ownOpen_go a b c d e f h key s w hs hk hz _ rfl
    · rw [if_pos hz]
      exact ownOpen_bad2 a b c d e f h key s w hs hk _ rfl hz
  · rw [if_neg hk]
    exact ownOpen_bad1 a b c d e f h key s w hk

end Go.Proofs.Ytnkfboplafckoaa.nodes

/- How long a node's sealed bytes are, and that it can be sealed: pure words. -/

namespace Go.Proofs.Ytnkfboplafckoaa.nodes
set_option linter.unusedVariables false
set_option linter.unusedSimpArgs false
open Go.RowKit Go.Proofs.Ytnkfboplafckoaa.base Go.Proofs.Ytnkfboplafckoaa.quotas Go.Proofs.Ytnkfboplafckoaa.vers Go.Proofs.Ytnkfboplafckoaa.tm Go.Proofs.Ytnkfboplafckoaa.lies Go.Proofs.Ytnkfboplafckoaa.copies Go.Proofs.Ytnkfboplafckoaa.makes

/-- what a right secret keeps to -/
def Ein (b c d e : Int) (x : E) : Prop := (x.s.size : Int) ≤ b ∧ (x.l.length : Int) ≤ e ∧ ∀ y ∈ x.l, 0 ≤ y.n ∧ y.n ≤ 1073741824 ∧ (y.v.size : Int) ≤ c ∧ (y.t.size : Int) ≤ d
theorem vbad_in (c d : Int) : ∀ (l : List V) (p : Int), vbad c d p l = 0 → 0 ≤ p → ∀ y ∈ l, 0 ≤ y.n ∧ y.n ≤ 1073741824 ∧ (y.v.size : Int) ≤ c ∧ (y.t.size : Int) ≤ d
  | [], _, _, _, y, hy => by cases hy
  | x :: l, p, h, hp, y, hy => by
    unfold vbad at h
    split at h
    · omega
    · rename_i h1
      split at h
      · omega
      · rename_i h2
        rcases List.mem_cons.1 hy with rfl | hy
        · omega
        · exact vbad_in c d l x.n h (by omega) y hy
theorem nbad_in {a b c d e f h : Int} {x : E} (hz : rb (nbad a b c d e f h x.s x.l) x.l = 0) : Ein b c d e x := by
  have hz := rb_zero hz
  by_cases hk : ok a b c d e f h
  · rw [nbad_yes hk] at hz
    split at hz
    · omega
    · split at hz
      · omega
      · split at hz
        · omega
        · exact ⟨by omega, by omega, vbad_in c d x.l 0 hz (Int.le_refl _)⟩
  · rw [nbad_no hk] at hz; omega
theorem ebad_in (a b c d e f h : Int) : ∀ (l : List E) (p : Option ByteArray), ebad a b c d e f h p l = 0 → ∀ x ∈ l, Ein b c d e x
  | [], _, _, x, hx => by cases hx
  | z :: l, p, hb, x, hx => by
    have hb' : (if rb (nbad a b c d e f h z.s z.l) z.l ≠ 0 then rb (nbad a b c d e f h z.s z.l) z.l else if behind z.s p = true then 60 else ebad a b c d e f h (some z.s) l) = 0 := by
      cases p <;> exact hb
    split at hb'
    · rename_i h1; exact absurd hb' h1
    · rename_i h1
      split at hb'
      · omega
      · rcases List.mem_cons.1 hx with rfl | hx
        · exact nbad_in (Classical.not_not.1 h1)
        · exact ebad_in a b c d e f h l _ hb' x hx
theorem kbad_in (b : Int) : ∀ (l : List K) (p : Option ByteArray), kbad b p l = 0 → ∀ x ∈ l, (x.s.size : Int) ≤ b ∧ refOk x.g x.o x.n
  | [], _, _, x, hx => by cases hx
  | z :: l, p, hb, x, hx => by
    have hb' : (if z.s.size = 0 then 4 else if b < z.s.size then 5 else if ¬ refOk z.g z.o z.n then 61 else if behind z.s p = true then 60 else kbad b (some z.s) l) = 0 := by
      cases p <;> exact hb
    split at hb'
    · omega
    · split at hb'
      · omega
      · rename_i h0
        split at hb'
        · omega
        · rename_i h1
          split at hb'
          · omega
          · rcases List.mem_cons.1 hx with rfl | hx
            · exact ⟨by omega, Classical.not_not.1 h1⟩
            · exact kbad_in b l _ hb' x hx
/-- what a right node keeps to -/
theorem ndbad_in {a b c d e f h : Int} {lf : Bool} {es : List E} {ks : List K} (hz : ndbad a b c d e f h lf es ks = 0) : ok a b c d e f h ∧ (lf = true → es.length ≤ 4 ∧ ∀ x ∈ es, Ein b c d e x) ∧ (lf = false → ks.length ≤ 4 ∧ ∀ x ∈ ks, (x.s.size : Int) ≤ b ∧ refOk x.g x.o x.n) := by
  unfold ndbad at hz
  split at hz
  · rename_i hk
    refine ⟨hk, fun hl => ?_, fun hl => ?_⟩
    · rw [if_pos hl] at hz
      split at hz
      · omega
      · exact ⟨by omega, ebad_in a b c d e f h es none hz⟩
    · rw [if_neg (by simp [hl])] at hz
      split at hz
      · omega
      · exact ⟨by omega, kbad_in b ks none hz⟩
  · omega

/-! ### how long -/
theorem len_num {n : Int} {j : Nat} (h : n.toNat < 128 ^ j) (hj : 0 < j) : (numT n).enc.length ≤ 1 + j := by
  rw [enc_eq, head_eq]
  have := (putL_len j n.toNat h hj).2
  simp [numT, T.k, T.n, T.s, T.l, encL]
  omega
theorem len_key {n : Int} (h : n.toNat < 18446744073709551616) : (keyT n).enc.length ≤ 11 := by
  rw [enc_eq, head_eq]
  have := (putL_ten h).2
  simp [keyT, T.k, T.n, T.s, T.l, encL]
  omega
theorem len_atom {s : ByteArray} (h : s.size < 128) : (atomT s).enc.length = 2 + s.size := by
  rw [enc_eq, head_eq]
  have e : s.data.toList.length = s.size := by simp
  have hl : (putL s.data.toList.length).length = 1 := by rw [putL_lo (by omega)]; rfl
  have h2 : (if (atomT s).k = 2 then (atomT s).s.data.toList.length else if (atomT s).k = 5 then (atomT s).l.length else (atomT s).n.toNat) = s.data.toList.length := if_pos rfl
  have h3 : (encL (atomT s).l).length = 0 := by show (encL []).length = 0; simp [encL]
  have h4 : (atomT s).s.data.toList.length = s.size := e
  rw [h2, List.length_cons, List.length_append, List.length_append, hl, h3, h4]
  omega
theorem len_row {l : List T} (h : l.length < 128) : (rowT l).enc.length = 2 + (encL l).length := by
  rw [enc_eq, head_eq]
  have := putL_lo h
  have h52 : ¬ ((5 : Int) = 2) := by decide
  simp only [rowT, T.k, T.n, T.s, T.l, if_neg h52, if_pos, List.length_cons, List.length_append, List.length_nil, this]
  simp
  omega
theorem encL_cons (t : T) (l : List T) : (encL (t :: l)).length = t.enc.length + (encL l).length := by simp [encL]
theorem encL_nil : (encL ([] : List T)).length = 0 := by simp [encL]
theorem encL_map {α : Type} (f : α → T) (m : Nat) : ∀ (l : List α), (∀ x ∈ l, (f x).enc.length ≤ m) → (encL (l.map f)).length ≤ l.length * m
  | [], _ => by simp [encL]
  | x :: l, h => by
    rw [List.map_cons, encL_cons, List.length_cons]
    have h1 := h x (List.mem_cons_self ..)
    have h2 := encL_map f m l (fun y hy => h y (List.mem_cons_of_mem _ hy))
    rw [Nat.succ_mul]
    omega
theorem len_ver {c d : Int} {y : V} (hc : c ≤ 32) (hd : d ≤ 16) (h : 0 ≤ y.n ∧ y.n ≤ 1073741824 ∧ (y.v.size : Int) ≤ c ∧ (y.t.size : Int) ≤ d) : ((verT y).enc.length : Int) ≤ 17 + c + d := by
  have h1 := len_num (n := y.n) (j := 5) (by have : y.n.toNat ≤ 1073741824 := by omega
                                             exact Nat.lt_of_le_of_lt this (by decide)) (by decide)
  have h2 := len_atom (s := y.v) (by omega)
  have h3 := len_atom (s := y.t) (by omega)
  unfold verT
  rw [len_row (by simp), encL_cons, encL_cons, encL_cons, encL_nil]
  omega
theorem len_ent {b c d e : Int} {x : E} (hb : b ≤ 16) (hc : 0 ≤ c ∧ c ≤ 32) (hd : 0 ≤ d ∧ d ≤ 16) (he : e ≤ 4) (h : Ein b c d e x) : ((entT x).enc.length : Int) ≤ 4 + b + e * (17 + c + d) := by
  obtain ⟨h1, h2, h3⟩ := h
  have ha := len_atom (s := x.s) (by omega)
  have hl := encL_map verT (17 + c + d).toNat x.l (fun y hy => by have := len_ver hc.2 hd.2 (h3 y hy); omega)
  unfold entT
  rw [len_row (by simp; omega), encL_cons]
  have hm : ((x.l.length * (17 + c + d).toNat : Nat) : Int) ≤ e * (17 + c + d) := by
    rw [Int.natCast_mul, Int.toNat_of_nonneg (by omega)]
    exact Int.mul_le_mul_of_nonneg_right h2 (by omega)
  omega
theorem len_kid {b : Int} {x : K} (hb : b ≤ 16) (hk : x.k < 18446744073709551616) (h : (x.s.size : Int) ≤ b ∧ refOk x.g x.o x.n) : ((kidT x).enc.length : Int) ≤ 28 + b := by
  obtain ⟨h1, ⟨g1, g2⟩, ⟨g3, g4⟩, g5, g6⟩ := h
  have ha := len_atom (s := x.s) (by omega)
  have h2 := len_key (n := (x.k : Int)) (by omega)
  have h3 := len_num (n := x.g) (j := 3) (Nat.lt_of_le_of_lt (show x.g.toNat ≤ 1048576 by omega) (by decide)) (by decide)
  have h4 := len_num (n := x.o) (j := 4) (Nat.lt_of_le_of_lt (show x.o.toNat ≤ 134217728 by omega) (by decide)) (by decide)
  have h5 := len_num (n := x.n) (j := 3) (Nat.lt_of_le_of_lt (show x.n.toNat ≤ 1048576 by omega) (by decide)) (by decide)
  unfold kidT
  rw [len_row (by simp), encL_cons, encL_cons, encL_cons, encL_cons, encL_cons, encL_nil]
  omega
end Go.Proofs.Ytnkfboplafckoaa.nodes

/- A right node: its term may be sealed, and is read back as the node: pure words. -/

namespace Go.Proofs.Ytnkfboplafckoaa.nodes
set_option linter.unusedVariables false
set_option linter.unusedSimpArgs false
open Go.RowKit Go.Proofs.Ytnkfboplafckoaa.base Go.Proofs.Ytnkfboplafckoaa.quotas Go.Proofs.Ytnkfboplafckoaa.vers Go.Proofs.Ytnkfboplafckoaa.tm Go.Proofs.Ytnkfboplafckoaa.lies Go.Proofs.Ytnkfboplafckoaa.copies Go.Proofs.Ytnkfboplafckoaa.makes

theorem len_node {a b c d e f h : Int} {lf : Bool} {es : List E} {ks : List K} (hz : ndbad a b c d e f h lf es ks = 0) (hfit : ∀ x ∈ ks, x.fits) {M : Int} (m1 : 4 + b + e * (17 + c + d) ≤ M) (m2 : 28 + b ≤ M) : ((nodeT lf es ks).enc.length : Int) ≤ 4 + 4 * M := by
  obtain ⟨⟨_, hb, hc, hd, he, _⟩, hE, hK⟩ := ndbad_in hz
  have h1 := len_num (n := 1) (j := 1) (by decide) (by decide)
  have h2 := len_num (n := 2) (j := 1) (by decide) (by decide)
  cases lf with
  | true =>
    obtain ⟨h4, hx⟩ := hE rfl
    have hl := encL_map entT M.toNat es (fun x hx' => by have := len_ent hb.2 hc hd he.2 (hx x hx'); omega)
    show ((rowT (numT 1 :: es.map entT)).enc.length : Int) ≤ _
    rw [len_row (by simp; omega), encL_cons]
    have : es.length * M.toNat ≤ 4 * M.toNat := Nat.mul_le_mul_right _ h4
    omega
  | false =>
    obtain ⟨h4, hx⟩ := hK rfl
    have hl := encL_map kidT M.toNat ks (fun x hx' => by have := len_kid hb.2 (hfit x hx').2.1 (hx x hx'); omega)
    show ((rowT (numT 2 :: ks.map kidT)).enc.length : Int) ≤ _
    rw [len_row (by simp; omega), encL_cons]
    have : ks.length * M.toNat ≤ 4 * M.toNat := Nat.mul_le_mul_right _ h4
    omega
theorem len_box {k : Int} (hk : 0 ≤ k ∧ k < 18446744073709551616) (t : T) : 2 + t.enc.length ≤ (boxes.boxT k t).enc.length ∧ (boxes.boxT k t).enc.length ≤ 11 + t.enc.length := by
  rw [enc_eq (boxes.boxT k t), head_eq (boxes.boxT k t)]
  have h1 := putL_ten (n := k.toNat) (by omega)
  have h2 : (if (boxes.boxT k t).k = 2 then (boxes.boxT k t).s.data.toList.length else if (boxes.boxT k t).k = 5 then (boxes.boxT k t).l.length else (boxes.boxT k t).n.toNat) = k.toNat := rfl
  have h3 : (encL (boxes.boxT k t).l).length = t.enc.length := by show (encL [t]).length = _; simp [encL]
  have h4 : (boxes.boxT k t).s.data.toList.length = 0 := rfl
  rw [h2, List.length_cons, List.length_append, List.length_append, h3, h4]
  omega
theorem len_two (lf : Bool) (es : List E) (ks : List K) : 2 ≤ (nodeT lf es ks).enc.length := by
  rw [enc_eq, head_eq]
  have h1 : 1 ≤ (putL (nodeT lf es ks).l.length).length := by
    have := putL_len ((nodeT lf es ks).l.length + 1) (nodeT lf es ks).l.length (Nat.lt_of_lt_of_le (Nat.lt_pow_self (by decide)) (Nat.pow_le_pow_right (by decide) (Nat.le_succ _))) (Nat.succ_pos _)
    exact this.1
  have h2 : (if (nodeT lf es ks).k = 2 then (nodeT lf es ks).s.data.toList.length else if (nodeT lf es ks).k = 5 then (nodeT lf es ks).l.length else (nodeT lf es ks).n.toNat) = (nodeT lf es ks).l.length := by cases lf <;> rfl
  rw [h2, List.length_cons, List.length_append]
  omega

/-! ### it may be -/
theorem shaped_num (n : Int) : (numT n).shaped = true := by simp [numT, T.shaped, T.one, shapedL]
theorem shaped_key (n : Int) : (keyT n).shaped = true := by simp [keyT, T.shaped, T.one, shapedL]
theorem shaped_atom {s : ByteArray} (h : s.size ≤ 4000) : (atomT s).shaped = true := by simp [atomT, T.shaped, T.one, shapedL, h]
theorem shaped_row {l : List T} (h : shapedL l = true) : (rowT l).shaped = true := by simp [rowT, T.shaped, T.one, h]
theorem shapedL_map {α : Type} (f : α → T) : ∀ (l : List α), (∀ x ∈ l, (f x).shaped = true) → shapedL (l.map f) = true
  | [], _ => rfl
  | x :: l, h => by
    show ((f x).shaped && shapedL (l.map f)) = true
    rw [h x (List.mem_cons_self ..), shapedL_map f l (fun y hy => h y (List.mem_cons_of_mem _ hy))]
    rfl
theorem shapedL_cons {t : T} {l : List T} (h1 : t.shaped = true) (h2 : shapedL l = true) : shapedL (t :: l) = true := by show (t.shaped && shapedL l) = true; rw [h1, h2]; rfl
theorem shaped_ver {y : V} (h1 : y.v.size ≤ 4000) (h2 : y.t.size ≤ 4000) : (verT y).shaped = true := shaped_row (shapedL_cons (shaped_num _) (shapedL_cons (shaped_atom h1) (shapedL_cons (shaped_atom h2) rfl)))
theorem size_map {α : Type} (f : α → T) (m : Nat) : ∀ (l : List α), (∀ x ∈ l, (f x).size ≤ m) → sizeL (l.map f) ≤ l.length * m
  | [], _ => by simp [sizeL]
  | x :: l, h => by
    have h1 := h x (List.mem_cons_self ..)
    have h2 := size_map f m l (fun y hy => h y (List.mem_cons_of_mem _ hy))
    show (f x).size + sizeL (l.map f) ≤ _
    rw [List.length_cons, Nat.succ_mul]
    omega
theorem deep_map {α : Type} (f : α → T) (m : Nat) : ∀ (l : List α), (∀ x ∈ l, (f x).deep ≤ m) → deepL (l.map f) ≤ m
  | [], _ => by simp [deepL]
  | x :: l, h => by
    have h1 := h x (List.mem_cons_self ..)
    have h2 := deep_map f m l (fun y hy => h y (List.mem_cons_of_mem _ hy))
    show max (f x).deep (deepL (l.map f)) ≤ m
    omega
theorem node_small {a b c d e f h : Int} {lf : Bool} {es : List E} {ks : List K} (hz : ndbad a b c d e f h lf es ks = 0) : (nodeT lf es ks).size ≤ 80 ∧ (nodeT lf es ks).deep ≤ 4 ∧ (nodeT lf es ks).shaped = true := by
  obtain ⟨⟨_, hb, hc, hd, he, _⟩, hE, hK⟩ := ndbad_in hz
  cases lf with
  | true =>
    obtain ⟨h4, hx⟩ := hE rfl
    have s1 := size_map entT 18 es (fun x hx' => by
      obtain ⟨_, hl, _⟩ := hx x hx'
      have := size_map verT 4 x.l (fun y _ => by simp [verT, rowT, numT, atomT, T.size, sizeL])
      show sizeL (atomT x.s :: x.l.map verT) + 1 ≤ 18
      show ((atomT x.s).size + sizeL (x.l.map verT)) + 1 ≤ 18
      have : (atomT x.s).size = 1 := rfl
      omega)
    have d1 := deep_map entT 3 es (fun x hx' => by
      have := deep_map verT 2 x.l (fun y _ => by simp [verT, rowT, numT, atomT, T.deep, deepL])
      show max (atomT x.s).deep (deepL (x.l.map verT)) + 1 ≤ 3
      have : (atomT x.s).deep = 1 := rfl
      omega)
    have sh := shapedL_map entT es (fun x hx' => by
      obtain ⟨h1, _, h3⟩ := hx x hx'
      exact shaped_row (shapedL_cons (shaped_atom (by omega)) (shapedL_map verT x.l (fun y hy => by have := h3 y hy; exact shaped_ver (by omega) (by omega)))))
    refine ⟨?_, ?_, shaped_row (shapedL_cons (shaped_num _) sh)⟩
    · show ((numT 1).size + sizeL (es.map entT)) + 1 ≤ 80
      have : (numT 1).size = 1 := rfl
      omega
    · show max (numT 1).deep (deepL (es.map entT)) + 1 ≤ 4
      have : (numT 1).deep = 1 := rfl
      omega
  | false =>
    obtain ⟨h4, hx⟩ := hK rfl
    have s1 := size_map kidT 6 ks (fun x hx' => by simp [kidT, rowT, numT, atomT, keyT, T.size, sizeL])
    have d1 := deep_map kidT 2 ks (fun x hx' => by simp [kidT, rowT, numT, atomT, keyT, T.deep, deepL])
    have sh := shapedL_map kidT ks (fun x hx' => shaped_row (shapedL_cons (shaped_atom (by have := (hx x hx').1; omega)) (shapedL_cons (shaped_key _) (shapedL_cons (shaped_num _) (shapedL_cons (shaped_num _) (shapedL_cons (shaped_num _) rfl))))))
    refine ⟨?_, ?_, shaped_row (shapedL_cons (shaped_num _) sh)⟩
    · show ((numT 2).size + sizeL (ks.map kidT)) + 1 ≤ 80
      have : (numT 2).size = 1 := rfl
      omega
    · show max (numT 2).deep (deepL (ks.map kidT)) + 1 ≤ 4
      have : (numT 2).deep = 1 := rfl
      omega
theorem node_seals {a b c d e f h : Int} {lf : Bool} {es : List E} {ks : List K} (hz : ndbad a b c d e f h lf es ks = 0) (k : Int) : (nodeT lf es ks).right = 0 ∧ (boxes.boxT k (nodeT lf es ks)).right = 0 := by
  obtain ⟨h1, h2, h3⟩ := node_small hz
  constructor
  · unfold T.right
    rw [if_neg (by omega), if_neg (by omega), if_pos h3]
  · have s1 : (boxes.boxT k (nodeT lf es ks)).size = (nodeT lf es ks).size + 1 := by show ((nodeT lf es ks).size + sizeL []) + 1 = _; simp [sizeL]
    have s2 : (boxes.boxT k (nodeT lf es ks)).deep = (nodeT lf es ks).deep + 1 := by show max (nodeT lf es ks).deep (deepL []) + 1 = _; simp [deepL]
    have s3 : (boxes.boxT k (nodeT lf es ks)).shaped = true := by
      rw [shaped_eq, show (boxes.boxT k (nodeT lf es ks)).one = true from one_box k rfl]
      show (true && ((nodeT lf es ks).shaped && shapedL [])) = true
      rw [h3]; rfl
    unfold T.right
    rw [if_neg (by omega), if_neg (by omega), if_pos s3]

/-! ### read back -/
theorem toV_verT (y : V) : toV (verT y) = y := rfl
theorem toEP_entT (x : E) : toEP (entT x) = pe x := by
  show (x.s, (x.l.map verT).map toV) = (x.s, x.l)
  rw [List.map_map, show x.l.map (toV ∘ verT) = x.l from (List.map_congr_left (f := toV ∘ verT) (g := id) (fun y _ => toV_verT y)).trans (List.map_id _)]
theorem toK_kidT (x : K) : toK (kidT x) = x := rfl
theorem numB_numT {n : Int} (h : n ≤ 2147483647) : numB (numT n) = true := by
  show (decide ((1 : Int) = 1) && decide (n ≤ 2147483647)) = true
  rw [decide_eq_true h]; rfl
theorem verB_verT {y : V} (h : y.n ≤ 2147483647) : verB (verT y) = true := by
  show (decide ((5 : Int) = 5) && (numB (numT y.n) && decide ((2 : Int) = 2) && decide ((2 : Int) = 2))) = true
  rw [numB_numT h]; rfl
theorem entB_entT {x : E} (h : ∀ y ∈ x.l, y.n ≤ 2147483647) : entB (entT x) = true := by
  show (decide ((5 : Int) = 5) && (decide ((2 : Int) = 2) && (x.l.map verT).all verB)) = true
  rw [show (x.l.map verT).all verB = true by rw [List.all_map, List.all_eq_true]; exact fun y hy => verB_verT (h y hy)]
  rfl
theorem kidB_kidT {x : K} (h : refOk x.g x.o x.n) : kidB (kidT x) = true := by
  obtain ⟨⟨_, h1⟩, ⟨_, h2⟩, _, h3⟩ := h
  show (decide ((5 : Int) = 5) && (decide ((2 : Int) = 2) && decide ((3 : Int) = 3) && numB (numT x.g) && numB (numT x.o) && numB (numT x.n))) = true
  rw [numB_numT (by omega), numB_numT (by omega), numB_numT (by omega)]
  rfl
/-- a right node's term is read as that node -/
theorem fromP_node {a b c d e f h : Int} {lf : Bool} {es : List E} {ks : List K} (hz : ndbad a b c d e f h lf es ks = 0) : fromP a b c d e f h (nodeT lf es ks) = ((lf, es.map pe, ks), 0) := by
  obtain ⟨hk, hE, hK⟩ := ndbad_in hz
  have hr := (node_seals hz 0).1
  have hnod : nodB (nodeT lf es ks) = true ∧ nodeP (nodeT lf es ks) = (lf, es.map pe, ks) := by
    cases lf with
    | true =>
      obtain ⟨_, hx⟩ := hE rfl
      have hks : ks = [] := by
        unfold ndbad at hz
        rw [if_pos hk, if_pos rfl] at hz
        split at hz
        · omega
        · exact List.eq_nil_of_length_eq_zero (by omega)
      subst hks
      refine ⟨(nodB_yes 0 ⟨#[]⟩ (x := numT 1) (es.map entT) rfl).trans ?_, (nodeP_yes 0 ⟨#[]⟩ (numT 1) (es.map entT)).trans ?_⟩
      · rw [if_pos (show (numT 1).n = 1 from rfl), List.all_map, List.all_eq_true]
        exact fun x hx' => entB_entT (fun y hy => by have := ((hx x hx').2.2 y hy).2.1; omega)
      · rw [if_pos (show (numT 1).n = 1 from rfl), List.map_map, List.map_congr_left (f := toEP ∘ entT) (g := pe) (fun x _ => toEP_entT x)]
    | false =>
      obtain ⟨_, hx⟩ := hK rfl
      have hes : es = [] := by
        unfold ndbad at hz
        rw [if_pos hk, if_neg (by simp)] at hz
        split at hz
        · omega
        · exact List.eq_nil_of_length_eq_zero (by omega)
      subst hes
      have hn : ¬ (numT 2).n = 1 := by show ¬ (2 : Int) = 1; decide
      refine ⟨(nodB_yes 0 ⟨#[]⟩ (x := numT 2) (ks.map kidT) rfl).trans ?_, (nodeP_yes 0 ⟨#[]⟩ (numT 2) (ks.map kidT)).trans ?_⟩
      · rw [if_neg hn, if_pos (show (numT 2).n = 2 from rfl), List.all_map, List.all_eq_true]
        exact fun x hx' => kidB_kidT (hx x hx').2
      · rw [if_neg hn, List.map_map, show ks.map (toK ∘ kidT) = ks from (List.map_congr_left (f := toK ∘ kidT) (g := id) (fun x _ => toK_kidT x)).trans (List.map_id _)]
        rfl
  unfold fromP
  rw [if_pos hk, if_neg (by simpa using hr), if_pos hnod.1, hnod.2, ← ndP_of, hz, if_neg (by simp)]
end Go.Proofs.Ytnkfboplafckoaa.nodes

/- A sealed node opens as the node: pure words; the walk of NodeBack. -/

namespace Go.Proofs.Ytnkfboplafckoaa.nodes
set_option linter.unusedVariables false
set_option linter.unusedSimpArgs false
open Go.RowKit Go.Proofs.Ytnkfboplafckoaa.base Go.Proofs.Ytnkfboplafckoaa.quotas Go.Proofs.Ytnkfboplafckoaa.vers Go.Proofs.Ytnkfboplafckoaa.tm Go.Proofs.Ytnkfboplafckoaa.lies Go.Proofs.Ytnkfboplafckoaa.copies Go.Proofs.Ytnkfboplafckoaa.makes

theorem word_num {n : Int} (h : 0 ≤ n ∧ n < 18446744073709551616) : (numT n).word := ⟨⟨h, by decide⟩, trivial⟩
theorem word_key {n : Int} (h : 0 ≤ n ∧ n < 18446744073709551616) : (keyT n).word := ⟨⟨h, by decide⟩, trivial⟩
theorem word_atom (s : ByteArray) : (atomT s).word := ⟨⟨⟨by decide, by decide⟩, by decide⟩, trivial⟩
theorem word_row {l : List T} (hl : l.length < 18446744073709551616) (h : wordL l) : (rowT l).word := ⟨⟨⟨by decide, by decide⟩, hl⟩, h⟩
theorem wordL_map {α : Type} (f : α → T) : ∀ (l : List α), (∀ x ∈ l, (f x).word) → wordL (l.map f)
  | [], _ => trivial
  | x :: l, h => ⟨h x (List.mem_cons_self ..), wordL_map f l (fun y hy => h y (List.mem_cons_of_mem _ hy))⟩
theorem word_node {a b c d e f h : Int} {lf : Bool} {es : List E} {ks : List K} (hz : ndbad a b c d e f h lf es ks = 0) (hfit : ∀ x ∈ ks, x.fits) : (nodeT lf es ks).word := by
  obtain ⟨⟨_, hb, hc, hd, he, _⟩, hE, hK⟩ := ndbad_in hz
  cases lf with
  | true =>
    obtain ⟨h4, hx⟩ := hE rfl
    refine word_row (by simp; omega) ⟨word_num (by decide), wordL_map entT es (fun x hx' => ?_)⟩
    obtain ⟨_, hl, h3⟩ := hx x hx'
    refine word_row (by simp; omega) ⟨word_atom _, wordL_map verT x.l (fun y hy => ?_)⟩
    have := h3 y hy
    exact word_row (by simp) ⟨word_num (by omega), word_atom _, word_atom _, trivial⟩
  | false =>
    obtain ⟨h4, hx⟩ := hK rfl
    refine word_row (by simp; omega) ⟨word_num (by decide), wordL_map kidT ks (fun x hx' => ?_)⟩
    obtain ⟨_, ⟨_, _⟩, ⟨_, _⟩, _, _⟩ := hx x hx'
    have hf := (hfit x hx').2.1
    exact word_row (by simp) ⟨word_atom _, word_key (by omega), word_num (by omega), word_num (by omega), word_num (by omega), trivial⟩
/-- what a right node's sealed bytes are -/
theorem sealP_ok {a b c d e f h : Int} {lf : Bool} {es : List E} {ks : List K} (hz : ndbad a b c d e f h lf es ks = 0) (key : Int) : sealP key (termP a b c d e f h lf es ks) = (⟨(boxes.boxT key (nodeT lf es ks)).enc.toArray⟩, 0) := by
  obtain ⟨r1, r2⟩ := node_seals hz key
  have ht : termP a b c d e f h lf es ks = (nodeT lf es ks, 0) := by unfold termP; rw [if_neg (by simpa using hz)]
  have hs : boxes.sealT key (nodeT lf es ks) = (boxes.boxT key (nodeT lf es ks), 0) := by unfold boxes.sealT; rw [if_neg (by simpa using r1), if_neg (by simpa using r2)]
  rw [ht]
  unfold sealP
  rw [if_neg (by simp)]
  unfold boxes.packT
  rw [hs, if_pos rfl]
theorem sealP_no {a b c d e f h : Int} {lf : Bool} {es : List E} {ks : List K} (hz : ndbad a b c d e f h lf es ks ≠ 0) (key : Int) : sealP key (termP a b c d e f h lf es ks) = (⟨#[]⟩, ndbad a b c d e f h lf es ks) := by
  have ht : termP a b c d e f h lf es ks = (boxes.zT, ndbad a b c d e f h lf es ks) := by unfold termP; rw [if_pos hz]
  rw [ht]
  unfold sealP
  rw [if_pos hz]
/-- what is opened of them -/
theorem openP_ok {a b c d e f h : Int} {lf : Bool} {es : List E} {ks : List K} (hz : ndbad a b c d e f h lf es ks = 0) (hfit : ∀ x ∈ ks, x.fits) {key : Int} (hk : 0 ≤ key ∧ key < 18446744073709551616) (other : Int) :
    openP a b c d e f h other ⟨(boxes.boxT key (nodeT lf es ks)).enc.toArray⟩ = if other = key then ((lf, es.map pe, ks), 0) else (zN, 31) := by
  obtain ⟨r1, r2⟩ := node_seals hz key
  have hw : (boxes.boxT key (nodeT lf es ks)).word := ⟨⟨hk, by show 1 < 18446744073709551616; decide⟩, word_node hz hfit, trivial⟩
  have hd := decode_enc r2 hw []
  rw [List.append_nil, if_pos rfl] at hd
  have hu : boxes.unpackT other ⟨(boxes.boxT key (nodeT lf es ks)).enc.toArray⟩ = boxes.openT other (boxes.boxT key (nodeT lf es ks)) := by
    unfold boxes.unpackT
    rw [show (⟨(boxes.boxT key (nodeT lf es ks)).enc.toArray⟩ : ByteArray).data.toList = (boxes.boxT key (nodeT lf es ks)).enc from by simp, hd]
  have hot : boxes.openT other (boxes.boxT key (nodeT lf es ks)) = if other = key then (nodeT lf es ks, 0) else (boxes.zT, 31) := by
    unfold boxes.openT
    rw [if_neg (by simpa using r2), if_neg (by show ¬ (4 : Int) ≠ 4; decide)]
    by_cases h1 : other = key
    · rw [if_pos h1, if_neg (by show ¬ key ≠ other; omega)]; rfl
    · rw [if_neg h1, if_pos (by show key ≠ other; omega)]
  unfold openP
  rw [if_pos (ndbad_in hz).1, hu, hot]
  by_cases h1 : other = key
  · rw [if_pos h1, if_pos h1, if_neg (by simp)]
    exact fromP_node hz
  · rw [if_neg h1, if_neg h1, if_pos (by simp)]
theorem size_ok {a b c d e f h : Int} {lf : Bool} {es : List E} {ks : List K} (hz : ndbad a b c d e f h lf es ks = 0) (hfit : ∀ x ∈ ks, x.fits) {key : Int} (hk : 0 ≤ key ∧ key < 18446744073709551616) :
    4 ≤ (⟨(boxes.boxT key (nodeT lf es ks)).enc.toArray⟩ : ByteArray).size ∧ ((⟨(boxes.boxT key (nodeT lf es ks)).enc.toArray⟩ : ByteArray).size : Int) ≤ quotas.pg b c d e ∧ (⟨(boxes.boxT key (nodeT lf es ks)).enc.toArray⟩ : ByteArray).size ≤ maxLen := by
  have e1 : (⟨(boxes.boxT key (nodeT lf es ks)).enc.toArray⟩ : ByteArray).size = (boxes.boxT key (nodeT lf es ks)).enc.length := by simp [ByteArray.size]
  rw [e1]
  have h1 := len_box hk (nodeT lf es ks)
  have h2 := len_two lf es ks
  obtain ⟨⟨_, hb, hc, hd, he, _⟩, _⟩ := ndbad_in hz
  have hp := quotas.prod_in hc hd he
  have hm : 4 + b + e * (17 + c + d) ≤ quotas.most b c d e ∧ 28 + b ≤ quotas.most b c d e ∧ quotas.most b c d e ≤ 2000 := by
    unfold quotas.most
    split <;> omega
  have h3 := len_node hz hfit hm.1 hm.2.1
  refine ⟨by omega, by unfold quotas.pg; omega, by unfold maxLen; omega⟩

end Go.Proofs.Ytnkfboplafckoaa.nodes
