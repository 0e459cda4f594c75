/- Numbers that rise; the walk of EntryFinds, out of what is asked of the program's own calls. -/
import Derived.Test.YtolngibmfffjcaaVerK


namespace Go.Proofs.Ytolngibmfffjcaa.vers
set_option linter.unusedVariables false
set_option linter.unusedSimpArgs false
open Go.RowKit Go.Proofs.Ytolngibmfffjcaa.base Go.Proofs.Ytolngibmfffjcaa.quotas

/-- numbers rise, from more than p on -/
def rises : Int → List V → Prop
  | _, [] => True
  | p, x :: l => p < x.n ∧ rises x.n l
theorem rises_vbad {c d : Int} : ∀ {l : List V} {p : Int}, vbad c d p l = 0 → rises p l ∧ ∀ x ∈ l, x.n ≤ 1073741824 ∧ (x.v.size : Int) ≤ c ∧ (x.t.size : Int) ≤ d
  | [], _, _ => ⟨trivial, fun x h => by cases h⟩
  | y :: l, p, h => by
    unfold vbad at h
    split at h
    · omega
    · rename_i h1
      split at h
      · omega
      · rename_i h2
        obtain ⟨k1, k2⟩ := rises_vbad h
        refine ⟨⟨by omega, k1⟩, fun x hx => ?_⟩
        rcases List.mem_cons.1 hx with rfl | hx
        · omega
        · exact k2 x hx
theorem vbad_rises {c d : Int} : ∀ {l : List V} {p : Int}, rises p l → (∀ x ∈ l, x.n ≤ 1073741824 ∧ (x.v.size : Int) ≤ c ∧ (x.t.size : Int) ≤ d) → vbad c d p l = 0
  | [], _, _, _ => rfl
  | y :: l, p, h, k => by
    have hy := k y (List.mem_cons_self)
    unfold vbad
    rw [if_neg (by have := h.1; omega), if_neg (by omega)]
    exact vbad_rises h.2 fun x hx => k x (List.mem_cons_of_mem _ hx)
theorem rises_more : ∀ {l : List V} {p q : Int}, rises p l → q ≤ p → rises q l
  | [], _, _, _, _ => trivial
  | y :: l, p, q, h, hq => ⟨by have := h.1; omega, h.2⟩
theorem rises_mem : ∀ {l : List V} {p : Int}, rises p l → ∀ x ∈ l, p < x.n
  | [], _, _, x, hx => by cases hx
  | y :: l, p, h, x, hx => by
    rcases List.mem_cons.1 hx with rfl | hx
    · exact h.1
    · have := rises_mem h.2 x hx; have := h.1; omega
theorem rises_app : ∀ {l m : List V} {p : Int}, rises p (l ++ m) → (∀ x ∈ l, ∀ y ∈ m, x.n < y.n) ∧ rises p m ∧ rises p l
  | [], m, p, h => ⟨(fun x hx => by cases hx), h, trivial⟩
  | y :: l, m, p, h => by
    have h2 : rises y.n (l ++ m) := h.2
    obtain ⟨k1, k2, k3⟩ := rises_app h2
    refine ⟨fun x hx z hz => ?_, rises_more k2 (by have := h.1; omega), h.1, k3⟩
    rcases List.mem_cons.1 hx with rfl | hx
    · exact rises_mem h2 z (List.mem_append_right _ hz)
    · exact k1 x hx z hz
theorem rises_snoc : ∀ {l : List V} {p : Int} (x : V), rises p l → (∀ y, l.getLast? = some y → y.n < x.n) → (l = [] → p < x.n) → rises p (l ++ [x])
  | [], p, x, _, _, h0 => ⟨h0 rfl, trivial⟩
  | [y], p, x, h, h1, _ => ⟨h.1, h1 y rfl, trivial⟩
  | y :: z :: l, p, x, h, h1, _ => ⟨h.1, rises_snoc (l := z :: l) x h.2 (fun w hw => h1 w (by rw [List.getLast?_cons_cons]; exact hw)) (fun e => by cases e)⟩
theorem noOf_more {l : List V} {p : Int} {v t : ByteArray} (hr : rises p l) (hp : p = 0) : rises p (l ++ [⟨noOf l, v, t⟩]) := by
  refine rises_snoc _ hr (fun y hy => ?_) (fun e => ?_)
  · show y.n < noOf l
    unfold noOf
    rw [hy]
    show y.n < y.n + 1
    omega
  · subst e
    subst hp
    show (0 : Int) < noOf []
    unfold noOf
    simp
theorem atV_rises : ∀ {l : List V} {p : Int}, rises p l → ∀ {j : Nat} (hj : j < l.length), atV l l[j].n = (l[j], true)
  | y :: l, p, h, 0, _ => by unfold atV; simp
  | y :: l, p, h, j + 1, hj => by
    have hj2 : j < l.length := by simpa using hj
    have h1 := rises_mem h.2 l[j] (List.getElem_mem hj2)
    have h2 := atV_rises h.2 hj2
    unfold atV at h2 ⊢
    rw [List.getElem_cons_succ, List.find?_cons, show (y.n == l[j].n) = false from beq_eq_false_iff_ne.2 (by omega)]
    exact h2
theorem atV_none {l : List V} {n : Int} (h : ∀ x ∈ l, x.n ≠ n) : atV l n = (zV, false) := by
  unfold atV
  rw [List.find?_eq_none.2 (fun x hx => by simpa using h x hx)]

/-- what add answers where nothing is wrong -/
theorem addP_ok {a b c d e f h kp : Int} {s : ByteArray} {l : List V} {v t : ByteArray} (hz : (addP a b c d e f h s l v t kp).bad = 0) :
    (addP a b c d e f h s l v t kp).s = s ∧ (addP a b c d e f h s l v t kp).d ++ (addP a b c d e f h s l v t kp).k = l ++ [⟨noOf l, v, t⟩] ∧ rises 0 (l ++ [⟨noOf l, v, t⟩]) ∧ nbad a b c d e f h s l = 0 ∧ noOf l ≤ 1073741824 ∧ (v.size : Int) ≤ c ∧ (t.size : Int) ≤ d ∧
    (addP a b c d e f h s l v t kp).k = l.drop ((l.length : Int) + 1 - kp).toNat ++ [⟨noOf l, v, t⟩] ∧ (addP a b c d e f h s l v t kp).d = l.take ((l.length : Int) + 1 - kp).toNat := by
  by_cases h1 : nbad a b c d e f h s l = 0
  · unfold addP at hz ⊢
    rw [if_neg (by simpa using h1)] at hz ⊢
    by_cases h2 : c < v.size ∨ d < t.size
    · rw [if_pos h2] at hz; exact absurd hz (by decide)
    · rw [if_neg h2] at hz ⊢
      by_cases h3 : 1073741824 < noOf l
      · rw [if_pos h3] at hz; exact absurd hz (by decide)
      · rw [if_neg h3]
        have hok := (nbad_zero h1).1
        have hv : vbad c d 0 l = 0 := by
          have h4 := h1
          rw [nbad_yes hok] at h4
          split at h4
          · omega
          · split at h4
            · omega
            · split at h4
              · omega
              · exact h4
        refine ⟨rfl, ?_, noOf_more (rises_vbad hv).1 rfl, h1, by omega, by omega, by omega, rfl, rfl⟩
        show l.take _ ++ (l.drop _ ++ [_]) = _
        rw [← List.append_assoc, List.take_append_drop]
  · unfold addP at hz
    rw [if_pos h1] at hz
    exact absurd hz h1

/-- a round's head of EntryFinds, either loop -/
def FHead (w : World) (g g2 : Nat) (s : ByteArray) (k d : List V) (u u' : Value) (n : Nat) (x : Value) (wr : World) : Prop :=
  ∃ j : Nat, j ≤ n ∧ x = .int .i64 j ∧ EBox wr g s u ∧ HV g2 wr k u ∧ HV g2 wr d u' ∧ Below w.heap.size w wr

set_option maxRecDepth 100000 in
set_option maxHeartbeats 2000000 in
theorem finds_of (hp : PutIs) (hq : AtIs) (a b c d e f h : Int) (s : ByteArray) (l : List V) (A : Option Addr) (cap : Nat) (v t : ByteArray) (w : World) (hv : Vs w w.heap.size l A cap) (hfit : v.size ≤ maxLen ∧ t.size ≤ maxLen) (p : Ad) (hpe : addP a b c d e f h s l v t e = p)
    (hp0 : p.bad = 0) (hk : ∀ (j : Nat) (hj : j < p.k.length), atV p.k p.k[j].n = (p.k[j], true)) (hd : ∀ (j : Nat) (hj : j < p.d.length), atV p.k p.d[j].n = (zV, false)) (h0 : atV p.k 0 = (zV, false)) (hn : 0 < p.k.length) (hl40 : p.k.length ≤ 100000 ∧ p.d.length ≤ 100000) :
    Calls Try.prog 8 #[.agg #[.int .i64 a, .int .i64 b, .int .i64 c, .int .i64 d, .int .i64 e, .int .i64 f, .int .i64 h], .agg #[.string s, .slice A l.length cap], .string v, .string t] w fun x w' => x = .returned (.bool true) ∧ Below w.heap.size w w' := by
  have E0 := Bx.new w a b c d e f h s (.slice A l.length cap)
  have h1 := fun wr (hb : Below w.heap.size w wr) => refPut_any a b c d e f h s l A cap v t wr (hv.at_world hb) hfit
  have h2 := fun wr (hb : Below w.heap.size w wr) => hp a b c d e f h s l A cap v t wr (hv.at_world hb) hfit
  rw [hpe] at h1 h2
  clear hfit hpe hp
  obtain ⟨pb, ps, pk, pd⟩ := p
  simp only at hp0 hk hd h0 hn hl40
  subst hp0
  have HK := lay hk
  have HD := lay hd
  have H0 := lay h0
  clear hk hd h0
  go_enter Try.func8, Try.ntmps8
  go_wp2_with fail
  refine (h1 _ E0.below).mono ?_
  rintro z w1 ⟨u1, y1, rfl, hb1, hu1, hy1⟩
  have G1 := E0.next hb1
  clear E0 hb1
  obtain ⟨A1, k1, rfl, _⟩ := id hu1
  obtain ⟨D1, m1, rfl, _⟩ := id hy1
  obtain ⟨⟨⟨c0, c1, c2, c3, c4, c5, c6⟩, l1, l2, b1⟩, ⟨e0, e1⟩, l3⟩ := id G1
  go_wp2_with fail
  clear c0 c1 c2 c3 c4 c5 c6 l1 l2 b1 e0 e1 l3
  have F1 := G1.alloc (.cells #[.string ps, .slice A1 pk.length k1, .slice D1 pd.length m1, .int .i64 0] 33)
  have X1 := ABox.new w1 ps (.slice A1 pk.length k1) (.slice D1 pd.length m1) 0
  clear G1 hu1 hy1
  refine (h2 _ F1.below).mono ?_
  rintro z w2 ⟨u2, y2, rfl, hb2, hu2, hy2⟩
  have G2 := F1.next hb2
  have X2 := X1.next hb2
  clear F1 X1 hb2
  obtain ⟨A2, k2, rfl, _⟩ := id hu2
  obtain ⟨D2, m2, rfl, _⟩ := id hy2
  obtain ⟨⟨x0, x1, x2, x3⟩, x4⟩ := id X2
  have B2 := G2.below
  clear G2
  go_wp2_with fail
  have L1 : FHead w w2.heap.size w1.heap.size ps pk pd (.slice A2 pk.length k2) (.slice D2 pd.length m2) pk.length (.int .i64 0) (w2.alloc (.cells #[.string ps, .slice A2 pk.length k2] 26)) :=
    ⟨0, Nat.zero_le _, rfl, EBox.new w2 _ _, (hu2.alloc _).more (by simp), (hy2.alloc _).more (by simp), B2.alloc B2.size _⟩
  clear hu2 hy2 x0 x1 x2 x3 x4 X2
  go_loopw [52] (fun x wr => FHead w w2.heap.size w1.heap.size ps pk pd (.slice A2 pk.length k2) (.slice D2 pd.length m2) pk.length x wr) (fun x _ => pk.length - (intOf x).toNat)
  case atStart => exact L1
  case round =>
    clear L1
    obtain ⟨j, hj, rfl, hE, hu, hy, hB⟩ := hrel
    obtain ⟨⟨e0, e1⟩, e2⟩ := id hE
    by_cases hlt : j < pk.length
    · obtain ⟨bk, off, hA, hbk, v0, v1, v2⟩ := hu.vs.at_ hlt
      subst hA
      have hc := hq ps pk _ k2 pk[j].n _ (hu.alloc (.cells #[.int .i64 pk[j].n, .string pk[j].v, .string pk[j].t] 39)).vs
      rw [HK.out j hlt] at hc
      simp only [V.val] at hc
      go_wp2_with fail
      refine hc.mono ?_
      rintro z w3 ⟨rfl, hb3⟩
      have E3 := (hE.alloc (.cells #[.int .i64 pk[j].n, .string pk[j].v, .string pk[j].t] 39)).next hb3
      have U3 := (hu.alloc (.cells #[.int .i64 pk[j].n, .string pk[j].v, .string pk[j].t] 39)).next hb3
      have Y3 := (hy.alloc (.cells #[.int .i64 pk[j].n, .string pk[j].v, .string pk[j].t] 39)).next hb3
      have Z3 := (VBox.new wr pk[j]).next hb3
      have B3 := seq (hB.alloc hB.size (.cells #[.int .i64 pk[j].n, .string pk[j].v, .string pk[j].t] 39)) hb3
      clear hb3 hE hu hy hB hc e0 e1 e2 v0 v1 v2 hbk
      obtain ⟨⟨z0, z1, z2⟩, z3⟩ := Z3
      go_wp2_with fail
      exact ⟨⟨j + 1, hlt, by go_num, E3.alloc _, U3.alloc _, Y3.alloc _, B3.alloc B3.size _⟩, by simp [intOf]; omega⟩
    · go_wp2_with fail
      have L2 : FHead w w2.heap.size w1.heap.size ps pk pd (.slice A2 pk.length k2) (.slice D2 pd.length m2) pd.length (.int .i64 0) wr := ⟨0, Nat.zero_le _, rfl, hE, hu, hy, hB⟩
      clear hE hu hy hB e0 e1 e2 hj hlt
      generalize hgw : wr = wq at L2 ⊢
      go_loopw [73] (fun x wr => FHead w w2.heap.size w1.heap.size ps pk pd (.slice A2 pk.length k2) (.slice D2 pd.length m2) pd.length x wr) (fun x _ => pd.length - (intOf x).toNat)
      case atStart => exact L2
      case round =>
        clear L2
        obtain ⟨i, hi, rfl, hE, hu, hy, hB⟩ := hrel
        obtain ⟨⟨e0, e1⟩, e2⟩ := id hE
        by_cases hlt2 : i < pd.length
        · obtain ⟨bk, off, hA, hbk, v0, v1, v2⟩ := hy.vs.at_ hlt2
          subst hA
          have hc := hq ps pk _ k2 pd[i].n _ (hu.alloc (.cells #[.int .i64 pd[i].n, .string pd[i].v, .string pd[i].t] 39)).vs
          rw [HD.out i hlt2] at hc
          simp only [V.val, zV] at hc
          go_wp2_with fail
          refine hc.mono ?_
          rintro z w3 ⟨rfl, hb3⟩
          have E3 := (hE.alloc (.cells #[.int .i64 pd[i].n, .string pd[i].v, .string pd[i].t] 39)).next hb3
          have U3 := (hu.alloc (.cells #[.int .i64 pd[i].n, .string pd[i].v, .string pd[i].t] 39)).next hb3
          have Y3 := (hy.alloc (.cells #[.int .i64 pd[i].n, .string pd[i].v, .string pd[i].t] 39)).next hb3
          have B3 := seq (hB.alloc hB.size (.cells #[.int .i64 pd[i].n, .string pd[i].v, .string pd[i].t] 39)) hb3
          clear hb3 hE hu hy hB hc e0 e1 e2 v0 v1 v2 hbk
          go_wp2_with fail
          exact ⟨⟨i + 1, hlt2, by go_num, E3.alloc _, U3.alloc _, Y3.alloc _, B3.alloc B3.size _⟩, by simp [intOf]; omega⟩
        · have hc := hq ps pk _ k2 0 _ hu.vs
          rw [H0.out] at hc
          simp only [V.val, zV] at hc
          go_wp2_with fail
          refine hc.mono ?_
          rintro z w3 ⟨rfl, hb3⟩
          have E3 := hE.next hb3
          have B3 := seq hB hb3
          clear hb3 hE hu hy hB hc e0 e1 e2
          obtain ⟨⟨e0, e1⟩, e2⟩ := id E3
          have hn1 : (0 : Int) < (pk.length : Int) := by omega
          go_wp2_with fail
          go_ret
          exact ⟨rfl, B3.alloc B3.size _⟩

set_option maxRecDepth 100000 in
set_option maxHeartbeats 1000000 in
theorem finds_bad (hp : PutIs) (a b c d e f h : Int) (s : ByteArray) (l : List V) (A : Option Addr) (cap : Nat) (v t : ByteArray) (w : World) (hv : Vs w w.heap.size l A cap) (hfit : v.size ≤ maxLen ∧ t.size ≤ maxLen) (p : Ad) (hpe : addP a b c d e f h s l v t e = p) (hp0 : p.bad ≠ 0) :
    Calls Try.prog 8 #[.agg #[.int .i64 a, .int .i64 b, .int .i64 c, .int .i64 d, .int .i64 e, .int .i64 f, .int .i64 h], .agg #[.string s, .slice A l.length cap], .string v, .string t] w fun x w' => x = .returned (.bool true) ∧ Below w.heap.size w w' := by
  have E0 := Bx.new w a b c d e f h s (.slice A l.length cap)
  have h1 := fun wr (hb : Below w.heap.size w wr) => refPut_any a b c d e f h s l A cap v t wr (hv.at_world hb) hfit
  have h2 := fun wr (hb : Below w.heap.size w wr) => hp a b c d e f h s l A cap v t wr (hv.at_world hb) hfit
  rw [hpe] at h1 h2
  clear hfit hpe hp
  obtain ⟨pb, ps, pk, pd⟩ := p
  simp only at hp0
  have d0 : (pb != 0) = true := by simpa using hp0
  clear hp0
  go_enter Try.func8, Try.ntmps8
  go_wp2_with fail
  refine (h1 _ E0.below).mono ?_
  rintro z w1 ⟨u1, y1, rfl, hb1, hu1, hy1⟩
  have G1 := E0.next hb1
  clear E0 hb1
  obtain ⟨A1, k1, rfl, _⟩ := id hu1
  obtain ⟨D1, m1, rfl, _⟩ := id hy1
  obtain ⟨⟨⟨c0, c1, c2, c3, c4, c5, c6⟩, l1, l2, b1⟩, ⟨e0, e1⟩, l3⟩ := id G1
  go_wp2_with fail
  clear c0 c1 c2 c3 c4 c5 c6 l1 l2 b1 e0 e1 l3
  have F1 := G1.alloc (.cells #[.string ps, .slice A1 pk.length k1, .slice D1 pd.length m1, .int .i64 pb] 33)
  have X1 := ABox.new w1 ps (.slice A1 pk.length k1) (.slice D1 pd.length m1) pb
  clear G1 hu1 hy1
  refine (h2 _ F1.below).mono ?_
  rintro z w2 ⟨u2, y2, rfl, hb2, hu2, hy2⟩
  have G2 := F1.next hb2
  have X2 := X1.next hb2
  clear F1 X1 hb2
  obtain ⟨A2, k2, rfl, _⟩ := id hu2
  obtain ⟨D2, m2, rfl, _⟩ := id hy2
  obtain ⟨⟨x0, x1, x2, x3⟩, x4⟩ := id X2
  have B2 := G2.below
  clear G2
  go_wp2_with fail
  go_ret
  exact ⟨rfl, B2.alloc B2.size _⟩

theorem law_finds (hp : PutIs) (hq : AtIs) (a b c d e f h : Int) (s : ByteArray) (l : List V) (A : Option Addr) (cap : Nat) (v t : ByteArray) (w : World) (hv : Vs w w.heap.size l A cap) (hfit : v.size ≤ maxLen ∧ t.size ≤ maxLen) :
    Calls Try.prog 8 #[.agg #[.int .i64 a, .int .i64 b, .int .i64 c, .int .i64 d, .int .i64 e, .int .i64 f, .int .i64 h], .agg #[.string s, .slice A l.length cap], .string v, .string t] w fun x w' => x = .returned (.bool true) ∧ Below w.heap.size w w' := by
  by_cases hz : (addP a b c d e f h s l v t e).bad = 0
  · obtain ⟨_, k1, k2, k3, _, _, _, k4, k5⟩ := addP_ok hz
    have hl := (nbad_zero k3).2.1
    rw [← k1] at k2
    obtain ⟨r1, r2, r3⟩ := rises_app k2
    refine finds_of hp hq a b c d e f h s l A cap v t w hv hfit _ rfl hz (fun j hj => atV_rises r2 hj) (fun j hj => atV_none fun x hx => ?_) (atV_none fun x hx => ?_) ?_ ?_
    · have := r1 _ (List.getElem_mem hj) x hx; omega
    · have := rises_mem r2 x hx; omega
    · rw [k4]; simp
    · rw [k4, k5]; simp; omega
  · exact finds_bad hp a b c d e f h s l A cap v t w hv hfit _ rfl hz
end Go.Proofs.Ytolngibmfffjcaa.vers
